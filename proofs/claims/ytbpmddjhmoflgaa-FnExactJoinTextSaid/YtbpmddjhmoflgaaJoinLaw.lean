/- DERIVED. The law of JoinText: called with any slice of strings and any text, the law's function returns true and changes nothing that was there. -/
import Derived.Test.YtbpmddjhmoflgaaJoini
import Derived.Test.YtbpmddjhmoflgaaStrsCopy
namespace Go.Proofs.Ytbpmddjhmoflgaa
open Go.RowKit

theorem jn_len (ss : List ByteArray) (sep : ByteArray) (k : Nat) : (jn ss sep k).length ≤ k * sep.size + szSum ss k := by
  induction k with
  | zero => simp [jn]
  | succ k ih =>
    by_cases h : 0 < k
    · rw [jn_later ss sep h, List.length_append, List.length_append, size_toList, size_toList, szSum, Nat.succ_mul]
      omega
    · obtain rfl : k = 0 := by omega
      rw [jn_first, size_toList, szSum]
      omega
theorem szSum_mono (ss : List ByteArray) {k m : Nat} (h : k ≤ m) : szSum ss k ≤ szSum ss m := by
  induction h with
  | refl => exact Nat.le_refl _
  | step _ ih => rw [szSum]; omega
theorem jn_bound (ss : List ByteArray) (sep : ByteArray) (hs : sep.size ≤ 1048576) (h : ss.length + szSum ss ss.length ≤ 1048576) (k : Nat) (hk : k ≤ ss.length) : (jn ss sep k).length ≤ 70368744177664 := by
  have h1 := jn_len ss sep k
  have h2 := szSum_mono ss hk
  have h3 : k * sep.size ≤ 1048576 * 1048576 := Nat.mul_le_mul (by omega) hs
  omega

set_option maxHeartbeats 1000000 in
theorem lawJoinText_walk (a : Option Addr) (len cap : Nat) (ss : List ByteArray) (sep : ByteArray) (w : World) (hlen : ss.length = len) (hml : len ≤ maxLen) (hss : ∀ s ∈ ss, s.size ≤ maxLen) (h : Rd w (.slice a len cap) (ss.map .string)) :
    Calls Try.prog 5 #[.slice a len cap, .string sep] w fun e w' => e = .returned (.bool true) ∧ Below w.heap.size w w' := by
  have HR := Lib.hid h
  have HSS := Lib.hid hss
  have HL := Lib.hid hlen
  clear h hss hlen
  by_cases hbig : (1048576 : Int) < sep.size
  · go_enter Try.func5, Try.ntmps5
    go_wp2
    go_ret
    exact ⟨rfl, Below.refl _ _⟩
  · have hsep : sep.size ≤ 1048576 := by omega
    go_enter Try.func5, Try.ntmps5
    go_wp2_with fail
    refine (szStringS_any _ ss 1048576 _ (by rw [HL.out]; exact hml) HSS.out (Nat.le_refl _) HR.out).mono ?_
    rintro e w1 ⟨r, rfl, hr, rfl⟩
    have HRR := Lib.hid hr
    clear hr
    by_cases hr0 : r < 0
    · go_wp2
      go_ret
      exact ⟨rfl, Below.refl _ _⟩
    · have hsum := HRR.out (by omega)
      have hl : ss.length ≤ 1048576 := by omega
      have hj := Lib.hid (jn_bound ss sep hsep hsum)
      clear hsum
      go_wp2_with fail
      refine (toStringS_any _ ss _ (by omega) HR.out).mono ?_
      rintro e w2 ⟨u1, rfl, ho1, hb1⟩
      have R1 := Lib.hid (Rd.of_owns ho1)
      have B1 := Lib.hid hb1
      clear ho1 hb1
      go_wp2_with fail
      refine (specJoin_any _ ss sep _ hl hsep hj.out R1.out).mono ?_
      rintro e w3 ⟨rfl, hb⟩
      have B3 := Lib.hid (B1.out.trans (hb.mono B1.out.size))
      clear hb
      go_wp2_with fail
      refine (toStringS_any _ ss _ (by omega) (HR.out.below B3.out)).mono ?_
      rintro e w4 ⟨u2, rfl, ho2, hb⟩
      have R2 := Lib.hid (Rd.of_owns ho2)
      have B4 := Lib.hid (B3.out.trans (hb.mono B3.out.size))
      clear ho2 hb
      go_wp2_with fail
      refine (implJoin_any _ ss sep _ hl hj.out R2.out).mono ?_
      rintro e w5 ⟨rfl, hb⟩
      have R2b := Lib.hid (R2.out.below hb)
      have B5 := Lib.hid (B4.out.trans (hb.mono B4.out.size))
      clear hb
      go_wp2_with fail
      refine (toStringS_any _ ss _ (by omega) (HR.out.below B5.out)).mono ?_
      rintro e w6 ⟨u3, rfl, ho3, hb⟩
      have R3 := Lib.hid (Rd.of_owns ho3)
      have R2c := Lib.hid (R2b.out.below hb)
      have B6 := Lib.hid (B5.out.trans (hb.mono B5.out.size))
      clear ho3 hb
      go_wp2_with fail
      refine (eqStringS_any _ _ ss ss _ (by omega) R2c.out R3.out).mono ?_
      rintro e w7 ⟨rfl, m7, rfl⟩
      have hd : decide (ss = ss) = true := by simp
      go_wp2
      go_ret
      exact ⟨rfl, below_drewN B6.out _⟩
end Go.Proofs.Ytbpmddjhmoflgaa
