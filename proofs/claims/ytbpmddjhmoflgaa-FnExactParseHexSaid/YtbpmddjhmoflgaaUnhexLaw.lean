/- DERIVED. The law of ParseHex: called with any text, the law's function returns true and changes nothing that was there. -/
import Derived.Test.YtbpmddjhmoflgaaUnhexi
import Derived.Test.YtbpmddjhmoflgaaBytesMark
namespace Go.Proofs.Ytbpmddjhmoflgaa
open Go.RowKit

theorem hexList_len (s : ByteArray) (h : s.size ≤ 1048576) : (hexList s).length ≤ 1048576 := by
  unfold hexList; split
  · rw [pairs_length]; omega
  · simp

theorem owns_n {w : World} {B e n : Nat} {v : Value} {zs : List Int} {k : IntKind} (h : w.ownsRow B e 1 v n (zs.map (.int k))) : n = zs.length := by simpa using h.1.symm

set_option maxHeartbeats 1000000 in
theorem lawParseHex_walk (s : ByteArray) (w : World) :
    Calls Try.prog 7 #[.string s] w fun e w' => e = .returned (.bool true) ∧ Below w.heap.size w w' := by
  by_cases hbig : (1048576 : Int) < s.size
  · go_enter Try.func7, Try.ntmps7
    go_wp2
    go_ret
    exact ⟨rfl, Below.refl _ _⟩
  · have hl : s.size ≤ 1048576 := by omega
    have hlen := hexList_len s hl
    obtain ⟨zs, hzs⟩ : ∃ zs, zs = hexList s := ⟨_, rfl⟩
    obtain ⟨ok, hok⟩ : ∃ ok, ok = hexOk s := ⟨_, rfl⟩
    rw [← hzs] at hlen
    have HZ := Lib.hid hzs
    have HOK := Lib.hid hok
    clear hzs hok
    go_enter Try.func7, Try.ntmps7
    go_wp2_with fail
    refine (specParseHex_any s _ hl).mono ?_
    rintro e w1 ⟨v0, n0, rfl, ho, hb⟩
    rw [← HZ.out] at ho
    rw [← HOK.out]
    have R0 := Lib.hid (Rd.of_owns ho)
    have HB1 := Lib.hid hb
    clear ho hb
    go_wp2_with fail
    refine (implParseHex_any s _ hl).mono ?_
    rintro e w2 ⟨g0, n1, rfl, ho, hb⟩
    rw [← HZ.out] at ho
    rw [← HOK.out]
    obtain rfl : n1 = zs.length := owns_n ho
    have OG := Lib.hid ho
    have RG := Lib.hid (Rd.of_owns ho)
    have B2 := Lib.hid hb
    clear ho hb
    go_wp2_with fail
    refine (eqByteS_any _ _ zs zs _ (by omega) RG.out (R0.out.below B2.out)).mono ?_
    rintro e w3 ⟨rfl, m3, rfl⟩
    have hd : decide (zs = zs) = true := by simp
    cases ok
    all_goals
      go_wp2_with fail
      refine (markByteS_any w1.heap.size g0 zs.length _ 1 _ hlen (by omega) (by omega) (show (w2.drewN m3).ownsRow w1.heap.size 5 1 g0 zs.length _ from OG.out)).mono ?_
      rintro e w4 ⟨rfl, ho4, hb4⟩
      have RM := Lib.hid (Rd.of_owns ho4)
      have B4 := Lib.hid ((below_drewN B2.out m3).trans hb4)
      clear ho4 hb4
      go_wp2_with fail
      refine (heldByteS_any g0 zs.length 1 _ hlen (by omega) (by omega) RM.out).mono ?_
      rintro e w5 ⟨rfl, rfl⟩
      go_wp2_with fail
      refine (implParseHex_any s _ hl).mono ?_
      rintro e w6 ⟨h0, n2, rfl, ho, hb⟩
      rw [← HZ.out] at ho
      rw [← HOK.out]
      have RH := Lib.hid (Rd.of_owns ho)
      have RM6 := Lib.hid (RM.out.below hb)
      have B6 := Lib.hid (B4.out.trans (hb.mono B4.out.size))
      clear ho hb
      go_wp2_with fail
      refine (eqByteS_any _ _ zs zs _ (by omega) RH.out (R0.out.below B6.out)).mono ?_
      rintro e w7 ⟨rfl, m7, rfl⟩
      go_wp2_with fail
      refine (heldByteS_any g0 zs.length 1 _ hlen (by omega) (by omega) (show Rd (w6.drewN m7) g0 _ from RM6.out)).mono ?_
      rintro e w8 ⟨rfl, rfl⟩
      go_wp2
      go_ret
      exact ⟨rfl, below_drewN (HB1.out.trans (B6.out.mono HB1.out.size)) _⟩
end Go.Proofs.Ytbpmddjhmoflgaa
