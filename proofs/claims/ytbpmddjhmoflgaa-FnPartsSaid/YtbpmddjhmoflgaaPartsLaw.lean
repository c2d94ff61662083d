/- DERIVED. The law of parts: whatever the bytes that draw the text, the law's function returns true and changes nothing that was there. -/
import Derived.Test.YtbpmddjhmoflgaaPartsMath
import Derived.Test.YtbpmddjhmoflgaaJoini
import Derived.Test.YtbpmddjhmoflgaaDrawSplit
namespace Go.Proofs.Ytbpmddjhmoflgaa
open Go.RowKit

theorem wf_byte {n : Int} (h : (Lit.int .u8 n).wf = true) : 0 ≤ n ∧ n < 256 := by
  simp [Lit.wf, IntKind.min, IntKind.max, IntKind.signed, IntKind.bits] at h
  omega

theorem big_any (a : Option Addr) (len cap : Nat) (w : World) : Calls Try.prog 8 #[.slice a len cap] w fun e w' => e = .returned (.bool (decide ((1048576 : Int) < len))) ∧ w = w' := by
  go_enter Try.func8, Try.ntmps8
  go_wp2
  go_ret
  exact ⟨rfl, rfl⟩

theorem jn_small (ss : List ByteArray) (sep : ByteArray) (m : Nat) (h : ∀ s ∈ ss, s.size ≤ m) (k : Nat) (hk : k ≤ ss.length) : (jn ss sep k).length ≤ k * (sep.size + m) := by
  induction k with
  | zero => simp [jn]
  | succ k ih =>
    have hx : (ss.getD k ByteArray.empty).size ≤ m := h _ (by simp [List.getElem?_eq_getElem (show k < ss.length by omega)])
    have := ih (by omega)
    by_cases h0 : 0 < k
    · rw [jn_later ss sep h0, List.length_append, List.length_append, size_toList, size_toList, Nat.succ_mul]
      omega
    · obtain rfl : k = 0 := by omega
      rw [jn_first, size_toList, Nat.succ_mul]
      omega

set_option maxHeartbeats 2000000 in
theorem lawParts_walk (a : Option Addr) (len cap : Nat) (zs : List Int) (w : World) (hlen : zs.length = len) (hz : ∀ z ∈ zs, (Lit.int .u8 z).wf = true) (h : Rd w (.slice a len cap) (zs.map (.int .u8))) :
    Calls Try.prog 3 #[.slice a len cap] w fun e w' => e = .returned (.bool true) ∧ Below w.heap.size w w' := by
  have HZ := Lib.hid (fun z m => wf_byte (hz z m) : ∀ z ∈ zs, 0 ≤ z ∧ z < 256)
  have HR := Lib.hid h
  have HL := Lib.hid hlen
  clear hz h hlen
  by_cases hbig : (1048576 : Int) < len
  · go_enter Try.func3, Try.ntmps3
    go_wp2_with fail
    refine (big_any a len cap _).mono ?_
    rintro e w1 ⟨rfl, rfl⟩
    go_wp2
    go_ret
    exact ⟨rfl, Below.refl _ _⟩
  · go_enter Try.func3, Try.ntmps3
    go_wp2_with fail
    refine (big_any a len cap _).mono ?_
    rintro e w1 ⟨rfl, rfl⟩
    go_wp2_with fail
    refine (drawSplit_any _ zs _ (by have := HL.out; omega) HZ.out HR.out).mono ?_
    rintro e w2 ⟨s, c, rfl, hs, c0, c1, hb⟩
    have HB2 := Lib.hid hb
    clear hb
    go_wp2_with fail
    refine (implSplit_any s c _ (by omega)).mono ?_
    rintro e w3 ⟨v, rfl, ho, hb⟩
    have HP := Lib.hid (parts_without s c)
    have hpl := parts_len s c
    obtain ⟨ps, hps⟩ : ∃ ps, ps = parts s c := ⟨_, rfl⟩
    rw [← hps] at ho hpl
    have HQ := Lib.hid hps
    have RV := Lib.hid (Rd.of_owns ho)
    have HB3 := Lib.hid (HB2.out.trans (hb.mono HB2.out.size))
    clear ho hb hps
    have hcv := conv_owned (P := Try.prog) (src := 22) (dst := 9) (w := w3.alloc (.cells #[.int .u8 c] 5)) (base := w3.heap.size) (v := .slice (some ⟨w3.heap.size, 0, none⟩) 1 1) (n := 1) (ns := [c]) Try.underlying22 Try.underlying5 Try.underlying9 (World.ownsRow_lit w3 #[.int .u8 c] 1 (Nat.le_refl _) (by simp [maxLen]) rfl)
    go_wp2_with fail
    clear hcv
    have RV4 := Lib.hid (RV.out.below ((Below.refl w3.heap.size w3).alloc (Nat.le_refl _) (.cells #[.int .u8 c] 5)))
    have HB4 := Lib.hid (HB3.out.alloc HB3.out.size (.cells #[.int .u8 c] 5))
    have hjn : ∀ k, k ≤ ps.length → (jn ps (strOfNums [c]) k).length ≤ 70368744177664 := fun k hk => by
      have h1 := jn_small ps (strOfNums [c]) 1000 (fun p hp => by rw [HQ.out] at hp; have := (HP.out p hp).2; omega) k hk
      have h2 : k * ((strOfNums [c]).size + 1000) ≤ 1001 * 1001 := Nat.mul_le_mul (by omega) (by rw [strOfNums_size]; simp)
      omega
    have HJ := Lib.hid hjn
    have HJD := Lib.hid (by rw [HQ.out]; exact joined_parts s (strOfNums [c]) c rfl : joined ps (strOfNums [c]) = s)
    clear hjn
    refine (implJoin_any v ps (strOfNums [c]) _ (by omega) HJ.out RV4.out).mono ?_
    rw [HJD.out]
    rintro e w5 ⟨rfl, hb⟩
    have RV5 := Lib.hid (RV4.out.below hb)
    have HB5 := Lib.hid (HB4.out.trans (hb.mono HB4.out.size))
    clear hb
    rcases RV5.out.cases with ⟨hx, a1, cap1, rfl⟩ | ⟨hx, b1, off1, cap1, rfl, hlt1, hcell⟩
    · have : ps = [] := by simpa using hx
      have h2 : ps.length = 0 := by rw [this]; rfl
      rw [HQ.out] at h2
      simp [parts] at h2
    · have hn : (ps.map Value.string).length = ps.length := by simp
      have hc' : ∀ j, j < ps.length → w5.cell? ⟨b1, off1 + j, none⟩ = some (.string (ps.getD j ByteArray.empty)) := fun j hj => by
        rw [hcell j (by simpa using hj), getD_map_str]
      rw [hn]
      have HC := Lib.hid hc'
      clear hc' hcell hx hn
      go_wp2
      go_loopw [6] (fun i wr => ∃ (k : Nat), k ≤ ps.length ∧ i = .int .i64 k ∧ Below w5.heap.size w5 wr) (fun i _ => ps.length - (intOf i).toNat)
      case atStart => exact ⟨0, Nat.zero_le _, rfl, Below.refl _ _⟩
      case round =>
        obtain ⟨k, hk, rfl, hb⟩ := hrel
        have HBR := Lib.hid hb
        by_cases hlt' : k < ps.length
        · obtain ⟨p, hp⟩ : ∃ p, p = ps.getD k ByteArray.empty := ⟨_, rfl⟩
          have hcell : wr.cell? ⟨b1, off1 + k, none⟩ = some (.string p) := by rw [hp]; exact (hb.cell (p := ⟨b1, off1 + k, none⟩) hlt1).trans (HC.out k hlt')
          have hpp := HP.out p (by rw [← HQ.out, hp]; simp [List.getElem?_eq_getElem hlt'])
          have HPP := Lib.hid (parts_one p c hpp.1)
          have hsz : p.size ≤ 1048576 := by have := hpp.2; omega
          clear hb hp hpp
          go_wp2_with fail
          refine (implSplit_any p c _ hsz).mono ?_
          rintro e w6 ⟨u, rfl, ho, hb6⟩
          rw [HPP.out] at ho
          obtain ⟨g, capu, rfl⟩ : ∃ g capu, u = .slice (some ⟨g, 0, none⟩) 1 capu := by
            rcases ho.2 with ⟨_, hn⟩ | ⟨g, cap, cur, hv, _⟩
            · omega
            · exact ⟨g, cap, hv⟩
          have HB6 := Lib.hid (HBR.out.trans (hb6.mono HBR.out.size))
          clear ho hb6
          go_wp2
          go_roundw
          case rel => exact ⟨k + 1, by omega, by go_num, HB6.out⟩
          case measure => simp [intOf]; omega
        · obtain rfl : k = ps.length := by omega
          clear hb
          go_wp2
          go_ret
          exact ⟨rfl, HB5.out.trans (HBR.out.mono HB5.out.size)⟩
end Go.Proofs.Ytbpmddjhmoflgaa
