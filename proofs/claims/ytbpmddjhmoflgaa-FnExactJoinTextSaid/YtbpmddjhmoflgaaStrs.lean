/- DERIVED. The laws' own small functions on slices of strings: comparing, writing marks, telling the marks. -/
import Derived.Test.YtbpmddjhmoflgaaText
import Derived.Test.YtbpmddjhmoflgaaBytes
import Derived.Test.YtbpmddjhmoflgaaHex
import Derived.Deep.RegionHeld3
namespace Go.Proofs.Ytbpmddjhmoflgaa
open Go.RowKit

theorem strs_same {za zb : List ByteArray} (hl : za.length = zb.length) (h : ∀ j, j < za.length → za.getD j ByteArray.empty = zb.getD j ByteArray.empty) : za = zb := by
  apply List.ext_getElem hl
  intro j h1 h2
  have := h j h1
  simpa [List.getElem?_eq_getElem h1, List.getElem?_eq_getElem h2] using this
theorem getD_map_str (zs : List ByteArray) (j : Nat) (h : j < (zs.map Value.string).length) : (zs.map Value.string)[j] = .string (zs.getD j ByteArray.empty) := by
  have : j < zs.length := by simpa using h
  simp [List.getElem?_eq_getElem this]
set_option maxHeartbeats 400000 in
theorem eqStringS_any (va vb : Value) (za zb : List ByteArray) (w : World) (hl : za.length ≤ 1000000000000) (ha : Rd w va (za.map .string)) (hb : Rd w vb (zb.map .string)) :
    Calls Try.prog 13 #[va, vb] w fun e w' => e = .returned (.bool (decide (za = zb))) ∧ ∃ n, w' = w.drewN n := by
  by_cases hne : za.length = zb.length
  · rcases ha.cases with ⟨hx, a, cap, rfl⟩ | ⟨hx, b, off, cap, rfl, hlt, hc⟩
    · have hx' : za = [] := by simpa using hx
      subst hx'
      have hy : zb = [] := List.eq_nil_of_length_eq_zero (by simpa using hne.symm)
      subst hy
      obtain ⟨a2, cap2, rfl, _⟩ := hb
      clear ha hx hne
      go_enter Try.func13, Try.ntmps13
      go_wp2
      refine wp_loop_rounds 1 ?_
      rw [rounds_succ]
      go_wp2
      go_ret
      exact ⟨ret_bool (by simp), 0, rfl⟩
    · rcases hb.cases with ⟨hy, _⟩ | ⟨hy, b2, off2, cap2, rfl, hlt2, hc2⟩
      · have : zb = [] := by simpa using hy
        subst this
        exact absurd (List.eq_nil_of_length_eq_zero (by simpa using hne)) (by simpa using hx)
      · have hn : (za.map Value.string).length = za.length := by simp
        have hn2 : (zb.map Value.string).length = zb.length := by simp
        rw [hn, hn2]
        have hc' : ∀ j, j < za.length → w.cell? ⟨b, off + j, none⟩ = some (.string (za.getD j ByteArray.empty)) := fun j hj => by
          rw [hc j (by simpa using hj), getD_map_str]
        have hc2' : ∀ j, j < za.length → w.cell? ⟨b2, off2 + j, none⟩ = some (.string (zb.getD j ByteArray.empty)) := fun j hj => by
          rw [hc2 j (by simp; omega), getD_map_str]
        have HN := Lib.hid hne
        clear hc ha hb hx hy hn hn2 hc2 hne
        rw [← HN.out]
        go_enter Try.func13, Try.ntmps13
        go_wp2
        go_loopw [5] (fun i wr => ∃ (k m : Nat), k ≤ za.length ∧ i = .int .i64 k ∧ (∀ j, j < k → za.getD j ByteArray.empty = zb.getD j ByteArray.empty) ∧ wr = w.drewN m)
          (fun i _ => za.length - (intOf i).toNat)
        case atStart => exact ⟨0, 0, Nat.zero_le _, rfl, fun j hj => by omega, rfl⟩
        case round =>
          obtain ⟨k, m, hk, rfl, hs, rfl⟩ := hrel
          by_cases hlt' : k < za.length
          · have hcell := hc' k hlt'
            have hcell2 := hc2' k hlt'
            have HS := Lib.hid hs
            have HC := Lib.hid hc'
            have HC2 := Lib.hid hc2'
            clear hs hc' hc2'
            obtain ⟨x, hxd⟩ : ∃ x, x = za.getD k ByteArray.empty := ⟨_, rfl⟩
            obtain ⟨y, hyd⟩ : ∃ y, y = zb.getD k ByteArray.empty := ⟨_, rfl⟩
            rw [← hxd] at hcell
            rw [← hyd] at hcell2
            have HX := Lib.hid hxd
            have HY := Lib.hid hyd
            clear hxd hyd
            go_wp2
            go_quiet (fail)
            by_cases hxy : x = y
            · subst hxy
              rw [show (!x.toList == x.toList) = false from by simp]
              go_wp2
              go_roundw
              case rel =>
                refine ⟨k + 1, _, by omega, by go_num, fun j hj => ?_, rfl⟩
                by_cases hjk : j = k
                · subst hjk; rw [← HX.out, ← HY.out]
                · exact HS.out j (by omega)
              case measure => simp [intOf]; omega
            · rw [show (!x.toList == y.toList) = true from by rw [toList_ne hxy]; rfl]
              have HXY := Lib.hid hxy
              clear hxy
              go_wp2
              go_ret
              refine ⟨ret_bool ?_, m + nq, by rw [World.drewN_drewN]⟩
              have : za ≠ zb := fun h => HXY.out (by rw [HX.out, HY.out, h])
              simp [this]
          · obtain rfl : k = za.length := by omega
            have hdone := strs_same HN.out hs
            subst hdone
            clear hs hc' hc2'
            go_wp2
            go_ret
            exact ⟨ret_bool (by simp), _, rfl⟩
  · have hav : ∃ a cap, va = .slice a za.length cap := by obtain ⟨a, cap, h, _⟩ := ha; exact ⟨a, cap, by simpa using h⟩
    have hbv : ∃ a cap, vb = .slice a zb.length cap := by obtain ⟨a, cap, h, _⟩ := hb; exact ⟨a, cap, by simpa using h⟩
    obtain ⟨a, cap, rfl⟩ := hav
    obtain ⟨a2, cap2, rfl⟩ := hbv
    clear ha hb
    go_enter Try.func13, Try.ntmps13
    go_wp2
    go_ret
    refine ⟨ret_bool ?_, 0, rfl⟩
    have : za ≠ zb := fun h => hne (by rw [h])
    simp [this]
end Go.Proofs.Ytbpmddjhmoflgaa
