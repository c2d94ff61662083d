/- DERIVED. The laws' own small functions on slices of bytes, each called with a slice that reads as known numbers: a copy has these numbers, two slices are compared as their numbers are. -/
import Derived.Test.YtleheibpgngmiaaCore
import Derived.Test.YtleheibpgngmiaaProg
namespace Go.Proofs.Ytleheibpgngmiaa
open Go.RowKit

theorem info_u8 : (Try.prog.info? 5).map (fun i => (i.zero, i.size, i.bytes)) = some (some (.int .u8 0), 1, 1) := by kernel_rfl

theorem ints_done {zs : List Int} {xs : List Value} {k : IntKind} (hl : xs.length = zs.length) (h : ∀ j, j < zs.length → xs[j]? = some (.int k (zs.getD j 0))) : xs = zs.map (.int k) := by
  apply List.ext_getElem?
  intro j
  by_cases hj : j < zs.length
  · rw [h j hj]; simp [List.getElem?_eq_getElem hj]
  · rw [List.getElem?_eq_none (by omega), List.getElem?_eq_none (by simp; omega)]

theorem made_bound {i0 : TypeInfo} {n : Nat} (h : i0.bytes = 1) (hn : n ≤ 1048576) : i0.bytes * n ≤ 281474976710656 := by rw [h]; omega

set_option maxHeartbeats 400000 in
theorem toByteS_any (v : Value) (zs : List Int) (w : World) (hl : zs.length ≤ 1048576) (h : Rd w v (zs.map (.int .u8))) :
    Calls Try.prog 36 #[v] w fun e w' => ∃ u, e = .returned u ∧ w'.ownsRow w.heap.size 5 1 u zs.length (zs.map (.int .u8)) ∧ Below w.heap.size w w' := by
  obtain ⟨i0, hi, hz0, hz1, hz2⟩ := info_parts info_u8
  rcases h.cases with ⟨hx, a, cap, rfl⟩ | ⟨hx, b, off, cap, rfl, hlt, hc⟩
  · have hx' : zs = [] := by simpa using hx
    subst hx'
    clear h hx
    go_enter Try.func36, Try.ntmps36
    go_wp2_with (at_make; refine wpList_make_full w rfl _ _ 22 rfl w.heap.size 5 i0 (.int .u8 0) 1 Try.underlying22 hi hz0 hz1 .i64 .i64 0 0 0 rfl rfl rfl rfl ?_ ?_ ?_ ?_)
    · simp
    · simp [maxLen]
    · exact Nat.le_refl _
    · intro w1 hown hg
      go_wp2
      refine wp_loop_rounds 1 ?_
      rw [rounds_succ]
      go_wp2
      go_ret
      exact ⟨_, rfl, by simpa [madeCells] using hown, (Below.refl _ _).grown hg (Nat.le_refl _) (fun k hk => by cases hk)⟩
  · have hn : (zs.map (Value.int .u8)).length = zs.length := by simp
    rw [hn]
    have hc' : ∀ j, j < zs.length → w.cell? ⟨b, off + j, none⟩ = some (.int .u8 (zs.getD j 0)) := fun j hj => by
      rw [hc j (by simpa using hj), getD_map_int]
    clear hc h hx hn
    go_enter Try.func36, Try.ntmps36
    go_wp2_with (at_make; refine wpList_make_full w rfl _ _ 22 rfl w.heap.size 5 i0 (.int .u8 0) 1 Try.underlying22 hi hz0 hz1 .i64 .i64 _ _ zs.length rfl rfl rfl rfl (made_bound hz2 hl) ?_ ?_ ?_)
    · simp [maxLen]; omega
    · exact Nat.le_refl _
    · intro w1 hown hg
      go_wp2
      go_loopw [4] (fun i wr => ∃ (k : Nat) (xs : List Value), k ≤ zs.length ∧ i = .int .i64 k ∧ wr.ownsRow w.heap.size 5 1 (.slice (some ⟨w.heap.size, 0, none⟩) zs.length zs.length) zs.length xs ∧ (∀ j, j < k → xs[j]? = some (.int .u8 (zs.getD j 0))) ∧ Below w.heap.size w wr)
        (fun i _ => zs.length - (intOf i).toNat)
      case atStart => exact ⟨0, _, Nat.zero_le _, rfl, hown, fun j hj => by omega, (Below.refl _ _).grown hg (Nat.le_refl _) (fun k hk => by cases hk)⟩
      case round =>
        obtain ⟨k, xs, hk, rfl, hown', hxs, hb⟩ := hrel
        have hlx : xs.length = zs.length := by simpa using hown'.1
        by_cases hlt' : k < zs.length
        · have hcell : wr.cell? ⟨b, off + k, none⟩ = some (.int .u8 (zs.getD k 0)) := (hb.cell (p := ⟨b, off + k, none⟩) hlt).trans (hc' k hlt')
          obtain ⟨y, hst⟩ : ∃ y, wr.cell? ⟨w.heap.size, k, none⟩ = some y := ⟨xs[k]'(by omega), by rw [hown'.cellAt k (by omega), List.getElem?_eq_getElem (show k < xs.length by omega)]⟩
          have hfr := hown'.frozenAt k
          have hsto := hown'.stored k (.int .u8 zs[k])
          have HS := Lib.hid hsto
          have HX := Lib.hid hxs
          have HO := Lib.hid hown'
          have HC := Lib.hid hc'
          have HL := Lib.hid hlx
          have HB := Lib.hid hb
          clear hsto hxs hown' hc' hlx hb hown hg
          go_wp2
          go_roundw
          case rel =>
            refine ⟨k + 1, _, by omega, by go_num, HS.out.1, fun j hj => ?_, HB.out.setCell (Nat.le_refl _) _⟩
            by_cases hjk : j = k
            · subst hjk
              rw [List.getElem?_set]; simp [HL.out, hlt']
            · rw [List.getElem?_set, if_neg (by omega)]; exact HX.out j (by omega)
          case measure => simp [intOf]; omega
        · obtain rfl : k = zs.length := by omega
          have hdone := ints_done hlx hxs
          subst hdone
          have HX := Lib.hid hxs
          have HO := Lib.hid hown'
          clear hxs hown' hc' hlx hown hg
          go_wp2
          go_ret
          exact ⟨_, rfl, HO.out, hb⟩
theorem take_same {za zb : List Int} (hl : za.length = zb.length) (h : ∀ j, j < za.length → za.getD j 0 = zb.getD j 0) : za = zb := by
  apply List.ext_getElem hl
  intro j h1 h2
  have := h j h1
  simpa [List.getElem?_eq_getElem h1, List.getElem?_eq_getElem h2] using this

set_option maxHeartbeats 400000 in
theorem eqByteS_any (va vb : Value) (za zb : List Int) (w : World) (hl : za.length ≤ 1000000000000) (ha : Rd w va (za.map (.int .u8))) (hb : Rd w vb (zb.map (.int .u8))) :
    Calls Try.prog 32 #[va, vb] w fun e w' => e = .returned (.bool (decide (za = zb))) ∧ ∃ n, w' = w.drewN n := by
  by_cases hne : za.length = zb.length
  · rcases ha.cases with ⟨hx, a, cap, rfl⟩ | ⟨hx, b, off, cap, rfl, hlt, hc⟩
    · have hx' : za = [] := by simpa using hx
      subst hx'
      have hy : zb = [] := List.eq_nil_of_length_eq_zero (by simpa using hne.symm)
      subst hy
      obtain ⟨a2, cap2, rfl, _⟩ := hb
      clear ha hx hne
      go_enter Try.func32, Try.ntmps32
      go_wp2
      refine wp_loop_rounds 1 ?_
      rw [rounds_succ]
      go_wp2
      go_ret
      exact ⟨ret_bool (by simp), 0, rfl⟩
    · rcases hb.cases with ⟨hy, _⟩ | ⟨hy, b2, off2, cap2, rfl, hlt2, hc2⟩
      · have : zb = [] := by simpa using hy
        subst this
        exact absurd (List.eq_nil_of_length_eq_zero (by simpa using hne)) (by simpa using hx)
      · have hn : (za.map (Value.int .u8)).length = za.length := by simp
        have hn2 : (zb.map (Value.int .u8)).length = zb.length := by simp
        rw [hn, hn2]
        have hc' : ∀ j, j < za.length → w.cell? ⟨b, off + j, none⟩ = some (.int .u8 (za.getD j 0)) := fun j hj => by
          rw [hc j (by simpa using hj), getD_map_int]
        have hc2' : ∀ j, j < za.length → w.cell? ⟨b2, off2 + j, none⟩ = some (.int .u8 (zb.getD j 0)) := fun j hj => by
          rw [hc2 j (by simp; omega), getD_map_int]
        have HN := Lib.hid hne
        clear hc ha hb hx hy hn hn2 hc2 hne
        rw [← HN.out]
        go_enter Try.func32, Try.ntmps32
        go_wp2
        go_loopw [5] (fun i wr => ∃ (k m : Nat), k ≤ za.length ∧ i = .int .i64 k ∧ (∀ j, j < k → za.getD j 0 = zb.getD j 0) ∧ wr = w.drewN m)
          (fun i _ => za.length - (intOf i).toNat)
        case atStart => exact ⟨0, 0, Nat.zero_le _, rfl, fun j hj => by omega, rfl⟩
        case round =>
          obtain ⟨k, m, hk, rfl, hs, rfl⟩ := hrel
          by_cases hlt' : k < za.length
          · have hcell := hc' k hlt'
            have hcell2 := hc2' k hlt'
            have HS := Lib.hid hs
            have HC := Lib.hid hc'
            have HC2 := Lib.hid hc2'
            clear hs hc' hc2'
            obtain ⟨x, hxd⟩ : ∃ x, x = za.getD k 0 := ⟨_, rfl⟩
            obtain ⟨y, hyd⟩ : ∃ y, y = zb.getD k 0 := ⟨_, rfl⟩
            rw [← hxd] at hcell
            rw [← hyd] at hcell2
            have HX := Lib.hid hxd
            have HY := Lib.hid hyd
            clear hxd hyd
            go_wp2
            go_quiet (fail)
            by_cases hxy : x = y
            · subst hxy
              go_wp2
              go_roundw
              case rel =>
                refine ⟨k + 1, _, by omega, by go_num, fun j hj => ?_, rfl⟩
                by_cases hjk : j = k
                · subst hjk; rw [← HX.out, ← HY.out]
                · exact HS.out j (by omega)
              case measure => simp [intOf]; omega
            · go_wp2
              go_ret
              refine ⟨ret_bool ?_, m + nq, by rw [World.drewN_drewN]⟩
              have : za ≠ zb := fun h => hxy (by rw [HX.out, HY.out, h])
              simp [this]
          · obtain rfl : k = za.length := by omega
            have hdone := take_same HN.out hs
            subst hdone
            clear hs hc' hc2'
            go_wp2
            go_ret
            exact ⟨ret_bool (by simp), _, rfl⟩
  · have hav : ∃ a cap, va = .slice a za.length cap := by obtain ⟨a, cap, h, _⟩ := ha; exact ⟨a, cap, by simpa using h⟩
    have hbv : ∃ a cap, vb = .slice a zb.length cap := by obtain ⟨a, cap, h, _⟩ := hb; exact ⟨a, cap, by simpa using h⟩
    obtain ⟨a, cap, rfl⟩ := hav
    obtain ⟨a2, cap2, rfl⟩ := hbv
    clear ha hb
    go_enter Try.func32, Try.ntmps32
    go_wp2
    go_ret
    refine ⟨ret_bool ?_, 0, rfl⟩
    have : za ≠ zb := fun h => hne (by rw [h])
    simp [this]

end Go.Proofs.Ytleheibpgngmiaa
