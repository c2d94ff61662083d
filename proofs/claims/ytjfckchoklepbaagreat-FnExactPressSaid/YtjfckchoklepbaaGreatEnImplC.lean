/- DERIVED. The program's slices.Clone at actions, steps and held keys, its copyRows and its copyEngine: copies in memory of their own. Called with at most 1048576 elements in each slice. -/
import Derived.Test.YtjfckchoklepbaaGreatEnCpy
import Derived.Lib.SliceRun
namespace Go.Proofs.YtjfckchoklepbaaGreat
open Go.RowKit

set_option maxRecDepth 100000 in
set_option maxHeartbeats 4000000 in
theorem cloneAc_any (v : Value) (l : List Ac) (w : World) (hl : l.length ≤ 1048576) (h : RdN w v l.length (flatAc l)) :
    Calls Tryz.prog 209 #[v] w fun e w' => ∃ a c, e = .returned (.slice a l.length c) ∧ w'.ownsRow w.heap.size 41 4 (.slice a l.length c) l.length (flatAc l) ∧ Below w.heap.size w w' := by
  obtain ⟨i0, hi, hz0, hz1, hz2⟩ := info_parts info_ac
  obtain ⟨xa, cap, rfl⟩ := RdN.shape h
  have qT : ∀ (w : World) (a : Option Addr) (n c n' c' : Nat), (Go.binOp .eql 75 (.slice a n c) (.slice none n' c')).run Tryz.prog w = .ok (.bool a.isNone) w := fun w a n c n' c' => Lib.run_eql_slice_nil w _ _ a n c n' c' Tryz.underlying75
  obtain ⟨n, hn⟩ : ∃ n, n = l.length := ⟨_, rfl⟩
  have HN := Lib.hid hn
  have H := Lib.hid (show RdN w (.slice xa n cap) n (flatAc l) by rw [hn]; exact h)
  rw [← hn] at hl ⊢
  clear hn h
  rcases xa with _ | ad
  · obtain rfl : n = 0 := by
      obtain ⟨a, c, hv, hh⟩ := H.out
      rcases hh with h0 | ⟨b, off, ha, _⟩
      · exact h0
      · rw [ha] at hv; simp at hv
    obtain rfl : l = [] := List.eq_nil_of_length_eq_zero HN.out.symm
    clear H hi hz0 hz1 hz2
    go_enter Tryz.func209, Tryz.ntmps209
    go_wp2
    go_ret
    exact ⟨none, 0, rfl, World.ownsRow_nil _ _ _ _, Below.refl _ _⟩
  · have HL := Lib.hid (show (flatAc l).length = n * 4 by rw [flatAc_len, HN.out])
    have HA := Lib.hid (below_alloc1 w (.cells #[] 41))
    have b63 : 0 + n ≤ maxLen := by unfold maxLen; omega
    have b47 : (0 + n) * 32 ≤ 140737488355328 := by omega
    go_enter Tryz.func209, Tryz.ntmps209
    go_wp2_with (at_builtin; refine wpList_append_rd (by rfl) (.tmp 5) (.tmp 6) 75 (by rfl) w.heap.size 41 i0 (.agg #[.int .i64 0, .int .i64 0, .int .i64 0, .int .i64 0]) 4 32 Tryz.underlying75 hi hz0 hz1 hz2 rfl (by decide) (.slice (some ⟨w.heap.size, 0, none⟩) 0 0) 0 [] (by rfl) (World.ownsRow_lit (e := 41) (size := 4) w #[] 0 (by simp) (by simp [maxLen]) rfl) (.slice (some ad) n cap) n (flatAc l) (by rfl) (H.out.below HA.out) HL.out (flatAc_one _) b63 b47 (by simp) ?_)
    intro v1 w1 hown hgrow
    obtain ⟨a1, c1, rfl⟩ := owns_shape hown
    try simp only [Nat.zero_add, List.nil_append] at hown
    try simp only [Nat.zero_add]
    have HB1 := Lib.hid (show Below w.heap.size w w1 from HA.out.grown hgrow (by simp) (fun q hq => by simp [Value.ownBlock] at hq; omega))
    have HO1 := Lib.hid hown
    clear hown hgrow b63 b47
    go_wp2
    go_ret
    exact ⟨a1, c1, rfl, HO1.out, HB1.out⟩

set_option maxRecDepth 100000 in
set_option maxHeartbeats 4000000 in
theorem cloneSt_any (v : Value) (l : List St) (w : World) (hl : l.length ≤ 1048576) (h : RdN w v l.length (flatSt l)) :
    Calls Tryz.prog 210 #[v] w fun e w' => ∃ a c, e = .returned (.slice a l.length c) ∧ w'.ownsRow w.heap.size 182 3 (.slice a l.length c) l.length (flatSt l) ∧ Below w.heap.size w w' := by
  obtain ⟨i0, hi, hz0, hz1, hz2⟩ := info_parts info_st
  obtain ⟨xa, cap, rfl⟩ := RdN.shape h
  have qT : ∀ (w : World) (a : Option Addr) (n c n' c' : Nat), (Go.binOp .eql 78 (.slice a n c) (.slice none n' c')).run Tryz.prog w = .ok (.bool a.isNone) w := fun w a n c n' c' => Lib.run_eql_slice_nil w _ _ a n c n' c' Tryz.underlying78
  obtain ⟨n, hn⟩ : ∃ n, n = l.length := ⟨_, rfl⟩
  have HN := Lib.hid hn
  have H := Lib.hid (show RdN w (.slice xa n cap) n (flatSt l) by rw [hn]; exact h)
  rw [← hn] at hl ⊢
  clear hn h
  rcases xa with _ | ad
  · obtain rfl : n = 0 := by
      obtain ⟨a, c, hv, hh⟩ := H.out
      rcases hh with h0 | ⟨b, off, ha, _⟩
      · exact h0
      · rw [ha] at hv; simp at hv
    obtain rfl : l = [] := List.eq_nil_of_length_eq_zero HN.out.symm
    clear H hi hz0 hz1 hz2
    go_enter Tryz.func210, Tryz.ntmps210
    go_wp2
    go_ret
    exact ⟨none, 0, rfl, World.ownsRow_nil _ _ _ _, Below.refl _ _⟩
  · have HL := Lib.hid (show (flatSt l).length = n * 3 by rw [flatSt_len, HN.out])
    have HA := Lib.hid (below_alloc1 w (.cells #[] 182))
    have b63 : 0 + n ≤ maxLen := by unfold maxLen; omega
    have b47 : (0 + n) * 24 ≤ 140737488355328 := by omega
    go_enter Tryz.func210, Tryz.ntmps210
    go_wp2_with (at_builtin; refine wpList_append_rd (by rfl) (.tmp 5) (.tmp 6) 78 (by rfl) w.heap.size 182 i0 (.agg #[.int .i64 0, .int .i64 0, .int .i64 0]) 3 24 Tryz.underlying78 hi hz0 hz1 hz2 rfl (by decide) (.slice (some ⟨w.heap.size, 0, none⟩) 0 0) 0 [] (by rfl) (World.ownsRow_lit (e := 182) (size := 3) w #[] 0 (by simp) (by simp [maxLen]) rfl) (.slice (some ad) n cap) n (flatSt l) (by rfl) (H.out.below HA.out) HL.out (flatSt_one _) b63 b47 (by simp) ?_)
    intro v1 w1 hown hgrow
    obtain ⟨a1, c1, rfl⟩ := owns_shape hown
    try simp only [Nat.zero_add, List.nil_append] at hown
    try simp only [Nat.zero_add]
    have HB1 := Lib.hid (show Below w.heap.size w w1 from HA.out.grown hgrow (by simp) (fun q hq => by simp [Value.ownBlock] at hq; omega))
    have HO1 := Lib.hid hown
    clear hown hgrow b63 b47
    go_wp2
    go_ret
    exact ⟨a1, c1, rfl, HO1.out, HB1.out⟩

set_option maxRecDepth 100000 in
set_option maxHeartbeats 4000000 in
theorem cloneHd_any (v : Value) (l : List Hd) (w : World) (hl : l.length ≤ 1048576) (h : RdN w v l.length (flatHd l)) :
    Calls Tryz.prog 158 #[v] w fun e w' => ∃ a c, e = .returned (.slice a l.length c) ∧ w'.ownsRow w.heap.size 43 5 (.slice a l.length c) l.length (flatHd l) ∧ Below w.heap.size w w' := by
  obtain ⟨i0, hi, hz0, hz1, hz2⟩ := info_parts info_hd
  obtain ⟨xa, cap, rfl⟩ := RdN.shape h
  have qT : ∀ (w : World) (a : Option Addr) (n c n' c' : Nat), (Go.binOp .eql 28 (.slice a n c) (.slice none n' c')).run Tryz.prog w = .ok (.bool a.isNone) w := fun w a n c n' c' => Lib.run_eql_slice_nil w _ _ a n c n' c' Tryz.underlying28
  obtain ⟨n, hn⟩ : ∃ n, n = l.length := ⟨_, rfl⟩
  have HN := Lib.hid hn
  have H := Lib.hid (show RdN w (.slice xa n cap) n (flatHd l) by rw [hn]; exact h)
  rw [← hn] at hl ⊢
  clear hn h
  rcases xa with _ | ad
  · obtain rfl : n = 0 := by
      obtain ⟨a, c, hv, hh⟩ := H.out
      rcases hh with h0 | ⟨b, off, ha, _⟩
      · exact h0
      · rw [ha] at hv; simp at hv
    obtain rfl : l = [] := List.eq_nil_of_length_eq_zero HN.out.symm
    clear H hi hz0 hz1 hz2
    go_enter Tryz.func158, Tryz.ntmps158
    go_wp2
    go_ret
    exact ⟨none, 0, rfl, World.ownsRow_nil _ _ _ _, Below.refl _ _⟩
  · have HL := Lib.hid (show (flatHd l).length = n * 5 by rw [flatHd_len, HN.out])
    have HA := Lib.hid (below_alloc1 w (.cells #[] 43))
    have b63 : 0 + n ≤ maxLen := by unfold maxLen; omega
    have b47 : (0 + n) * 40 ≤ 140737488355328 := by omega
    go_enter Tryz.func158, Tryz.ntmps158
    go_wp2_with (at_builtin; refine wpList_append_rd (by rfl) (.tmp 5) (.tmp 6) 28 (by rfl) w.heap.size 43 i0 (.agg #[.int .i64 0, .int .i64 0, .int .i64 0, .int .i64 0, .int .i64 0]) 5 40 Tryz.underlying28 hi hz0 hz1 hz2 rfl (by decide) (.slice (some ⟨w.heap.size, 0, none⟩) 0 0) 0 [] (by rfl) (World.ownsRow_lit (e := 43) (size := 5) w #[] 0 (by simp) (by simp [maxLen]) rfl) (.slice (some ad) n cap) n (flatHd l) (by rfl) (H.out.below HA.out) HL.out (flatHd_one _) b63 b47 (by simp) ?_)
    intro v1 w1 hown hgrow
    obtain ⟨a1, c1, rfl⟩ := owns_shape hown
    try simp only [Nat.zero_add, List.nil_append] at hown
    try simp only [Nat.zero_add]
    have HB1 := Lib.hid (show Below w.heap.size w w1 from HA.out.grown hgrow (by simp) (fun q hq => by simp [Value.ownBlock] at hq; omega))
    have HO1 := Lib.hid hown
    clear hown hgrow b63 b47
    go_wp2
    go_ret
    exact ⟨a1, c1, rfl, HO1.out, HB1.out⟩

set_option maxRecDepth 100000 in
set_option maxHeartbeats 4000000 in
theorem copyRowsAc_any (v : Value) (L : List (List Ac)) (w : World) (hl : L.length ≤ 1048576) (hr : ∀ l ∈ L, l.length ≤ 1048576) (h : LdS w v L) :
    Calls Tryz.prog 156 #[v] w fun e w' => ∃ a c fp, e = .returned (.slice a L.length c) ∧ LoS w' w.heap.size (.slice a L.length c) L fp ∧ Below w.heap.size w w' := by
  obtain ⟨i0, hi, hz0, hz1, hz2⟩ := info_parts info_acs
  rcases RdS.cases h with ⟨rfl, a, cap, rfl⟩ | ⟨b, off, cap, us, hpos, rfl, hlt, hc⟩
  · clear h
    go_enter Tryz.func156, Tryz.ntmps156
    go_wp2_with (at_make; refine wpList_make_full w rfl _ _ 24 rfl w.heap.size 75 i0 (.slice none 0 0) 1 Tryz.underlying24 hi hz0 hz1 .i64 .i64 0 0 0 rfl rfl rfl rfl (by simp) ?_ ?_ ?_)
    · simp [maxLen]
    · exact Nat.le_refl _
    · intro w1 hown hg
      go_wp2
      refine wp_loop_rounds 1 ?_
      rw [rounds_succ]
      go_wp2
      go_ret
      exact ⟨_, _, _, rfl, (OwB.start (f := Ac.cells) (c := 4) (by simpa [madeCells] using hown)).done rfl, (Below.refl _ _).grown hg (Nat.le_refl _) (fun k hk => by cases hk)⟩
  · obtain ⟨n, hn⟩ : ∃ n, n = L.length := ⟨_, rfl⟩
    have HN := Lib.hid hn
    have HC := Lib.hid (show ∀ j, j < n → w.cell? ⟨b, off + j, none⟩ = some (uD us j) ∧ RdN w (uD us j) (lD L j).length ((lD L j).flatMap Ac.cells) by rw [hn]; exact hc)
    have HR := Lib.hid (fun j => lD_le hr j)
    rw [← hn] at hl hpos ⊢
    clear h hc hr hn
    go_enter Tryz.func156, Tryz.ntmps156
    go_wp2_with (at_make; refine wpList_make_full w rfl _ _ 24 rfl w.heap.size 75 i0 (.slice none 0 0) 1 Tryz.underlying24 hi hz0 hz1 .i64 .i64 _ _ n rfl rfl rfl rfl (by rw [hz2]; omega) ?_ ?_ ?_)
    · simp [maxLen]; omega
    · exact Nat.le_refl _
    · intro w1 hown hg
      go_wp2
      go_loopw [4, 5, 11] (fun _ _ i wr => ∃ (k : Nat) (xs : List Value) (fps : List (List Nat)), k ≤ n ∧ i = .int .i64 k ∧ OwB Ac.cells wr w.heap.size 75 41 4 (.slice (some ⟨w.heap.size, 0, none⟩) n n) n xs (L.take k) fps ∧ Below w.heap.size w wr)
        (fun _ _ i _ => n - (intOf i).toNat)
      case atStart => exact ⟨0, _, [], Nat.zero_le _, rfl, by rw [List.take_zero]; exact OwB.start hown, (Below.refl _ _).grown hg (Nat.le_refl _) (fun k hk => by cases hk)⟩
      case round =>
        obtain ⟨k, xs, fps, hk, rfl, hown', hb⟩ := hrel
        by_cases hlt' : k < n
        · obtain ⟨c0, hrow⟩ := HC.out k hlt'
          have hkL : k < L.length := by rw [← HN.out]; exact hlt'
          obtain ⟨ua, uc, hu⟩ := RdN.shape hrow
          rw [hu] at c0 hrow
          have hrow' := hrow.below (show Below w.heap.size w wr from hb)
          have r0 := (hb.cell (p := ⟨b, off + k, none⟩) hlt).trans c0
          obtain ⟨nr, hnr⟩ : ∃ m, m = (lD L k).length := ⟨_, rfl⟩
          rw [← hnr] at r0 hrow'
          have HNr := Lib.hid hnr
          have HW := Lib.hid hrow'
          have HO := Lib.hid hown'
          have HB := Lib.hid hb
          clear c0 hown' hb hown hg hrow hrow' hu hnr
          go_wp2_with fail
          refine (cloneAc_any _ (lD L k) _ (HR.out k) (by rw [← HNr.out]; exact HW.out)).mono ?_
          rw [← HNr.out]
          rintro e w2 ⟨xa, xc, rfl, hnew, hb2⟩
          have hof : OwF w2 wr.heap.size 41 4 (.slice xa nr xc) (lD L k).length ((lD L k).flatMap Ac.cells) (ownFp (.slice xa nr xc)) := by rw [← HNr.out]; exact ⟨hnew, rfl⟩
          have ho2 := HO.out.below hb2
          have hxl : xs.length = n := by have := ho2.own.1; omega
          obtain ⟨y0, s0⟩ : ∃ y, w2.cell? ⟨w.heap.size, k, none⟩ = some y := ⟨xs[k]'(by omega), by rw [ho2.own.cellAt k (by omega), List.getElem?_eq_getElem (show k < xs.length by omega)]⟩
          have z0 := ho2.own.frozenAt k
          have htl : (L.take k).length = k := by rw [List.length_take]; omega
          have hset := OwB.set (S := wr.heap.size) ho2 (by rw [htl]; exact hlt') (owF_base hof HB.out.size) (fun b hb => (hof.rng b hb).1) (fun b hb => (HO.out.rng b hb).2)
          rw [htl, ← lD_take L k hkL] at hset
          have HO2 := Lib.hid hset
          have HB2 := Lib.hid (HB.out.trans (hb2.mono HB.out.size))
          clear hb2 ho2 hset hnew hof hxl htl r0
          go_wp2
          go_roundw
          case rel => exact ⟨k + 1, _, _, by omega, by go_num, HO2.out, HB2.out.setCell (Nat.le_refl _) _⟩
          case measure => simp [intOf]; omega
        · obtain rfl : k = n := by omega
          rw [HN.out, List.take_length] at hown'
          have HO := Lib.hid (OwB.done hown' rfl)
          rw [← HN.out] at HO
          have HB := Lib.hid hb
          clear hown' hown hg hb
          go_wp2
          go_ret
          exact ⟨_, _, _, rfl, HO.out, HB.out⟩

set_option maxRecDepth 100000 in
set_option maxHeartbeats 4000000 in
theorem copyRowsSt_any (v : Value) (L : List (List St)) (w : World) (hl : L.length ≤ 1048576) (hr : ∀ l ∈ L, l.length ≤ 1048576) (h : LdT w v L) :
    Calls Tryz.prog 157 #[v] w fun e w' => ∃ a c fp, e = .returned (.slice a L.length c) ∧ LoT w' w.heap.size (.slice a L.length c) L fp ∧ Below w.heap.size w w' := by
  obtain ⟨i0, hi, hz0, hz1, hz2⟩ := info_parts info_sts
  rcases RdS.cases h with ⟨rfl, a, cap, rfl⟩ | ⟨b, off, cap, us, hpos, rfl, hlt, hc⟩
  · clear h
    go_enter Tryz.func157, Tryz.ntmps157
    go_wp2_with (at_make; refine wpList_make_full w rfl _ _ 27 rfl w.heap.size 78 i0 (.slice none 0 0) 1 Tryz.underlying27 hi hz0 hz1 .i64 .i64 0 0 0 rfl rfl rfl rfl (by simp) ?_ ?_ ?_)
    · simp [maxLen]
    · exact Nat.le_refl _
    · intro w1 hown hg
      go_wp2
      refine wp_loop_rounds 1 ?_
      rw [rounds_succ]
      go_wp2
      go_ret
      exact ⟨_, _, _, rfl, (OwB.start (f := St.cells) (c := 3) (by simpa [madeCells] using hown)).done rfl, (Below.refl _ _).grown hg (Nat.le_refl _) (fun k hk => by cases hk)⟩
  · obtain ⟨n, hn⟩ : ∃ n, n = L.length := ⟨_, rfl⟩
    have HN := Lib.hid hn
    have HC := Lib.hid (show ∀ j, j < n → w.cell? ⟨b, off + j, none⟩ = some (uD us j) ∧ RdN w (uD us j) (lD L j).length ((lD L j).flatMap St.cells) by rw [hn]; exact hc)
    have HR := Lib.hid (fun j => lT_le hr j)
    rw [← hn] at hl hpos ⊢
    clear h hc hr hn
    go_enter Tryz.func157, Tryz.ntmps157
    go_wp2_with (at_make; refine wpList_make_full w rfl _ _ 27 rfl w.heap.size 78 i0 (.slice none 0 0) 1 Tryz.underlying27 hi hz0 hz1 .i64 .i64 _ _ n rfl rfl rfl rfl (by rw [hz2]; omega) ?_ ?_ ?_)
    · simp [maxLen]; omega
    · exact Nat.le_refl _
    · intro w1 hown hg
      go_wp2
      go_loopw [4, 5, 11] (fun _ _ i wr => ∃ (k : Nat) (xs : List Value) (fps : List (List Nat)), k ≤ n ∧ i = .int .i64 k ∧ OwB St.cells wr w.heap.size 78 182 3 (.slice (some ⟨w.heap.size, 0, none⟩) n n) n xs (L.take k) fps ∧ Below w.heap.size w wr)
        (fun _ _ i _ => n - (intOf i).toNat)
      case atStart => exact ⟨0, _, [], Nat.zero_le _, rfl, by rw [List.take_zero]; exact OwB.start hown, (Below.refl _ _).grown hg (Nat.le_refl _) (fun k hk => by cases hk)⟩
      case round =>
        obtain ⟨k, xs, fps, hk, rfl, hown', hb⟩ := hrel
        by_cases hlt' : k < n
        · obtain ⟨c0, hrow⟩ := HC.out k hlt'
          have hkL : k < L.length := by rw [← HN.out]; exact hlt'
          obtain ⟨ua, uc, hu⟩ := RdN.shape hrow
          rw [hu] at c0 hrow
          have hrow' := hrow.below (show Below w.heap.size w wr from hb)
          have r0 := (hb.cell (p := ⟨b, off + k, none⟩) hlt).trans c0
          obtain ⟨nr, hnr⟩ : ∃ m, m = (lD L k).length := ⟨_, rfl⟩
          rw [← hnr] at r0 hrow'
          have HNr := Lib.hid hnr
          have HW := Lib.hid hrow'
          have HO := Lib.hid hown'
          have HB := Lib.hid hb
          clear c0 hown' hb hown hg hrow hrow' hu hnr
          go_wp2_with fail
          refine (cloneSt_any _ (lD L k) _ (HR.out k) (by rw [← HNr.out]; exact HW.out)).mono ?_
          rw [← HNr.out]
          rintro e w2 ⟨xa, xc, rfl, hnew, hb2⟩
          have hof : OwF w2 wr.heap.size 182 3 (.slice xa nr xc) (lD L k).length ((lD L k).flatMap St.cells) (ownFp (.slice xa nr xc)) := by rw [← HNr.out]; exact ⟨hnew, rfl⟩
          have ho2 := HO.out.below hb2
          have hxl : xs.length = n := by have := ho2.own.1; omega
          obtain ⟨y0, s0⟩ : ∃ y, w2.cell? ⟨w.heap.size, k, none⟩ = some y := ⟨xs[k]'(by omega), by rw [ho2.own.cellAt k (by omega), List.getElem?_eq_getElem (show k < xs.length by omega)]⟩
          have z0 := ho2.own.frozenAt k
          have htl : (L.take k).length = k := by rw [List.length_take]; omega
          have hset := OwB.set (S := wr.heap.size) ho2 (by rw [htl]; exact hlt') (owF_base hof HB.out.size) (fun b hb => (hof.rng b hb).1) (fun b hb => (HO.out.rng b hb).2)
          rw [htl, ← lD_take L k hkL] at hset
          have HO2 := Lib.hid hset
          have HB2 := Lib.hid (HB.out.trans (hb2.mono HB.out.size))
          clear hb2 ho2 hset hnew hof hxl htl r0
          go_wp2
          go_roundw
          case rel => exact ⟨k + 1, _, _, by omega, by go_num, HO2.out, HB2.out.setCell (Nat.le_refl _) _⟩
          case measure => simp [intOf]; omega
        · obtain rfl : k = n := by omega
          rw [HN.out, List.take_length] at hown'
          have HO := Lib.hid (OwB.done hown' rfl)
          rw [← HN.out] at HO
          have HB := Lib.hid hb
          clear hown' hown hg hb
          go_wp2
          go_ret
          exact ⟨_, _, _, rfl, HO.out, HB.out⟩

/-- Worlds on the way of the program's copy: the engine's box (its slices are written anew) at g, the result's box at g + 1. -/
structure CcW (w W : World) (g : Nat) (co : Array Value) : Prop where
  ho : W.heap[g]? = some (.cells co 30 (0, 0))
  hr : W.heap[g + 1]? = some (.cells #[.int .i64 0, .slice none 0 0, .slice none 0 0, .int .i64 0, .slice none 0 0, .int .i64 0, .bool false] 30 (0, 0))
  hb : Below w.heap.size w W
  hg : g = w.heap.size
theorem CcW.lt {w W : World} {g : Nat} {co : Array Value} (h : CcW w W g co) : g + 1 < W.heap.size := (Array.getElem?_eq_some_iff.mp h.hr).1
theorem CcW.below {w W W' : World} {g : Nat} {co : Array Value} (h : CcW w W g co) (hb : Below W.heap.size W W') : CcW w W' g co :=
  ⟨blk_below h.ho hb, blk_below h.hr hb, h.hb.trans (hb.mono h.hb.size), h.hg⟩
theorem CcW.set {w W : World} {g : Nat} {co : Array Value} (h : CcW w W g co) (i : Nat) (v : Value) : CcW w (W.setCell ⟨g, i, none⟩ v) g (co.setIfInBounds i v) :=
  ⟨heap_setCell_same W g i co _ v h.ho, (Below.heap_setCell W ⟨g, i, none⟩ v (g + 1) (show g + 1 ≠ g by omega)).trans h.hr, h.hb.setCell (show w.heap.size ≤ g by have := h.hg; omega) v, h.hg⟩

set_option maxRecDepth 100000 in
set_option maxHeartbeats 8000000 in
theorem implCopyEngine_any (e : En) (u1 u2 u3 : Value) (w : World) (hs : EnSz e) (h : RdE w e u1 u2 u3) :
    Calls Tryz.prog 84 #[env e.k u1 u2 e.x u3 e.o e.p] w (EnO e w) := by
  obtain ⟨h1, h2, h3⟩ := h
  obtain ⟨k, L, F, fx, H, o, p⟩ := e
  obtain ⟨sL, sLr, _, sF, sFr, _, sH⟩ := hs
  simp only at h1 h2 h3 sL sLr sF sFr sH ⊢
  obtain ⟨a1, c1, rfl⟩ := RdS.shape h1
  obtain ⟨a2, c2, rfl⟩ := RdSt.shape h2
  obtain ⟨a3, c3, rfl⟩ := RdN.shape h3
  obtain ⟨nL, hnL⟩ : ∃ n, n = L.length := ⟨_, rfl⟩
  obtain ⟨nF, hnF⟩ : ∃ n, n = F.length := ⟨_, rfl⟩
  obtain ⟨nH, hnH⟩ : ∃ n, n = H.length := ⟨_, rfl⟩
  obtain ⟨g, hg⟩ : ∃ g, g = w.heap.size := ⟨_, rfl⟩
  obtain ⟨U, hU⟩ : ∃ U, U = (w.alloc (.cells #[.int .i64 k, .slice a1 nL c1, .slice a2 nF c2, .int .i64 fx, .slice a3 nH c3, .int .i64 o, .bool p] 30)).alloc (.cells #[.int .i64 0, .slice none 0 0, .slice none 0 0, .int .i64 0, .slice none 0 0, .int .i64 0, .bool false] 30) := ⟨_, rfl⟩
  have k0 : CcW w U g #[.int .i64 k, .slice a1 nL c1, .slice a2 nF c2, .int .i64 fx, .slice a3 nH c3, .int .i64 o, .bool p] := by
    rw [hU, hg]
    refine ⟨?_, ?_, ?_, rfl⟩
    · rw [Below.heap_alloc _ _ _ (by simp)]; exact heap_alloc_new w _
    · simpa using heap_alloc_new (w.alloc (.cells #[.int .i64 k, .slice a1 nL c1, .slice a2 nF c2, .int .i64 fx, .slice a3 nH c3, .int .i64 o, .bool p] 30)) _
    · exact ((Below.refl _ _).alloc (Nat.le_refl _) _).alloc (by simp) _
  have HU := Lib.hid hU
  have HG := Lib.hid hg
  have K0 := Lib.hid k0
  have HNL := Lib.hid hnL
  have HNF := Lib.hid hnF
  have HNH := Lib.hid hnH
  have H1 := Lib.hid h1
  have H2 := Lib.hid h2
  have H3 := Lib.hid h3
  have SL := Lib.hid sL
  have SLr := Lib.hid sLr
  have SF := Lib.hid sF
  have SFr := Lib.hid sFr
  have SH := Lib.hid sH
  have HSU := Lib.hid (Nat.lt_of_succ_lt k0.lt)
  rw [← hnL, ← hnF, ← hnH]
  clear hU hg k0 hnL hnF hnH h1 h2 h3 sL sF sH sLr sFr
  go_enter Tryz.func84, Tryz.ntmps84
  go_upto_region 1 with (fail)
  rw [← HU.out, ← HG.out]
  obtain ⟨x0, -⟩ := cells_of_heap K0.out.ho 1 (by simp)
  simp only [List.getElem_toArray, List.getElem_cons_zero, List.getElem_cons_succ] at x0
  go_wp2_with fail
  refine (copyRowsAc_any _ L _ SL.out SLr.out (by rw [HNL.out]; exact H1.out.below K0.out.hb)).mono ?_
  rw [← HNL.out]
  rintro r w1 ⟨b1, d1, f1, rfl, hown, hb⟩
  have J1 := Lib.hid (K0.out.below hb)
  have Q1 := Lib.hid hown
  have S1 := Lib.hid hb.size
  clear hb x0 hown
  obtain ⟨o0, p0⟩ := cells_of_heap J1.out.ho 1 (by simp)
  go_upto_region 2 with (fail)
  obtain ⟨V1, hV⟩ : ∃ W, W = w1.setCell ⟨g, 1, none⟩ (.slice b1 nL d1) := ⟨_, rfl⟩
  rw [← hV]
  have k1 := J1.out.set 1 (.slice b1 nL d1)
  have t1 : Turn w1 V1 [g] := by rw [hV]; exact (Turn.refl _ _).setCell 1 _
  rw [← hV] at k1
  have hs1 : V1.heap.size = w1.heap.size := by rw [hV]; simp
  have QL1 := Lib.hid (show LoS V1 U.heap.size (.slice b1 nL d1) L f1 from Q1.out.turn t1 (fun b hb => own_sing (fun y hy => Nat.lt_of_lt_of_le HSU.out (Q1.out.rng y hy).1) hb))
  have Z1 := Lib.hid (show U.heap.size ≤ V1.heap.size by rw [hs1]; exact S1.out)
  have K1 := Lib.hid (show CcW w V1 g #[.int .i64 k, .slice b1 nL d1, .slice a2 nF c2, .int .i64 fx, .slice a3 nH c3, .int .i64 o, .bool p] from k1)
  clear k1 t1 hs1 hV o0 p0 J1
  obtain ⟨x0, -⟩ := cells_of_heap K1.out.ho 2 (by simp)
  simp only [List.getElem_toArray, List.getElem_cons_zero, List.getElem_cons_succ] at x0
  go_wp2_with fail
  refine (copyRowsSt_any _ F _ SF.out SFr.out (by rw [HNF.out]; exact H2.out.below K1.out.hb)).mono ?_
  rw [← HNF.out]
  rintro r w2 ⟨b2, d2, f2, rfl, hown, hb⟩
  have J2 := Lib.hid (K1.out.below hb)
  have Q1 := Lib.hid hown
  have P1 := Lib.hid (QL1.out.below hb)
  have S1 := Lib.hid hb.size
  clear hb x0 hown
  obtain ⟨o0, p0⟩ := cells_of_heap J2.out.ho 2 (by simp)
  go_upto_region 3 with (fail)
  obtain ⟨V2, hV⟩ : ∃ W, W = w2.setCell ⟨g, 2, none⟩ (.slice b2 nF d2) := ⟨_, rfl⟩
  rw [← hV]
  have k1 := J2.out.set 2 (.slice b2 nF d2)
  have t1 : Turn w2 V2 [g] := by rw [hV]; exact (Turn.refl _ _).setCell 2 _
  rw [← hV] at k1
  have hs1 : V2.heap.size = w2.heap.size := by rw [hV]; simp
  have QL2 := Lib.hid (show LoS V2 U.heap.size (.slice b1 nL d1) L f1 from P1.out.turn t1 (fun b hb => own_sing (fun y hy => Nat.lt_of_lt_of_le HSU.out (P1.out.rng y hy).1) hb))
  have QF2 := Lib.hid (show LoT V2 V1.heap.size (.slice b2 nF d2) F f2 from Q1.out.turn t1 (fun b hb => own_sing (fun y hy => Nat.lt_of_lt_of_le HSU.out (Nat.le_trans Z1.out (Q1.out.rng y hy).1)) hb))
  have Z2 := Lib.hid (show V1.heap.size ≤ V2.heap.size by rw [hs1]; exact S1.out)
  clear S1
  have K2 := Lib.hid (show CcW w V2 g #[.int .i64 k, .slice b1 nL d1, .slice b2 nF d2, .int .i64 fx, .slice a3 nH c3, .int .i64 o, .bool p] from k1)
  clear k1 t1 hs1 hV o0 p0 J2
  obtain ⟨x0, -⟩ := cells_of_heap K2.out.ho 4 (by simp)
  simp only [List.getElem_toArray, List.getElem_cons_zero, List.getElem_cons_succ] at x0
  go_wp2_with fail
  refine (cloneHd_any _ H _ SH.out (by rw [HNH.out]; exact H3.out.below K2.out.hb)).mono ?_
  rw [← HNH.out]
  rintro r w3 ⟨b3, d3, rfl, hown, hb⟩
  have J3 := Lib.hid (K2.out.below hb)
  have Q1 := Lib.hid (show OwF w3 V2.heap.size 43 5 (.slice b3 nH d3) H.length (flatHd H) (ownFp (.slice b3 nH d3)) by rw [← HNH.out]; exact ⟨hown, rfl⟩)
  have P1 := Lib.hid (QL2.out.below hb)
  have P2 := Lib.hid (QF2.out.below hb)
  clear hb x0 hown
  obtain ⟨o0, p0⟩ := cells_of_heap J3.out.ho 4 (by simp)
  go_upto_region 4 with (fail)
  obtain ⟨V3, hV⟩ : ∃ W, W = w3.setCell ⟨g, 4, none⟩ (.slice b3 nH d3) := ⟨_, rfl⟩
  rw [← hV]
  have k1 := J3.out.set 4 (.slice b3 nH d3)
  have t1 : Turn w3 V3 [g] := by rw [hV]; exact (Turn.refl _ _).setCell 4 _
  rw [← hV] at k1
  have hs1 : V3.heap.size = w3.heap.size := by rw [hV]; simp
  have QL3 := Lib.hid (show LoS V3 U.heap.size (.slice b1 nL d1) L f1 from P1.out.turn t1 (fun b hb => own_sing (fun y hy => Nat.lt_of_lt_of_le HSU.out (P1.out.rng y hy).1) hb))
  have QF3 := Lib.hid (show LoT V3 V1.heap.size (.slice b2 nF d2) F f2 from P2.out.turn t1 (fun b hb => own_sing (fun y hy => Nat.lt_of_lt_of_le HSU.out (Nat.le_trans Z1.out (P2.out.rng y hy).1)) hb))
  have QH3 := Lib.hid (show OwF V3 V2.heap.size 43 5 (.slice b3 nH d3) H.length (flatHd H) (ownFp (.slice b3 nH d3)) from Q1.out.turn t1 (fun b hb => own_sing (fun y hy => Nat.lt_of_lt_of_le HSU.out (Nat.le_trans Z1.out (Nat.le_trans Z2.out (Q1.out.rng y hy).1))) hb))
  have K3 := Lib.hid (show CcW w V3 g #[.int .i64 k, .slice b1 nL d1, .slice b2 nF d2, .int .i64 fx, .slice b3 nH d3, .int .i64 o, .bool p] from k1)
  clear k1 t1 hs1 hV o0 p0 J3
  have hnd := nodup3 QL3.out.nodup QF3.out.nodup (OwF.nodup QH3.out) (fun y hy => ⟨(QL1.out.rng y hy).1, (QL1.out.rng y hy).2⟩) (fun y hy => ⟨(QF2.out.rng y hy).1, (QF2.out.rng y hy).2⟩) QH3.out.rng (Nat.le_refl _) (Nat.le_refl _) Z2.out
  have hgU : w.heap.size ≤ U.heap.size := K0.out.hb.size
  have hown : OwE V3 w.heap.size ⟨k, L, F, fx, H, o, p⟩ (.slice b1 nL d1) (.slice b2 nF d2) (.slice b3 nH d3) (f1 ++ (f2 ++ ownFp (.slice b3 nH d3))) := ⟨_, _, _, QL3.out.base hgU, QF3.out.base (Nat.le_trans hgU Z1.out), owF_base (QH3.out) (Nat.le_trans hgU (Nat.le_trans Z1.out Z2.out)), rfl, hnd⟩
  have hng : g + 1 ∉ f1 ++ (f2 ++ ownFp (.slice b3 nH d3)) := fun hm => by
    have hs := K0.out.lt
    have hz1 := Z1.out
    have hz2 := Z2.out
    rcases List.mem_append.1 hm with h | h
    · have := (QL3.out.rng _ h).1; omega
    · rcases List.mem_append.1 h with h | h
      · have := (QF3.out.rng _ h).1; omega
      · have := (QH3.out.rng _ h).1; omega
  have HOW := Lib.hid hown
  have HNG := Lib.hid hng
  clear hown hng hnd hgU
  obtain ⟨o0, -⟩ := cells_of_heap K3.out.ho 0 (by simp)
  obtain ⟨o1, -⟩ := cells_of_heap K3.out.ho 1 (by simp)
  obtain ⟨o2, -⟩ := cells_of_heap K3.out.ho 2 (by simp)
  obtain ⟨o3, -⟩ := cells_of_heap K3.out.ho 3 (by simp)
  obtain ⟨o4, -⟩ := cells_of_heap K3.out.ho 4 (by simp)
  obtain ⟨o5, -⟩ := cells_of_heap K3.out.ho 5 (by simp)
  obtain ⟨o6, -⟩ := cells_of_heap K3.out.ho 6 (by simp)
  obtain ⟨r0, q0⟩ := cells_of_heap K3.out.hr 0 (by simp)
  obtain ⟨r1, q1⟩ := cells_of_heap K3.out.hr 1 (by simp)
  obtain ⟨r2, q2⟩ := cells_of_heap K3.out.hr 2 (by simp)
  obtain ⟨r3, q3⟩ := cells_of_heap K3.out.hr 3 (by simp)
  obtain ⟨r4, q4⟩ := cells_of_heap K3.out.hr 4 (by simp)
  obtain ⟨r5, q5⟩ := cells_of_heap K3.out.hr 5 (by simp)
  obtain ⟨r6, q6⟩ := cells_of_heap K3.out.hr 6 (by simp)
  simp only [List.getElem_toArray, List.getElem_cons_zero, List.getElem_cons_succ] at o0 o1 o2 o3 o4 o5 o6
  go_wp2
  clear o0 o1 o2 o3 o4 o5 o6 r0 r1 r2 r3 r4 r5 r6 q0 q1 q2 q3 q4 q5 q6
  have hle : w.heap.size ≤ g + 1 := by rw [HG.out]; omega
  obtain ⟨wf, hwf⟩ : ∃ x, x = putW (V3) (g + 1) 0 [.int .i64 k, .slice b1 nL d1, .slice b2 nF d2, .int .i64 fx, .slice b3 nH d3, .int .i64 o, .bool p] := ⟨_, rfl⟩
  have kf := putW_all [.int .i64 k, .slice b1 nL d1, .slice b2 nF d2, .int .i64 fx, .slice b3 nH d3, .int .i64 o, .bool p] K3.out.hr rfl
  have bf := putW_below (b := g + 1) (by first | omega | simp) [.int .i64 k, .slice b1 nL d1, .slice b2 nF d2, .int .i64 fx, .slice b3 nH d3, .int .i64 o, .bool p] 0 _ K3.out.hb
  have of := HOW.out.putAt (y := g + 1) [.int .i64 k, .slice b1 nL d1, .slice b2 nF d2, .int .i64 fx, .slice b3 nH d3, .int .i64 o, .bool p] HNG.out 0
  rw [← hwf] at kf bf of
  have cf := hwf.symm
  simp only [putW, Nat.reduceAdd] at cf
  rw [cf]
  clear cf hwf
  have f0 := (cells_of_heap kf 0 (by simp)).1
  have f1 := (cells_of_heap kf 1 (by simp)).1
  have f2 := (cells_of_heap kf 2 (by simp)).1
  have f3 := (cells_of_heap kf 3 (by simp)).1
  have f4 := (cells_of_heap kf 4 (by simp)).1
  have f5 := (cells_of_heap kf 5 (by simp)).1
  have f6 := (cells_of_heap kf 6 (by simp)).1
  simp only [List.getElem_toArray, List.getElem_cons_zero, List.getElem_cons_succ] at f0 f1 f2 f3 f4 f5 f6
  refine bodyPost_ret (v := env k (.slice b1 nL d1) (.slice b2 nF d2) fx (.slice b3 nH d3) o p) (by simp [results, Tryz.results84, go_sem, f0, f1, f2, f3, f4, f5, f6]) rfl ⟨b1, d1, b2, d2, b3, d3, _, by rw [← HNL.out, ← HNF.out, ← HNH.out], by rw [← HNL.out, ← HNF.out, ← HNH.out]; exact of, bf⟩

end Go.Proofs.YtjfckchoklepbaaGreat
