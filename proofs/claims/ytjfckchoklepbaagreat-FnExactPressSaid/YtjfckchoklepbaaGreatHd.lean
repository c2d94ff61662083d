/- DERIVED. Helds as data; the laws' own functions on them and on slices of them: the size, a copy, two that are alike, marks. · Chapter 7's words on held keys as plain functions: valid held keys, the layers that they switch on. No condition. -/
import Derived.Test.YtjfckchoklepbaaGreatCore
import Derived.Test.YtjfckchoklepbaaGreatInts
import Derived.WalkSmall
import Derived.Deep.RegionHeld3
import Derived.Deep.DeepCutAuto
import Derived.Test.YtjfckchoklepbaaGreatAcs
namespace Go.Proofs.YtjfckchoklepbaaGreat
open Go.RowKit

/-- One Held. -/
structure Hd where
  h : Int
  k : Int
  c : Int
  m : Int
  n : Int
abbrev Hd.cells (e : Hd) : List Value := [.int .i64 e.h, .int .i64 e.k, .int .i64 e.c, .int .i64 e.m, .int .i64 e.n]
abbrev hdv (h : Int) (k : Int) (c : Int) (m : Int) (n : Int) : Value := .agg #[.int .i64 h, .int .i64 k, .int .i64 c, .int .i64 m, .int .i64 n]
def flatHd (l : List Hd) : List Value := l.flatMap Hd.cells
theorem flatHd_len (l : List Hd) : (flatHd l).length = l.length * 5 := by
  induction l with
  | nil => rfl
  | cons e l ih => simp [flatHd] at ih ⊢; omega
theorem flatHd_snoc (l : List Hd) (e : Hd) : flatHd (l ++ [e]) = flatHd l ++ e.cells := by simp [flatHd]
theorem flatHd_one (l : List Hd) : ∀ u ∈ flatHd l, u.oneCell' = true := by
  intro u hu
  simp only [flatHd, List.mem_flatMap] at hu
  obtain ⟨e, _, hu⟩ := hu
  simp at hu
  rcases hu with rfl | rfl | rfl | rfl | rfl <;> rfl
def hdD (l : List Hd) (j : Nat) : Hd := l.getD j ⟨0, 0, 0, 0, 0⟩
theorem hdD_take (l : List Hd) (j : Nat) (h : j < l.length) : l.take (j + 1) = l.take j ++ [hdD l j] := by
  rw [List.take_succ_eq_append_getElem h, hdD]; simp [List.getElem?_eq_getElem h]
theorem flatHd_get (l : List Hd) (j f : Nat) (hj : j < l.length) (hf : f < 5) : (flatHd l)[j * 5 + f]? = (hdD l j).cells[f]? := by
  induction l generalizing j with
  | nil => simp at hj
  | cons e l ih =>
    have hc : flatHd (e :: l) = e.cells ++ flatHd l := by simp [flatHd]
    rw [hc]
    cases j with
    | zero => rw [List.getElem?_append_left (by simp; omega)]; simp [hdD]
    | succ j =>
      rw [List.getElem?_append_right (by simp; omega)]
      rw [show (j + 1) * 5 + f - e.cells.length = j * 5 + f by simp; omega, ih j (by simpa using hj)]
      simp [hdD]
/-- What a walk knows of a slice of these. -/
theorem rd_hds {w : World} {v : Value} {l : List Hd} (h : RdN w v l.length (flatHd l)) :
    (l = [] ∧ ∃ a cap, v = .slice a 0 cap) ∨ ∃ b off cap, 0 < l.length ∧ v = .slice (some ⟨b, off, none⟩) l.length cap ∧ b < w.heap.size ∧
      ∀ j, j < l.length → w.cell? ⟨b, off + j * 5, none⟩ = some (.int .i64 (hdD l j).h) ∧ w.cell? ⟨b, off + j * 5 + 1, none⟩ = some (.int .i64 (hdD l j).k) ∧ w.cell? ⟨b, off + j * 5 + 2, none⟩ = some (.int .i64 (hdD l j).c) ∧ w.cell? ⟨b, off + j * 5 + 3, none⟩ = some (.int .i64 (hdD l j).m) ∧ w.cell? ⟨b, off + j * 5 + 4, none⟩ = some (.int .i64 (hdD l j).n) := by
  rcases h.cases with ⟨hx, a, cap, rfl⟩ | ⟨hx, b, off, cap, rfl, hlt, hc⟩
  · exact .inl ⟨List.eq_nil_of_length_eq_zero hx, a, cap, rfl⟩
  · refine .inr ⟨b, off, cap, hx, rfl, hlt, fun j hj => ?_⟩
    have key : ∀ f, f < 5 → w.cell? ⟨b, off + j * 5 + f, none⟩ = (hdD l j).cells[f]? := fun f hf => by
      have hl : j * 5 + f < (flatHd l).length := by rw [flatHd_len]; omega
      rw [Nat.add_assoc, hc _ hl, ← List.getElem?_eq_getElem hl, flatHd_get l j f hj hf]
    exact ⟨by simpa using key 0 (by omega), by simpa using key 1 (by omega), by simpa using key 2 (by omega), by simpa using key 3 (by omega), by simpa using key 4 (by omega)⟩
theorem info_hd : (Tryz.prog.info? 43).map (fun i => (i.zero, i.size, i.bytes)) = some (some (.agg #[.int .i64 0, .int .i64 0, .int .i64 0, .int .i64 0, .int .i64 0]), 5, 40) := by kernel_rfl

theorem toHeld_any (h : Int) (k : Int) (c : Int) (m : Int) (n : Int) (w : World) : Calls Tryz.prog 197 #[hdv h k c m n] w fun e w' => e = .returned (hdv h k c m n) ∧ Below w.heap.size w w' := by
  go_enter Tryz.func197, Tryz.ntmps197
  go_wp2_with fail
  obtain ⟨W, hW⟩ : ∃ x, x = ((w.alloc (.cells #[.int .i64 h, .int .i64 k, .int .i64 c, .int .i64 m, .int .i64 n] 220)).alloc (.cells #[.int .i64 0, .int .i64 0, .int .i64 0, .int .i64 0, .int .i64 0] 43)).alloc (.cells #[.int .i64 h, .int .i64 0, .int .i64 0, .int .i64 0, .int .i64 0] 43) := ⟨_, rfl⟩
  have HB0 := Lib.hid (show Below w.heap.size w W by rw [hW]; exact (((Below.refl _ _).alloc (Nat.le_refl _) _).alloc (by simp) _).alloc (by simp; omega) _)
  have HG0 := Lib.hid (show W.heap[w.heap.size + 1]? = some (.cells #[.int .i64 0, .int .i64 0, .int .i64 0, .int .i64 0, .int .i64 0] 43 (0, 0)) by rw [hW, ((Below.refl (((w.alloc (.cells #[.int .i64 h, .int .i64 k, .int .i64 c, .int .i64 m, .int .i64 n] 220)).alloc (.cells #[.int .i64 0, .int .i64 0, .int .i64 0, .int .i64 0, .int .i64 0] 43)).heap.size) ((w.alloc (.cells #[.int .i64 h, .int .i64 k, .int .i64 c, .int .i64 m, .int .i64 n] 220)).alloc (.cells #[.int .i64 0, .int .i64 0, .int .i64 0, .int .i64 0, .int .i64 0] 43))).alloc (Nat.le_refl _) _).block (w.heap.size + 1) (by simp)]; have e := heap_alloc_new (w.alloc (.cells #[.int .i64 h, .int .i64 k, .int .i64 c, .int .i64 m, .int .i64 n] 220)) (.cells #[.int .i64 0, .int .i64 0, .int .i64 0, .int .i64 0, .int .i64 0] 43); simpa using e)
  have HO0 := Lib.hid (show W.heap[w.heap.size + 1 + 1]? = some (.cells #[.int .i64 h, .int .i64 0, .int .i64 0, .int .i64 0, .int .i64 0] 43 (0, 0)) by rw [hW]; have e := heap_alloc_new ((w.alloc (.cells #[.int .i64 h, .int .i64 k, .int .i64 c, .int .i64 m, .int .i64 n] 220)).alloc (.cells #[.int .i64 0, .int .i64 0, .int .i64 0, .int .i64 0, .int .i64 0] 43)) (.cells #[.int .i64 h, .int .i64 0, .int .i64 0, .int .i64 0, .int .i64 0] 43); simpa using e)
  have HS0 := Lib.hid (show W.heap.size = w.heap.size + 3 by rw [hW]; simp)
  rw [← hW]
  clear hW
  refine (toAction_any k c m n _).mono ?_
  rintro e w1 ⟨rfl, hb⟩
  have HB1 := Lib.hid (HB0.out.trans (hb.mono HB0.out.size))
  have HG1 := Lib.hid ((hb.block _ (by have := HS0.out; omega)).trans HG0.out)
  have HO1 := Lib.hid ((hb.block _ (by have := HS0.out; omega)).trans HO0.out)
  clear hb
  obtain ⟨y0, q0⟩ := cells_of_heap HO1.out 0 (by simp)
  obtain ⟨y1, q1⟩ := cells_of_heap HO1.out 1 (by simp)
  obtain ⟨y2, q2⟩ := cells_of_heap HO1.out 2 (by simp)
  obtain ⟨y3, q3⟩ := cells_of_heap HO1.out 3 (by simp)
  obtain ⟨y4, q4⟩ := cells_of_heap HO1.out 4 (by simp)
  obtain ⟨x0, p0⟩ := cells_of_heap HG1.out 0 (by simp)
  obtain ⟨x1, p1⟩ := cells_of_heap HG1.out 1 (by simp)
  obtain ⟨x2, p2⟩ := cells_of_heap HG1.out 2 (by simp)
  obtain ⟨x3, p3⟩ := cells_of_heap HG1.out 3 (by simp)
  obtain ⟨x4, p4⟩ := cells_of_heap HG1.out 4 (by simp)
  simp only [List.getElem_toArray, List.getElem_cons_zero, List.getElem_cons_succ] at y0 x0 y1 x1 y2 x2 y3 x3 y4 x4
  go_wp2
  clear x0 p0 y0 q0 x1 p1 y1 q1 x2 p2 y2 q2 x3 p3 y3 q3 x4 p4 y4 q4
  have hz : (putW w1 (w.heap.size + 1 + 1) 1 [.int .i64 k, .int .i64 c, .int .i64 m, .int .i64 n]).heap[w.heap.size + 1]? = some (.cells #[.int .i64 0, .int .i64 0, .int .i64 0, .int .i64 0, .int .i64 0] 43 (0, 0)) := (putW_other (by omega) _ _ _).trans HG1.out
  have hy : Below w.heap.size w (putW w1 (w.heap.size + 1 + 1) 1 [.int .i64 k, .int .i64 c, .int .i64 m, .int .i64 n]) := putW_below (by omega) _ _ _ HB1.out
  obtain ⟨wf, hwf⟩ : ∃ x, x = putW (putW w1 (w.heap.size + 1 + 1) 1 [.int .i64 k, .int .i64 c, .int .i64 m, .int .i64 n]) (w.heap.size + 1) 0 [.int .i64 h, .int .i64 k, .int .i64 c, .int .i64 m, .int .i64 n] := ⟨_, rfl⟩
  have kf := putW_all [.int .i64 h, .int .i64 k, .int .i64 c, .int .i64 m, .int .i64 n] hz rfl
  have bf := putW_below (b := w.heap.size + 1) (by first | omega | simp) [.int .i64 h, .int .i64 k, .int .i64 c, .int .i64 m, .int .i64 n] 0 _ hy
  rw [← hwf] at kf bf
  have cf := hwf.symm
  simp only [putW, Nat.reduceAdd] at cf
  rw [cf]
  clear cf hwf
  have f0 := (cells_of_heap kf 0 (by simp)).1
  have f1 := (cells_of_heap kf 1 (by simp)).1
  have f2 := (cells_of_heap kf 2 (by simp)).1
  have f3 := (cells_of_heap kf 3 (by simp)).1
  have f4 := (cells_of_heap kf 4 (by simp)).1
  simp only [List.getElem_toArray, List.getElem_cons_zero, List.getElem_cons_succ] at f0 f1 f2 f3 f4
  refine bodyPost_ret (v := hdv h k c m n) (by simp [results, Tryz.results197, go_sem, f0, f1, f2, f3, f4]) rfl ⟨rfl, bf⟩

theorem eqHeld_same (h : Int) (k : Int) (c : Int) (m : Int) (n : Int) (w : World) : Calls Tryz.prog 200 #[hdv h k c m n, hdv h k c m n] w fun e w' => e = .returned (.bool true) ∧ Below w.heap.size w w' := by
  go_enter Tryz.func200, Tryz.ntmps200
  go_wp2_with fail
  refine (eqAction_same k c m n _).mono ?_
  rintro e w1 ⟨rfl, hb⟩
  have HB := Lib.hid hb
  clear hb
  go_wp2
  go_ret
  have b2 := ((Below.refl w.heap.size w).alloc (Nat.le_refl _) (.cells #[.int .i64 h, .int .i64 k, .int .i64 c, .int .i64 m, .int .i64 n] 43)).alloc (by simp) (.cells #[.int .i64 h, .int .i64 k, .int .i64 c, .int .i64 m, .int .i64 n] 43)
  exact ⟨rfl, b2.trans (HB.out.mono b2.size)⟩

set_option maxHeartbeats 1000000 in
theorem toHeldS_any (v : Value) (l : List Hd) (w : World) (hl : l.length ≤ 1048576) (h : RdN w v l.length (flatHd l)) :
    Calls Tryz.prog 131 #[v] w fun e w' => ∃ u, e = .returned u ∧ w'.ownsRow w.heap.size 43 5 u l.length (flatHd l) ∧ Below w.heap.size w w' := by
  obtain ⟨i0, hi, hz0, hz1, hz2⟩ := info_parts info_hd
  rcases rd_hds h with ⟨rfl, a, cap, rfl⟩ | ⟨b, off, cap, hpos, rfl, hlt, hc⟩
  · clear h
    go_enter Tryz.func131, Tryz.ntmps131
    go_wp2_with (at_make; refine wpList_make_full w rfl _ _ 28 rfl w.heap.size 43 i0 (.agg #[.int .i64 0, .int .i64 0, .int .i64 0, .int .i64 0, .int .i64 0]) 5 Tryz.underlying28 hi hz0 hz1 .i64 .i64 0 0 0 rfl rfl rfl rfl (by simp) ?_ ?_ ?_)
    · simp [maxLen]
    · exact Nat.le_refl _
    · intro w1 hown hg
      go_wp2
      refine wp_loop_rounds 1 ?_
      rw [rounds_succ]
      go_wp2
      go_ret
      exact ⟨_, rfl, by simpa [madeCells, flatHd] using hown, (Below.refl _ _).grown hg (Nat.le_refl _) (fun k hk => by cases hk)⟩
  · have HC := Lib.hid hc
    clear h hc
    go_enter Tryz.func131, Tryz.ntmps131
    go_wp2_with (at_make; refine wpList_make_full w rfl _ _ 28 rfl w.heap.size 43 i0 (.agg #[.int .i64 0, .int .i64 0, .int .i64 0, .int .i64 0, .int .i64 0]) 5 Tryz.underlying28 hi hz0 hz1 .i64 .i64 _ _ l.length rfl rfl rfl rfl (by rw [hz2]; omega) ?_ ?_ ?_)
    · simp [maxLen]; omega
    · exact Nat.le_refl _
    · intro w1 hown hg
      go_wp2
      go_loopw [4] (fun i wr => ∃ (k : Nat) (xs : List Value), k ≤ l.length ∧ i = .int .i64 k ∧ wr.ownsRow w.heap.size 43 5 (.slice (some ⟨w.heap.size, 0, none⟩) l.length l.length) l.length xs ∧ xs.take (k * 5) = flatHd (l.take k) ∧ Below w.heap.size w wr)
        (fun i _ => l.length - (intOf i).toNat)
      case atStart => exact ⟨0, _, Nat.zero_le _, rfl, hown, by simp [flatHd], (Below.refl _ _).grown hg (Nat.le_refl _) (fun k hk => by cases hk)⟩
      case round =>
        obtain ⟨k, xs, hk, rfl, hown', hxs, hb⟩ := hrel
        have hlx : xs.length = l.length * 5 := hown'.1
        by_cases hlt' : k < l.length
        · obtain ⟨c0, c1, c2, c3, c4⟩ := HC.out k hlt'
          obtain ⟨e, he⟩ : ∃ e, e = hdD l k := ⟨_, rfl⟩
          rw [← he] at c0 c1 c2 c3 c4
          have r0 := (hb.cell (p := ⟨b, off + k * 5, none⟩) hlt).trans c0
          have r1 := (hb.cell (p := ⟨b, off + k * 5 + 1, none⟩) hlt).trans c1
          have r2 := (hb.cell (p := ⟨b, off + k * 5 + 2, none⟩) hlt).trans c2
          have r3 := (hb.cell (p := ⟨b, off + k * 5 + 3, none⟩) hlt).trans c3
          have r4 := (hb.cell (p := ⟨b, off + k * 5 + 4, none⟩) hlt).trans c4
          have HO := Lib.hid hown'
          have HX := Lib.hid hxs
          have HB := Lib.hid hb
          have HLX := Lib.hid hlx
          have HE := Lib.hid he
          clear c0 c1 c2 c3 c4 hown' hxs hb hlx he hown hg
          obtain ⟨x0, x1, x2, x3, x4⟩ := e
          simp only at r0 r1 r2 r3 r4
          go_wp2_with fail
          refine (toHeld_any x0 x1 x2 x3 x4 _).mono ?_
          rintro e w2 ⟨rfl, hb2⟩
          have ho2 := owns_below HO.out hb2
          obtain ⟨y0, s0⟩ : ∃ y, w2.cell? ⟨w.heap.size, k * 5, none⟩ = some y := ⟨xs[k * 5]'(by have := HLX.out; omega), by rw [ho2.cellAt (k * 5) (by omega), List.getElem?_eq_getElem (show k * 5 < xs.length by have := HLX.out; omega)]⟩
          have z0 := ho2.frozenAt (k * 5)
          obtain ⟨y1, s1⟩ : ∃ y, w2.cell? ⟨w.heap.size, k * 5 + 1, none⟩ = some y := ⟨xs[k * 5 + 1]'(by have := HLX.out; omega), by rw [ho2.cellAt (k * 5 + 1) (by omega), List.getElem?_eq_getElem (show k * 5 + 1 < xs.length by have := HLX.out; omega)]⟩
          have z1 := ho2.frozenAt (k * 5 + 1)
          obtain ⟨y2, s2⟩ : ∃ y, w2.cell? ⟨w.heap.size, k * 5 + 2, none⟩ = some y := ⟨xs[k * 5 + 2]'(by have := HLX.out; omega), by rw [ho2.cellAt (k * 5 + 2) (by omega), List.getElem?_eq_getElem (show k * 5 + 2 < xs.length by have := HLX.out; omega)]⟩
          have z2 := ho2.frozenAt (k * 5 + 2)
          obtain ⟨y3, s3⟩ : ∃ y, w2.cell? ⟨w.heap.size, k * 5 + 3, none⟩ = some y := ⟨xs[k * 5 + 3]'(by have := HLX.out; omega), by rw [ho2.cellAt (k * 5 + 3) (by omega), List.getElem?_eq_getElem (show k * 5 + 3 < xs.length by have := HLX.out; omega)]⟩
          have z3 := ho2.frozenAt (k * 5 + 3)
          obtain ⟨y4, s4⟩ : ∃ y, w2.cell? ⟨w.heap.size, k * 5 + 4, none⟩ = some y := ⟨xs[k * 5 + 4]'(by have := HLX.out; omega), by rw [ho2.cellAt (k * 5 + 4) (by omega), List.getElem?_eq_getElem (show k * 5 + 4 < xs.length by have := HLX.out; omega)]⟩
          have z4 := ho2.frozenAt (k * 5 + 4)
          have HO2 := Lib.hid (owns_put ho2 (k * 5) [.int .i64 x0, .int .i64 x1, .int .i64 x2, .int .i64 x3, .int .i64 x4] (by have := HLX.out; simp; omega))
          have HB2 := Lib.hid (HB.out.trans (hb2.mono HB.out.size))
          clear hb2 ho2
          go_upto_region 4 with (fail)
          obtain ⟨wf, ewf⟩ : ∃ x, x = putW (w2) (w.heap.size) (k * 5) [.int .i64 x0, .int .i64 x1, .int .i64 x2, .int .i64 x3, .int .i64 x4] := ⟨_, rfl⟩
          have cwf := ewf.symm
          simp only [putW, Nat.add_assoc, Nat.reduceAdd] at cwf
          rw [cwf]
          clear cwf
          have HO3 := HO2.out
          rw [← ewf] at HO3
          have HB3 := Lib.hid (show Below w.heap.size w wf by rw [ewf]; exact putW_below (Nat.le_refl _) _ _ _ HB2.out)
          have HO4 := Lib.hid HO3
          clear HO3 ewf HO2 s0 s1 s2 s3 s4 z0 z1 z2 z3 z4
          go_wp2
          go_roundw
          case rel =>
            refine ⟨k + 1, _, by omega, by go_num, HO4.out, ?_, HB3.out⟩
            rw [take_put (by have := HLX.out; omega) (by simp; omega), HX.out, hdD_take l k hlt', flatHd_snoc, ← HE.out]
          case measure => simp [intOf]; omega
        · obtain rfl : k = l.length := by omega
          rw [List.take_of_length_le (by omega), List.take_of_length_le (Nat.le_refl _)] at hxs
          subst hxs
          have HO := Lib.hid hown'
          clear hown' hlx hown hg
          go_wp2
          go_ret
          exact ⟨_, rfl, HO.out, hb⟩

set_option maxHeartbeats 1000000 in
theorem eqHeldS_same (va vb : Value) (l : List Hd) (w : World) (hl : l.length ≤ 1000000000000) (ha : RdN w va l.length (flatHd l)) (hb : RdN w vb l.length (flatHd l)) :
    Calls Tryz.prog 134 #[va, vb] w fun e w' => e = .returned (.bool true) ∧ Below w.heap.size w w' := by
  rcases rd_hds ha with ⟨rfl, a, cap, rfl⟩ | ⟨b, off, cap, hpos, rfl, hlt, hc⟩
  · obtain ⟨a2, cap2, rfl, _⟩ := hb
    clear ha
    go_enter Tryz.func134, Tryz.ntmps134
    go_wp2
    refine wp_loop_rounds 1 ?_
    rw [rounds_succ]
    go_wp2
    go_ret
    exact ⟨rfl, Below.refl _ _⟩
  · rcases rd_hds hb with ⟨hn, _⟩ | ⟨b2, off2, cap2, _, rfl, hlt2, hc2⟩
    · exfalso; rw [hn] at hpos; simp at hpos
    · have HC := Lib.hid hc
      have HC2 := Lib.hid hc2
      clear ha hb hc hc2
      go_enter Tryz.func134, Tryz.ntmps134
      go_wp2
      go_loopw [5] (fun i wr => ∃ k : Nat, k ≤ l.length ∧ i = .int .i64 k ∧ Below w.heap.size w wr) (fun i _ => l.length - (intOf i).toNat)
      case atStart => exact ⟨0, Nat.zero_le _, rfl, Below.refl _ _⟩
      case round =>
        obtain ⟨k, hk, rfl, hb⟩ := hrel
        by_cases hlt' : k < l.length
        · obtain ⟨c0, c1, c2, c3, c4⟩ := HC.out k hlt'
          obtain ⟨d0, d1, d2, d3, d4⟩ := HC2.out k hlt'
          obtain ⟨e, he⟩ : ∃ e, e = hdD l k := ⟨_, rfl⟩
          rw [← he] at c0 d0 c1 d1 c2 d2 c3 d3 c4 d4
          have r0 := (hb.cell (p := ⟨b, off + k * 5, none⟩) hlt).trans c0
          have r1 := (hb.cell (p := ⟨b, off + k * 5 + 1, none⟩) hlt).trans c1
          have r2 := (hb.cell (p := ⟨b, off + k * 5 + 2, none⟩) hlt).trans c2
          have r3 := (hb.cell (p := ⟨b, off + k * 5 + 3, none⟩) hlt).trans c3
          have r4 := (hb.cell (p := ⟨b, off + k * 5 + 4, none⟩) hlt).trans c4
          have t0 := (hb.cell (p := ⟨b2, off2 + k * 5, none⟩) hlt2).trans d0
          have t1 := (hb.cell (p := ⟨b2, off2 + k * 5 + 1, none⟩) hlt2).trans d1
          have t2 := (hb.cell (p := ⟨b2, off2 + k * 5 + 2, none⟩) hlt2).trans d2
          have t3 := (hb.cell (p := ⟨b2, off2 + k * 5 + 3, none⟩) hlt2).trans d3
          have t4 := (hb.cell (p := ⟨b2, off2 + k * 5 + 4, none⟩) hlt2).trans d4
          have hbl : b < wr.heap.size := Nat.lt_of_lt_of_le hlt hb.size
          have hbl2 : b2 < wr.heap.size := Nat.lt_of_lt_of_le hlt2 hb.size
          have HB := Lib.hid hb
          clear c0 d0 c1 d1 c2 d2 c3 d3 c4 d4 hb he
          obtain ⟨x0, x1, x2, x3, x4⟩ := e
          simp only at r0 t0 r1 t1 r2 t2 r3 t3 r4 t4
          go_upto_region 6 with (fail)
          go_cut [26] (fun sd wx => sd = .bool false ∧ Below wr.heap.size wr wx)
          case first =>
            go_region_held3 (fun w' => w'.cell? ⟨b, off + k * 5, none⟩ = some (.int .i64 x0) ∧ w'.cell? ⟨b, off + k * 5 + 1, none⟩ = some (.int .i64 x1) ∧ w'.cell? ⟨b, off + k * 5 + 2, none⟩ = some (.int .i64 x2) ∧ w'.cell? ⟨b, off + k * 5 + 3, none⟩ = some (.int .i64 x3) ∧ w'.cell? ⟨b, off + k * 5 + 4, none⟩ = some (.int .i64 x4) ∧ w'.cell? ⟨b2, off2 + k * 5, none⟩ = some (.int .i64 x0) ∧ w'.cell? ⟨b2, off2 + k * 5 + 1, none⟩ = some (.int .i64 x1) ∧ w'.cell? ⟨b2, off2 + k * 5 + 2, none⟩ = some (.int .i64 x2) ∧ w'.cell? ⟨b2, off2 + k * 5 + 3, none⟩ = some (.int .i64 x3) ∧ w'.cell? ⟨b2, off2 + k * 5 + 4, none⟩ = some (.int .i64 x4)) (first | go_keep)
              (first | (go_at_call 200; refine (eqHeld_same x0 x1 x2 x3 x4 _).mono ?_; rintro e v1 ⟨rfl, hb1⟩; have hbr : Below wr.heap.size wr v1 := (by first | exact hb1 | exact ((Below.refl _ _).drew).trans hb1 | exact ((Below.refl _ _).drew.drew).trans hb1); have kr0 := (hbr.cell (p := ⟨b, off + k * 5, none⟩) hbl).trans r0; have kr1 := (hbr.cell (p := ⟨b, off + k * 5 + 1, none⟩) hbl).trans r1; have kr2 := (hbr.cell (p := ⟨b, off + k * 5 + 2, none⟩) hbl).trans r2; have kr3 := (hbr.cell (p := ⟨b, off + k * 5 + 3, none⟩) hbl).trans r3; have kr4 := (hbr.cell (p := ⟨b, off + k * 5 + 4, none⟩) hbl).trans r4; have kt0 := (hbr.cell (p := ⟨b2, off2 + k * 5, none⟩) hbl2).trans t0; have kt1 := (hbr.cell (p := ⟨b2, off2 + k * 5 + 1, none⟩) hbl2).trans t1; have kt2 := (hbr.cell (p := ⟨b2, off2 + k * 5 + 2, none⟩) hbl2).trans t2; have kt3 := (hbr.cell (p := ⟨b2, off2 + k * 5 + 3, none⟩) hbl2).trans t3; have kt4 := (hbr.cell (p := ⟨b2, off2 + k * 5 + 4, none⟩) hbl2).trans t4; have HBR := Lib.hid hbr; clear hbr hb1))
            all_goals
              go_wp2
              go_meet
              exact ⟨rfl, by first | exact HBR.out | exact HBR.out.drew⟩
          case rest =>
            obtain ⟨rfl, hb⟩ := hcut
            have HB2 := Lib.hid (HB.out.trans (hb.mono HB.out.size))
            clear hb r0 t0 r1 t1 r2 t2 r3 t3 r4 t4
            go_wp2
            go_roundw
            case rel => exact ⟨k + 1, by omega, by go_num, HB2.out⟩
            case measure => simp [intOf]; omega
        · obtain rfl : k = l.length := by omega
          go_wp2
          go_ret
          exact ⟨rfl, hb⟩

/-- The marks that a law writes into n of them, counted from q on. -/
def marksHd (q : Int) (n : Nat) : List Hd := (List.range n).map fun (j : Nat) => ⟨(q + ((j * 5 + 0 : Nat) : Int)), (q + ((j * 5 + 1 : Nat) : Int)), (q + ((j * 5 + 2 : Nat) : Int)), (q + ((j * 5 + 3 : Nat) : Int)), (q + ((j * 5 + 4 : Nat) : Int))⟩
theorem marksHd_len (q : Int) (n : Nat) : (marksHd q n).length = n := by simp [marksHd]
theorem marksHd_succ (q : Int) (n : Nat) : marksHd q (n + 1) = marksHd q n ++ [⟨(q + ((n * 5 + 0 : Nat) : Int)), (q + ((n * 5 + 1 : Nat) : Int)), (q + ((n * 5 + 2 : Nat) : Int)), (q + ((n * 5 + 3 : Nat) : Int)), (q + ((n * 5 + 4 : Nat) : Int))⟩] := by simp [marksHd, List.range_succ]
theorem marksHd_take (q : Int) (n j : Nat) (h : j ≤ n) : (marksHd q n).take j = marksHd q j := by simp [marksHd, ← List.map_take, List.take_range, Nat.min_eq_left h]
theorem marksHd_D (q : Int) (n j : Nat) (h : j < n) : hdD (marksHd q n) j = ⟨(q + ((j * 5 + 0 : Nat) : Int)), (q + ((j * 5 + 1 : Nat) : Int)), (q + ((j * 5 + 2 : Nat) : Int)), (q + ((j * 5 + 3 : Nat) : Int)), (q + ((j * 5 + 4 : Nat) : Int))⟩ := by simp [hdD, marksHd, h]
set_option maxHeartbeats 1000000 in
theorem markHeldS_any (base : Nat) (v : Value) (n : Nat) (xs : List Value) (q : Int) (w : World) (hn : n ≤ 1048576) (hk : 0 ≤ q) (hk' : q ≤ 1099511627776) (h : w.ownsRow base 43 5 v n xs) :
    Calls Tryz.prog 138 #[v, .int .i64 q] w fun e w' => e = .returned (.int .i64 (q + ((n * 5 : Nat) : Int))) ∧ w'.ownsRow base 43 5 v n (flatHd (marksHd q n)) ∧ w.grownBy w' v.ownBlock := by
  rcases h.2 with ⟨rfl, hn0⟩ | ⟨g, cap, cur, rfl, hg, hh, hnc, hcm, hcs, ht⟩
  · subst hn0
    clear h
    go_enter Tryz.func138, Tryz.ntmps138
    go_wp2
    refine wp_loop_rounds 1 ?_
    rw [rounds_succ]
    go_wp2
    go_ret
    exact ⟨ret_int (by simp), World.ownsRow_nil _ _ _ _, grown_refl _ _⟩
  · have HH := Lib.hid h
    clear h hh hnc hcm hcs ht
    go_enter Tryz.func138, Tryz.ntmps138
    go_wp2
    go_loopw [1, 5] (fun p i wr => ∃ (j : Nat) (ys : List Value), j ≤ n ∧ i = .int .i64 j ∧ p = .int .i64 (q + ((j * 5 : Nat) : Int)) ∧ wr.ownsRow base 43 5 (.slice (some ⟨g, 0, none⟩) n cap) n ys ∧ ys.take (j * 5) = flatHd (marksHd q j) ∧ w.grownBy wr (some g))
      (fun _ i _ => n - (intOf i).toNat)
    case atStart => exact ⟨0, xs, Nat.zero_le _, rfl, by simp, HH.out, by simp [flatHd, marksHd], grown_refl _ _⟩
    case round =>
      obtain ⟨j, ys, hj, rfl, rfl, hown, hys, hb⟩ := hrel
      have hly : ys.length = n * 5 := hown.1
      by_cases hlt : j < n
      · obtain ⟨y0, s0⟩ : ∃ y, wr.cell? ⟨g, j * 5, none⟩ = some y := ⟨ys[j * 5]'(by omega), by rw [hown.cellAt (j * 5) (by omega), List.getElem?_eq_getElem (show j * 5 < ys.length by omega)]⟩
        have z0 := hown.frozenAt (j * 5)
        obtain ⟨y1, s1⟩ : ∃ y, wr.cell? ⟨g, j * 5 + 1, none⟩ = some y := ⟨ys[j * 5 + 1]'(by omega), by rw [hown.cellAt (j * 5 + 1) (by omega), List.getElem?_eq_getElem (show j * 5 + 1 < ys.length by omega)]⟩
        have z1 := hown.frozenAt (j * 5 + 1)
        obtain ⟨y2, s2⟩ : ∃ y, wr.cell? ⟨g, j * 5 + 2, none⟩ = some y := ⟨ys[j * 5 + 2]'(by omega), by rw [hown.cellAt (j * 5 + 2) (by omega), List.getElem?_eq_getElem (show j * 5 + 2 < ys.length by omega)]⟩
        have z2 := hown.frozenAt (j * 5 + 2)
        obtain ⟨y3, s3⟩ : ∃ y, wr.cell? ⟨g, j * 5 + 3, none⟩ = some y := ⟨ys[j * 5 + 3]'(by omega), by rw [hown.cellAt (j * 5 + 3) (by omega), List.getElem?_eq_getElem (show j * 5 + 3 < ys.length by omega)]⟩
        have z3 := hown.frozenAt (j * 5 + 3)
        obtain ⟨y4, s4⟩ : ∃ y, wr.cell? ⟨g, j * 5 + 4, none⟩ = some y := ⟨ys[j * 5 + 4]'(by omega), by rw [hown.cellAt (j * 5 + 4) (by omega), List.getElem?_eq_getElem (show j * 5 + 4 < ys.length by omega)]⟩
        have z4 := hown.frozenAt (j * 5 + 4)
        obtain ⟨p, hp⟩ : ∃ p : Int, p = q + ((j * 5 : Nat) : Int) := ⟨_, rfl⟩
        rw [← hp]
        have hpl : 0 ≤ p := by omega
        have hpu : p ≤ 1099511627776 + 1048576 * 5 := by omega
        have HO2 := Lib.hid (owns_put hown (j * 5) [.int .i64 (p), .int .i64 (p + 1), .int .i64 (p + 1 + 1), .int .i64 (p + 1 + 1 + 1), .int .i64 (p + 1 + 1 + 1 + 1)] (by simp; omega))
        have HG2 := Lib.hid (grown_trans hb (putW_grown (b := g) [.int .i64 (p), .int .i64 (p + 1), .int .i64 (p + 1 + 1), .int .i64 (p + 1 + 1 + 1), .int .i64 (p + 1 + 1 + 1 + 1)] (j * 5) wr))
        have HX := Lib.hid hys
        have HLX := Lib.hid hly
        have HP := Lib.hid hp
        clear hown hys hb hly hp
        go_upto_region 13 with (fail)
        obtain ⟨wf, ewf⟩ : ∃ x, x = putW (wr) (g) (j * 5) [.int .i64 (p), .int .i64 (p + 1), .int .i64 (p + 1 + 1), .int .i64 (p + 1 + 1 + 1), .int .i64 (p + 1 + 1 + 1 + 1)] := ⟨_, rfl⟩
        have cwf := ewf.symm
        simp only [putW, Nat.add_assoc, Nat.reduceAdd] at cwf
        rw [cwf]
        clear cwf
        have HO3 := HO2.out
        have HG3 := HG2.out
        rw [← ewf] at HO3 HG3
        have HO4 := Lib.hid HO3
        have HG4 := Lib.hid HG3
        clear HO3 HG3 ewf HO2 HG2 s0 s1 s2 s3 s4 z0 z1 z2 z3 z4
        go_wp2
        go_roundw
        case rel =>
          refine ⟨j + 1, _, by omega, by go_num, ?_, HO4.out, ?_, HG4.out⟩
          · have := HP.out
            congr 1
            omega
          · have hp := HP.out
            rw [take_put (by have := HLX.out; omega) (by simp; omega), HX.out, marksHd_succ, flatHd_snoc]
            congr 1
            have e0 : q + ((j * 5 + 0 : Nat) : Int) = p := by rw [hp]; omega
            have e1 : q + ((j * 5 + 1 : Nat) : Int) = p + 1 := by rw [hp]; omega
            have e2 : q + ((j * 5 + 2 : Nat) : Int) = p + 1 + 1 := by rw [hp]; omega
            have e3 : q + ((j * 5 + 3 : Nat) : Int) = p + 1 + 1 + 1 := by rw [hp]; omega
            have e4 : q + ((j * 5 + 4 : Nat) : Int) = p + 1 + 1 + 1 + 1 := by rw [hp]; omega
            simp only [e0, e1, e2, e3, e4]
        case measure => simp [intOf]; omega
      · obtain rfl : j = n := by omega
        rw [List.take_of_length_le (by omega)] at hys
        subst hys
        have HO := Lib.hid hown
        clear hown hly
        go_wp2
        go_ret
        exact ⟨rfl, HO.out, hb⟩

set_option maxHeartbeats 1000000 in
theorem heldHeldS_any (v : Value) (n : Nat) (q : Int) (w : World) (hn : n ≤ 1048576) (hk : 0 ≤ q) (hk' : q ≤ 1099511627776) (h : RdN w v n (flatHd (marksHd q n))) :
    Calls Tryz.prog 141 #[v, .int .i64 q] w fun e w' => e = .returned (.int .i64 (q + ((n * 5 : Nat) : Int))) ∧ w = w' := by
  have hl := marksHd_len q n
  rcases rd_hds (l := marksHd q n) (by rw [hl]; exact h) with ⟨hnil, a, cap, rfl⟩ | ⟨b, off, cap, hpos, rfl, hlt, hc⟩
  · have hn0 : n = 0 := by rw [hnil] at hl; simpa using hl.symm
    subst hn0
    clear h hnil hl
    go_enter Tryz.func141, Tryz.ntmps141
    go_wp2
    refine wp_loop_rounds 1 ?_
    rw [rounds_succ]
    go_wp2
    go_ret
    exact ⟨ret_int (by simp), rfl⟩
  · rw [hl] at hc ⊢
    have HC := Lib.hid hc
    clear h hl hpos hc
    go_enter Tryz.func141, Tryz.ntmps141
    go_wp2
    go_loop [1, 5] (fun p i => ∃ (j : Nat), j ≤ n ∧ i = .int .i64 j ∧ p = .int .i64 (q + ((j * 5 : Nat) : Int))) (fun _ i => n - (intOf i).toNat)
    case atStart => exact ⟨0, Nat.zero_le _, rfl, by simp⟩
    case round =>
      obtain ⟨j, hj, rfl, rfl⟩ := hrel
      by_cases hlt' : j < n
      · obtain ⟨r0, r1, r2, r3, r4⟩ := HC.out j hlt'
        rw [marksHd_D q n j hlt'] at r0 r1 r2 r3 r4
        obtain ⟨p, hp⟩ : ∃ p : Int, p = q + ((j * 5 : Nat) : Int) := ⟨_, rfl⟩
        rw [← hp]
        have e0 : q + ((j * 5 + 0 : Nat) : Int) = p := by rw [hp]; omega
        have e1 : q + ((j * 5 + 1 : Nat) : Int) = p + 1 := by rw [hp]; omega
        have e2 : q + ((j * 5 + 2 : Nat) : Int) = p + 1 + 1 := by rw [hp]; omega
        have e3 : q + ((j * 5 + 3 : Nat) : Int) = p + 1 + 1 + 1 := by rw [hp]; omega
        have e4 : q + ((j * 5 + 4 : Nat) : Int) = p + 1 + 1 + 1 + 1 := by rw [hp]; omega
        have hpl : 0 ≤ p := by omega
        have hpu : p ≤ 1099511627776 + 1048576 * 5 := by omega
        replace r0 : w.cell? ⟨b, off + j * 5, none⟩ = some (.int .i64 (p)) := by rw [← e0]; exact r0
        replace r1 : w.cell? ⟨b, off + j * 5 + 1, none⟩ = some (.int .i64 (p + 1)) := by rw [← e1]; exact r1
        replace r2 : w.cell? ⟨b, off + j * 5 + 2, none⟩ = some (.int .i64 (p + 1 + 1)) := by rw [← e2]; exact r2
        replace r3 : w.cell? ⟨b, off + j * 5 + 3, none⟩ = some (.int .i64 (p + 1 + 1 + 1)) := by rw [← e3]; exact r3
        replace r4 : w.cell? ⟨b, off + j * 5 + 4, none⟩ = some (.int .i64 (p + 1 + 1 + 1 + 1)) := by rw [← e4]; exact r4
        have HP := Lib.hid hp
        clear hp e0 e1 e2 e3 e4
        go_wp2
        go_round
        case rel => exact ⟨j + 1, by omega, by go_num, by have := HP.out; congr 1; omega⟩
        case measure => simp [intOf]; omega
      · obtain rfl : j = n := by omega
        go_wp2
        go_ret
        exact ⟨rfl, rfl⟩

theorem szHeldS_any (a : Option Addr) (n cap : Nat) (left : Int) (w : World) (hl : 0 ≤ left) (hl' : left ≤ 1099511627776) (hn : n ≤ maxLen) : Calls Tryz.prog 128 #[.slice a n cap, .int .i64 left] w fun e w' => e = .returned (.int .i64 (if left < n then -1 else left - n)) ∧ w = w' := by
  unfold maxLen at hn
  by_cases h : left < (n : Int)
  · rw [if_pos h]
    go_enter Tryz.func128, Tryz.ntmps128
    go_wp2
    go_ret
    exact ⟨rfl, rfl⟩
  · rw [if_neg h]
    go_enter Tryz.func128, Tryz.ntmps128
    go_wp2
    go_ret
    exact ⟨rfl, rfl⟩
end Go.Proofs.YtjfckchoklepbaaGreat

namespace Go.Proofs.YtjfckchoklepbaaGreat
open Go.RowKit

/-- One held key that may stand alone. -/
def okOne (e : Hd) : Bool := inB e.h 0 31 && (okAc e.k e.c e.m e.n && (!decide (e.k = 1) && !holdAc e.k e.c e.m e.n))
/-- The keys of the first j, as bits. -/
def seenN (l : List Hd) : Nat → Nat
  | 0 => 0
  | j + 1 => seenN l j ||| 2 ^ (hdD l j).h.toNat
def hdN (l : List Hd) : Nat → Bool
  | 0 => true
  | j + 1 => hdN l j && (okOne (hdD l j) && !(seenN l j).testBit (hdD l j).h.toNat)
def okHd (l : List Hd) : Bool := hdN l l.length
theorem hdN_no {l : List Hd} {j : Nat} (h : (okOne (hdD l j) && !(seenN l j).testBit (hdD l j).h.toNat) = false) : ∀ m, j < m → hdN l m = false
  | 0, hm => absurd hm (Nat.not_lt_zero _)
  | m + 1, hm => by
    rcases Nat.lt_or_ge j m with h2 | h2
    · rw [hdN, hdN_no h m h2, Bool.false_and]
    · obtain rfl : j = m := by omega
      rw [hdN, h, Bool.and_false]
theorem hdN_at {l : List Hd} : ∀ {m : Nat}, hdN l m = true → ∀ j, j < m → okOne (hdD l j) = true ∧ (seenN l j).testBit (hdD l j).h.toNat = false
  | 0, _, j, hj => absurd hj (Nat.not_lt_zero _)
  | m + 1, h, j, hj => by
    rw [hdN, Bool.and_eq_true, Bool.and_eq_true] at h
    rcases Nat.lt_or_ge j m with h2 | h2
    · exact hdN_at h.1 j h2
    · obtain rfl : j = m := by omega
      exact ⟨h.2.1, by simpa using h.2.2⟩
theorem okOne_at {e : Hd} (h : okOne e = true) : (0 ≤ e.h ∧ e.h ≤ 31) ∧ okAc e.k e.c e.m e.n = true ∧ e.k ≠ 1 ∧ holdAc e.k e.c e.m e.n = false := by
  rw [okOne, Bool.and_eq_true, Bool.and_eq_true, Bool.and_eq_true] at h
  obtain ⟨h1, h2, h3, h4⟩ := h
  exact ⟨of_decide_eq_true h1, h2, by simpa using h3, by simpa using h4⟩
theorem seenN_lt {l : List Hd} : ∀ {m : Nat}, hdN l m = true → seenN l m < 2 ^ 32
  | 0, _ => by simp [seenN]
  | m + 1, h => by
    have hm := (hdN_at h m (by omega)).1
    rw [hdN, Bool.and_eq_true] at h
    rw [seenN]
    exact Nat.or_lt_two_pow (seenN_lt h.1) (Nat.pow_lt_pow_right (by omega) (by have := (okOne_at hm).1; omega))
theorem seenN_bit (l : List Hd) (q : Nat) : ∀ m, (seenN l m).testBit q = true ↔ ∃ i, i < m ∧ (hdD l i).h.toNat = q
  | 0 => by simp [seenN]
  | m + 1 => by
    rw [seenN, Nat.testBit_or, Bool.or_eq_true, seenN_bit l q m, Nat.testBit_two_pow, decide_eq_true_eq]
    constructor
    · rintro (⟨i, hi, e⟩ | e)
      · exact ⟨i, by omega, e⟩
      · exact ⟨m, by omega, e⟩
    · rintro ⟨i, hi, e⟩
      rcases Nat.lt_or_ge i m with h | h
      · exact .inl ⟨i, h, e⟩
      · obtain rfl : i = m := by omega
        exact .inr e

/-- The layers that are on. -/
def onStart (fixed : Int) : Nat := if inB fixed 0 15 = true then 1 ||| fixed.toNat else 1
def onN (l : List Hd) (s : Nat) : Nat → Nat
  | 0 => s
  | j + 1 => if (hdD l j).k = 3 then onN l s j ||| 2 ^ (hdD l j).n.toNat else onN l s j
def onV (fixed : Int) (l : List Hd) : Nat := if okHd l = true then onN l (onStart fixed) l.length else onStart fixed
theorem onStart_lt (fixed : Int) : onStart fixed < 2 ^ 4 := by
  rw [onStart]
  split
  · rename_i h
    have := of_decide_eq_true h
    exact Nat.or_lt_two_pow (by decide) (by omega)
  · decide
theorem okAc_mom {c m n : Int} (h : okAc 3 c m n = true) : 1 ≤ n ∧ n ≤ 3 := by
  simp [okAc, inB] at h
  omega
theorem mom_at {l : List Hd} (h : okHd l = true) {j : Nat} (hj : j < l.length) (hk : (hdD l j).k = 3) : 1 ≤ (hdD l j).n ∧ (hdD l j).n ≤ 3 := by
  have h1 := (okOne_at (hdN_at h j hj).1).2.1
  rw [hk] at h1
  exact okAc_mom h1
theorem onN_lt {l : List Hd} {s : Nat} (hs : s < 2 ^ 4) (h : okHd l = true) : ∀ j, j ≤ l.length → onN l s j < 2 ^ 4
  | 0, _ => hs
  | j + 1, hj => by
    rw [onN]
    split
    · rename_i hk
      have := mom_at h (by omega) hk
      exact Nat.or_lt_two_pow (onN_lt hs h j (by omega)) (Nat.pow_lt_pow_right (by omega) (by omega))
    · exact onN_lt hs h j (by omega)


end Go.Proofs.YtjfckchoklepbaaGreat
