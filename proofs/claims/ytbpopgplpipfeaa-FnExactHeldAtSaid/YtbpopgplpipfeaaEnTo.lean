/- DERIVED. The laws' toEngine: a copy of an engine in memory of its own. -/
import Derived.Test.YtbpopgplpipfeaaEnFn
namespace Go.Proofs.Ytbpopgplpipfeaa
open Go.RowKit

theorem nodup3 {f1 f2 f3 : List Nat} {a b b' c c' d : Nat} (n1 : f1.Nodup) (n2 : f2.Nodup) (n3 : f3.Nodup) (h1 : ∀ x ∈ f1, a ≤ x ∧ x < b) (h2 : ∀ x ∈ f2, b' ≤ x ∧ x < c) (h3 : ∀ x ∈ f3, c' ≤ x ∧ x < d) (hb : b ≤ b') (hc : c ≤ c') (hbc : b ≤ c') : (f1 ++ (f2 ++ f3)).Nodup := by
  refine List.nodup_append.2 ⟨n1, List.nodup_append.2 ⟨n2, n3, fun x hx y hy e => ?_⟩, fun x hx y hy e => ?_⟩
  · have := h2 x hx; have := h3 y hy; omega
  · rcases List.mem_append.1 hy with hy | hy
    · have := h1 x hx; have := h2 y hy; omega
    · have := h1 x hx; have := h3 y hy; omega
/-- A copy of an engine. -/
def EnO (e : En) (w : World) (r : Ending) (w' : World) : Prop := ∃ a1 c1 a2 c2 a3 c3 fp, r = .returned (env e.k (.slice a1 e.L.length c1) (.slice a2 e.F.length c2) e.x (.slice a3 e.H.length c3) e.o e.p) ∧ OwE w' w.heap.size e (.slice a1 e.L.length c1) (.slice a2 e.F.length c2) (.slice a3 e.H.length c3) fp ∧ Below w.heap.size w w'

set_option maxHeartbeats 4000000 in
set_option maxRecDepth 100000 in
theorem toEngine_any (e : En) (u1 u2 u3 : Value) (w : World) (hs : EnSz e) (h : RdE w e u1 u2 u3) :
    Calls Try.prog 17 #[env e.k u1 u2 e.x u3 e.o e.p] w (EnO e w) := by
  obtain ⟨W, hW⟩ : ∃ W, W = ((w.alloc (.cells #[.int .i64 e.k, u1, u2, .int .i64 e.x, u3, .int .i64 e.o, .bool e.p] 52)).alloc (.cells #[.int .i64 0, .slice none 0 0, .slice none 0 0, .int .i64 0, .slice none 0 0, .int .i64 0, .bool false] 30)).alloc (.cells #[.int .i64 0, .slice none 0 0, .slice none 0 0, .int .i64 0, .slice none 0 0, .int .i64 0, .bool false] 30) := ⟨_, rfl⟩
  obtain ⟨gr, hgr⟩ : ∃ g, g = w.heap.size + 1 := ⟨_, rfl⟩
  obtain ⟨go, hgo⟩ : ∃ g, g = w.heap.size + 1 + 1 := ⟨_, rfl⟩
  have HB0 := Lib.hid (show Below w.heap.size w W by rw [hW]; exact (((Below.refl _ _).alloc (Nat.le_refl _) _).alloc (by simp) _).alloc (by simp; omega) _)
  have HX0 := Lib.hid (show W.heap[w.heap.size]? = some (.cells #[.int .i64 e.k, u1, u2, .int .i64 e.x, u3, .int .i64 e.o, .bool e.p] 52 (0, 0)) by
    rw [hW, Below.heap_alloc _ _ _ (by simp; omega), Below.heap_alloc _ _ _ (by simp)]; exact heap_alloc_new w _)
  have HR0 := Lib.hid (show W.heap[gr]? = some (.cells #[.int .i64 0, .slice none 0 0, .slice none 0 0, .int .i64 0, .slice none 0 0, .int .i64 0, .bool false] 30 (0, 0)) by
    rw [hW, hgr, Below.heap_alloc _ _ _ (by simp)]; simpa using heap_alloc_new (w.alloc (.cells #[.int .i64 e.k, u1, u2, .int .i64 e.x, u3, .int .i64 e.o, .bool e.p] 52)) _)
  have HO0 := Lib.hid (show W.heap[go]? = some (.cells #[.int .i64 0, .slice none 0 0, .slice none 0 0, .int .i64 0, .slice none 0 0, .int .i64 0, .bool false] 30 (0, 0)) by
    rw [hW, hgo]; simpa using heap_alloc_new ((w.alloc (.cells #[.int .i64 e.k, u1, u2, .int .i64 e.x, u3, .int .i64 e.o, .bool e.p] 52)).alloc (.cells #[.int .i64 0, .slice none 0 0, .slice none 0 0, .int .i64 0, .slice none 0 0, .int .i64 0, .bool false] 30)) _)
  have HSZ := Lib.hid (show W.heap.size = w.heap.size + 1 + 1 + 1 by rw [hW]; simp)
  have HGR := Lib.hid hgr
  have HGO := Lib.hid hgo
  have HR := Lib.hid h
  have HSz := Lib.hid hs
  go_enter Try.func17, Try.ntmps17
  go_upto_region 2 with (fail)
  rw [← hW, ← hgo, ← hgr]
  clear hW hgr hgo h hs
  have x0 := (cells_of_heap HX0.out 0 (by simp)).1
  have x1 := (cells_of_heap HX0.out 1 (by simp)).1
  simp only [List.getElem_toArray, List.getElem_cons_zero, List.getElem_cons_succ] at x0 x1
  go_wp2_with fail
  refine (toKeymap_any e.k u1 e.L _ HSz.out.l HSz.out.lr (HR.out.map.below HB0.out)).mono ?_
  rintro r w1 ⟨a1, c1, f1, rfl, h1, hb⟩
  have HN1 := Lib.hid h1.nodup
  have HF1 := Lib.hid h1
  have HB1 := Lib.hid (HB0.out.trans (hb.mono HB0.out.size))
  have HX1 := Lib.hid ((hb.block w.heap.size (by have := HSZ.out; omega)).trans HX0.out)
  have HR1 := Lib.hid ((hb.block gr (by have := HSZ.out; have := HGR.out; omega)).trans HR0.out)
  have HO1 := Lib.hid ((hb.block go (by have := HSZ.out; have := HGO.out; omega)).trans HO0.out)
  have HS1 := Lib.hid hb.size
  clear h1 hb x0 x1
  obtain ⟨o0, p0⟩ := cells_of_heap HO1.out 0 (by simp)
  obtain ⟨o1, p1⟩ := cells_of_heap HO1.out 1 (by simp)
  go_upto_region 3 with (fail)
  obtain ⟨X1, hX1⟩ : ∃ x, x = (w1.setCell ⟨go, 0, none⟩ (.int .i64 e.k)).setCell ⟨go, 1, none⟩ (.slice a1 e.L.length c1) := ⟨_, rfl⟩
  have ht : Turn w1 X1 [go] := by rw [hX1]; exact (Turn.of_grown (grown_set w1 go 0 _)).trans (Turn.of_grown (grown_set _ go 1 _))
  have hne1 : w.heap.size ∉ [go] := by have := HGO.out; simp; omega
  have hne2 : gr ∉ [go] := by have := HGO.out; have := HGR.out; simp; omega
  have HO2 := Lib.hid (show X1.heap[go]? = some (.cells #[.int .i64 e.k, .slice a1 e.L.length c1, .slice none 0 0, .int .i64 0, .slice none 0 0, .int .i64 0, .bool false] 30 (0, 0)) by rw [hX1]; exact heap_setCell_same _ go 1 _ _ _ (heap_setCell_same w1 go 0 _ _ _ HO1.out))
  have HX2 := Lib.hid (blk_turn HX1.out ht hne1)
  have HR2 := Lib.hid (blk_turn HR1.out ht hne2)
  have HF2 := Lib.hid (HF1.out.turn ht (fun b hb hm => by have := (HF1.out.rng b hb).1; have := HSZ.out; have := HGO.out; rw [List.mem_singleton] at hm; omega))
  have HB2 := Lib.hid (HB1.out.trans (ht.below (fun b hb => by rw [List.mem_singleton] at hb; have := HGO.out; have := HB1.out; have := HSZ.out; have := HS1.out; have : w.heap.size ≤ b := by omega
                                                               exact this) (by have := HB1.out.size; exact this)))
  have HS2 := Lib.hid (show X1.heap.size = w1.heap.size by rw [hX1]; simp)
  rw [← hX1]
  clear hX1 ht hne1 hne2 o0 o1 p0 p1
  have x2 := (cells_of_heap HX2.out 2 (by simp)).1
  simp only [List.getElem_toArray, List.getElem_cons_zero, List.getElem_cons_succ] at x2
  go_wp2_with fail
  refine (toStepSS_any u2 e.F _ HSz.out.f HSz.out.fr (HR.out.mac.below HB2.out)).mono ?_
  rintro r w2 ⟨s2, f2, rfl, h2, hb⟩
  obtain ⟨a2, c2, rfl⟩ := RdSt.shape h2.rd
  have HN2 := Lib.hid h2.nodup
  have HG2 := Lib.hid h2
  have hgx : w.heap.size < X1.heap.size := (Array.getElem?_eq_some_iff.mp HX2.out).1
  have hgr : gr < X1.heap.size := (Array.getElem?_eq_some_iff.mp HR2.out).1
  have hgo : go < X1.heap.size := (Array.getElem?_eq_some_iff.mp HO2.out).1
  have HB3 := Lib.hid (HB2.out.trans (hb.mono HB2.out.size))
  have HX3 := Lib.hid ((hb.block w.heap.size hgx).trans HX2.out)
  have HR3 := Lib.hid ((hb.block gr hgr).trans HR2.out)
  have HO3 := Lib.hid ((hb.block go hgo).trans HO2.out)
  have HF3 := Lib.hid (HF2.out.below hb)
  have HS3 := Lib.hid hb.size
  have HGO2 := Lib.hid hgo
  clear h2 hb x2 hgx hgr hgo
  obtain ⟨o2, p2⟩ := cells_of_heap HO3.out 2 (by simp)
  obtain ⟨o3, p3⟩ := cells_of_heap HO3.out 3 (by simp)
  have x3 := (cells_of_heap HX3.out 3 (by simp)).1
  simp only [List.getElem_toArray, List.getElem_cons_zero, List.getElem_cons_succ] at x3
  have hne : ¬ w.heap.size = go := by have := HGO.out; omega
  go_upto_region 5 with (fail)
  obtain ⟨X2, hX2⟩ : ∃ x, x = (w2.setCell ⟨go, 2, none⟩ (.slice a2 e.F.length c2)).setCell ⟨go, 3, none⟩ (.int .i64 e.x) := ⟨_, rfl⟩
  have ht : Turn w2 X2 [go] := by rw [hX2]; exact (Turn.of_grown (grown_set w2 go 2 _)).trans (Turn.of_grown (grown_set _ go 3 _))
  have hne1 : w.heap.size ∉ [go] := by have := HGO.out; simp; omega
  have hne2 : gr ∉ [go] := by have := HGO.out; have := HGR.out; simp; omega
  have HO4 := Lib.hid (show X2.heap[go]? = some (.cells #[.int .i64 e.k, .slice a1 e.L.length c1, .slice a2 e.F.length c2, .int .i64 e.x, .slice none 0 0, .int .i64 0, .bool false] 30 (0, 0)) by rw [hX2]; exact heap_setCell_same _ go 3 _ _ _ (heap_setCell_same w2 go 2 _ _ _ HO3.out))
  have HX4 := Lib.hid (blk_turn HX3.out ht hne1)
  have HR4 := Lib.hid (blk_turn HR3.out ht hne2)
  have HF4 := Lib.hid (HF3.out.turn ht (fun b hb hm => by have := (HF1.out.rng b hb).1; have := HSZ.out; have := HGO.out; rw [List.mem_singleton] at hm; omega))
  have HG4 := Lib.hid (HG2.out.turn ht (fun b hb hm => by have := (HG2.out.rng b hb).1; have := HGO2.out; rw [List.mem_singleton] at hm; omega))
  have HB4 := Lib.hid (HB3.out.trans (ht.below (fun b hb => show w.heap.size ≤ b by rw [List.mem_singleton] at hb; have := HGO.out; omega) HB3.out.size))
  have HS4 := Lib.hid (show X2.heap.size = w2.heap.size by rw [hX2]; simp)
  rw [← hX2]
  clear hX2 ht hne1 hne2 o2 o3 p2 p3 x3
  have x4 := (cells_of_heap HX4.out 4 (by simp)).1
  simp only [List.getElem_toArray, List.getElem_cons_zero, List.getElem_cons_succ] at x4
  go_wp2_with fail
  refine (toHeldS_law u3 e.H _ HSz.out.h (HR.out.held.below HB4.out)).mono ?_
  rintro r w3 ⟨a3, c3, f3, rfl, h3, hb⟩
  have HN3 := Lib.hid h3.nodup
  have HH3 := Lib.hid h3
  have hgx : w.heap.size < X2.heap.size := (Array.getElem?_eq_some_iff.mp HX4.out).1
  have hgr : gr < X2.heap.size := (Array.getElem?_eq_some_iff.mp HR4.out).1
  have hgo : go < X2.heap.size := (Array.getElem?_eq_some_iff.mp HO4.out).1
  have HB5 := Lib.hid (HB4.out.trans (hb.mono HB4.out.size))
  have HX5 := Lib.hid ((hb.block w.heap.size hgx).trans HX4.out)
  have HR5 := Lib.hid ((hb.block gr hgr).trans HR4.out)
  have HO5 := Lib.hid ((hb.block go hgo).trans HO4.out)
  have HF5 := Lib.hid (HF4.out.below hb)
  have HG5 := Lib.hid (HG4.out.below hb)
  have HGO4 := Lib.hid hgo
  have HGR4 := Lib.hid hgr
  clear h3 hb x4 hgx hgr hgo
  obtain ⟨o4, p4⟩ := cells_of_heap HO5.out 4 (by simp)
  obtain ⟨o5, p5⟩ := cells_of_heap HO5.out 5 (by simp)
  obtain ⟨o6, p6⟩ := cells_of_heap HO5.out 6 (by simp)
  have x5 := (cells_of_heap HX5.out 5 (by simp)).1
  have x6 := (cells_of_heap HX5.out 6 (by simp)).1
  simp only [List.getElem_toArray, List.getElem_cons_zero, List.getElem_cons_succ] at x5 x6
  go_upto_region 8 with (fail)
  obtain ⟨X3, hX3⟩ : ∃ x, x = ((w3.setCell ⟨go, 4, none⟩ (.slice a3 e.H.length c3)).setCell ⟨go, 5, none⟩ (.int .i64 e.o)).setCell ⟨go, 6, none⟩ (.bool e.p) := ⟨_, rfl⟩
  have ht : Turn w3 X3 [go] := by rw [hX3]; exact ((Turn.of_grown (grown_set w3 go 4 _)).trans (Turn.of_grown (grown_set _ go 5 _))).trans (Turn.of_grown (grown_set _ go 6 _))
  have hne2 : gr ∉ [go] := by have := HGO.out; have := HGR.out; simp; omega
  have HO6 := Lib.hid (show X3.heap[go]? = some (.cells #[.int .i64 e.k, .slice a1 e.L.length c1, .slice a2 e.F.length c2, .int .i64 e.x, .slice a3 e.H.length c3, .int .i64 e.o, .bool e.p] 30 (0, 0)) by rw [hX3]; exact heap_setCell_same _ go 6 _ _ _ (heap_setCell_same _ go 5 _ _ _ (heap_setCell_same w3 go 4 _ _ _ HO5.out)))
  have HR6 := Lib.hid (blk_turn HR5.out ht hne2)
  have HF6 := Lib.hid (HF5.out.turn ht (fun b hb hm => by have := (HF1.out.rng b hb).1; have := HSZ.out; have := HGO.out; rw [List.mem_singleton] at hm; omega))
  have HG6 := Lib.hid (HG5.out.turn ht (fun b hb hm => by have := (HG2.out.rng b hb).1; have := HGO2.out; rw [List.mem_singleton] at hm; omega))
  have HH6 := Lib.hid (HH3.out.turn ht (fun b hb hm => by have := (HH3.out.rng b hb).1; have := HGO4.out; rw [List.mem_singleton] at hm; omega))
  have HB6 := Lib.hid (HB5.out.trans (ht.below (fun b hb => show w.heap.size ≤ b by rw [List.mem_singleton] at hb; have := HGO.out; omega) HB5.out.size))
  rw [← hX3]
  clear hX3 ht hne2 o4 o5 o6 p4 p5 p6 x5 x6
  have y0 := (cells_of_heap HO6.out 0 (by simp)).1
  have y1 := (cells_of_heap HO6.out 1 (by simp)).1
  have y2 := (cells_of_heap HO6.out 2 (by simp)).1
  have y3 := (cells_of_heap HO6.out 3 (by simp)).1
  have y4 := (cells_of_heap HO6.out 4 (by simp)).1
  have y5 := (cells_of_heap HO6.out 5 (by simp)).1
  have y6 := (cells_of_heap HO6.out 6 (by simp)).1
  simp only [List.getElem_toArray, List.getElem_cons_zero, List.getElem_cons_succ] at y0 y1 y2 y3 y4 y5 y6
  obtain ⟨z0, q0⟩ := cells_of_heap HR6.out 0 (by simp)
  obtain ⟨z1, q1⟩ := cells_of_heap HR6.out 1 (by simp)
  obtain ⟨z2, q2⟩ := cells_of_heap HR6.out 2 (by simp)
  obtain ⟨z3, q3⟩ := cells_of_heap HR6.out 3 (by simp)
  obtain ⟨z4, q4⟩ := cells_of_heap HR6.out 4 (by simp)
  obtain ⟨z5, q5⟩ := cells_of_heap HR6.out 5 (by simp)
  obtain ⟨z6, q6⟩ := cells_of_heap HR6.out 6 (by simp)
  go_wp2
  clear y0 y1 y2 y3 y4 y5 y6 z0 z1 z2 z3 z4 z5 z6 q0 q1 q2 q3 q4 q5 q6
  have hgr0 : w.heap.size ≤ gr := by have := HGR.out; omega
  have hnd := nodup3 HN1.out HN2.out HN3.out HF1.out.rng HG2.out.rng HH3.out.rng (by have := HS2.out; omega) (by have := HS4.out; omega) (by have := HS2.out; have := HS3.out; have := HS4.out; omega)
  have hngr : gr ∉ f1 ++ (f2 ++ f3) := fun hm => by
    have hz := HSZ.out
    have hr := HGR.out
    have h4 := HGR4.out
    rcases List.mem_append.1 hm with h | h
    · have := (HF1.out.rng gr h).1; omega
    · rcases List.mem_append.1 h with h | h
      · have := (HG2.out.rng gr h).1; have := HS2.out; have := HS1.out; omega
      · have := (HH3.out.rng gr h).1; omega
  have hown : OwE X3 w.heap.size e (.slice a1 e.L.length c1) (.slice a2 e.F.length c2) (.slice a3 e.H.length c3) (f1 ++ (f2 ++ f3)) := ⟨f1, f2, f3, HF6.out.base HB0.out.size, HG6.out.base HB2.out.size, owF_base HH6.out HB4.out.size, rfl, hnd⟩
  have HOWN := Lib.hid hown
  have HNGR := Lib.hid hngr
  clear hnd hown hngr
  obtain ⟨wf, hwf⟩ : ∃ x, x = putW (X3) (gr) 0 [.int .i64 e.k, .slice a1 e.L.length c1, .slice a2 e.F.length c2, .int .i64 e.x, .slice a3 e.H.length c3, .int .i64 e.o, .bool e.p] := ⟨_, rfl⟩
  have kf := putW_all [.int .i64 e.k, .slice a1 e.L.length c1, .slice a2 e.F.length c2, .int .i64 e.x, .slice a3 e.H.length c3, .int .i64 e.o, .bool e.p] HR6.out rfl
  have bf := putW_below (b := gr) (by first | omega | simp) [.int .i64 e.k, .slice a1 e.L.length c1, .slice a2 e.F.length c2, .int .i64 e.x, .slice a3 e.H.length c3, .int .i64 e.o, .bool e.p] 0 _ HB6.out
  have of := HOWN.out.putAt (y := gr) [.int .i64 e.k, .slice a1 e.L.length c1, .slice a2 e.F.length c2, .int .i64 e.x, .slice a3 e.H.length c3, .int .i64 e.o, .bool e.p] HNGR.out 0
  rw [← hwf] at kf bf of
  have cf := hwf.symm
  simp only [putW, Nat.reduceAdd] at cf
  rw [cf]
  clear cf hwf
  have f0 := (cells_of_heap kf 0 (by simp)).1
  have f1 := (cells_of_heap kf 1 (by simp)).1
  have f2 := (cells_of_heap kf 2 (by simp)).1
  have f3 := (cells_of_heap kf 3 (by simp)).1
  have f4 := (cells_of_heap kf 4 (by simp)).1
  have f5 := (cells_of_heap kf 5 (by simp)).1
  have f6 := (cells_of_heap kf 6 (by simp)).1
  simp only [List.getElem_toArray, List.getElem_cons_zero, List.getElem_cons_succ] at f0 f1 f2 f3 f4 f5 f6
  refine bodyPost_ret (v := env e.k (.slice a1 e.L.length c1) (.slice a2 e.F.length c2) e.x (.slice a3 e.H.length c3) e.o e.p) (by simp [results, Try.results17, go_sem, f0, f1, f2, f3, f4, f5, f6]) rfl ⟨a1, c1, a2, c2, a3, c3, _, rfl, of, bf⟩

end Go.Proofs.Ytbpopgplpipfeaa
