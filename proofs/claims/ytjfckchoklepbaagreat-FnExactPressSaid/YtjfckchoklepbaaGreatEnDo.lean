/- DERIVED. The program's deeds: what an action does at once, to an engine that lies first in the box behind the pointer, and the action that is held. Toggles and to-layers: layers 0 to 3. Written by gen_EnDo.py. -/
import Derived.Test.YtjfckchoklepbaaGreatEnImpl
import Derived.Test.YtjfckchoklepbaaGreatEnKey
namespace Go.Proofs.YtjfckchoklepbaaGreat
open Go.RowKit

/-- The worlds of a deed: the engine's block y, the deed's box g, its result's box g + 1. -/
structure DoW (Tb Td : TypeId) (w W : World) (y g : Nat) (cy : List Value) (ca : Array Value) : Prop where
  hy : W.heap[y]? = some (.cells cy.toArray Tb (0, 0))
  ha : W.heap[g]? = some (.cells ca Td (0, 0))
  hr : W.heap[g + 1]? = some (.cells #[.int .i64 0, .int .i64 0, .int .i64 0, .int .i64 0] 41 (0, 0))
  gr : w.grownBy W (some y)
  lt : y < g
  low : w.heap.size ≤ g
variable {Tb Td : TypeId} {w W W1 : World} {y g : Nat} {cy cy1 : List Value} {ca : Array Value}
theorem DoW.setY (h : DoW Tb Td w W y g cy ca) (i : Nat) (v : Value) : DoW Tb Td w (W.setCell ⟨y, i, none⟩ v) y g (cy.set i v) ca :=
  ⟨by have := heap_setCell_same W y i _ _ v h.hy; rw [List.setIfInBounds_toArray] at this; exact this, (heap_setCell_other W _ _ _ (by have := h.lt; simp; omega)).trans h.ha, (heap_setCell_other W _ _ _ (by have := h.lt; simp; omega)).trans h.hr, grown_trans h.gr (grown_set _ _ _ _), h.lt, h.low⟩
theorem DoW.setA (h : DoW Tb Td w W y g cy ca) (i : Nat) (v : Value) : DoW Tb Td w (W.setCell ⟨g, i, none⟩ v) y g cy (ca.setIfInBounds i v) :=
  ⟨(heap_setCell_other W _ _ _ (by have := h.lt; simp; omega)).trans h.hy, heap_setCell_same W g i _ _ _ h.ha, (heap_setCell_other W _ _ _ (by simp)).trans h.hr,
    ⟨h.gr.os, h.gr.tape, h.gr.output, by simpa using h.gr.size, fun k hk hn => (heap_setCell_other W _ _ _ (by have := h.low; simp; omega)).trans (h.gr.block k hk hn)⟩, h.lt, h.low⟩
theorem DoW.drew (h : DoW Tb Td w W y g cy ca) : DoW Tb Td w W.drew y g cy ca := ⟨h.hy, h.ha, h.hr, grown_trans h.gr (grown_drewN W 1 _), h.lt, h.low⟩
theorem DoW.drewN (h : DoW Tb Td w W y g cy ca) (n : Nat) : DoW Tb Td w (W.drewN n) y g cy ca := ⟨h.hy, h.ha, h.hr, grown_trans h.gr (grown_drewN W n _), h.lt, h.low⟩
theorem DoW.start (hy : w.heap[y]? = some (.cells cy.toArray Tb (0, 0))) : DoW Tb Td w ((w.alloc (.cells ca Td)).alloc (.cells #[.int .i64 0, .int .i64 0, .int .i64 0, .int .i64 0] 41)) y w.heap.size cy ca := by
  have hlt : y < w.heap.size := (Array.getElem?_eq_some_iff.mp hy).1
  refine ⟨?_, ?_, ?_, ?_, hlt, Nat.le_refl _⟩
  · rw [heap_alloc_old _ _ (by simp; omega), heap_alloc_old _ _ hlt]; exact hy
  · rw [heap_alloc_old _ _ (by simp)]; exact heap_alloc_new w _
  · simpa using heap_alloc_new (w.alloc (.cells ca Td)) (.cells #[.int .i64 0, .int .i64 0, .int .i64 0, .int .i64 0] 41)
  · exact grown_trans (grown_alloc' _ _ _) (grown_alloc' _ _ _)
/-- What a deed returns that changes the engine behind a pointer. -/
def DoO (Tb : TypeId) (y : Nat) (cy : List Value) (a : Ac) (w : World) (r : Ending) (w' : World) : Prop := r = .returned (acv a.k a.c a.m a.n) ∧ w'.heap[y]? = some (.cells cy.toArray Tb (0, 0)) ∧ w.grownBy w' (some y)
theorem DoW.ret (h : DoW Tb Td w W y g cy ca) (a b c d : Value) :
    (putW W (g + 1) 0 [a, b, c, d]).heap[y]? = some (.cells cy.toArray Tb (0, 0)) ∧ w.grownBy (putW W (g + 1) 0 [a, b, c, d]) (some y) :=
  ⟨(putW_other (by have := h.lt; omega) _ _ _).trans h.hy, h.gr.os.trans rfl |> fun e => ⟨(putW_grown [a, b, c, d] 0 W).os.trans h.gr.os, (putW_grown [a, b, c, d] 0 W).tape.trans h.gr.tape, (putW_grown [a, b, c, d] 0 W).output.trans h.gr.output, by rw [putW_size]; exact h.gr.size, fun k hk hn => (putW_other (by have := h.low; omega) _ _ _).trans (h.gr.block k hk hn)⟩⟩
set_option maxRecDepth 100000 in
set_option maxHeartbeats 16000000 in
theorem do_macro_any (rest : List Value) (ek ex eo : Int) (ep : Bool) (u1 u2 u3 : Value) (k c m n : Int) (hy : w.heap[y]? = some (.cells (.int .i64 ek :: u1 :: u2 :: .int .i64 ex :: u3 :: .int .i64 eo :: .bool ep :: rest).toArray Tb (0, 0))) :
    Calls Tryz.prog 258 #[acv k c m n, .pointer (some ⟨y, 0, none⟩)] w (DoO Tb y (.int .i64 ek :: u1 :: u2 :: .int .i64 ex :: u3 :: .int .i64 eo :: .bool ep :: rest) ⟨k, c, m, n⟩ w) := by
  obtain ⟨V, hV⟩ : ∃ V, V = (w.alloc (.cells #[.int .i64 k, .int .i64 c, .int .i64 m, .int .i64 n] 235)).alloc (.cells #[.int .i64 0, .int .i64 0, .int .i64 0, .int .i64 0] 41) := ⟨_, rfl⟩
  have k0 := DoW.start (Td := 235) (ca := #[.int .i64 k, .int .i64 c, .int .i64 m, .int .i64 n]) hy
  rw [← hV] at k0
  obtain ⟨g, hg⟩ : ∃ g, g = w.heap.size := ⟨_, rfl⟩
  rw [← hg] at k0
  have K0 := Lib.hid k0
  have hne : ¬ y = g := by have := k0.lt; omega
  have hne' : ¬ g = y := fun e => hne e.symm
  have HV := Lib.hid hV
  have HG := Lib.hid hg
  clear hV k0 hg hy
  go_enter Tryz.func258, Tryz.ntmps258
  go_upto_region 1 with (fail)
  rw [← HV.out, ← HG.out]
  clear HV HG
  obtain ⟨d0, d0'⟩ := cells_of_heap K0.out.ha 0 (by simp <;> omega)
  obtain ⟨d1, d1'⟩ := cells_of_heap K0.out.ha 1 (by simp <;> omega)
  obtain ⟨d2, d2'⟩ := cells_of_heap K0.out.ha 2 (by simp <;> omega)
  obtain ⟨d3, d3'⟩ := cells_of_heap K0.out.ha 3 (by simp <;> omega)
  obtain ⟨x0, x0'⟩ := cells_of_heap K0.out.hr 0 (by simp <;> omega)
  obtain ⟨x1, x1'⟩ := cells_of_heap K0.out.hr 1 (by simp <;> omega)
  obtain ⟨x2, x2'⟩ := cells_of_heap K0.out.hr 2 (by simp <;> omega)
  obtain ⟨x3, x3'⟩ := cells_of_heap K0.out.hr 3 (by simp <;> omega)
  simp only [List.getElem_toArray, List.getElem_cons_zero, List.getElem_cons_succ] at d0 d1 d2 d3 x0 x1 x2 x3
  go_wp2
  clear d0 d0' d1 d1' d2 d2' d3 d3' x0 x0' x1 x1' x2 x2' x3 x3'
  obtain ⟨wf, hwf⟩ : ∃ x, x = putW V (g + 1) 0 [.int .i64 k, .int .i64 c, .int .i64 m, .int .i64 n] := ⟨_, rfl⟩
  have kf := putW_all [.int .i64 k, .int .i64 c, .int .i64 m, .int .i64 n] K0.out.hr rfl
  have rf := K0.out.ret (.int .i64 k) (.int .i64 c) (.int .i64 m) (.int .i64 n)
  rw [← hwf] at kf rf
  have cf := hwf.symm
  simp only [putW, Nat.reduceAdd] at cf
  rw [cf]
  clear cf hwf
  have f0 := (cells_of_heap kf 0 (by simp)).1
  have f1 := (cells_of_heap kf 1 (by simp)).1
  have f2 := (cells_of_heap kf 2 (by simp)).1
  have f3 := (cells_of_heap kf 3 (by simp)).1
  simp only [List.getElem_toArray, List.getElem_cons_zero, List.getElem_cons_succ] at f0 f1 f2 f3
  refine bodyPost_ret (v := acv k c m n) (by simp [results, Tryz.results258, go_sem, f0, f1, f2, f3, acv]) rfl ⟨by rfl, rf⟩
set_option maxRecDepth 100000 in
set_option maxHeartbeats 16000000 in
theorem do_plain_any (rest : List Value) (ek ex eo : Int) (ep : Bool) (u1 u2 u3 : Value) (k c m n : Int) (hy : w.heap[y]? = some (.cells (.int .i64 ek :: u1 :: u2 :: .int .i64 ex :: u3 :: .int .i64 eo :: .bool ep :: rest).toArray Tb (0, 0))) :
    Calls Tryz.prog 260 #[acv k c m n, .pointer (some ⟨y, 0, none⟩)] w (DoO Tb y (.int .i64 ek :: u1 :: u2 :: .int .i64 ex :: u3 :: .int .i64 eo :: .bool ep :: rest) ⟨k, c, m, n⟩ w) := by
  obtain ⟨V, hV⟩ : ∃ V, V = (w.alloc (.cells #[.int .i64 k, .int .i64 c, .int .i64 m, .int .i64 n] 237)).alloc (.cells #[.int .i64 0, .int .i64 0, .int .i64 0, .int .i64 0] 41) := ⟨_, rfl⟩
  have k0 := DoW.start (Td := 237) (ca := #[.int .i64 k, .int .i64 c, .int .i64 m, .int .i64 n]) hy
  rw [← hV] at k0
  obtain ⟨g, hg⟩ : ∃ g, g = w.heap.size := ⟨_, rfl⟩
  rw [← hg] at k0
  have K0 := Lib.hid k0
  have hne : ¬ y = g := by have := k0.lt; omega
  have hne' : ¬ g = y := fun e => hne e.symm
  have HV := Lib.hid hV
  have HG := Lib.hid hg
  clear hV k0 hg hy
  go_enter Tryz.func260, Tryz.ntmps260
  go_upto_region 1 with (fail)
  rw [← HV.out, ← HG.out]
  clear HV HG
  obtain ⟨d0, d0'⟩ := cells_of_heap K0.out.ha 0 (by simp <;> omega)
  obtain ⟨d1, d1'⟩ := cells_of_heap K0.out.ha 1 (by simp <;> omega)
  obtain ⟨d2, d2'⟩ := cells_of_heap K0.out.ha 2 (by simp <;> omega)
  obtain ⟨d3, d3'⟩ := cells_of_heap K0.out.ha 3 (by simp <;> omega)
  obtain ⟨x0, x0'⟩ := cells_of_heap K0.out.hr 0 (by simp <;> omega)
  obtain ⟨x1, x1'⟩ := cells_of_heap K0.out.hr 1 (by simp <;> omega)
  obtain ⟨x2, x2'⟩ := cells_of_heap K0.out.hr 2 (by simp <;> omega)
  obtain ⟨x3, x3'⟩ := cells_of_heap K0.out.hr 3 (by simp <;> omega)
  simp only [List.getElem_toArray, List.getElem_cons_zero, List.getElem_cons_succ] at d0 d1 d2 d3 x0 x1 x2 x3
  go_wp2
  clear d0 d0' d1 d1' d2 d2' d3 d3' x0 x0' x1 x1' x2 x2' x3 x3'
  obtain ⟨wf, hwf⟩ : ∃ x, x = putW V (g + 1) 0 [.int .i64 k, .int .i64 c, .int .i64 m, .int .i64 n] := ⟨_, rfl⟩
  have kf := putW_all [.int .i64 k, .int .i64 c, .int .i64 m, .int .i64 n] K0.out.hr rfl
  have rf := K0.out.ret (.int .i64 k) (.int .i64 c) (.int .i64 m) (.int .i64 n)
  rw [← hwf] at kf rf
  have cf := hwf.symm
  simp only [putW, Nat.reduceAdd] at cf
  rw [cf]
  clear cf hwf
  have f0 := (cells_of_heap kf 0 (by simp)).1
  have f1 := (cells_of_heap kf 1 (by simp)).1
  have f2 := (cells_of_heap kf 2 (by simp)).1
  have f3 := (cells_of_heap kf 3 (by simp)).1
  simp only [List.getElem_toArray, List.getElem_cons_zero, List.getElem_cons_succ] at f0 f1 f2 f3
  refine bodyPost_ret (v := acv k c m n) (by simp [results, Tryz.results260, go_sem, f0, f1, f2, f3, acv]) rfl ⟨by rfl, rf⟩
set_option maxRecDepth 100000 in
set_option maxHeartbeats 16000000 in
theorem do_caps_any (rest : List Value) (ek ex eo : Int) (ep : Bool) (u1 u2 u3 : Value) (k c m n : Int) (hy : w.heap[y]? = some (.cells (.int .i64 ek :: u1 :: u2 :: .int .i64 ex :: u3 :: .int .i64 eo :: .bool ep :: rest).toArray Tb (0, 0))) :
    Calls Tryz.prog 259 #[acv k c m n, .pointer (some ⟨y, 0, none⟩)] w (DoO Tb y (.int .i64 ek :: u1 :: u2 :: .int .i64 ex :: u3 :: .int .i64 eo :: .bool (!ep) :: rest) ⟨k, c, m, n⟩ w) := by
  obtain ⟨V, hV⟩ : ∃ V, V = (w.alloc (.cells #[.int .i64 k, .int .i64 c, .int .i64 m, .int .i64 n] 236)).alloc (.cells #[.int .i64 0, .int .i64 0, .int .i64 0, .int .i64 0] 41) := ⟨_, rfl⟩
  have k0 := DoW.start (Td := 236) (ca := #[.int .i64 k, .int .i64 c, .int .i64 m, .int .i64 n]) hy
  rw [← hV] at k0
  obtain ⟨g, hg⟩ : ∃ g, g = w.heap.size := ⟨_, rfl⟩
  rw [← hg] at k0
  have K0 := Lib.hid k0
  have hne : ¬ y = g := by have := k0.lt; omega
  have hne' : ¬ g = y := fun e => hne e.symm
  have HV := Lib.hid hV
  have HG := Lib.hid hg
  clear hV k0 hg hy
  go_enter Tryz.func259, Tryz.ntmps259
  go_upto_region 1 with (fail)
  rw [← HV.out, ← HG.out]
  clear HV HG
  obtain ⟨y6, y6'⟩ := cells_of_heap K0.out.hy 6 (by simp <;> omega)
  simp only [List.getElem_toArray, List.getElem_cons_zero, List.getElem_cons_succ] at y6
  go_upto_region 2 with (fail)
  clear y6 y6'
  obtain ⟨W9, hW9⟩ : ∃ W, W = (V.setCell ⟨y, 6, none⟩ (.bool (!ep))) := ⟨_, rfl⟩
  have k9 : DoW Tb 236 w W9 y g (.int .i64 ek :: u1 :: u2 :: .int .i64 ex :: u3 :: .int .i64 eo :: .bool (!ep) :: rest) #[.int .i64 k, .int .i64 c, .int .i64 m, .int .i64 n] := by rw [hW9]; exact (K0.out.setY 6 (.bool (!ep)))
  rw [← hW9]
  have K9 := Lib.hid k9
  clear hW9 k9 K0
  obtain ⟨d0, d0'⟩ := cells_of_heap K9.out.ha 0 (by simp <;> omega)
  obtain ⟨d1, d1'⟩ := cells_of_heap K9.out.ha 1 (by simp <;> omega)
  obtain ⟨d2, d2'⟩ := cells_of_heap K9.out.ha 2 (by simp <;> omega)
  obtain ⟨d3, d3'⟩ := cells_of_heap K9.out.ha 3 (by simp <;> omega)
  obtain ⟨x0, x0'⟩ := cells_of_heap K9.out.hr 0 (by simp <;> omega)
  obtain ⟨x1, x1'⟩ := cells_of_heap K9.out.hr 1 (by simp <;> omega)
  obtain ⟨x2, x2'⟩ := cells_of_heap K9.out.hr 2 (by simp <;> omega)
  obtain ⟨x3, x3'⟩ := cells_of_heap K9.out.hr 3 (by simp <;> omega)
  simp only [List.getElem_toArray, List.getElem_cons_zero, List.getElem_cons_succ] at d0 d1 d2 d3 x0 x1 x2 x3
  go_wp2
  clear d0 d0' d1 d1' d2 d2' d3 d3' x0 x0' x1 x1' x2 x2' x3 x3'
  obtain ⟨wf, hwf⟩ : ∃ x, x = putW W9 (g + 1) 0 [.int .i64 k, .int .i64 c, .int .i64 m, .int .i64 n] := ⟨_, rfl⟩
  have kf := putW_all [.int .i64 k, .int .i64 c, .int .i64 m, .int .i64 n] K9.out.hr rfl
  have rf := K9.out.ret (.int .i64 k) (.int .i64 c) (.int .i64 m) (.int .i64 n)
  rw [← hwf] at kf rf
  have cf := hwf.symm
  simp only [putW, Nat.reduceAdd] at cf
  rw [cf]
  clear cf hwf
  have f0 := (cells_of_heap kf 0 (by simp)).1
  have f1 := (cells_of_heap kf 1 (by simp)).1
  have f2 := (cells_of_heap kf 2 (by simp)).1
  have f3 := (cells_of_heap kf 3 (by simp)).1
  simp only [List.getElem_toArray, List.getElem_cons_zero, List.getElem_cons_succ] at f0 f1 f2 f3
  refine bodyPost_ret (v := acv k c m n) (by simp [results, Tryz.results259, go_sem, f0, f1, f2, f3, acv]) rfl ⟨by rfl, rf⟩
set_option maxRecDepth 100000 in
set_option maxHeartbeats 16000000 in
theorem do_toggle_0 (rest : List Value) (ek ex eo : Int) (ep : Bool) (u1 u2 u3 : Value) (k c m : Int) (z : Int) (hz' : bits .xor .i64 ex 1 = z) (hy : w.heap[y]? = some (.cells (.int .i64 ek :: u1 :: u2 :: .int .i64 ex :: u3 :: .int .i64 eo :: .bool ep :: rest).toArray Tb (0, 0))) :
    Calls Tryz.prog 255 #[acv k c m 0, .pointer (some ⟨y, 0, none⟩)] w (DoO Tb y (.int .i64 ek :: u1 :: u2 :: .int .i64 z :: u3 :: .int .i64 eo :: .bool ep :: rest) ⟨k, c, m, 0⟩ w) := by
  obtain ⟨V, hV⟩ : ∃ V, V = (w.alloc (.cells #[.int .i64 k, .int .i64 c, .int .i64 m, .int .i64 0] 232)).alloc (.cells #[.int .i64 0, .int .i64 0, .int .i64 0, .int .i64 0] 41) := ⟨_, rfl⟩
  have k0 := DoW.start (Td := 232) (ca := #[.int .i64 k, .int .i64 c, .int .i64 m, .int .i64 0]) hy
  rw [← hV] at k0
  obtain ⟨g, hg⟩ : ∃ g, g = w.heap.size := ⟨_, rfl⟩
  rw [← hg] at k0
  have K0 := Lib.hid k0
  have hne : ¬ y = g := by have := k0.lt; omega
  have hne' : ¬ g = y := fun e => hne e.symm
  have HV := Lib.hid hV
  have HG := Lib.hid hg
  clear hV k0 hg hy
  go_enter Tryz.func255, Tryz.ntmps255
  go_upto_region 1 with (fail)
  rw [← HV.out, ← HG.out]
  clear HV HG
  obtain ⟨y3, y3'⟩ := cells_of_heap K0.out.hy 3 (by simp <;> omega)
  obtain ⟨a3, a3'⟩ := cells_of_heap K0.out.ha 3 (by simp <;> omega)
  simp only [List.getElem_toArray, List.getElem_cons_zero, List.getElem_cons_succ] at y3 a3
  go_still_tail 10, (by kernel_rfl)
  go_upto_region 2 with (fail)
  first | rw [hz'] | rw [hv'] | skip
  clear y3 y3' a3 a3'
  obtain ⟨W9, hW9⟩ : ∃ W, W = (V.setCell ⟨y, 3, none⟩ (.int .i64 z)).drew := ⟨_, rfl⟩
  have k9 : DoW Tb 232 w W9 y g (.int .i64 ek :: u1 :: u2 :: .int .i64 z :: u3 :: .int .i64 eo :: .bool ep :: rest) #[.int .i64 k, .int .i64 c, .int .i64 m, .int .i64 0] := by rw [hW9]; exact (K0.out.setY 3 (.int .i64 z)).drew
  rw [← hW9]
  have K9 := Lib.hid k9
  clear hW9 k9 K0
  obtain ⟨d0, d0'⟩ := cells_of_heap K9.out.ha 0 (by simp <;> omega)
  obtain ⟨d1, d1'⟩ := cells_of_heap K9.out.ha 1 (by simp <;> omega)
  obtain ⟨d2, d2'⟩ := cells_of_heap K9.out.ha 2 (by simp <;> omega)
  obtain ⟨d3, d3'⟩ := cells_of_heap K9.out.ha 3 (by simp <;> omega)
  obtain ⟨x0, x0'⟩ := cells_of_heap K9.out.hr 0 (by simp <;> omega)
  obtain ⟨x1, x1'⟩ := cells_of_heap K9.out.hr 1 (by simp <;> omega)
  obtain ⟨x2, x2'⟩ := cells_of_heap K9.out.hr 2 (by simp <;> omega)
  obtain ⟨x3, x3'⟩ := cells_of_heap K9.out.hr 3 (by simp <;> omega)
  simp only [List.getElem_toArray, List.getElem_cons_zero, List.getElem_cons_succ] at d0 d1 d2 d3 x0 x1 x2 x3
  go_wp2
  clear d0 d0' d1 d1' d2 d2' d3 d3' x0 x0' x1 x1' x2 x2' x3 x3'
  obtain ⟨wf, hwf⟩ : ∃ x, x = putW W9 (g + 1) 0 [.int .i64 k, .int .i64 c, .int .i64 m, .int .i64 0] := ⟨_, rfl⟩
  have kf := putW_all [.int .i64 k, .int .i64 c, .int .i64 m, .int .i64 0] K9.out.hr rfl
  have rf := K9.out.ret (.int .i64 k) (.int .i64 c) (.int .i64 m) (.int .i64 0)
  rw [← hwf] at kf rf
  have cf := hwf.symm
  simp only [putW, Nat.reduceAdd] at cf
  rw [cf]
  clear cf hwf
  have f0 := (cells_of_heap kf 0 (by simp)).1
  have f1 := (cells_of_heap kf 1 (by simp)).1
  have f2 := (cells_of_heap kf 2 (by simp)).1
  have f3 := (cells_of_heap kf 3 (by simp)).1
  simp only [List.getElem_toArray, List.getElem_cons_zero, List.getElem_cons_succ] at f0 f1 f2 f3
  refine bodyPost_ret (v := acv k c m 0) (by simp [results, Tryz.results255, go_sem, f0, f1, f2, f3, acv]) rfl ⟨by rfl, rf⟩
set_option maxRecDepth 100000 in
set_option maxHeartbeats 16000000 in
theorem do_toggle_1 (rest : List Value) (ek ex eo : Int) (ep : Bool) (u1 u2 u3 : Value) (k c m : Int) (z : Int) (hz' : bits .xor .i64 ex 2 = z) (hy : w.heap[y]? = some (.cells (.int .i64 ek :: u1 :: u2 :: .int .i64 ex :: u3 :: .int .i64 eo :: .bool ep :: rest).toArray Tb (0, 0))) :
    Calls Tryz.prog 255 #[acv k c m 1, .pointer (some ⟨y, 0, none⟩)] w (DoO Tb y (.int .i64 ek :: u1 :: u2 :: .int .i64 z :: u3 :: .int .i64 eo :: .bool ep :: rest) ⟨k, c, m, 1⟩ w) := by
  obtain ⟨V, hV⟩ : ∃ V, V = (w.alloc (.cells #[.int .i64 k, .int .i64 c, .int .i64 m, .int .i64 1] 232)).alloc (.cells #[.int .i64 0, .int .i64 0, .int .i64 0, .int .i64 0] 41) := ⟨_, rfl⟩
  have k0 := DoW.start (Td := 232) (ca := #[.int .i64 k, .int .i64 c, .int .i64 m, .int .i64 1]) hy
  rw [← hV] at k0
  obtain ⟨g, hg⟩ : ∃ g, g = w.heap.size := ⟨_, rfl⟩
  rw [← hg] at k0
  have K0 := Lib.hid k0
  have hne : ¬ y = g := by have := k0.lt; omega
  have hne' : ¬ g = y := fun e => hne e.symm
  have HV := Lib.hid hV
  have HG := Lib.hid hg
  clear hV k0 hg hy
  go_enter Tryz.func255, Tryz.ntmps255
  go_upto_region 1 with (fail)
  rw [← HV.out, ← HG.out]
  clear HV HG
  obtain ⟨y3, y3'⟩ := cells_of_heap K0.out.hy 3 (by simp <;> omega)
  obtain ⟨a3, a3'⟩ := cells_of_heap K0.out.ha 3 (by simp <;> omega)
  simp only [List.getElem_toArray, List.getElem_cons_zero, List.getElem_cons_succ] at y3 a3
  go_still_tail 10, (by kernel_rfl)
  go_upto_region 2 with (fail)
  first | rw [hz'] | rw [hv'] | skip
  clear y3 y3' a3 a3'
  obtain ⟨W9, hW9⟩ : ∃ W, W = (V.setCell ⟨y, 3, none⟩ (.int .i64 z)).drew := ⟨_, rfl⟩
  have k9 : DoW Tb 232 w W9 y g (.int .i64 ek :: u1 :: u2 :: .int .i64 z :: u3 :: .int .i64 eo :: .bool ep :: rest) #[.int .i64 k, .int .i64 c, .int .i64 m, .int .i64 1] := by rw [hW9]; exact (K0.out.setY 3 (.int .i64 z)).drew
  rw [← hW9]
  have K9 := Lib.hid k9
  clear hW9 k9 K0
  obtain ⟨d0, d0'⟩ := cells_of_heap K9.out.ha 0 (by simp <;> omega)
  obtain ⟨d1, d1'⟩ := cells_of_heap K9.out.ha 1 (by simp <;> omega)
  obtain ⟨d2, d2'⟩ := cells_of_heap K9.out.ha 2 (by simp <;> omega)
  obtain ⟨d3, d3'⟩ := cells_of_heap K9.out.ha 3 (by simp <;> omega)
  obtain ⟨x0, x0'⟩ := cells_of_heap K9.out.hr 0 (by simp <;> omega)
  obtain ⟨x1, x1'⟩ := cells_of_heap K9.out.hr 1 (by simp <;> omega)
  obtain ⟨x2, x2'⟩ := cells_of_heap K9.out.hr 2 (by simp <;> omega)
  obtain ⟨x3, x3'⟩ := cells_of_heap K9.out.hr 3 (by simp <;> omega)
  simp only [List.getElem_toArray, List.getElem_cons_zero, List.getElem_cons_succ] at d0 d1 d2 d3 x0 x1 x2 x3
  go_wp2
  clear d0 d0' d1 d1' d2 d2' d3 d3' x0 x0' x1 x1' x2 x2' x3 x3'
  obtain ⟨wf, hwf⟩ : ∃ x, x = putW W9 (g + 1) 0 [.int .i64 k, .int .i64 c, .int .i64 m, .int .i64 1] := ⟨_, rfl⟩
  have kf := putW_all [.int .i64 k, .int .i64 c, .int .i64 m, .int .i64 1] K9.out.hr rfl
  have rf := K9.out.ret (.int .i64 k) (.int .i64 c) (.int .i64 m) (.int .i64 1)
  rw [← hwf] at kf rf
  have cf := hwf.symm
  simp only [putW, Nat.reduceAdd] at cf
  rw [cf]
  clear cf hwf
  have f0 := (cells_of_heap kf 0 (by simp)).1
  have f1 := (cells_of_heap kf 1 (by simp)).1
  have f2 := (cells_of_heap kf 2 (by simp)).1
  have f3 := (cells_of_heap kf 3 (by simp)).1
  simp only [List.getElem_toArray, List.getElem_cons_zero, List.getElem_cons_succ] at f0 f1 f2 f3
  refine bodyPost_ret (v := acv k c m 1) (by simp [results, Tryz.results255, go_sem, f0, f1, f2, f3, acv]) rfl ⟨by rfl, rf⟩
set_option maxRecDepth 100000 in
set_option maxHeartbeats 16000000 in
theorem do_toggle_2 (rest : List Value) (ek ex eo : Int) (ep : Bool) (u1 u2 u3 : Value) (k c m : Int) (z : Int) (hz' : bits .xor .i64 ex 4 = z) (hy : w.heap[y]? = some (.cells (.int .i64 ek :: u1 :: u2 :: .int .i64 ex :: u3 :: .int .i64 eo :: .bool ep :: rest).toArray Tb (0, 0))) :
    Calls Tryz.prog 255 #[acv k c m 2, .pointer (some ⟨y, 0, none⟩)] w (DoO Tb y (.int .i64 ek :: u1 :: u2 :: .int .i64 z :: u3 :: .int .i64 eo :: .bool ep :: rest) ⟨k, c, m, 2⟩ w) := by
  obtain ⟨V, hV⟩ : ∃ V, V = (w.alloc (.cells #[.int .i64 k, .int .i64 c, .int .i64 m, .int .i64 2] 232)).alloc (.cells #[.int .i64 0, .int .i64 0, .int .i64 0, .int .i64 0] 41) := ⟨_, rfl⟩
  have k0 := DoW.start (Td := 232) (ca := #[.int .i64 k, .int .i64 c, .int .i64 m, .int .i64 2]) hy
  rw [← hV] at k0
  obtain ⟨g, hg⟩ : ∃ g, g = w.heap.size := ⟨_, rfl⟩
  rw [← hg] at k0
  have K0 := Lib.hid k0
  have hne : ¬ y = g := by have := k0.lt; omega
  have hne' : ¬ g = y := fun e => hne e.symm
  have HV := Lib.hid hV
  have HG := Lib.hid hg
  clear hV k0 hg hy
  go_enter Tryz.func255, Tryz.ntmps255
  go_upto_region 1 with (fail)
  rw [← HV.out, ← HG.out]
  clear HV HG
  obtain ⟨y3, y3'⟩ := cells_of_heap K0.out.hy 3 (by simp <;> omega)
  obtain ⟨a3, a3'⟩ := cells_of_heap K0.out.ha 3 (by simp <;> omega)
  simp only [List.getElem_toArray, List.getElem_cons_zero, List.getElem_cons_succ] at y3 a3
  go_still_tail 10, (by kernel_rfl)
  go_upto_region 2 with (fail)
  first | rw [hz'] | rw [hv'] | skip
  clear y3 y3' a3 a3'
  obtain ⟨W9, hW9⟩ : ∃ W, W = (V.setCell ⟨y, 3, none⟩ (.int .i64 z)).drew := ⟨_, rfl⟩
  have k9 : DoW Tb 232 w W9 y g (.int .i64 ek :: u1 :: u2 :: .int .i64 z :: u3 :: .int .i64 eo :: .bool ep :: rest) #[.int .i64 k, .int .i64 c, .int .i64 m, .int .i64 2] := by rw [hW9]; exact (K0.out.setY 3 (.int .i64 z)).drew
  rw [← hW9]
  have K9 := Lib.hid k9
  clear hW9 k9 K0
  obtain ⟨d0, d0'⟩ := cells_of_heap K9.out.ha 0 (by simp <;> omega)
  obtain ⟨d1, d1'⟩ := cells_of_heap K9.out.ha 1 (by simp <;> omega)
  obtain ⟨d2, d2'⟩ := cells_of_heap K9.out.ha 2 (by simp <;> omega)
  obtain ⟨d3, d3'⟩ := cells_of_heap K9.out.ha 3 (by simp <;> omega)
  obtain ⟨x0, x0'⟩ := cells_of_heap K9.out.hr 0 (by simp <;> omega)
  obtain ⟨x1, x1'⟩ := cells_of_heap K9.out.hr 1 (by simp <;> omega)
  obtain ⟨x2, x2'⟩ := cells_of_heap K9.out.hr 2 (by simp <;> omega)
  obtain ⟨x3, x3'⟩ := cells_of_heap K9.out.hr 3 (by simp <;> omega)
  simp only [List.getElem_toArray, List.getElem_cons_zero, List.getElem_cons_succ] at d0 d1 d2 d3 x0 x1 x2 x3
  go_wp2
  clear d0 d0' d1 d1' d2 d2' d3 d3' x0 x0' x1 x1' x2 x2' x3 x3'
  obtain ⟨wf, hwf⟩ : ∃ x, x = putW W9 (g + 1) 0 [.int .i64 k, .int .i64 c, .int .i64 m, .int .i64 2] := ⟨_, rfl⟩
  have kf := putW_all [.int .i64 k, .int .i64 c, .int .i64 m, .int .i64 2] K9.out.hr rfl
  have rf := K9.out.ret (.int .i64 k) (.int .i64 c) (.int .i64 m) (.int .i64 2)
  rw [← hwf] at kf rf
  have cf := hwf.symm
  simp only [putW, Nat.reduceAdd] at cf
  rw [cf]
  clear cf hwf
  have f0 := (cells_of_heap kf 0 (by simp)).1
  have f1 := (cells_of_heap kf 1 (by simp)).1
  have f2 := (cells_of_heap kf 2 (by simp)).1
  have f3 := (cells_of_heap kf 3 (by simp)).1
  simp only [List.getElem_toArray, List.getElem_cons_zero, List.getElem_cons_succ] at f0 f1 f2 f3
  refine bodyPost_ret (v := acv k c m 2) (by simp [results, Tryz.results255, go_sem, f0, f1, f2, f3, acv]) rfl ⟨by rfl, rf⟩
set_option maxRecDepth 100000 in
set_option maxHeartbeats 16000000 in
theorem do_toggle_3 (rest : List Value) (ek ex eo : Int) (ep : Bool) (u1 u2 u3 : Value) (k c m : Int) (z : Int) (hz' : bits .xor .i64 ex 8 = z) (hy : w.heap[y]? = some (.cells (.int .i64 ek :: u1 :: u2 :: .int .i64 ex :: u3 :: .int .i64 eo :: .bool ep :: rest).toArray Tb (0, 0))) :
    Calls Tryz.prog 255 #[acv k c m 3, .pointer (some ⟨y, 0, none⟩)] w (DoO Tb y (.int .i64 ek :: u1 :: u2 :: .int .i64 z :: u3 :: .int .i64 eo :: .bool ep :: rest) ⟨k, c, m, 3⟩ w) := by
  obtain ⟨V, hV⟩ : ∃ V, V = (w.alloc (.cells #[.int .i64 k, .int .i64 c, .int .i64 m, .int .i64 3] 232)).alloc (.cells #[.int .i64 0, .int .i64 0, .int .i64 0, .int .i64 0] 41) := ⟨_, rfl⟩
  have k0 := DoW.start (Td := 232) (ca := #[.int .i64 k, .int .i64 c, .int .i64 m, .int .i64 3]) hy
  rw [← hV] at k0
  obtain ⟨g, hg⟩ : ∃ g, g = w.heap.size := ⟨_, rfl⟩
  rw [← hg] at k0
  have K0 := Lib.hid k0
  have hne : ¬ y = g := by have := k0.lt; omega
  have hne' : ¬ g = y := fun e => hne e.symm
  have HV := Lib.hid hV
  have HG := Lib.hid hg
  clear hV k0 hg hy
  go_enter Tryz.func255, Tryz.ntmps255
  go_upto_region 1 with (fail)
  rw [← HV.out, ← HG.out]
  clear HV HG
  obtain ⟨y3, y3'⟩ := cells_of_heap K0.out.hy 3 (by simp <;> omega)
  obtain ⟨a3, a3'⟩ := cells_of_heap K0.out.ha 3 (by simp <;> omega)
  simp only [List.getElem_toArray, List.getElem_cons_zero, List.getElem_cons_succ] at y3 a3
  go_still_tail 10, (by kernel_rfl)
  go_upto_region 2 with (fail)
  first | rw [hz'] | rw [hv'] | skip
  clear y3 y3' a3 a3'
  obtain ⟨W9, hW9⟩ : ∃ W, W = (V.setCell ⟨y, 3, none⟩ (.int .i64 z)).drew := ⟨_, rfl⟩
  have k9 : DoW Tb 232 w W9 y g (.int .i64 ek :: u1 :: u2 :: .int .i64 z :: u3 :: .int .i64 eo :: .bool ep :: rest) #[.int .i64 k, .int .i64 c, .int .i64 m, .int .i64 3] := by rw [hW9]; exact (K0.out.setY 3 (.int .i64 z)).drew
  rw [← hW9]
  have K9 := Lib.hid k9
  clear hW9 k9 K0
  obtain ⟨d0, d0'⟩ := cells_of_heap K9.out.ha 0 (by simp <;> omega)
  obtain ⟨d1, d1'⟩ := cells_of_heap K9.out.ha 1 (by simp <;> omega)
  obtain ⟨d2, d2'⟩ := cells_of_heap K9.out.ha 2 (by simp <;> omega)
  obtain ⟨d3, d3'⟩ := cells_of_heap K9.out.ha 3 (by simp <;> omega)
  obtain ⟨x0, x0'⟩ := cells_of_heap K9.out.hr 0 (by simp <;> omega)
  obtain ⟨x1, x1'⟩ := cells_of_heap K9.out.hr 1 (by simp <;> omega)
  obtain ⟨x2, x2'⟩ := cells_of_heap K9.out.hr 2 (by simp <;> omega)
  obtain ⟨x3, x3'⟩ := cells_of_heap K9.out.hr 3 (by simp <;> omega)
  simp only [List.getElem_toArray, List.getElem_cons_zero, List.getElem_cons_succ] at d0 d1 d2 d3 x0 x1 x2 x3
  go_wp2
  clear d0 d0' d1 d1' d2 d2' d3 d3' x0 x0' x1 x1' x2 x2' x3 x3'
  obtain ⟨wf, hwf⟩ : ∃ x, x = putW W9 (g + 1) 0 [.int .i64 k, .int .i64 c, .int .i64 m, .int .i64 3] := ⟨_, rfl⟩
  have kf := putW_all [.int .i64 k, .int .i64 c, .int .i64 m, .int .i64 3] K9.out.hr rfl
  have rf := K9.out.ret (.int .i64 k) (.int .i64 c) (.int .i64 m) (.int .i64 3)
  rw [← hwf] at kf rf
  have cf := hwf.symm
  simp only [putW, Nat.reduceAdd] at cf
  rw [cf]
  clear cf hwf
  have f0 := (cells_of_heap kf 0 (by simp)).1
  have f1 := (cells_of_heap kf 1 (by simp)).1
  have f2 := (cells_of_heap kf 2 (by simp)).1
  have f3 := (cells_of_heap kf 3 (by simp)).1
  simp only [List.getElem_toArray, List.getElem_cons_zero, List.getElem_cons_succ] at f0 f1 f2 f3
  refine bodyPost_ret (v := acv k c m 3) (by simp [results, Tryz.results255, go_sem, f0, f1, f2, f3, acv]) rfl ⟨by rfl, rf⟩
theorem do_toggle_any (rest : List Value) (ek ex eo : Int) (ep : Bool) (u1 u2 u3 : Value) (k c m n : Int) (hn : 0 ≤ n ∧ n ≤ 3) (hy : w.heap[y]? = some (.cells (.int .i64 ek :: u1 :: u2 :: .int .i64 ex :: u3 :: .int .i64 eo :: .bool ep :: rest).toArray Tb (0, 0))) :
    Calls Tryz.prog 255 #[acv k c m n, .pointer (some ⟨y, 0, none⟩)] w (DoO Tb y (.int .i64 ek :: u1 :: u2 :: .int .i64 (bits .xor .i64 ex (2 ^ n.toNat)) :: u3 :: .int .i64 eo :: .bool ep :: rest) ⟨k, c, m, n⟩ w) := by
  rcases (show n = 0 ∨ n = 1 ∨ n = 2 ∨ n = 3 by omega) with rfl | rfl | rfl | rfl
  · exact do_toggle_0 rest ek ex eo ep u1 u2 u3 k c m _ rfl hy
  · exact do_toggle_1 rest ek ex eo ep u1 u2 u3 k c m _ rfl hy
  · exact do_toggle_2 rest ek ex eo ep u1 u2 u3 k c m _ rfl hy
  · exact do_toggle_3 rest ek ex eo ep u1 u2 u3 k c m _ rfl hy
set_option maxRecDepth 100000 in
set_option maxHeartbeats 16000000 in
theorem do_to_0 (rest : List Value) (ek ex eo : Int) (ep : Bool) (u1 u2 u3 : Value) (k c m : Int) (z : Int) (hz' : bits .andNot .i64 1 1 = z) (hy : w.heap[y]? = some (.cells (.int .i64 ek :: u1 :: u2 :: .int .i64 ex :: u3 :: .int .i64 eo :: .bool ep :: rest).toArray Tb (0, 0))) :
    Calls Tryz.prog 256 #[acv k c m 0, .pointer (some ⟨y, 0, none⟩)] w (DoO Tb y (.int .i64 ek :: u1 :: u2 :: .int .i64 z :: u3 :: .int .i64 eo :: .bool ep :: rest) ⟨k, c, m, 0⟩ w) := by
  obtain ⟨V, hV⟩ : ∃ V, V = (w.alloc (.cells #[.int .i64 k, .int .i64 c, .int .i64 m, .int .i64 0] 233)).alloc (.cells #[.int .i64 0, .int .i64 0, .int .i64 0, .int .i64 0] 41) := ⟨_, rfl⟩
  have k0 := DoW.start (Td := 233) (ca := #[.int .i64 k, .int .i64 c, .int .i64 m, .int .i64 0]) hy
  rw [← hV] at k0
  obtain ⟨g, hg⟩ : ∃ g, g = w.heap.size := ⟨_, rfl⟩
  rw [← hg] at k0
  have K0 := Lib.hid k0
  have hne : ¬ y = g := by have := k0.lt; omega
  have hne' : ¬ g = y := fun e => hne e.symm
  have HV := Lib.hid hV
  have HG := Lib.hid hg
  clear hV k0 hg hy
  go_enter Tryz.func256, Tryz.ntmps256
  go_upto_region 1 with (fail)
  rw [← HV.out, ← HG.out]
  clear HV HG
  obtain ⟨y3, y3'⟩ := cells_of_heap K0.out.hy 3 (by simp <;> omega)
  obtain ⟨a3, a3'⟩ := cells_of_heap K0.out.ha 3 (by simp <;> omega)
  simp only [List.getElem_toArray, List.getElem_cons_zero, List.getElem_cons_succ] at y3 a3
  go_upto_region 2 with (fail)
  clear y3 y3' a3 a3'
  first | rw [hz'] | skip
  obtain ⟨W9, hW9⟩ : ∃ W, W = (V.setCell ⟨y, 3, none⟩ (.int .i64 z)) := ⟨_, rfl⟩
  have k9 : DoW Tb 233 w W9 y g (.int .i64 ek :: u1 :: u2 :: .int .i64 z :: u3 :: .int .i64 eo :: .bool ep :: rest) #[.int .i64 k, .int .i64 c, .int .i64 m, .int .i64 0] := by rw [hW9]; exact (K0.out.setY 3 (.int .i64 z))
  rw [← hW9]
  have K9 := Lib.hid k9
  clear hW9 k9 K0
  obtain ⟨d0, d0'⟩ := cells_of_heap K9.out.ha 0 (by simp <;> omega)
  obtain ⟨d1, d1'⟩ := cells_of_heap K9.out.ha 1 (by simp <;> omega)
  obtain ⟨d2, d2'⟩ := cells_of_heap K9.out.ha 2 (by simp <;> omega)
  obtain ⟨d3, d3'⟩ := cells_of_heap K9.out.ha 3 (by simp <;> omega)
  obtain ⟨x0, x0'⟩ := cells_of_heap K9.out.hr 0 (by simp <;> omega)
  obtain ⟨x1, x1'⟩ := cells_of_heap K9.out.hr 1 (by simp <;> omega)
  obtain ⟨x2, x2'⟩ := cells_of_heap K9.out.hr 2 (by simp <;> omega)
  obtain ⟨x3, x3'⟩ := cells_of_heap K9.out.hr 3 (by simp <;> omega)
  simp only [List.getElem_toArray, List.getElem_cons_zero, List.getElem_cons_succ] at d0 d1 d2 d3 x0 x1 x2 x3
  go_wp2
  clear d0 d0' d1 d1' d2 d2' d3 d3' x0 x0' x1 x1' x2 x2' x3 x3'
  obtain ⟨wf, hwf⟩ : ∃ x, x = putW W9 (g + 1) 0 [.int .i64 k, .int .i64 c, .int .i64 m, .int .i64 0] := ⟨_, rfl⟩
  have kf := putW_all [.int .i64 k, .int .i64 c, .int .i64 m, .int .i64 0] K9.out.hr rfl
  have rf := K9.out.ret (.int .i64 k) (.int .i64 c) (.int .i64 m) (.int .i64 0)
  rw [← hwf] at kf rf
  have cf := hwf.symm
  simp only [putW, Nat.reduceAdd] at cf
  rw [cf]
  clear cf hwf
  have f0 := (cells_of_heap kf 0 (by simp)).1
  have f1 := (cells_of_heap kf 1 (by simp)).1
  have f2 := (cells_of_heap kf 2 (by simp)).1
  have f3 := (cells_of_heap kf 3 (by simp)).1
  simp only [List.getElem_toArray, List.getElem_cons_zero, List.getElem_cons_succ] at f0 f1 f2 f3
  refine bodyPost_ret (v := acv k c m 0) (by simp [results, Tryz.results256, go_sem, f0, f1, f2, f3, acv]) rfl ⟨by rfl, rf⟩
set_option maxRecDepth 100000 in
set_option maxHeartbeats 16000000 in
theorem do_to_1 (rest : List Value) (ek ex eo : Int) (ep : Bool) (u1 u2 u3 : Value) (k c m : Int) (z : Int) (hz' : bits .andNot .i64 2 1 = z) (hy : w.heap[y]? = some (.cells (.int .i64 ek :: u1 :: u2 :: .int .i64 ex :: u3 :: .int .i64 eo :: .bool ep :: rest).toArray Tb (0, 0))) :
    Calls Tryz.prog 256 #[acv k c m 1, .pointer (some ⟨y, 0, none⟩)] w (DoO Tb y (.int .i64 ek :: u1 :: u2 :: .int .i64 z :: u3 :: .int .i64 eo :: .bool ep :: rest) ⟨k, c, m, 1⟩ w) := by
  obtain ⟨V, hV⟩ : ∃ V, V = (w.alloc (.cells #[.int .i64 k, .int .i64 c, .int .i64 m, .int .i64 1] 233)).alloc (.cells #[.int .i64 0, .int .i64 0, .int .i64 0, .int .i64 0] 41) := ⟨_, rfl⟩
  have k0 := DoW.start (Td := 233) (ca := #[.int .i64 k, .int .i64 c, .int .i64 m, .int .i64 1]) hy
  rw [← hV] at k0
  obtain ⟨g, hg⟩ : ∃ g, g = w.heap.size := ⟨_, rfl⟩
  rw [← hg] at k0
  have K0 := Lib.hid k0
  have hne : ¬ y = g := by have := k0.lt; omega
  have hne' : ¬ g = y := fun e => hne e.symm
  have HV := Lib.hid hV
  have HG := Lib.hid hg
  clear hV k0 hg hy
  go_enter Tryz.func256, Tryz.ntmps256
  go_upto_region 1 with (fail)
  rw [← HV.out, ← HG.out]
  clear HV HG
  obtain ⟨y3, y3'⟩ := cells_of_heap K0.out.hy 3 (by simp <;> omega)
  obtain ⟨a3, a3'⟩ := cells_of_heap K0.out.ha 3 (by simp <;> omega)
  simp only [List.getElem_toArray, List.getElem_cons_zero, List.getElem_cons_succ] at y3 a3
  go_upto_region 2 with (fail)
  clear y3 y3' a3 a3'
  first | rw [hz'] | skip
  obtain ⟨W9, hW9⟩ : ∃ W, W = (V.setCell ⟨y, 3, none⟩ (.int .i64 z)) := ⟨_, rfl⟩
  have k9 : DoW Tb 233 w W9 y g (.int .i64 ek :: u1 :: u2 :: .int .i64 z :: u3 :: .int .i64 eo :: .bool ep :: rest) #[.int .i64 k, .int .i64 c, .int .i64 m, .int .i64 1] := by rw [hW9]; exact (K0.out.setY 3 (.int .i64 z))
  rw [← hW9]
  have K9 := Lib.hid k9
  clear hW9 k9 K0
  obtain ⟨d0, d0'⟩ := cells_of_heap K9.out.ha 0 (by simp <;> omega)
  obtain ⟨d1, d1'⟩ := cells_of_heap K9.out.ha 1 (by simp <;> omega)
  obtain ⟨d2, d2'⟩ := cells_of_heap K9.out.ha 2 (by simp <;> omega)
  obtain ⟨d3, d3'⟩ := cells_of_heap K9.out.ha 3 (by simp <;> omega)
  obtain ⟨x0, x0'⟩ := cells_of_heap K9.out.hr 0 (by simp <;> omega)
  obtain ⟨x1, x1'⟩ := cells_of_heap K9.out.hr 1 (by simp <;> omega)
  obtain ⟨x2, x2'⟩ := cells_of_heap K9.out.hr 2 (by simp <;> omega)
  obtain ⟨x3, x3'⟩ := cells_of_heap K9.out.hr 3 (by simp <;> omega)
  simp only [List.getElem_toArray, List.getElem_cons_zero, List.getElem_cons_succ] at d0 d1 d2 d3 x0 x1 x2 x3
  go_wp2
  clear d0 d0' d1 d1' d2 d2' d3 d3' x0 x0' x1 x1' x2 x2' x3 x3'
  obtain ⟨wf, hwf⟩ : ∃ x, x = putW W9 (g + 1) 0 [.int .i64 k, .int .i64 c, .int .i64 m, .int .i64 1] := ⟨_, rfl⟩
  have kf := putW_all [.int .i64 k, .int .i64 c, .int .i64 m, .int .i64 1] K9.out.hr rfl
  have rf := K9.out.ret (.int .i64 k) (.int .i64 c) (.int .i64 m) (.int .i64 1)
  rw [← hwf] at kf rf
  have cf := hwf.symm
  simp only [putW, Nat.reduceAdd] at cf
  rw [cf]
  clear cf hwf
  have f0 := (cells_of_heap kf 0 (by simp)).1
  have f1 := (cells_of_heap kf 1 (by simp)).1
  have f2 := (cells_of_heap kf 2 (by simp)).1
  have f3 := (cells_of_heap kf 3 (by simp)).1
  simp only [List.getElem_toArray, List.getElem_cons_zero, List.getElem_cons_succ] at f0 f1 f2 f3
  refine bodyPost_ret (v := acv k c m 1) (by simp [results, Tryz.results256, go_sem, f0, f1, f2, f3, acv]) rfl ⟨by rfl, rf⟩
set_option maxRecDepth 100000 in
set_option maxHeartbeats 16000000 in
theorem do_to_2 (rest : List Value) (ek ex eo : Int) (ep : Bool) (u1 u2 u3 : Value) (k c m : Int) (z : Int) (hz' : bits .andNot .i64 4 1 = z) (hy : w.heap[y]? = some (.cells (.int .i64 ek :: u1 :: u2 :: .int .i64 ex :: u3 :: .int .i64 eo :: .bool ep :: rest).toArray Tb (0, 0))) :
    Calls Tryz.prog 256 #[acv k c m 2, .pointer (some ⟨y, 0, none⟩)] w (DoO Tb y (.int .i64 ek :: u1 :: u2 :: .int .i64 z :: u3 :: .int .i64 eo :: .bool ep :: rest) ⟨k, c, m, 2⟩ w) := by
  obtain ⟨V, hV⟩ : ∃ V, V = (w.alloc (.cells #[.int .i64 k, .int .i64 c, .int .i64 m, .int .i64 2] 233)).alloc (.cells #[.int .i64 0, .int .i64 0, .int .i64 0, .int .i64 0] 41) := ⟨_, rfl⟩
  have k0 := DoW.start (Td := 233) (ca := #[.int .i64 k, .int .i64 c, .int .i64 m, .int .i64 2]) hy
  rw [← hV] at k0
  obtain ⟨g, hg⟩ : ∃ g, g = w.heap.size := ⟨_, rfl⟩
  rw [← hg] at k0
  have K0 := Lib.hid k0
  have hne : ¬ y = g := by have := k0.lt; omega
  have hne' : ¬ g = y := fun e => hne e.symm
  have HV := Lib.hid hV
  have HG := Lib.hid hg
  clear hV k0 hg hy
  go_enter Tryz.func256, Tryz.ntmps256
  go_upto_region 1 with (fail)
  rw [← HV.out, ← HG.out]
  clear HV HG
  obtain ⟨y3, y3'⟩ := cells_of_heap K0.out.hy 3 (by simp <;> omega)
  obtain ⟨a3, a3'⟩ := cells_of_heap K0.out.ha 3 (by simp <;> omega)
  simp only [List.getElem_toArray, List.getElem_cons_zero, List.getElem_cons_succ] at y3 a3
  go_upto_region 2 with (fail)
  clear y3 y3' a3 a3'
  first | rw [hz'] | skip
  obtain ⟨W9, hW9⟩ : ∃ W, W = (V.setCell ⟨y, 3, none⟩ (.int .i64 z)) := ⟨_, rfl⟩
  have k9 : DoW Tb 233 w W9 y g (.int .i64 ek :: u1 :: u2 :: .int .i64 z :: u3 :: .int .i64 eo :: .bool ep :: rest) #[.int .i64 k, .int .i64 c, .int .i64 m, .int .i64 2] := by rw [hW9]; exact (K0.out.setY 3 (.int .i64 z))
  rw [← hW9]
  have K9 := Lib.hid k9
  clear hW9 k9 K0
  obtain ⟨d0, d0'⟩ := cells_of_heap K9.out.ha 0 (by simp <;> omega)
  obtain ⟨d1, d1'⟩ := cells_of_heap K9.out.ha 1 (by simp <;> omega)
  obtain ⟨d2, d2'⟩ := cells_of_heap K9.out.ha 2 (by simp <;> omega)
  obtain ⟨d3, d3'⟩ := cells_of_heap K9.out.ha 3 (by simp <;> omega)
  obtain ⟨x0, x0'⟩ := cells_of_heap K9.out.hr 0 (by simp <;> omega)
  obtain ⟨x1, x1'⟩ := cells_of_heap K9.out.hr 1 (by simp <;> omega)
  obtain ⟨x2, x2'⟩ := cells_of_heap K9.out.hr 2 (by simp <;> omega)
  obtain ⟨x3, x3'⟩ := cells_of_heap K9.out.hr 3 (by simp <;> omega)
  simp only [List.getElem_toArray, List.getElem_cons_zero, List.getElem_cons_succ] at d0 d1 d2 d3 x0 x1 x2 x3
  go_wp2
  clear d0 d0' d1 d1' d2 d2' d3 d3' x0 x0' x1 x1' x2 x2' x3 x3'
  obtain ⟨wf, hwf⟩ : ∃ x, x = putW W9 (g + 1) 0 [.int .i64 k, .int .i64 c, .int .i64 m, .int .i64 2] := ⟨_, rfl⟩
  have kf := putW_all [.int .i64 k, .int .i64 c, .int .i64 m, .int .i64 2] K9.out.hr rfl
  have rf := K9.out.ret (.int .i64 k) (.int .i64 c) (.int .i64 m) (.int .i64 2)
  rw [← hwf] at kf rf
  have cf := hwf.symm
  simp only [putW, Nat.reduceAdd] at cf
  rw [cf]
  clear cf hwf
  have f0 := (cells_of_heap kf 0 (by simp)).1
  have f1 := (cells_of_heap kf 1 (by simp)).1
  have f2 := (cells_of_heap kf 2 (by simp)).1
  have f3 := (cells_of_heap kf 3 (by simp)).1
  simp only [List.getElem_toArray, List.getElem_cons_zero, List.getElem_cons_succ] at f0 f1 f2 f3
  refine bodyPost_ret (v := acv k c m 2) (by simp [results, Tryz.results256, go_sem, f0, f1, f2, f3, acv]) rfl ⟨by rfl, rf⟩
set_option maxRecDepth 100000 in
set_option maxHeartbeats 16000000 in
theorem do_to_3 (rest : List Value) (ek ex eo : Int) (ep : Bool) (u1 u2 u3 : Value) (k c m : Int) (z : Int) (hz' : bits .andNot .i64 8 1 = z) (hy : w.heap[y]? = some (.cells (.int .i64 ek :: u1 :: u2 :: .int .i64 ex :: u3 :: .int .i64 eo :: .bool ep :: rest).toArray Tb (0, 0))) :
    Calls Tryz.prog 256 #[acv k c m 3, .pointer (some ⟨y, 0, none⟩)] w (DoO Tb y (.int .i64 ek :: u1 :: u2 :: .int .i64 z :: u3 :: .int .i64 eo :: .bool ep :: rest) ⟨k, c, m, 3⟩ w) := by
  obtain ⟨V, hV⟩ : ∃ V, V = (w.alloc (.cells #[.int .i64 k, .int .i64 c, .int .i64 m, .int .i64 3] 233)).alloc (.cells #[.int .i64 0, .int .i64 0, .int .i64 0, .int .i64 0] 41) := ⟨_, rfl⟩
  have k0 := DoW.start (Td := 233) (ca := #[.int .i64 k, .int .i64 c, .int .i64 m, .int .i64 3]) hy
  rw [← hV] at k0
  obtain ⟨g, hg⟩ : ∃ g, g = w.heap.size := ⟨_, rfl⟩
  rw [← hg] at k0
  have K0 := Lib.hid k0
  have hne : ¬ y = g := by have := k0.lt; omega
  have hne' : ¬ g = y := fun e => hne e.symm
  have HV := Lib.hid hV
  have HG := Lib.hid hg
  clear hV k0 hg hy
  go_enter Tryz.func256, Tryz.ntmps256
  go_upto_region 1 with (fail)
  rw [← HV.out, ← HG.out]
  clear HV HG
  obtain ⟨y3, y3'⟩ := cells_of_heap K0.out.hy 3 (by simp <;> omega)
  obtain ⟨a3, a3'⟩ := cells_of_heap K0.out.ha 3 (by simp <;> omega)
  simp only [List.getElem_toArray, List.getElem_cons_zero, List.getElem_cons_succ] at y3 a3
  go_upto_region 2 with (fail)
  clear y3 y3' a3 a3'
  first | rw [hz'] | skip
  obtain ⟨W9, hW9⟩ : ∃ W, W = (V.setCell ⟨y, 3, none⟩ (.int .i64 z)) := ⟨_, rfl⟩
  have k9 : DoW Tb 233 w W9 y g (.int .i64 ek :: u1 :: u2 :: .int .i64 z :: u3 :: .int .i64 eo :: .bool ep :: rest) #[.int .i64 k, .int .i64 c, .int .i64 m, .int .i64 3] := by rw [hW9]; exact (K0.out.setY 3 (.int .i64 z))
  rw [← hW9]
  have K9 := Lib.hid k9
  clear hW9 k9 K0
  obtain ⟨d0, d0'⟩ := cells_of_heap K9.out.ha 0 (by simp <;> omega)
  obtain ⟨d1, d1'⟩ := cells_of_heap K9.out.ha 1 (by simp <;> omega)
  obtain ⟨d2, d2'⟩ := cells_of_heap K9.out.ha 2 (by simp <;> omega)
  obtain ⟨d3, d3'⟩ := cells_of_heap K9.out.ha 3 (by simp <;> omega)
  obtain ⟨x0, x0'⟩ := cells_of_heap K9.out.hr 0 (by simp <;> omega)
  obtain ⟨x1, x1'⟩ := cells_of_heap K9.out.hr 1 (by simp <;> omega)
  obtain ⟨x2, x2'⟩ := cells_of_heap K9.out.hr 2 (by simp <;> omega)
  obtain ⟨x3, x3'⟩ := cells_of_heap K9.out.hr 3 (by simp <;> omega)
  simp only [List.getElem_toArray, List.getElem_cons_zero, List.getElem_cons_succ] at d0 d1 d2 d3 x0 x1 x2 x3
  go_wp2
  clear d0 d0' d1 d1' d2 d2' d3 d3' x0 x0' x1 x1' x2 x2' x3 x3'
  obtain ⟨wf, hwf⟩ : ∃ x, x = putW W9 (g + 1) 0 [.int .i64 k, .int .i64 c, .int .i64 m, .int .i64 3] := ⟨_, rfl⟩
  have kf := putW_all [.int .i64 k, .int .i64 c, .int .i64 m, .int .i64 3] K9.out.hr rfl
  have rf := K9.out.ret (.int .i64 k) (.int .i64 c) (.int .i64 m) (.int .i64 3)
  rw [← hwf] at kf rf
  have cf := hwf.symm
  simp only [putW, Nat.reduceAdd] at cf
  rw [cf]
  clear cf hwf
  have f0 := (cells_of_heap kf 0 (by simp)).1
  have f1 := (cells_of_heap kf 1 (by simp)).1
  have f2 := (cells_of_heap kf 2 (by simp)).1
  have f3 := (cells_of_heap kf 3 (by simp)).1
  simp only [List.getElem_toArray, List.getElem_cons_zero, List.getElem_cons_succ] at f0 f1 f2 f3
  refine bodyPost_ret (v := acv k c m 3) (by simp [results, Tryz.results256, go_sem, f0, f1, f2, f3, acv]) rfl ⟨by rfl, rf⟩
theorem do_to_any (rest : List Value) (ek ex eo : Int) (ep : Bool) (u1 u2 u3 : Value) (k c m n : Int) (hn : 0 ≤ n ∧ n ≤ 3) (hy : w.heap[y]? = some (.cells (.int .i64 ek :: u1 :: u2 :: .int .i64 ex :: u3 :: .int .i64 eo :: .bool ep :: rest).toArray Tb (0, 0))) :
    Calls Tryz.prog 256 #[acv k c m n, .pointer (some ⟨y, 0, none⟩)] w (DoO Tb y (.int .i64 ek :: u1 :: u2 :: .int .i64 (bits .andNot .i64 (2 ^ n.toNat) 1) :: u3 :: .int .i64 eo :: .bool ep :: rest) ⟨k, c, m, n⟩ w) := by
  rcases (show n = 0 ∨ n = 1 ∨ n = 2 ∨ n = 3 by omega) with rfl | rfl | rfl | rfl
  · exact do_to_0 rest ek ex eo ep u1 u2 u3 k c m _ rfl hy
  · exact do_to_1 rest ek ex eo ep u1 u2 u3 k c m _ rfl hy
  · exact do_to_2 rest ek ex eo ep u1 u2 u3 k c m _ rfl hy
  · exact do_to_3 rest ek ex eo ep u1 u2 u3 k c m _ rfl hy
set_option maxRecDepth 100000 in
set_option maxHeartbeats 16000000 in
theorem do_once_v (rest : List Value) (ek ex eo : Int) (ep : Bool) (u1 u2 u3 : Value) (k c m n : Int) (v z : Int) (hz' : bits .and .i64 eo m = z) (hv0 : v = if z = m then bits .andNot .i64 eo m else bits .or .i64 eo m) (hy : w.heap[y]? = some (.cells (.int .i64 ek :: u1 :: u2 :: .int .i64 ex :: u3 :: .int .i64 eo :: .bool ep :: rest).toArray Tb (0, 0))) :
    Calls Tryz.prog 257 #[acv k c m n, .pointer (some ⟨y, 0, none⟩)] w (DoO Tb y (.int .i64 ek :: u1 :: u2 :: .int .i64 ex :: u3 :: .int .i64 v :: .bool ep :: rest) ⟨k, c, m, n⟩ w) := by
  have HVV := Lib.hid hv0
  clear hv0
  obtain ⟨V, hV⟩ : ∃ V, V = (w.alloc (.cells #[.int .i64 k, .int .i64 c, .int .i64 m, .int .i64 n] 234)).alloc (.cells #[.int .i64 0, .int .i64 0, .int .i64 0, .int .i64 0] 41) := ⟨_, rfl⟩
  have k0 := DoW.start (Td := 234) (ca := #[.int .i64 k, .int .i64 c, .int .i64 m, .int .i64 n]) hy
  rw [← hV] at k0
  obtain ⟨g, hg⟩ : ∃ g, g = w.heap.size := ⟨_, rfl⟩
  rw [← hg] at k0
  have K0 := Lib.hid k0
  have hne : ¬ y = g := by have := k0.lt; omega
  have hne' : ¬ g = y := fun e => hne e.symm
  have HV := Lib.hid hV
  have HG := Lib.hid hg
  clear hV k0 hg hy
  go_enter Tryz.func257, Tryz.ntmps257
  go_upto_region 1 with (fail)
  rw [← HV.out, ← HG.out]
  clear HV HG
  by_cases hq : z = m
  · have hv' : bits .andNot .i64 eo m = v := by rw [HVV.out, if_pos hq]
    have hq' : (z == m) = true := by rw [hq]; simp
    obtain ⟨y5, y5'⟩ := cells_of_heap K0.out.hy 5 (by simp <;> omega)
    obtain ⟨a2, a2'⟩ := cells_of_heap K0.out.ha 2 (by simp <;> omega)
    simp only [List.getElem_toArray, List.getElem_cons_zero, List.getElem_cons_succ] at y5 a2
    go_quiet (fail)
    go_upto_region 2 with (fail)
    obtain ⟨V8, hV8⟩ : ∃ W, W = V.drewN nq := ⟨_, rfl⟩
    have k8 : DoW Tb 234 w V8 y g (.int .i64 ek :: u1 :: u2 :: .int .i64 ex :: u3 :: .int .i64 eo :: .bool ep :: rest) #[.int .i64 k, .int .i64 c, .int .i64 m, .int .i64 n] := by rw [hV8]; exact K0.out.drewN nq
    rw [← hV8]
    have K8 := Lib.hid k8
    clear hV8 k8 K0 y5 y5' a2 a2'
    obtain ⟨y5, y5'⟩ := cells_of_heap K8.out.hy 5 (by simp <;> omega)
    obtain ⟨a2, a2'⟩ := cells_of_heap K8.out.ha 2 (by simp <;> omega)
    simp only [List.getElem_toArray, List.getElem_cons_zero, List.getElem_cons_succ] at y5 a2
    go_still_tail 9, (by kernel_rfl)
    go_upto_region 4 with (fail)
    first | rw [hz'] | rw [hv'] | skip
    clear y5 y5' a2 a2'
    obtain ⟨W9, hW9⟩ : ∃ W, W = (V8.setCell ⟨y, 5, none⟩ (.int .i64 v)).drew := ⟨_, rfl⟩
    have k9 : DoW Tb 234 w W9 y g (.int .i64 ek :: u1 :: u2 :: .int .i64 ex :: u3 :: .int .i64 v :: .bool ep :: rest) #[.int .i64 k, .int .i64 c, .int .i64 m, .int .i64 n] := by rw [hW9]; exact (K8.out.setY 5 (.int .i64 v)).drew
    rw [← hW9]
    have K9 := Lib.hid k9
    clear hW9 k9 K8
    obtain ⟨d0, d0'⟩ := cells_of_heap K9.out.ha 0 (by simp <;> omega)
    obtain ⟨d1, d1'⟩ := cells_of_heap K9.out.ha 1 (by simp <;> omega)
    obtain ⟨d2, d2'⟩ := cells_of_heap K9.out.ha 2 (by simp <;> omega)
    obtain ⟨d3, d3'⟩ := cells_of_heap K9.out.ha 3 (by simp <;> omega)
    obtain ⟨x0, x0'⟩ := cells_of_heap K9.out.hr 0 (by simp <;> omega)
    obtain ⟨x1, x1'⟩ := cells_of_heap K9.out.hr 1 (by simp <;> omega)
    obtain ⟨x2, x2'⟩ := cells_of_heap K9.out.hr 2 (by simp <;> omega)
    obtain ⟨x3, x3'⟩ := cells_of_heap K9.out.hr 3 (by simp <;> omega)
    simp only [List.getElem_toArray, List.getElem_cons_zero, List.getElem_cons_succ] at d0 d1 d2 d3 x0 x1 x2 x3
    go_wp2
    clear d0 d0' d1 d1' d2 d2' d3 d3' x0 x0' x1 x1' x2 x2' x3 x3'
    obtain ⟨wf, hwf⟩ : ∃ x, x = putW W9 (g + 1) 0 [.int .i64 k, .int .i64 c, .int .i64 m, .int .i64 n] := ⟨_, rfl⟩
    have kf := putW_all [.int .i64 k, .int .i64 c, .int .i64 m, .int .i64 n] K9.out.hr rfl
    have rf := K9.out.ret (.int .i64 k) (.int .i64 c) (.int .i64 m) (.int .i64 n)
    rw [← hwf] at kf rf
    have cf := hwf.symm
    simp only [putW, Nat.reduceAdd] at cf
    rw [cf]
    clear cf hwf
    have f0 := (cells_of_heap kf 0 (by simp)).1
    have f1 := (cells_of_heap kf 1 (by simp)).1
    have f2 := (cells_of_heap kf 2 (by simp)).1
    have f3 := (cells_of_heap kf 3 (by simp)).1
    simp only [List.getElem_toArray, List.getElem_cons_zero, List.getElem_cons_succ] at f0 f1 f2 f3
    refine bodyPost_ret (v := acv k c m n) (by simp [results, Tryz.results257, go_sem, f0, f1, f2, f3, acv]) rfl ⟨by rfl, rf⟩
  · have hv' : bits .or .i64 eo m = v := by rw [HVV.out, if_neg hq]
    have hq' : (z == m) = false := beq_false_of_ne hq
    obtain ⟨y5, y5'⟩ := cells_of_heap K0.out.hy 5 (by simp <;> omega)
    obtain ⟨a2, a2'⟩ := cells_of_heap K0.out.ha 2 (by simp <;> omega)
    simp only [List.getElem_toArray, List.getElem_cons_zero, List.getElem_cons_succ] at y5 a2
    go_quiet (fail)
    go_upto_region 3 with (fail)
    obtain ⟨V8, hV8⟩ : ∃ W, W = V.drewN nq := ⟨_, rfl⟩
    have k8 : DoW Tb 234 w V8 y g (.int .i64 ek :: u1 :: u2 :: .int .i64 ex :: u3 :: .int .i64 eo :: .bool ep :: rest) #[.int .i64 k, .int .i64 c, .int .i64 m, .int .i64 n] := by rw [hV8]; exact K0.out.drewN nq
    rw [← hV8]
    have K8 := Lib.hid k8
    clear hV8 k8 K0 y5 y5' a2 a2'
    obtain ⟨y5, y5'⟩ := cells_of_heap K8.out.hy 5 (by simp <;> omega)
    obtain ⟨a2, a2'⟩ := cells_of_heap K8.out.ha 2 (by simp <;> omega)
    simp only [List.getElem_toArray, List.getElem_cons_zero, List.getElem_cons_succ] at y5 a2
    go_still_tail 9, (by kernel_rfl)
    go_upto_region 4 with (fail)
    first | rw [hz'] | rw [hv'] | skip
    clear y5 y5' a2 a2'
    obtain ⟨W9, hW9⟩ : ∃ W, W = (V8.setCell ⟨y, 5, none⟩ (.int .i64 v)).drew := ⟨_, rfl⟩
    have k9 : DoW Tb 234 w W9 y g (.int .i64 ek :: u1 :: u2 :: .int .i64 ex :: u3 :: .int .i64 v :: .bool ep :: rest) #[.int .i64 k, .int .i64 c, .int .i64 m, .int .i64 n] := by rw [hW9]; exact (K8.out.setY 5 (.int .i64 v)).drew
    rw [← hW9]
    have K9 := Lib.hid k9
    clear hW9 k9 K8
    obtain ⟨d0, d0'⟩ := cells_of_heap K9.out.ha 0 (by simp <;> omega)
    obtain ⟨d1, d1'⟩ := cells_of_heap K9.out.ha 1 (by simp <;> omega)
    obtain ⟨d2, d2'⟩ := cells_of_heap K9.out.ha 2 (by simp <;> omega)
    obtain ⟨d3, d3'⟩ := cells_of_heap K9.out.ha 3 (by simp <;> omega)
    obtain ⟨x0, x0'⟩ := cells_of_heap K9.out.hr 0 (by simp <;> omega)
    obtain ⟨x1, x1'⟩ := cells_of_heap K9.out.hr 1 (by simp <;> omega)
    obtain ⟨x2, x2'⟩ := cells_of_heap K9.out.hr 2 (by simp <;> omega)
    obtain ⟨x3, x3'⟩ := cells_of_heap K9.out.hr 3 (by simp <;> omega)
    simp only [List.getElem_toArray, List.getElem_cons_zero, List.getElem_cons_succ] at d0 d1 d2 d3 x0 x1 x2 x3
    go_wp2
    clear d0 d0' d1 d1' d2 d2' d3 d3' x0 x0' x1 x1' x2 x2' x3 x3'
    obtain ⟨wf, hwf⟩ : ∃ x, x = putW W9 (g + 1) 0 [.int .i64 k, .int .i64 c, .int .i64 m, .int .i64 n] := ⟨_, rfl⟩
    have kf := putW_all [.int .i64 k, .int .i64 c, .int .i64 m, .int .i64 n] K9.out.hr rfl
    have rf := K9.out.ret (.int .i64 k) (.int .i64 c) (.int .i64 m) (.int .i64 n)
    rw [← hwf] at kf rf
    have cf := hwf.symm
    simp only [putW, Nat.reduceAdd] at cf
    rw [cf]
    clear cf hwf
    have f0 := (cells_of_heap kf 0 (by simp)).1
    have f1 := (cells_of_heap kf 1 (by simp)).1
    have f2 := (cells_of_heap kf 2 (by simp)).1
    have f3 := (cells_of_heap kf 3 (by simp)).1
    simp only [List.getElem_toArray, List.getElem_cons_zero, List.getElem_cons_succ] at f0 f1 f2 f3
    refine bodyPost_ret (v := acv k c m n) (by simp [results, Tryz.results257, go_sem, f0, f1, f2, f3, acv]) rfl ⟨by rfl, rf⟩
theorem do_once_any (rest : List Value) (ek ex eo : Int) (ep : Bool) (u1 u2 u3 : Value) (k c m n : Int) (hy : w.heap[y]? = some (.cells (.int .i64 ek :: u1 :: u2 :: .int .i64 ex :: u3 :: .int .i64 eo :: .bool ep :: rest).toArray Tb (0, 0))) :
    Calls Tryz.prog 257 #[acv k c m n, .pointer (some ⟨y, 0, none⟩)] w (DoO Tb y (.int .i64 ek :: u1 :: u2 :: .int .i64 ex :: u3 :: .int .i64 (if bits .and .i64 eo m = m then bits .andNot .i64 eo m else bits .or .i64 eo m) :: .bool ep :: rest) ⟨k, c, m, n⟩ w) :=
  do_once_v rest ek ex eo ep u1 u2 u3 k c m n _ _ rfl rfl hy
set_option maxRecDepth 100000 in
set_option maxHeartbeats 16000000 in
theorem do_code_v (rest : List Value) (ek ex eo : Int) (ep : Bool) (u1 u2 u3 : Value) (k c m n : Int) (r m1 z : Int) (q b26 : Bool) (hm1' : bits .or .i64 m eo = m1) (hz' : bits .andNot .i64 m1 2 = z) (hq : q = wordC c) (hb26 : b26 = inB c 1 26) (hr0 : r = if ((ep && q) && (b26 && decide (z = 0))) = true then 2 else m1) (hy : w.heap[y]? = some (.cells (.int .i64 ek :: u1 :: u2 :: .int .i64 ex :: u3 :: .int .i64 eo :: .bool ep :: rest).toArray Tb (0, 0))) :
    Calls Tryz.prog 254 #[acv k c m n, .pointer (some ⟨y, 0, none⟩)] w (DoO Tb y (.int .i64 ek :: u1 :: u2 :: .int .i64 ex :: u3 :: .int .i64 0 :: .bool (ep && q) :: rest) ⟨k, c, r, n⟩ w) := by
  have HQ := Lib.hid hq
  have HB26 := Lib.hid hb26
  have HRr := Lib.hid hr0
  clear hq hb26 hr0
  obtain ⟨V, hV⟩ : ∃ V, V = (w.alloc (.cells #[.int .i64 k, .int .i64 c, .int .i64 m, .int .i64 n] 231)).alloc (.cells #[.int .i64 0, .int .i64 0, .int .i64 0, .int .i64 0] 41) := ⟨_, rfl⟩
  have k0 := DoW.start (Td := 231) (ca := #[.int .i64 k, .int .i64 c, .int .i64 m, .int .i64 n]) hy
  rw [← hV] at k0
  obtain ⟨g, hg⟩ : ∃ g, g = w.heap.size := ⟨_, rfl⟩
  rw [← hg] at k0
  have K0 := Lib.hid k0
  have hne : ¬ y = g := by have := k0.lt; omega
  have hne' : ¬ g = y := fun e => hne e.symm
  have HV := Lib.hid hV
  have HG := Lib.hid hg
  clear hV k0 hg hy
  go_enter Tryz.func254, Tryz.ntmps254
  go_upto_region 1 with (fail)
  rw [← HV.out, ← HG.out]
  clear HV HG
  obtain ⟨a2, a2'⟩ := cells_of_heap K0.out.ha 2 (by simp <;> omega)
  obtain ⟨y5, y5'⟩ := cells_of_heap K0.out.hy 5 (by simp <;> omega)
  simp only [List.getElem_toArray, List.getElem_cons_zero, List.getElem_cons_succ] at a2 y5
  go_still_tail 8, (by kernel_rfl)
  go_upto_region 2 with (fail)
  first | rw [hm1'] | skip
  clear a2 a2' y5 y5'
  obtain ⟨W1, hW1⟩ : ∃ W, W = (V.setCell ⟨g, 2, none⟩ (.int .i64 m1)).drew := ⟨_, rfl⟩
  have k1 : DoW Tb 231 w W1 y g (.int .i64 ek :: u1 :: u2 :: .int .i64 ex :: u3 :: .int .i64 eo :: .bool ep :: rest) #[.int .i64 k, .int .i64 c, .int .i64 m1, .int .i64 n] := by rw [hW1]; exact (K0.out.setA 2 (.int .i64 m1)).drew
  rw [← hW1]
  have K1 := Lib.hid k1
  clear hW1 k1 K0
  obtain ⟨y5, y5'⟩ := cells_of_heap K1.out.hy 5 (by simp <;> omega)
  simp only [List.getElem_toArray, List.getElem_cons_zero, List.getElem_cons_succ] at y5
  go_upto_region 3 with (fail)
  clear y5 y5'
  obtain ⟨W2, hW2⟩ : ∃ W, W = (W1.setCell ⟨y, 5, none⟩ (.int .i64 0)) := ⟨_, rfl⟩
  have k9 : DoW Tb 231 w W2 y g (.int .i64 ek :: u1 :: u2 :: .int .i64 ex :: u3 :: .int .i64 0 :: .bool ep :: rest) #[.int .i64 k, .int .i64 c, .int .i64 m1, .int .i64 n] := by rw [hW2]; exact (K1.out.setY 5 (.int .i64 0))
  rw [← hW2]
  have K2 := Lib.hid k9
  clear hW2 k9 K1
  obtain ⟨y6, y6'⟩ := cells_of_heap K2.out.hy 6 (by simp <;> omega)
  obtain ⟨a1, a1'⟩ := cells_of_heap K2.out.ha 1 (by simp <;> omega)
  simp only [List.getElem_toArray, List.getElem_cons_zero, List.getElem_cons_succ] at y6 a1
  cases ep
  · go_upto_region 4 with (fail)
    clear y6 y6' a1 a1'
    obtain ⟨W3, hW3⟩ : ∃ W, W = W2.setCell ⟨y, 6, none⟩ (.bool false) := ⟨_, rfl⟩
    have k3 : DoW Tb 231 w W3 y g (.int .i64 ek :: u1 :: u2 :: .int .i64 ex :: u3 :: .int .i64 0 :: .bool false :: rest) #[.int .i64 k, .int .i64 c, .int .i64 m1, .int .i64 n] := by rw [hW3]; exact K2.out.setY 6 (.bool false)
    rw [← hW3]
    have K3 := Lib.hid k3
    clear hW3 k3 K2
    obtain ⟨y6, y6'⟩ := cells_of_heap K3.out.hy 6 (by simp <;> omega)
    simp only [List.getElem_toArray, List.getElem_cons_zero, List.getElem_cons_succ] at y6
    go_upto_region 6 with (fail)
    clear y6 y6'
    obtain rfl : r = m1 := HRr.out.trans (by simp)
    obtain ⟨d0, d0'⟩ := cells_of_heap K3.out.ha 0 (by simp <;> omega)
    obtain ⟨d1, d1'⟩ := cells_of_heap K3.out.ha 1 (by simp <;> omega)
    obtain ⟨d2, d2'⟩ := cells_of_heap K3.out.ha 2 (by simp <;> omega)
    obtain ⟨d3, d3'⟩ := cells_of_heap K3.out.ha 3 (by simp <;> omega)
    obtain ⟨x0, x0'⟩ := cells_of_heap K3.out.hr 0 (by simp <;> omega)
    obtain ⟨x1, x1'⟩ := cells_of_heap K3.out.hr 1 (by simp <;> omega)
    obtain ⟨x2, x2'⟩ := cells_of_heap K3.out.hr 2 (by simp <;> omega)
    obtain ⟨x3, x3'⟩ := cells_of_heap K3.out.hr 3 (by simp <;> omega)
    simp only [List.getElem_toArray, List.getElem_cons_zero, List.getElem_cons_succ] at d0 d1 d2 d3 x0 x1 x2 x3
    go_wp2
    clear d0 d0' d1 d1' d2 d2' d3 d3' x0 x0' x1 x1' x2 x2' x3 x3'
    obtain ⟨wf, hwf⟩ : ∃ x, x = putW W3 (g + 1) 0 [.int .i64 k, .int .i64 c, .int .i64 r, .int .i64 n] := ⟨_, rfl⟩
    have kf := putW_all [.int .i64 k, .int .i64 c, .int .i64 r, .int .i64 n] K3.out.hr rfl
    have rf := K3.out.ret (.int .i64 k) (.int .i64 c) (.int .i64 r) (.int .i64 n)
    rw [← hwf] at kf rf
    have cf := hwf.symm
    simp only [putW, Nat.reduceAdd] at cf
    rw [cf]
    clear cf hwf
    have f0 := (cells_of_heap kf 0 (by simp)).1
    have f1 := (cells_of_heap kf 1 (by simp)).1
    have f2 := (cells_of_heap kf 2 (by simp)).1
    have f3 := (cells_of_heap kf 3 (by simp)).1
    simp only [List.getElem_toArray, List.getElem_cons_zero, List.getElem_cons_succ] at f0 f1 f2 f3
    refine bodyPost_ret (v := acv k c r n) (by simp [results, Tryz.results254, go_sem, f0, f1, f2, f3, acv]) rfl ⟨by rfl, rf⟩
  · go_wp2_with fail
    refine (implIsWordCode_q c q HQ.out _).mono ?_
    rintro e w0 ⟨rfl, rfl⟩
    cases q
    · go_upto_region 4 with (fail)
      clear y6 y6' a1 a1'
      obtain ⟨W3, hW3⟩ : ∃ W, W = W2.setCell ⟨y, 6, none⟩ (.bool false) := ⟨_, rfl⟩
      have k3 : DoW Tb 231 w W3 y g (.int .i64 ek :: u1 :: u2 :: .int .i64 ex :: u3 :: .int .i64 0 :: .bool false :: rest) #[.int .i64 k, .int .i64 c, .int .i64 m1, .int .i64 n] := by rw [hW3]; exact K2.out.setY 6 (.bool false)
      rw [← hW3]
      have K3 := Lib.hid k3
      clear hW3 k3 K2
      obtain ⟨y6, y6'⟩ := cells_of_heap K3.out.hy 6 (by simp <;> omega)
      simp only [List.getElem_toArray, List.getElem_cons_zero, List.getElem_cons_succ] at y6
      go_upto_region 6 with (fail)
      clear y6 y6'
      obtain rfl : r = m1 := HRr.out.trans (by simp)
      obtain ⟨d0, d0'⟩ := cells_of_heap K3.out.ha 0 (by simp <;> omega)
      obtain ⟨d1, d1'⟩ := cells_of_heap K3.out.ha 1 (by simp <;> omega)
      obtain ⟨d2, d2'⟩ := cells_of_heap K3.out.ha 2 (by simp <;> omega)
      obtain ⟨d3, d3'⟩ := cells_of_heap K3.out.ha 3 (by simp <;> omega)
      obtain ⟨x0, x0'⟩ := cells_of_heap K3.out.hr 0 (by simp <;> omega)
      obtain ⟨x1, x1'⟩ := cells_of_heap K3.out.hr 1 (by simp <;> omega)
      obtain ⟨x2, x2'⟩ := cells_of_heap K3.out.hr 2 (by simp <;> omega)
      obtain ⟨x3, x3'⟩ := cells_of_heap K3.out.hr 3 (by simp <;> omega)
      simp only [List.getElem_toArray, List.getElem_cons_zero, List.getElem_cons_succ] at d0 d1 d2 d3 x0 x1 x2 x3
      go_wp2
      clear d0 d0' d1 d1' d2 d2' d3 d3' x0 x0' x1 x1' x2 x2' x3 x3'
      obtain ⟨wf, hwf⟩ : ∃ x, x = putW W3 (g + 1) 0 [.int .i64 k, .int .i64 c, .int .i64 r, .int .i64 n] := ⟨_, rfl⟩
      have kf := putW_all [.int .i64 k, .int .i64 c, .int .i64 r, .int .i64 n] K3.out.hr rfl
      have rf := K3.out.ret (.int .i64 k) (.int .i64 c) (.int .i64 r) (.int .i64 n)
      rw [← hwf] at kf rf
      have cf := hwf.symm
      simp only [putW, Nat.reduceAdd] at cf
      rw [cf]
      clear cf hwf
      have f0 := (cells_of_heap kf 0 (by simp)).1
      have f1 := (cells_of_heap kf 1 (by simp)).1
      have f2 := (cells_of_heap kf 2 (by simp)).1
      have f3 := (cells_of_heap kf 3 (by simp)).1
      simp only [List.getElem_toArray, List.getElem_cons_zero, List.getElem_cons_succ] at f0 f1 f2 f3
      refine bodyPost_ret (v := acv k c r n) (by simp [results, Tryz.results254, go_sem, f0, f1, f2, f3, acv]) rfl ⟨by rfl, rf⟩
    · go_upto_region 4 with (fail)
      clear y6 y6' a1 a1'
      obtain ⟨W3, hW3⟩ : ∃ W, W = W2.setCell ⟨y, 6, none⟩ (.bool true) := ⟨_, rfl⟩
      have k3 : DoW Tb 231 w W3 y g (.int .i64 ek :: u1 :: u2 :: .int .i64 ex :: u3 :: .int .i64 0 :: .bool true :: rest) #[.int .i64 k, .int .i64 c, .int .i64 m1, .int .i64 n] := by rw [hW3]; exact K2.out.setY 6 (.bool true)
      rw [← hW3]
      have K3 := Lib.hid k3
      clear hW3 k3 K2
      obtain ⟨y6, y6'⟩ := cells_of_heap K3.out.hy 6 (by simp <;> omega)
      obtain ⟨a1, a1'⟩ := cells_of_heap K3.out.ha 1 (by simp <;> omega)
      obtain ⟨a2, a2'⟩ := cells_of_heap K3.out.ha 2 (by simp <;> omega)
      simp only [List.getElem_toArray, List.getElem_cons_zero, List.getElem_cons_succ] at y6 a1 a2
      go_wp2_with fail
      refine (isBetween_q c 1 26 b26 HB26.out _).mono ?_
      rintro e w0 ⟨rfl, rfl⟩
      cases b26
      · go_upto_region 6 with (fail)
        clear y6 y6' a1 a1' a2 a2'
        obtain rfl : r = m1 := HRr.out.trans (by simp)
        obtain ⟨d0, d0'⟩ := cells_of_heap K3.out.ha 0 (by simp <;> omega)
        obtain ⟨d1, d1'⟩ := cells_of_heap K3.out.ha 1 (by simp <;> omega)
        obtain ⟨d2, d2'⟩ := cells_of_heap K3.out.ha 2 (by simp <;> omega)
        obtain ⟨d3, d3'⟩ := cells_of_heap K3.out.ha 3 (by simp <;> omega)
        obtain ⟨x0, x0'⟩ := cells_of_heap K3.out.hr 0 (by simp <;> omega)
        obtain ⟨x1, x1'⟩ := cells_of_heap K3.out.hr 1 (by simp <;> omega)
        obtain ⟨x2, x2'⟩ := cells_of_heap K3.out.hr 2 (by simp <;> omega)
        obtain ⟨x3, x3'⟩ := cells_of_heap K3.out.hr 3 (by simp <;> omega)
        simp only [List.getElem_toArray, List.getElem_cons_zero, List.getElem_cons_succ] at d0 d1 d2 d3 x0 x1 x2 x3
        go_wp2
        clear d0 d0' d1 d1' d2 d2' d3 d3' x0 x0' x1 x1' x2 x2' x3 x3'
        obtain ⟨wf, hwf⟩ : ∃ x, x = putW W3 (g + 1) 0 [.int .i64 k, .int .i64 c, .int .i64 r, .int .i64 n] := ⟨_, rfl⟩
        have kf := putW_all [.int .i64 k, .int .i64 c, .int .i64 r, .int .i64 n] K3.out.hr rfl
        have rf := K3.out.ret (.int .i64 k) (.int .i64 c) (.int .i64 r) (.int .i64 n)
        rw [← hwf] at kf rf
        have cf := hwf.symm
        simp only [putW, Nat.reduceAdd] at cf
        rw [cf]
        clear cf hwf
        have f0 := (cells_of_heap kf 0 (by simp)).1
        have f1 := (cells_of_heap kf 1 (by simp)).1
        have f2 := (cells_of_heap kf 2 (by simp)).1
        have f3 := (cells_of_heap kf 3 (by simp)).1
        simp only [List.getElem_toArray, List.getElem_cons_zero, List.getElem_cons_succ] at f0 f1 f2 f3
        refine bodyPost_ret (v := acv k c r n) (by simp [results, Tryz.results254, go_sem, f0, f1, f2, f3, acv]) rfl ⟨by rfl, rf⟩
      · by_cases h0 : z = 0
        · subst h0
          go_upto_region 6 with (fail)
          clear y6 y6' a1 a1' a2 a2'
          obtain ⟨W5, hW5⟩ : ∃ W, W = W3.setCell ⟨g, 2, none⟩ (.int .i64 2) := ⟨_, rfl⟩
          have k5 : DoW Tb 231 w W5 y g (.int .i64 ek :: u1 :: u2 :: .int .i64 ex :: u3 :: .int .i64 0 :: .bool true :: rest) #[.int .i64 k, .int .i64 c, .int .i64 2, .int .i64 n] := by rw [hW5]; exact K3.out.setA 2 (.int .i64 2)
          rw [← hW5]
          have K5 := Lib.hid k5
          clear hW5 k5 K3
          obtain rfl : r = 2 := HRr.out.trans (by simp)
          obtain ⟨d0, d0'⟩ := cells_of_heap K5.out.ha 0 (by simp <;> omega)
          obtain ⟨d1, d1'⟩ := cells_of_heap K5.out.ha 1 (by simp <;> omega)
          obtain ⟨d2, d2'⟩ := cells_of_heap K5.out.ha 2 (by simp <;> omega)
          obtain ⟨d3, d3'⟩ := cells_of_heap K5.out.ha 3 (by simp <;> omega)
          obtain ⟨x0, x0'⟩ := cells_of_heap K5.out.hr 0 (by simp <;> omega)
          obtain ⟨x1, x1'⟩ := cells_of_heap K5.out.hr 1 (by simp <;> omega)
          obtain ⟨x2, x2'⟩ := cells_of_heap K5.out.hr 2 (by simp <;> omega)
          obtain ⟨x3, x3'⟩ := cells_of_heap K5.out.hr 3 (by simp <;> omega)
          simp only [List.getElem_toArray, List.getElem_cons_zero, List.getElem_cons_succ] at d0 d1 d2 d3 x0 x1 x2 x3
          go_wp2
          clear d0 d0' d1 d1' d2 d2' d3 d3' x0 x0' x1 x1' x2 x2' x3 x3'
          obtain ⟨wf, hwf⟩ : ∃ x, x = putW W5 (g + 1) 0 [.int .i64 k, .int .i64 c, .int .i64 2, .int .i64 n] := ⟨_, rfl⟩
          have kf := putW_all [.int .i64 k, .int .i64 c, .int .i64 2, .int .i64 n] K5.out.hr rfl
          have rf := K5.out.ret (.int .i64 k) (.int .i64 c) (.int .i64 2) (.int .i64 n)
          rw [← hwf] at kf rf
          have cf := hwf.symm
          simp only [putW, Nat.reduceAdd] at cf
          rw [cf]
          clear cf hwf
          have f0 := (cells_of_heap kf 0 (by simp)).1
          have f1 := (cells_of_heap kf 1 (by simp)).1
          have f2 := (cells_of_heap kf 2 (by simp)).1
          have f3 := (cells_of_heap kf 3 (by simp)).1
          simp only [List.getElem_toArray, List.getElem_cons_zero, List.getElem_cons_succ] at f0 f1 f2 f3
          refine bodyPost_ret (v := acv k c 2 n) (by simp [results, Tryz.results254, go_sem, f0, f1, f2, f3, acv]) rfl ⟨by rfl, rf⟩
        · have h0' : (z == 0) = false := beq_false_of_ne h0
          go_upto_region 6 with (fail)
          clear y6 y6' a1 a1' a2 a2'
          obtain rfl : r = m1 := HRr.out.trans (by simp [h0])
          obtain ⟨d0, d0'⟩ := cells_of_heap K3.out.ha 0 (by simp <;> omega)
          obtain ⟨d1, d1'⟩ := cells_of_heap K3.out.ha 1 (by simp <;> omega)
          obtain ⟨d2, d2'⟩ := cells_of_heap K3.out.ha 2 (by simp <;> omega)
          obtain ⟨d3, d3'⟩ := cells_of_heap K3.out.ha 3 (by simp <;> omega)
          obtain ⟨x0, x0'⟩ := cells_of_heap K3.out.hr 0 (by simp <;> omega)
          obtain ⟨x1, x1'⟩ := cells_of_heap K3.out.hr 1 (by simp <;> omega)
          obtain ⟨x2, x2'⟩ := cells_of_heap K3.out.hr 2 (by simp <;> omega)
          obtain ⟨x3, x3'⟩ := cells_of_heap K3.out.hr 3 (by simp <;> omega)
          simp only [List.getElem_toArray, List.getElem_cons_zero, List.getElem_cons_succ] at d0 d1 d2 d3 x0 x1 x2 x3
          go_wp2
          clear d0 d0' d1 d1' d2 d2' d3 d3' x0 x0' x1 x1' x2 x2' x3 x3'
          obtain ⟨wf, hwf⟩ : ∃ x, x = putW W3 (g + 1) 0 [.int .i64 k, .int .i64 c, .int .i64 r, .int .i64 n] := ⟨_, rfl⟩
          have kf := putW_all [.int .i64 k, .int .i64 c, .int .i64 r, .int .i64 n] K3.out.hr rfl
          have rf := K3.out.ret (.int .i64 k) (.int .i64 c) (.int .i64 r) (.int .i64 n)
          rw [← hwf] at kf rf
          have cf := hwf.symm
          simp only [putW, Nat.reduceAdd] at cf
          rw [cf]
          clear cf hwf
          have f0 := (cells_of_heap kf 0 (by simp)).1
          have f1 := (cells_of_heap kf 1 (by simp)).1
          have f2 := (cells_of_heap kf 2 (by simp)).1
          have f3 := (cells_of_heap kf 3 (by simp)).1
          simp only [List.getElem_toArray, List.getElem_cons_zero, List.getElem_cons_succ] at f0 f1 f2 f3
          refine bodyPost_ret (v := acv k c r n) (by simp [results, Tryz.results254, go_sem, f0, f1, f2, f3, acv]) rfl ⟨by rfl, rf⟩
theorem do_code_any (rest : List Value) (ek ex eo : Int) (ep : Bool) (u1 u2 u3 : Value) (k c m n : Int) (hc : 0 < c) (hy : w.heap[y]? = some (.cells (.int .i64 ek :: u1 :: u2 :: .int .i64 ex :: u3 :: .int .i64 eo :: .bool ep :: rest).toArray Tb (0, 0))) :
    Calls Tryz.prog 254 #[acv k c m n, .pointer (some ⟨y, 0, none⟩)] w (DoO Tb y (.int .i64 ek :: u1 :: u2 :: .int .i64 ex :: u3 :: .int .i64 0 :: .bool (ep && wordC c) :: rest) ⟨k, c, if ((ep && wordC c) && (decide (c ≤ 26) && decide (bits .andNot .i64 (bits .or .i64 m eo) 2 = 0))) = true then 2 else bits .or .i64 m eo, n⟩ w) := by
  rw [show decide (c ≤ 26) = inB c 1 26 from by rw [inB]; exact decide_eq_decide.2 ⟨fun h => ⟨by omega, h⟩, fun h => h.2⟩]
  exact do_code_v rest ek ex eo ep u1 u2 u3 k c m n _ _ _ _ _ rfl rfl rfl rfl rfl hy

end Go.Proofs.YtjfckchoklepbaaGreat
