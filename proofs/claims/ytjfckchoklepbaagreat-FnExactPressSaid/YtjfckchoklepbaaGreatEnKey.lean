/- DERIVED. The reference's l9Key: a code gets the modifiers that wait, and capitals; the engine behind the pointer is changed, all else stays. No condition. -/
import Derived.Test.YtjfckchoklepbaaGreatEnWord
import Derived.Test.YtjfckchoklepbaaGreatEnMath
import Derived.BigRegion
import Derived.StillTailTactics
namespace Go.Proofs.YtjfckchoklepbaaGreat
open Go.RowKit

/-- The worlds of a function that has an engine's block y at hand, and lays an action's box g and its result's box g + 1. -/
structure KyW (w W : World) (y g : Nat) (cy ca : Array Value) : Prop where
  hy : W.heap[y]? = some (.cells cy 30 (0, 0))
  ha : W.heap[g]? = some (.cells ca 41 (0, 0))
  hr : W.heap[g + 1]? = some (.cells #[.int .i64 0, .int .i64 0, .int .i64 0, .int .i64 0] 41 (0, 0))
  gr : w.grownBy W (some y)
  lt : y < g
  low : w.heap.size ≤ g
theorem KyW.setY {w W : World} {y g : Nat} {cy ca : Array Value} (h : KyW w W y g cy ca) (i : Nat) (v : Value) : KyW w (W.setCell ⟨y, i, none⟩ v) y g (cy.setIfInBounds i v) ca :=
  ⟨heap_setCell_same W y i _ _ _ h.hy, (heap_setCell_other W _ _ _ (by have := h.lt; simp; omega)).trans h.ha, (heap_setCell_other W _ _ _ (by have := h.lt; simp; omega)).trans h.hr, grown_trans h.gr (grown_set _ _ _ _), h.lt, h.low⟩
theorem KyW.setA {w W : World} {y g : Nat} {cy ca : Array Value} (h : KyW w W y g cy ca) (i : Nat) (v : Value) : KyW w (W.setCell ⟨g, i, none⟩ v) y g cy (ca.setIfInBounds i v) :=
  ⟨(heap_setCell_other W _ _ _ (by have := h.lt; simp; omega)).trans h.hy, heap_setCell_same W g i _ _ _ h.ha, (heap_setCell_other W _ _ _ (by simp)).trans h.hr,
    ⟨h.gr.os, h.gr.tape, h.gr.output, by simpa using h.gr.size, fun k hk hn => (heap_setCell_other W _ _ _ (by have := h.low; simp; omega)).trans (h.gr.block k hk hn)⟩, h.lt, h.low⟩
theorem KyW.drew {w W : World} {y g : Nat} {cy ca : Array Value} (h : KyW w W y g cy ca) : KyW w W.drew y g cy ca := ⟨h.hy, h.ha, h.hr, grown_trans h.gr (grown_drewN W 1 _), h.lt, h.low⟩
theorem KyW.start {w : World} {y : Nat} {cy ca : Array Value} (hy : w.heap[y]? = some (.cells cy 30 (0, 0))) :
    KyW w ((w.alloc (.cells ca 41)).alloc (.cells #[.int .i64 0, .int .i64 0, .int .i64 0, .int .i64 0] 41)) y w.heap.size cy ca := by
  have hlt : y < w.heap.size := (Array.getElem?_eq_some_iff.mp hy).1
  refine ⟨?_, ?_, ?_, ?_, hlt, Nat.le_refl _⟩
  · rw [heap_alloc_old _ _ (by simp; omega), heap_alloc_old _ _ hlt]; exact hy
  · rw [heap_alloc_old _ _ (by simp)]; exact heap_alloc_new w _
  · simpa using heap_alloc_new (w.alloc (.cells ca 41)) (.cells #[.int .i64 0, .int .i64 0, .int .i64 0, .int .i64 0] 41)
  · exact grown_trans (grown_alloc' _ _ _) (grown_alloc' _ _ _)
/-- What a function returns that changes the engine behind a pointer. -/
def KyO (y : Nat) (cy : Array Value) (a : Ac) (w : World) (r : Ending) (w' : World) : Prop := r = .returned (acv a.k a.c a.m a.n) ∧ w'.heap[y]? = some (.cells cy 30 (0, 0)) ∧ w.grownBy w' (some y)
theorem KyW.ret {w W : World} {y g : Nat} {cy ca : Array Value} (h : KyW w W y g cy ca) (a b c d : Value) :
    (putW W (g + 1) 0 [a, b, c, d]).heap[y]? = some (.cells cy 30 (0, 0)) ∧ w.grownBy (putW W (g + 1) 0 [a, b, c, d]) (some y) :=
  ⟨(putW_other (by have := h.lt; omega) _ _ _).trans h.hy, h.gr.os.trans rfl |> fun e => ⟨(putW_grown [a, b, c, d] 0 W).os.trans h.gr.os, (putW_grown [a, b, c, d] 0 W).tape.trans h.gr.tape, (putW_grown [a, b, c, d] 0 W).output.trans h.gr.output, by rw [putW_size]; exact h.gr.size, fun k hk hn => (putW_other (by have := h.low; omega) _ _ _).trans (h.gr.block k hk hn)⟩⟩
set_option maxRecDepth 100000 in
set_option maxHeartbeats 8000000 in
theorem specL9Key_any (e : En) (u1 u2 u3 : Value) (y : Nat) (k c m n : Int) (w : World) (hy : w.heap[y]? = some (.cells #[.int .i64 e.k, u1, u2, .int .i64 e.x, u3, .int .i64 e.o, .bool e.p] 30 (0, 0))) :
    Calls Tryz.prog 173 #[.pointer (some ⟨y, 0, none⟩), acv k c m n] w (KyO y #[.int .i64 e.k, u1, u2, .int .i64 e.x, u3, .int .i64 0, .bool (e.p && wordC c)] ⟨k, c, (keyO e c m).2, n⟩ w) := by
  obtain ⟨ek, eL, eF, ex, eH, eo, ep⟩ := e
  simp only at hy ⊢
  obtain ⟨r, hr⟩ : ∃ r, r = (keyO ⟨ek, eL, eF, ex, eH, eo, ep⟩ c m).2 := ⟨_, rfl⟩
  rw [← hr]
  unfold keyO at hr
  simp only at hr
  obtain ⟨m1, hm1⟩ : ∃ x, x = bits .or .i64 m eo := ⟨_, rfl⟩
  obtain ⟨q, hq⟩ : ∃ q, q = wordC c := ⟨_, rfl⟩
  rw [← hm1, ← hq] at hr
  rw [← hq]
  have hm1' := hm1.symm
  have HRr := Lib.hid hr
  have HQ := Lib.hid hq
  obtain ⟨V, hV⟩ : ∃ V, V = (w.alloc (.cells #[.int .i64 k, .int .i64 c, .int .i64 m, .int .i64 n] 41)).alloc (.cells #[.int .i64 0, .int .i64 0, .int .i64 0, .int .i64 0] 41) := ⟨_, rfl⟩
  have k0 := KyW.start (ca := #[.int .i64 k, .int .i64 c, .int .i64 m, .int .i64 n]) hy
  rw [← hV] at k0
  obtain ⟨g, hg⟩ : ∃ g, g = w.heap.size := ⟨_, rfl⟩
  rw [← hg] at k0
  have K0 := Lib.hid k0
  have hne : ¬ y = g := by have := k0.lt; omega
  have hne' : ¬ g = y := fun e => hne e.symm
  have HV := Lib.hid hV
  have HG := Lib.hid hg
  clear hr hq hV k0 hg hy hm1
  go_enter Tryz.func173, Tryz.ntmps173
  go_upto_region 1 with (fail)
  rw [← HV.out, ← HG.out]
  obtain ⟨a2, b2⟩ := cells_of_heap K0.out.ha 2 (by simp)
  obtain ⟨y5, z5⟩ := cells_of_heap K0.out.hy 5 (by simp)
  simp only [List.getElem_toArray, List.getElem_cons_zero, List.getElem_cons_succ] at a2 y5
  go_still_tail 8, (by kernel_rfl)
  go_upto_region 2 with (fail)
  obtain ⟨W1, hW1⟩ : ∃ W, W = (V.setCell ⟨g, 2, none⟩ (.int .i64 m1)).drew := ⟨_, rfl⟩
  have k1 : KyW w W1 y g #[.int .i64 ek, u1, u2, .int .i64 ex, u3, .int .i64 eo, .bool ep] #[.int .i64 k, .int .i64 c, .int .i64 m1, .int .i64 n] := by rw [hW1]; exact (K0.out.setA 2 (.int .i64 m1)).drew
  rw [← hW1]
  have K1 := Lib.hid k1
  clear hW1 k1 K0 a2 b2 y5 z5 HV HG
  obtain ⟨y5, z5⟩ := cells_of_heap K1.out.hy 5 (by simp)
  simp only [List.getElem_toArray, List.getElem_cons_zero, List.getElem_cons_succ] at y5
  go_upto_region 3 with (fail)
  obtain ⟨W2, hW2⟩ : ∃ W, W = W1.setCell ⟨y, 5, none⟩ (.int .i64 0) := ⟨_, rfl⟩
  have k2 : KyW w W2 y g #[.int .i64 ek, u1, u2, .int .i64 ex, u3, .int .i64 0, .bool ep] #[.int .i64 k, .int .i64 c, .int .i64 m1, .int .i64 n] := by rw [hW2]; exact K1.out.setY 5 (.int .i64 0)
  rw [← hW2]
  have K2 := Lib.hid k2
  clear hW2 k2 K1 y5 z5
  obtain ⟨a1, b1⟩ := cells_of_heap K2.out.ha 1 (by simp)
  simp only [List.getElem_toArray, List.getElem_cons_zero, List.getElem_cons_succ] at a1
  go_wp2_with fail
  refine (specIsWordCode_q c q HQ.out _).mono ?_
  rintro e w0 ⟨rfl, rfl⟩
  clear a1 b1
  cases q
  · obtain ⟨y6, z6⟩ := cells_of_heap K2.out.hy 6 (by simp)
    simp only [List.getElem_toArray, List.getElem_cons_zero, List.getElem_cons_succ] at y6
    go_upto_region 5 with (fail)
    obtain ⟨W3, hW3⟩ : ∃ W, W = W2.setCell ⟨y, 6, none⟩ (.bool false) := ⟨_, rfl⟩
    have k3 : KyW w W3 y g #[.int .i64 ek, u1, u2, .int .i64 ex, u3, .int .i64 0, .bool false] #[.int .i64 k, .int .i64 c, .int .i64 m1, .int .i64 n] := by rw [hW3]; exact K2.out.setY 6 (.bool false)
    rw [← hW3]
    have K3 := Lib.hid k3
    clear hW3 k3 K2 y6 z6
    have HRr := Lib.hid (show r = m1 by rw [HRr.out]; simp)
    rw [Bool.and_false]
    obtain rfl : r = m1 := HRr.out
    obtain ⟨y6, y6'⟩ := cells_of_heap K3.out.hy 6 (by simp)
    simp only [List.getElem_toArray, List.getElem_cons_zero, List.getElem_cons_succ] at y6
    go_upto_region 7 with (fail)
    clear y6 y6'
    obtain ⟨d0, d0'⟩ := cells_of_heap K3.out.ha 0 (by simp)
    obtain ⟨d1, d1'⟩ := cells_of_heap K3.out.ha 1 (by simp)
    obtain ⟨d2, d2'⟩ := cells_of_heap K3.out.ha 2 (by simp)
    obtain ⟨d3, d3'⟩ := cells_of_heap K3.out.ha 3 (by simp)
    obtain ⟨x0, x0'⟩ := cells_of_heap K3.out.hr 0 (by simp)
    obtain ⟨x1, x1'⟩ := cells_of_heap K3.out.hr 1 (by simp)
    obtain ⟨x2, x2'⟩ := cells_of_heap K3.out.hr 2 (by simp)
    obtain ⟨x3, x3'⟩ := cells_of_heap K3.out.hr 3 (by simp)
    simp only [List.getElem_toArray, List.getElem_cons_zero, List.getElem_cons_succ] at d0 d1 d2 d3 x0 x1 x2 x3
    go_wp2
    clear d0 d0' d1 d1' d2 d2' d3 d3' x0 x0' x1 x1' x2 x2' x3 x3'
    obtain ⟨wf, hwf⟩ : ∃ x, x = putW W3 (g + 1) 0 [.int .i64 k, .int .i64 c, .int .i64 r, .int .i64 n] := ⟨_, rfl⟩
    have kf := putW_all [.int .i64 k, .int .i64 c, .int .i64 r, .int .i64 n] K3.out.hr rfl
    have rf := K3.out.ret (.int .i64 k) (.int .i64 c) (.int .i64 r) (.int .i64 n)
    rw [← hwf] at kf rf
    have cf := hwf.symm
    simp only [putW, Nat.reduceAdd] at cf
    rw [cf]
    clear cf hwf
    have f0 := (cells_of_heap kf 0 (by simp)).1
    have f1 := (cells_of_heap kf 1 (by simp)).1
    have f2 := (cells_of_heap kf 2 (by simp)).1
    have f3 := (cells_of_heap kf 3 (by simp)).1
    simp only [List.getElem_toArray, List.getElem_cons_zero, List.getElem_cons_succ] at f0 f1 f2 f3
    refine bodyPost_ret (v := acv k c r n) (by simp [results, Tryz.results173, go_sem, f0, f1, f2, f3, acv]) rfl ⟨by rfl, rf⟩
  · go_upto_region 5 with (fail)
    rw [Bool.and_true]
    cases ep
    · have HRr := Lib.hid (show r = m1 by rw [HRr.out]; simp)
      obtain rfl : r = m1 := HRr.out
      obtain ⟨y6, y6'⟩ := cells_of_heap K2.out.hy 6 (by simp)
      simp only [List.getElem_toArray, List.getElem_cons_zero, List.getElem_cons_succ] at y6
      go_upto_region 7 with (fail)
      clear y6 y6'
      obtain ⟨d0, d0'⟩ := cells_of_heap K2.out.ha 0 (by simp)
      obtain ⟨d1, d1'⟩ := cells_of_heap K2.out.ha 1 (by simp)
      obtain ⟨d2, d2'⟩ := cells_of_heap K2.out.ha 2 (by simp)
      obtain ⟨d3, d3'⟩ := cells_of_heap K2.out.ha 3 (by simp)
      obtain ⟨x0, x0'⟩ := cells_of_heap K2.out.hr 0 (by simp)
      obtain ⟨x1, x1'⟩ := cells_of_heap K2.out.hr 1 (by simp)
      obtain ⟨x2, x2'⟩ := cells_of_heap K2.out.hr 2 (by simp)
      obtain ⟨x3, x3'⟩ := cells_of_heap K2.out.hr 3 (by simp)
      simp only [List.getElem_toArray, List.getElem_cons_zero, List.getElem_cons_succ] at d0 d1 d2 d3 x0 x1 x2 x3
      go_wp2
      clear d0 d0' d1 d1' d2 d2' d3 d3' x0 x0' x1 x1' x2 x2' x3 x3'
      obtain ⟨wf, hwf⟩ : ∃ x, x = putW W2 (g + 1) 0 [.int .i64 k, .int .i64 c, .int .i64 r, .int .i64 n] := ⟨_, rfl⟩
      have kf := putW_all [.int .i64 k, .int .i64 c, .int .i64 r, .int .i64 n] K2.out.hr rfl
      have rf := K2.out.ret (.int .i64 k) (.int .i64 c) (.int .i64 r) (.int .i64 n)
      rw [← hwf] at kf rf
      have cf := hwf.symm
      simp only [putW, Nat.reduceAdd] at cf
      rw [cf]
      clear cf hwf
      have f0 := (cells_of_heap kf 0 (by simp)).1
      have f1 := (cells_of_heap kf 1 (by simp)).1
      have f2 := (cells_of_heap kf 2 (by simp)).1
      have f3 := (cells_of_heap kf 3 (by simp)).1
      simp only [List.getElem_toArray, List.getElem_cons_zero, List.getElem_cons_succ] at f0 f1 f2 f3
      refine bodyPost_ret (v := acv k c r n) (by simp [results, Tryz.results173, go_sem, f0, f1, f2, f3, acv]) rfl ⟨by rfl, rf⟩
    · have HRr := Lib.hid (show r = if (decide (c ≤ 26) && decide (bits .andNot .i64 m1 2 = 0)) = true then 2 else m1 by rw [HRr.out]; simp)
      obtain ⟨y6, y6'⟩ := cells_of_heap K2.out.hy 6 (by simp)
      obtain ⟨a1, a1'⟩ := cells_of_heap K2.out.ha 1 (by simp)
      obtain ⟨a2, a2'⟩ := cells_of_heap K2.out.ha 2 (by simp)
      simp only [List.getElem_toArray, List.getElem_cons_zero, List.getElem_cons_succ] at y6 a1 a2
      by_cases h26 : c ≤ 26
      · obtain ⟨z, hz⟩ : ∃ x, x = bits .andNot .i64 m1 2 := ⟨_, rfl⟩
        have hz' := hz.symm
        have hr2 : r = if z = 0 then 2 else m1 := by rw [HRr.out, ← hz]; simp [h26]
        by_cases h0 : z = 0
        · obtain rfl : r = 2 := by rw [hr2, if_pos h0]
          subst h0
          clear hz hr2
          go_upto_region 7 with (fail)
          clear y6 y6' a1 a1' a2 a2'
          obtain ⟨W5, hW5⟩ : ∃ W, W = W2.setCell ⟨g, 2, none⟩ (.int .i64 2) := ⟨_, rfl⟩
          have k5 : KyW w W5 y g #[.int .i64 ek, u1, u2, .int .i64 ex, u3, .int .i64 0, .bool true] #[.int .i64 k, .int .i64 c, .int .i64 2, .int .i64 n] := by rw [hW5]; exact K2.out.setA 2 (.int .i64 2)
          rw [← hW5]
          have K5 := Lib.hid k5
          clear hW5 k5 K2
          obtain ⟨d0, d0'⟩ := cells_of_heap K5.out.ha 0 (by simp)
          obtain ⟨d1, d1'⟩ := cells_of_heap K5.out.ha 1 (by simp)
          obtain ⟨d2, d2'⟩ := cells_of_heap K5.out.ha 2 (by simp)
          obtain ⟨d3, d3'⟩ := cells_of_heap K5.out.ha 3 (by simp)
          obtain ⟨x0, x0'⟩ := cells_of_heap K5.out.hr 0 (by simp)
          obtain ⟨x1, x1'⟩ := cells_of_heap K5.out.hr 1 (by simp)
          obtain ⟨x2, x2'⟩ := cells_of_heap K5.out.hr 2 (by simp)
          obtain ⟨x3, x3'⟩ := cells_of_heap K5.out.hr 3 (by simp)
          simp only [List.getElem_toArray, List.getElem_cons_zero, List.getElem_cons_succ] at d0 d1 d2 d3 x0 x1 x2 x3
          go_wp2
          clear d0 d0' d1 d1' d2 d2' d3 d3' x0 x0' x1 x1' x2 x2' x3 x3'
          obtain ⟨wf, hwf⟩ : ∃ x, x = putW W5 (g + 1) 0 [.int .i64 k, .int .i64 c, .int .i64 2, .int .i64 n] := ⟨_, rfl⟩
          have kf := putW_all [.int .i64 k, .int .i64 c, .int .i64 2, .int .i64 n] K5.out.hr rfl
          have rf := K5.out.ret (.int .i64 k) (.int .i64 c) (.int .i64 2) (.int .i64 n)
          rw [← hwf] at kf rf
          have cf := hwf.symm
          simp only [putW, Nat.reduceAdd] at cf
          rw [cf]
          clear cf hwf
          have f0 := (cells_of_heap kf 0 (by simp)).1
          have f1 := (cells_of_heap kf 1 (by simp)).1
          have f2 := (cells_of_heap kf 2 (by simp)).1
          have f3 := (cells_of_heap kf 3 (by simp)).1
          simp only [List.getElem_toArray, List.getElem_cons_zero, List.getElem_cons_succ] at f0 f1 f2 f3
          refine bodyPost_ret (v := acv k c 2 n) (by simp [results, Tryz.results173, go_sem, f0, f1, f2, f3, acv]) rfl ⟨by rfl, rf⟩
        · obtain rfl : r = m1 := by rw [hr2, if_neg h0]
          clear hz hr2
          have h0' : (z == 0) = false := beq_false_of_ne h0
          go_upto_region 7 with (fail)
          clear y6 y6' a1 a1' a2 a2'
          obtain ⟨d0, d0'⟩ := cells_of_heap K2.out.ha 0 (by simp)
          obtain ⟨d1, d1'⟩ := cells_of_heap K2.out.ha 1 (by simp)
          obtain ⟨d2, d2'⟩ := cells_of_heap K2.out.ha 2 (by simp)
          obtain ⟨d3, d3'⟩ := cells_of_heap K2.out.ha 3 (by simp)
          obtain ⟨x0, x0'⟩ := cells_of_heap K2.out.hr 0 (by simp)
          obtain ⟨x1, x1'⟩ := cells_of_heap K2.out.hr 1 (by simp)
          obtain ⟨x2, x2'⟩ := cells_of_heap K2.out.hr 2 (by simp)
          obtain ⟨x3, x3'⟩ := cells_of_heap K2.out.hr 3 (by simp)
          simp only [List.getElem_toArray, List.getElem_cons_zero, List.getElem_cons_succ] at d0 d1 d2 d3 x0 x1 x2 x3
          go_wp2
          clear d0 d0' d1 d1' d2 d2' d3 d3' x0 x0' x1 x1' x2 x2' x3 x3'
          obtain ⟨wf, hwf⟩ : ∃ x, x = putW W2 (g + 1) 0 [.int .i64 k, .int .i64 c, .int .i64 r, .int .i64 n] := ⟨_, rfl⟩
          have kf := putW_all [.int .i64 k, .int .i64 c, .int .i64 r, .int .i64 n] K2.out.hr rfl
          have rf := K2.out.ret (.int .i64 k) (.int .i64 c) (.int .i64 r) (.int .i64 n)
          rw [← hwf] at kf rf
          have cf := hwf.symm
          simp only [putW, Nat.reduceAdd] at cf
          rw [cf]
          clear cf hwf
          have f0 := (cells_of_heap kf 0 (by simp)).1
          have f1 := (cells_of_heap kf 1 (by simp)).1
          have f2 := (cells_of_heap kf 2 (by simp)).1
          have f3 := (cells_of_heap kf 3 (by simp)).1
          simp only [List.getElem_toArray, List.getElem_cons_zero, List.getElem_cons_succ] at f0 f1 f2 f3
          refine bodyPost_ret (v := acv k c r n) (by simp [results, Tryz.results173, go_sem, f0, f1, f2, f3, acv]) rfl ⟨by rfl, rf⟩
      · obtain rfl : r = m1 := by rw [HRr.out]; simp [h26]
        go_upto_region 7 with (fail)
        clear y6 y6' a1 a1' a2 a2'
        obtain ⟨d0, d0'⟩ := cells_of_heap K2.out.ha 0 (by simp)
        obtain ⟨d1, d1'⟩ := cells_of_heap K2.out.ha 1 (by simp)
        obtain ⟨d2, d2'⟩ := cells_of_heap K2.out.ha 2 (by simp)
        obtain ⟨d3, d3'⟩ := cells_of_heap K2.out.ha 3 (by simp)
        obtain ⟨x0, x0'⟩ := cells_of_heap K2.out.hr 0 (by simp)
        obtain ⟨x1, x1'⟩ := cells_of_heap K2.out.hr 1 (by simp)
        obtain ⟨x2, x2'⟩ := cells_of_heap K2.out.hr 2 (by simp)
        obtain ⟨x3, x3'⟩ := cells_of_heap K2.out.hr 3 (by simp)
        simp only [List.getElem_toArray, List.getElem_cons_zero, List.getElem_cons_succ] at d0 d1 d2 d3 x0 x1 x2 x3
        go_wp2
        clear d0 d0' d1 d1' d2 d2' d3 d3' x0 x0' x1 x1' x2 x2' x3 x3'
        obtain ⟨wf, hwf⟩ : ∃ x, x = putW W2 (g + 1) 0 [.int .i64 k, .int .i64 c, .int .i64 r, .int .i64 n] := ⟨_, rfl⟩
        have kf := putW_all [.int .i64 k, .int .i64 c, .int .i64 r, .int .i64 n] K2.out.hr rfl
        have rf := K2.out.ret (.int .i64 k) (.int .i64 c) (.int .i64 r) (.int .i64 n)
        rw [← hwf] at kf rf
        have cf := hwf.symm
        simp only [putW, Nat.reduceAdd] at cf
        rw [cf]
        clear cf hwf
        have f0 := (cells_of_heap kf 0 (by simp)).1
        have f1 := (cells_of_heap kf 1 (by simp)).1
        have f2 := (cells_of_heap kf 2 (by simp)).1
        have f3 := (cells_of_heap kf 3 (by simp)).1
        simp only [List.getElem_toArray, List.getElem_cons_zero, List.getElem_cons_succ] at f0 f1 f2 f3
        refine bodyPost_ret (v := acv k c r n) (by simp [results, Tryz.results173, go_sem, f0, f1, f2, f3, acv]) rfl ⟨by rfl, rf⟩

end Go.Proofs.YtjfckchoklepbaaGreat
