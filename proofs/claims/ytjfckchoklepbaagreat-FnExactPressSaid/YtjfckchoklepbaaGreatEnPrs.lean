/- DERIVED. The reference's l9Settle: what an action does at once, to the engine behind the pointer, and the action that is held. Toggles and to-layers: layers 0 to 3. Written by gen_EnSettle.py. · The reference's Press: the key's action is settled, the key is held, and the reports change. Called with any engine of at most 1048576 layers, macros, steps and held keys. -/
import Derived.Test.YtjfckchoklepbaaGreatEnKey
import Derived.Test.YtjfckchoklepbaaGreatEnPr
import Derived.Test.YtjfckchoklepbaaGreatEnChg
import Derived.Test.YtjfckchoklepbaaGreatAcTapO
import Derived.Test.YtjfckchoklepbaaGreatEnOwn
namespace Go.Proofs.YtjfckchoklepbaaGreat
open Go.RowKit

theorem KyW.grown {w W W1 : World} {y g : Nat} {cy ca cy1 : Array Value} (h : KyW w W y g cy ca) (h1 : W1.heap[y]? = some (.cells cy1 30 (0, 0))) (hg : W.grownBy W1 (some y)) : KyW w W1 y g cy1 ca :=
  ⟨h1, (hg.block g (Array.getElem?_eq_some_iff.mp h.ha).1 (by have := h.lt; simp; omega)).trans h.ha, (hg.block (g + 1) (Array.getElem?_eq_some_iff.mp h.hr).1 (by have := h.lt; simp; omega)).trans h.hr, grown_trans h.gr hg, h.lt, h.low⟩
theorem KyW.drewN {w W : World} {y g : Nat} {cy ca : Array Value} (h : KyW w W y g cy ca) (n : Nat) : KyW w (W.drewN n) y g cy ca := ⟨h.hy, h.ha, h.hr, grown_trans h.gr (grown_drewN W n _), h.lt, h.low⟩
set_option maxRecDepth 100000 in
set_option maxHeartbeats 16000000 in
theorem specL9Settle_any (e : En) (u1 u2 u3 : Value) (y : Nat) (k c m n : Int) (w : World) (hn : k = 4 ∨ k = 5 → 0 ≤ n ∧ n ≤ 3) (hy : w.heap[y]? = some (.cells #[.int .i64 e.k, u1, u2, .int .i64 e.x, u3, .int .i64 e.o, .bool e.p] 30 (0, 0))) :
    Calls Tryz.prog 105 #[.pointer (some ⟨y, 0, none⟩), acv k c m n] w (KyO y #[.int .i64 e.k, u1, u2, .int .i64 (setO e ⟨k, c, m, n⟩).1.x, u3, .int .i64 (setO e ⟨k, c, m, n⟩).1.o, .bool (setO e ⟨k, c, m, n⟩).1.p] (setO e ⟨k, c, m, n⟩).2 w) := by
  obtain ⟨ek, eL, eF, ex, eH, eo, ep⟩ := e
  rw [setO_2]
  simp only at hy ⊢
  obtain ⟨x', hx⟩ : ∃ v, v = (setO ⟨ek, eL, eF, ex, eH, eo, ep⟩ ⟨k, c, m, n⟩).1.x := ⟨_, rfl⟩
  obtain ⟨o', ho⟩ : ∃ v, v = (setO ⟨ek, eL, eF, ex, eH, eo, ep⟩ ⟨k, c, m, n⟩).1.o := ⟨_, rfl⟩
  obtain ⟨p', hp⟩ : ∃ v, v = (setO ⟨ek, eL, eF, ex, eH, eo, ep⟩ ⟨k, c, m, n⟩).1.p := ⟨_, rfl⟩
  obtain ⟨m', hm⟩ : ∃ v, v = (setO ⟨ek, eL, eF, ex, eH, eo, ep⟩ ⟨k, c, m, n⟩).2.m := ⟨_, rfl⟩
  rw [← hx, ← ho, ← hp, ← hm]
  unfold setO at hx ho hp hm
  simp only at hx ho hp hm
  obtain ⟨V, hV⟩ : ∃ V, V = (w.alloc (.cells #[.int .i64 k, .int .i64 c, .int .i64 m, .int .i64 n] 41)).alloc (.cells #[.int .i64 0, .int .i64 0, .int .i64 0, .int .i64 0] 41) := ⟨_, rfl⟩
  have k0 := KyW.start (ca := #[.int .i64 k, .int .i64 c, .int .i64 m, .int .i64 n]) hy
  rw [← hV] at k0
  obtain ⟨g, hg⟩ : ∃ g, g = w.heap.size := ⟨_, rfl⟩
  rw [← hg] at k0
  have K0 := Lib.hid k0
  have hne : ¬ y = g := by have := k0.lt; omega
  have hne' : ¬ g = y := fun e => hne e.symm
  have HX := Lib.hid hx
  have HO := Lib.hid ho
  have HP := Lib.hid hp
  have HM := Lib.hid hm
  have HN := Lib.hid hn
  have HV := Lib.hid hV
  have HG := Lib.hid hg
  clear hx ho hp hm hV k0 hg hy hn
  go_enter Tryz.func105, Tryz.ntmps105
  go_upto_region 1 with (fail)
  rw [← HV.out, ← HG.out]
  clear HV HG
  obtain ⟨a0, a0'⟩ := cells_of_heap K0.out.ha 0 (by simp)
  obtain ⟨a1, a1'⟩ := cells_of_heap K0.out.ha 1 (by simp)
  obtain ⟨a2, a2'⟩ := cells_of_heap K0.out.ha 2 (by simp)
  obtain ⟨a3, a3'⟩ := cells_of_heap K0.out.ha 3 (by simp)
  obtain ⟨y3, y3'⟩ := cells_of_heap K0.out.hy 3 (by simp)
  obtain ⟨y5, y5'⟩ := cells_of_heap K0.out.hy 5 (by simp)
  obtain ⟨y6, y6'⟩ := cells_of_heap K0.out.hy 6 (by simp)
  simp only [List.getElem_toArray, List.getElem_cons_zero, List.getElem_cons_succ] at a0 a1 a2 a3 y3 y5 y6
  by_cases k2 : k = 2
  · subst k2
    by_cases hc : 0 < c
    · obtain ⟨z, hz⟩ : ∃ v, v = (keyO ⟨ek, eL, eF, ex, eH, eo, ep⟩ c m).2 := ⟨_, rfl⟩
      obtain rfl : ex = x' := Eq.symm (show x' = ex by rw [HX.out]; simp [hc, keyO])
      obtain rfl : o' = 0 := by rw [HO.out]; simp [hc, keyO]
      obtain rfl : p' = (ep && wordC c) := by rw [HP.out]; simp [hc, keyO]
      obtain rfl : z = m' := Eq.symm (show m' = z by rw [HM.out, hz]; simp [hc])
      clear HX HO HP HM
      have HZ := Lib.hid hz
      clear hz
      go_wp2_with fail
      clear a0 a0' a1 a1' a2 a2' a3 a3' y3 y3' y5 y5' y6 y6'
      refine (specL9Key_any ⟨ek, eL, eF, ex, eH, eo, ep⟩ u1 u2 u3 y 2 c m n _ K0.out.hy).mono ?_
      rintro r w1 ⟨rfl, hy1, hg1⟩
      have K1 := Lib.hid (K0.out.grown hy1 hg1)
      clear hy1 hg1 K0
      rw [← HZ.out]
      clear HZ
      obtain ⟨x0, x0'⟩ := cells_of_heap K1.out.hr 0 (by simp)
      obtain ⟨x1, x1'⟩ := cells_of_heap K1.out.hr 1 (by simp)
      obtain ⟨x2, x2'⟩ := cells_of_heap K1.out.hr 2 (by simp)
      obtain ⟨x3, x3'⟩ := cells_of_heap K1.out.hr 3 (by simp)
      simp only [List.getElem_toArray, List.getElem_cons_zero, List.getElem_cons_succ] at x0 x1 x2 x3
      go_wp2
      clear x0 x0' x1 x1' x2 x2' x3 x3'
      obtain ⟨wf, hwf⟩ : ∃ x, x = putW w1 (g + 1) 0 [.int .i64 2, .int .i64 c, .int .i64 z, .int .i64 n] := ⟨_, rfl⟩
      have kf := putW_all [.int .i64 2, .int .i64 c, .int .i64 z, .int .i64 n] K1.out.hr rfl
      have rf := K1.out.ret (.int .i64 2) (.int .i64 c) (.int .i64 z) (.int .i64 n)
      rw [← hwf] at kf rf
      have cf := hwf.symm
      simp only [putW, Nat.reduceAdd] at cf
      rw [cf]
      clear cf hwf
      have f0 := (cells_of_heap kf 0 (by simp)).1
      have f1 := (cells_of_heap kf 1 (by simp)).1
      have f2 := (cells_of_heap kf 2 (by simp)).1
      have f3 := (cells_of_heap kf 3 (by simp)).1
      simp only [List.getElem_toArray, List.getElem_cons_zero, List.getElem_cons_succ] at f0 f1 f2 f3
      refine bodyPost_ret (v := acv 2 c z n) (by simp [results, Tryz.results105, go_sem, f0, f1, f2, f3, acv]) rfl ⟨by rfl, rf⟩
    · have hx0 := hc
      obtain rfl : ex = x' := Eq.symm (show x' = ex by rw [HX.out]; simp [hc])
      obtain rfl : eo = o' := Eq.symm (show o' = eo by rw [HO.out]; simp [hc])
      obtain rfl : ep = p' := Eq.symm (show p' = ep by rw [HP.out]; simp [hc])
      obtain rfl : m = m' := Eq.symm (show m' = m by rw [HM.out]; simp [hc])
      clear HX HO HP HM
      go_upto_region 15 with (fail)
      clear a0 a0' a1 a1' a2 a2' a3 a3' y3 y3' y5 y5' y6 y6'
      obtain ⟨d0, d0'⟩ := cells_of_heap K0.out.ha 0 (by simp)
      obtain ⟨d1, d1'⟩ := cells_of_heap K0.out.ha 1 (by simp)
      obtain ⟨d2, d2'⟩ := cells_of_heap K0.out.ha 2 (by simp)
      obtain ⟨d3, d3'⟩ := cells_of_heap K0.out.ha 3 (by simp)
      obtain ⟨x0, x0'⟩ := cells_of_heap K0.out.hr 0 (by simp)
      obtain ⟨x1, x1'⟩ := cells_of_heap K0.out.hr 1 (by simp)
      obtain ⟨x2, x2'⟩ := cells_of_heap K0.out.hr 2 (by simp)
      obtain ⟨x3, x3'⟩ := cells_of_heap K0.out.hr 3 (by simp)
      simp only [List.getElem_toArray, List.getElem_cons_zero, List.getElem_cons_succ] at d0 d1 d2 d3 x0 x1 x2 x3
      go_wp2
      clear d0 d0' d1 d1' d2 d2' d3 d3' x0 x0' x1 x1' x2 x2' x3 x3'
      obtain ⟨wf, hwf⟩ : ∃ x, x = putW V (g + 1) 0 [.int .i64 2, .int .i64 c, .int .i64 m, .int .i64 n] := ⟨_, rfl⟩
      have kf := putW_all [.int .i64 2, .int .i64 c, .int .i64 m, .int .i64 n] K0.out.hr rfl
      have rf := K0.out.ret (.int .i64 2) (.int .i64 c) (.int .i64 m) (.int .i64 n)
      rw [← hwf] at kf rf
      have cf := hwf.symm
      simp only [putW, Nat.reduceAdd] at cf
      rw [cf]
      clear cf hwf
      have f0 := (cells_of_heap kf 0 (by simp)).1
      have f1 := (cells_of_heap kf 1 (by simp)).1
      have f2 := (cells_of_heap kf 2 (by simp)).1
      have f3 := (cells_of_heap kf 3 (by simp)).1
      simp only [List.getElem_toArray, List.getElem_cons_zero, List.getElem_cons_succ] at f0 f1 f2 f3
      refine bodyPost_ret (v := acv 2 c m n) (by simp [results, Tryz.results105, go_sem, f0, f1, f2, f3, acv]) rfl ⟨by rfl, rf⟩
  by_cases k4 : k = 4
  · subst k4
    have hn := HN.out (.inl rfl)
    rcases (show n = 0 ∨ n = 1 ∨ n = 2 ∨ n = 3 by omega) with rfl | rfl | rfl | rfl
    · clear hn
      obtain ⟨z, hz⟩ : ∃ v, v = bits .xor .i64 ex 1 := ⟨_, rfl⟩
      have hz' := hz.symm
      obtain rfl : z = x' := Eq.symm (show x' = z by rw [HX.out, hz]; simp)
      obtain rfl : eo = o' := Eq.symm (show o' = eo by rw [HO.out]; simp)
      obtain rfl : ep = p' := Eq.symm (show p' = ep by rw [HP.out]; simp)
      obtain rfl : m = m' := Eq.symm (show m' = m by rw [HM.out]; simp)
      clear HX HO HP HM
      clear hz
      go_upto_region 6 with (fail)
      go_still_tail 11, (by kernel_rfl)
      go_upto_region 15 with (fail)
      first | rw [hz'] | rw [hv'] | skip
      clear a0 a0' a1 a1' a2 a2' a3 a3' y3 y3' y5 y5' y6 y6'
      obtain ⟨W9, hW9⟩ : ∃ W, W = (V.setCell ⟨y, 3, none⟩ (.int .i64 z)).drew := ⟨_, rfl⟩
      have k9 : KyW w W9 y g #[.int .i64 ek, u1, u2, .int .i64 z, u3, .int .i64 eo, .bool ep] #[.int .i64 4, .int .i64 c, .int .i64 m, .int .i64 0] := by rw [hW9]; exact (K0.out.setY 3 (.int .i64 z)).drew
      rw [← hW9]
      have K9 := Lib.hid k9
      clear hW9 k9 K0
      obtain ⟨d0, d0'⟩ := cells_of_heap K9.out.ha 0 (by simp)
      obtain ⟨d1, d1'⟩ := cells_of_heap K9.out.ha 1 (by simp)
      obtain ⟨d2, d2'⟩ := cells_of_heap K9.out.ha 2 (by simp)
      obtain ⟨d3, d3'⟩ := cells_of_heap K9.out.ha 3 (by simp)
      obtain ⟨x0, x0'⟩ := cells_of_heap K9.out.hr 0 (by simp)
      obtain ⟨x1, x1'⟩ := cells_of_heap K9.out.hr 1 (by simp)
      obtain ⟨x2, x2'⟩ := cells_of_heap K9.out.hr 2 (by simp)
      obtain ⟨x3, x3'⟩ := cells_of_heap K9.out.hr 3 (by simp)
      simp only [List.getElem_toArray, List.getElem_cons_zero, List.getElem_cons_succ] at d0 d1 d2 d3 x0 x1 x2 x3
      go_wp2
      clear d0 d0' d1 d1' d2 d2' d3 d3' x0 x0' x1 x1' x2 x2' x3 x3'
      obtain ⟨wf, hwf⟩ : ∃ x, x = putW W9 (g + 1) 0 [.int .i64 4, .int .i64 c, .int .i64 m, .int .i64 0] := ⟨_, rfl⟩
      have kf := putW_all [.int .i64 4, .int .i64 c, .int .i64 m, .int .i64 0] K9.out.hr rfl
      have rf := K9.out.ret (.int .i64 4) (.int .i64 c) (.int .i64 m) (.int .i64 0)
      rw [← hwf] at kf rf
      have cf := hwf.symm
      simp only [putW, Nat.reduceAdd] at cf
      rw [cf]
      clear cf hwf
      have f0 := (cells_of_heap kf 0 (by simp)).1
      have f1 := (cells_of_heap kf 1 (by simp)).1
      have f2 := (cells_of_heap kf 2 (by simp)).1
      have f3 := (cells_of_heap kf 3 (by simp)).1
      simp only [List.getElem_toArray, List.getElem_cons_zero, List.getElem_cons_succ] at f0 f1 f2 f3
      refine bodyPost_ret (v := acv 4 c m 0) (by simp [results, Tryz.results105, go_sem, f0, f1, f2, f3, acv]) rfl ⟨by rfl, rf⟩
    · clear hn
      obtain ⟨z, hz⟩ : ∃ v, v = bits .xor .i64 ex 2 := ⟨_, rfl⟩
      have hz' := hz.symm
      obtain rfl : z = x' := Eq.symm (show x' = z by rw [HX.out, hz]; simp)
      obtain rfl : eo = o' := Eq.symm (show o' = eo by rw [HO.out]; simp)
      obtain rfl : ep = p' := Eq.symm (show p' = ep by rw [HP.out]; simp)
      obtain rfl : m = m' := Eq.symm (show m' = m by rw [HM.out]; simp)
      clear HX HO HP HM
      clear hz
      go_upto_region 6 with (fail)
      go_still_tail 11, (by kernel_rfl)
      go_upto_region 15 with (fail)
      first | rw [hz'] | rw [hv'] | skip
      clear a0 a0' a1 a1' a2 a2' a3 a3' y3 y3' y5 y5' y6 y6'
      obtain ⟨W9, hW9⟩ : ∃ W, W = (V.setCell ⟨y, 3, none⟩ (.int .i64 z)).drew := ⟨_, rfl⟩
      have k9 : KyW w W9 y g #[.int .i64 ek, u1, u2, .int .i64 z, u3, .int .i64 eo, .bool ep] #[.int .i64 4, .int .i64 c, .int .i64 m, .int .i64 1] := by rw [hW9]; exact (K0.out.setY 3 (.int .i64 z)).drew
      rw [← hW9]
      have K9 := Lib.hid k9
      clear hW9 k9 K0
      obtain ⟨d0, d0'⟩ := cells_of_heap K9.out.ha 0 (by simp)
      obtain ⟨d1, d1'⟩ := cells_of_heap K9.out.ha 1 (by simp)
      obtain ⟨d2, d2'⟩ := cells_of_heap K9.out.ha 2 (by simp)
      obtain ⟨d3, d3'⟩ := cells_of_heap K9.out.ha 3 (by simp)
      obtain ⟨x0, x0'⟩ := cells_of_heap K9.out.hr 0 (by simp)
      obtain ⟨x1, x1'⟩ := cells_of_heap K9.out.hr 1 (by simp)
      obtain ⟨x2, x2'⟩ := cells_of_heap K9.out.hr 2 (by simp)
      obtain ⟨x3, x3'⟩ := cells_of_heap K9.out.hr 3 (by simp)
      simp only [List.getElem_toArray, List.getElem_cons_zero, List.getElem_cons_succ] at d0 d1 d2 d3 x0 x1 x2 x3
      go_wp2
      clear d0 d0' d1 d1' d2 d2' d3 d3' x0 x0' x1 x1' x2 x2' x3 x3'
      obtain ⟨wf, hwf⟩ : ∃ x, x = putW W9 (g + 1) 0 [.int .i64 4, .int .i64 c, .int .i64 m, .int .i64 1] := ⟨_, rfl⟩
      have kf := putW_all [.int .i64 4, .int .i64 c, .int .i64 m, .int .i64 1] K9.out.hr rfl
      have rf := K9.out.ret (.int .i64 4) (.int .i64 c) (.int .i64 m) (.int .i64 1)
      rw [← hwf] at kf rf
      have cf := hwf.symm
      simp only [putW, Nat.reduceAdd] at cf
      rw [cf]
      clear cf hwf
      have f0 := (cells_of_heap kf 0 (by simp)).1
      have f1 := (cells_of_heap kf 1 (by simp)).1
      have f2 := (cells_of_heap kf 2 (by simp)).1
      have f3 := (cells_of_heap kf 3 (by simp)).1
      simp only [List.getElem_toArray, List.getElem_cons_zero, List.getElem_cons_succ] at f0 f1 f2 f3
      refine bodyPost_ret (v := acv 4 c m 1) (by simp [results, Tryz.results105, go_sem, f0, f1, f2, f3, acv]) rfl ⟨by rfl, rf⟩
    · clear hn
      obtain ⟨z, hz⟩ : ∃ v, v = bits .xor .i64 ex 4 := ⟨_, rfl⟩
      have hz' := hz.symm
      obtain rfl : z = x' := Eq.symm (show x' = z by rw [HX.out, hz]; simp)
      obtain rfl : eo = o' := Eq.symm (show o' = eo by rw [HO.out]; simp)
      obtain rfl : ep = p' := Eq.symm (show p' = ep by rw [HP.out]; simp)
      obtain rfl : m = m' := Eq.symm (show m' = m by rw [HM.out]; simp)
      clear HX HO HP HM
      clear hz
      go_upto_region 6 with (fail)
      go_still_tail 11, (by kernel_rfl)
      go_upto_region 15 with (fail)
      first | rw [hz'] | rw [hv'] | skip
      clear a0 a0' a1 a1' a2 a2' a3 a3' y3 y3' y5 y5' y6 y6'
      obtain ⟨W9, hW9⟩ : ∃ W, W = (V.setCell ⟨y, 3, none⟩ (.int .i64 z)).drew := ⟨_, rfl⟩
      have k9 : KyW w W9 y g #[.int .i64 ek, u1, u2, .int .i64 z, u3, .int .i64 eo, .bool ep] #[.int .i64 4, .int .i64 c, .int .i64 m, .int .i64 2] := by rw [hW9]; exact (K0.out.setY 3 (.int .i64 z)).drew
      rw [← hW9]
      have K9 := Lib.hid k9
      clear hW9 k9 K0
      obtain ⟨d0, d0'⟩ := cells_of_heap K9.out.ha 0 (by simp)
      obtain ⟨d1, d1'⟩ := cells_of_heap K9.out.ha 1 (by simp)
      obtain ⟨d2, d2'⟩ := cells_of_heap K9.out.ha 2 (by simp)
      obtain ⟨d3, d3'⟩ := cells_of_heap K9.out.ha 3 (by simp)
      obtain ⟨x0, x0'⟩ := cells_of_heap K9.out.hr 0 (by simp)
      obtain ⟨x1, x1'⟩ := cells_of_heap K9.out.hr 1 (by simp)
      obtain ⟨x2, x2'⟩ := cells_of_heap K9.out.hr 2 (by simp)
      obtain ⟨x3, x3'⟩ := cells_of_heap K9.out.hr 3 (by simp)
      simp only [List.getElem_toArray, List.getElem_cons_zero, List.getElem_cons_succ] at d0 d1 d2 d3 x0 x1 x2 x3
      go_wp2
      clear d0 d0' d1 d1' d2 d2' d3 d3' x0 x0' x1 x1' x2 x2' x3 x3'
      obtain ⟨wf, hwf⟩ : ∃ x, x = putW W9 (g + 1) 0 [.int .i64 4, .int .i64 c, .int .i64 m, .int .i64 2] := ⟨_, rfl⟩
      have kf := putW_all [.int .i64 4, .int .i64 c, .int .i64 m, .int .i64 2] K9.out.hr rfl
      have rf := K9.out.ret (.int .i64 4) (.int .i64 c) (.int .i64 m) (.int .i64 2)
      rw [← hwf] at kf rf
      have cf := hwf.symm
      simp only [putW, Nat.reduceAdd] at cf
      rw [cf]
      clear cf hwf
      have f0 := (cells_of_heap kf 0 (by simp)).1
      have f1 := (cells_of_heap kf 1 (by simp)).1
      have f2 := (cells_of_heap kf 2 (by simp)).1
      have f3 := (cells_of_heap kf 3 (by simp)).1
      simp only [List.getElem_toArray, List.getElem_cons_zero, List.getElem_cons_succ] at f0 f1 f2 f3
      refine bodyPost_ret (v := acv 4 c m 2) (by simp [results, Tryz.results105, go_sem, f0, f1, f2, f3, acv]) rfl ⟨by rfl, rf⟩
    · clear hn
      obtain ⟨z, hz⟩ : ∃ v, v = bits .xor .i64 ex 8 := ⟨_, rfl⟩
      have hz' := hz.symm
      obtain rfl : z = x' := Eq.symm (show x' = z by rw [HX.out, hz]; simp)
      obtain rfl : eo = o' := Eq.symm (show o' = eo by rw [HO.out]; simp)
      obtain rfl : ep = p' := Eq.symm (show p' = ep by rw [HP.out]; simp)
      obtain rfl : m = m' := Eq.symm (show m' = m by rw [HM.out]; simp)
      clear HX HO HP HM
      clear hz
      go_upto_region 6 with (fail)
      go_still_tail 11, (by kernel_rfl)
      go_upto_region 15 with (fail)
      first | rw [hz'] | rw [hv'] | skip
      clear a0 a0' a1 a1' a2 a2' a3 a3' y3 y3' y5 y5' y6 y6'
      obtain ⟨W9, hW9⟩ : ∃ W, W = (V.setCell ⟨y, 3, none⟩ (.int .i64 z)).drew := ⟨_, rfl⟩
      have k9 : KyW w W9 y g #[.int .i64 ek, u1, u2, .int .i64 z, u3, .int .i64 eo, .bool ep] #[.int .i64 4, .int .i64 c, .int .i64 m, .int .i64 3] := by rw [hW9]; exact (K0.out.setY 3 (.int .i64 z)).drew
      rw [← hW9]
      have K9 := Lib.hid k9
      clear hW9 k9 K0
      obtain ⟨d0, d0'⟩ := cells_of_heap K9.out.ha 0 (by simp)
      obtain ⟨d1, d1'⟩ := cells_of_heap K9.out.ha 1 (by simp)
      obtain ⟨d2, d2'⟩ := cells_of_heap K9.out.ha 2 (by simp)
      obtain ⟨d3, d3'⟩ := cells_of_heap K9.out.ha 3 (by simp)
      obtain ⟨x0, x0'⟩ := cells_of_heap K9.out.hr 0 (by simp)
      obtain ⟨x1, x1'⟩ := cells_of_heap K9.out.hr 1 (by simp)
      obtain ⟨x2, x2'⟩ := cells_of_heap K9.out.hr 2 (by simp)
      obtain ⟨x3, x3'⟩ := cells_of_heap K9.out.hr 3 (by simp)
      simp only [List.getElem_toArray, List.getElem_cons_zero, List.getElem_cons_succ] at d0 d1 d2 d3 x0 x1 x2 x3
      go_wp2
      clear d0 d0' d1 d1' d2 d2' d3 d3' x0 x0' x1 x1' x2 x2' x3 x3'
      obtain ⟨wf, hwf⟩ : ∃ x, x = putW W9 (g + 1) 0 [.int .i64 4, .int .i64 c, .int .i64 m, .int .i64 3] := ⟨_, rfl⟩
      have kf := putW_all [.int .i64 4, .int .i64 c, .int .i64 m, .int .i64 3] K9.out.hr rfl
      have rf := K9.out.ret (.int .i64 4) (.int .i64 c) (.int .i64 m) (.int .i64 3)
      rw [← hwf] at kf rf
      have cf := hwf.symm
      simp only [putW, Nat.reduceAdd] at cf
      rw [cf]
      clear cf hwf
      have f0 := (cells_of_heap kf 0 (by simp)).1
      have f1 := (cells_of_heap kf 1 (by simp)).1
      have f2 := (cells_of_heap kf 2 (by simp)).1
      have f3 := (cells_of_heap kf 3 (by simp)).1
      simp only [List.getElem_toArray, List.getElem_cons_zero, List.getElem_cons_succ] at f0 f1 f2 f3
      refine bodyPost_ret (v := acv 4 c m 3) (by simp [results, Tryz.results105, go_sem, f0, f1, f2, f3, acv]) rfl ⟨by rfl, rf⟩
  by_cases k5 : k = 5
  · subst k5
    have hn := HN.out (.inr rfl)
    rcases (show n = 0 ∨ n = 1 ∨ n = 2 ∨ n = 3 by omega) with rfl | rfl | rfl | rfl
    · clear hn
      obtain ⟨z, hz⟩ : ∃ v, v = bits .andNot .i64 1 1 := ⟨_, rfl⟩
      have hz' := hz.symm
      obtain rfl : z = x' := Eq.symm (show x' = z by rw [HX.out, hz]; rfl)
      obtain rfl : eo = o' := Eq.symm (show o' = eo by rw [HO.out]; simp)
      obtain rfl : ep = p' := Eq.symm (show p' = ep by rw [HP.out]; simp)
      obtain rfl : m = m' := Eq.symm (show m' = m by rw [HM.out]; simp)
      clear HX HO HP HM
      clear hz
      go_upto_region 15 with (fail)
      clear a0 a0' a1 a1' a2 a2' a3 a3' y3 y3' y5 y5' y6 y6'
      obtain ⟨W9, hW9⟩ : ∃ W, W = V.setCell ⟨y, 3, none⟩ (.int .i64 z) := ⟨_, rfl⟩
      have k9 : KyW w W9 y g #[.int .i64 ek, u1, u2, .int .i64 z, u3, .int .i64 eo, .bool ep] #[.int .i64 5, .int .i64 c, .int .i64 m, .int .i64 0] := by rw [hW9]; exact K0.out.setY 3 (.int .i64 z)
      rw [← hW9]
      have K9 := Lib.hid k9
      clear hW9 k9 K0
      obtain ⟨d0, d0'⟩ := cells_of_heap K9.out.ha 0 (by simp)
      obtain ⟨d1, d1'⟩ := cells_of_heap K9.out.ha 1 (by simp)
      obtain ⟨d2, d2'⟩ := cells_of_heap K9.out.ha 2 (by simp)
      obtain ⟨d3, d3'⟩ := cells_of_heap K9.out.ha 3 (by simp)
      obtain ⟨x0, x0'⟩ := cells_of_heap K9.out.hr 0 (by simp)
      obtain ⟨x1, x1'⟩ := cells_of_heap K9.out.hr 1 (by simp)
      obtain ⟨x2, x2'⟩ := cells_of_heap K9.out.hr 2 (by simp)
      obtain ⟨x3, x3'⟩ := cells_of_heap K9.out.hr 3 (by simp)
      simp only [List.getElem_toArray, List.getElem_cons_zero, List.getElem_cons_succ] at d0 d1 d2 d3 x0 x1 x2 x3
      go_wp2
      clear d0 d0' d1 d1' d2 d2' d3 d3' x0 x0' x1 x1' x2 x2' x3 x3'
      obtain ⟨wf, hwf⟩ : ∃ x, x = putW W9 (g + 1) 0 [.int .i64 5, .int .i64 c, .int .i64 m, .int .i64 0] := ⟨_, rfl⟩
      have kf := putW_all [.int .i64 5, .int .i64 c, .int .i64 m, .int .i64 0] K9.out.hr rfl
      have rf := K9.out.ret (.int .i64 5) (.int .i64 c) (.int .i64 m) (.int .i64 0)
      rw [← hwf] at kf rf
      have cf := hwf.symm
      simp only [putW, Nat.reduceAdd] at cf
      rw [cf]
      clear cf hwf
      have f0 := (cells_of_heap kf 0 (by simp)).1
      have f1 := (cells_of_heap kf 1 (by simp)).1
      have f2 := (cells_of_heap kf 2 (by simp)).1
      have f3 := (cells_of_heap kf 3 (by simp)).1
      simp only [List.getElem_toArray, List.getElem_cons_zero, List.getElem_cons_succ] at f0 f1 f2 f3
      refine bodyPost_ret (v := acv 5 c m 0) (by simp [results, Tryz.results105, go_sem, f0, f1, f2, f3, acv]) rfl ⟨by rfl, rf⟩
    · clear hn
      obtain ⟨z, hz⟩ : ∃ v, v = bits .andNot .i64 2 1 := ⟨_, rfl⟩
      have hz' := hz.symm
      obtain rfl : z = x' := Eq.symm (show x' = z by rw [HX.out, hz]; rfl)
      obtain rfl : eo = o' := Eq.symm (show o' = eo by rw [HO.out]; simp)
      obtain rfl : ep = p' := Eq.symm (show p' = ep by rw [HP.out]; simp)
      obtain rfl : m = m' := Eq.symm (show m' = m by rw [HM.out]; simp)
      clear HX HO HP HM
      clear hz
      go_upto_region 15 with (fail)
      clear a0 a0' a1 a1' a2 a2' a3 a3' y3 y3' y5 y5' y6 y6'
      obtain ⟨W9, hW9⟩ : ∃ W, W = V.setCell ⟨y, 3, none⟩ (.int .i64 z) := ⟨_, rfl⟩
      have k9 : KyW w W9 y g #[.int .i64 ek, u1, u2, .int .i64 z, u3, .int .i64 eo, .bool ep] #[.int .i64 5, .int .i64 c, .int .i64 m, .int .i64 1] := by rw [hW9]; exact K0.out.setY 3 (.int .i64 z)
      rw [← hW9]
      have K9 := Lib.hid k9
      clear hW9 k9 K0
      obtain ⟨d0, d0'⟩ := cells_of_heap K9.out.ha 0 (by simp)
      obtain ⟨d1, d1'⟩ := cells_of_heap K9.out.ha 1 (by simp)
      obtain ⟨d2, d2'⟩ := cells_of_heap K9.out.ha 2 (by simp)
      obtain ⟨d3, d3'⟩ := cells_of_heap K9.out.ha 3 (by simp)
      obtain ⟨x0, x0'⟩ := cells_of_heap K9.out.hr 0 (by simp)
      obtain ⟨x1, x1'⟩ := cells_of_heap K9.out.hr 1 (by simp)
      obtain ⟨x2, x2'⟩ := cells_of_heap K9.out.hr 2 (by simp)
      obtain ⟨x3, x3'⟩ := cells_of_heap K9.out.hr 3 (by simp)
      simp only [List.getElem_toArray, List.getElem_cons_zero, List.getElem_cons_succ] at d0 d1 d2 d3 x0 x1 x2 x3
      go_wp2
      clear d0 d0' d1 d1' d2 d2' d3 d3' x0 x0' x1 x1' x2 x2' x3 x3'
      obtain ⟨wf, hwf⟩ : ∃ x, x = putW W9 (g + 1) 0 [.int .i64 5, .int .i64 c, .int .i64 m, .int .i64 1] := ⟨_, rfl⟩
      have kf := putW_all [.int .i64 5, .int .i64 c, .int .i64 m, .int .i64 1] K9.out.hr rfl
      have rf := K9.out.ret (.int .i64 5) (.int .i64 c) (.int .i64 m) (.int .i64 1)
      rw [← hwf] at kf rf
      have cf := hwf.symm
      simp only [putW, Nat.reduceAdd] at cf
      rw [cf]
      clear cf hwf
      have f0 := (cells_of_heap kf 0 (by simp)).1
      have f1 := (cells_of_heap kf 1 (by simp)).1
      have f2 := (cells_of_heap kf 2 (by simp)).1
      have f3 := (cells_of_heap kf 3 (by simp)).1
      simp only [List.getElem_toArray, List.getElem_cons_zero, List.getElem_cons_succ] at f0 f1 f2 f3
      refine bodyPost_ret (v := acv 5 c m 1) (by simp [results, Tryz.results105, go_sem, f0, f1, f2, f3, acv]) rfl ⟨by rfl, rf⟩
    · clear hn
      obtain ⟨z, hz⟩ : ∃ v, v = bits .andNot .i64 4 1 := ⟨_, rfl⟩
      have hz' := hz.symm
      obtain rfl : z = x' := Eq.symm (show x' = z by rw [HX.out, hz]; rfl)
      obtain rfl : eo = o' := Eq.symm (show o' = eo by rw [HO.out]; simp)
      obtain rfl : ep = p' := Eq.symm (show p' = ep by rw [HP.out]; simp)
      obtain rfl : m = m' := Eq.symm (show m' = m by rw [HM.out]; simp)
      clear HX HO HP HM
      clear hz
      go_upto_region 15 with (fail)
      clear a0 a0' a1 a1' a2 a2' a3 a3' y3 y3' y5 y5' y6 y6'
      obtain ⟨W9, hW9⟩ : ∃ W, W = V.setCell ⟨y, 3, none⟩ (.int .i64 z) := ⟨_, rfl⟩
      have k9 : KyW w W9 y g #[.int .i64 ek, u1, u2, .int .i64 z, u3, .int .i64 eo, .bool ep] #[.int .i64 5, .int .i64 c, .int .i64 m, .int .i64 2] := by rw [hW9]; exact K0.out.setY 3 (.int .i64 z)
      rw [← hW9]
      have K9 := Lib.hid k9
      clear hW9 k9 K0
      obtain ⟨d0, d0'⟩ := cells_of_heap K9.out.ha 0 (by simp)
      obtain ⟨d1, d1'⟩ := cells_of_heap K9.out.ha 1 (by simp)
      obtain ⟨d2, d2'⟩ := cells_of_heap K9.out.ha 2 (by simp)
      obtain ⟨d3, d3'⟩ := cells_of_heap K9.out.ha 3 (by simp)
      obtain ⟨x0, x0'⟩ := cells_of_heap K9.out.hr 0 (by simp)
      obtain ⟨x1, x1'⟩ := cells_of_heap K9.out.hr 1 (by simp)
      obtain ⟨x2, x2'⟩ := cells_of_heap K9.out.hr 2 (by simp)
      obtain ⟨x3, x3'⟩ := cells_of_heap K9.out.hr 3 (by simp)
      simp only [List.getElem_toArray, List.getElem_cons_zero, List.getElem_cons_succ] at d0 d1 d2 d3 x0 x1 x2 x3
      go_wp2
      clear d0 d0' d1 d1' d2 d2' d3 d3' x0 x0' x1 x1' x2 x2' x3 x3'
      obtain ⟨wf, hwf⟩ : ∃ x, x = putW W9 (g + 1) 0 [.int .i64 5, .int .i64 c, .int .i64 m, .int .i64 2] := ⟨_, rfl⟩
      have kf := putW_all [.int .i64 5, .int .i64 c, .int .i64 m, .int .i64 2] K9.out.hr rfl
      have rf := K9.out.ret (.int .i64 5) (.int .i64 c) (.int .i64 m) (.int .i64 2)
      rw [← hwf] at kf rf
      have cf := hwf.symm
      simp only [putW, Nat.reduceAdd] at cf
      rw [cf]
      clear cf hwf
      have f0 := (cells_of_heap kf 0 (by simp)).1
      have f1 := (cells_of_heap kf 1 (by simp)).1
      have f2 := (cells_of_heap kf 2 (by simp)).1
      have f3 := (cells_of_heap kf 3 (by simp)).1
      simp only [List.getElem_toArray, List.getElem_cons_zero, List.getElem_cons_succ] at f0 f1 f2 f3
      refine bodyPost_ret (v := acv 5 c m 2) (by simp [results, Tryz.results105, go_sem, f0, f1, f2, f3, acv]) rfl ⟨by rfl, rf⟩
    · clear hn
      obtain ⟨z, hz⟩ : ∃ v, v = bits .andNot .i64 8 1 := ⟨_, rfl⟩
      have hz' := hz.symm
      obtain rfl : z = x' := Eq.symm (show x' = z by rw [HX.out, hz]; rfl)
      obtain rfl : eo = o' := Eq.symm (show o' = eo by rw [HO.out]; simp)
      obtain rfl : ep = p' := Eq.symm (show p' = ep by rw [HP.out]; simp)
      obtain rfl : m = m' := Eq.symm (show m' = m by rw [HM.out]; simp)
      clear HX HO HP HM
      clear hz
      go_upto_region 15 with (fail)
      clear a0 a0' a1 a1' a2 a2' a3 a3' y3 y3' y5 y5' y6 y6'
      obtain ⟨W9, hW9⟩ : ∃ W, W = V.setCell ⟨y, 3, none⟩ (.int .i64 z) := ⟨_, rfl⟩
      have k9 : KyW w W9 y g #[.int .i64 ek, u1, u2, .int .i64 z, u3, .int .i64 eo, .bool ep] #[.int .i64 5, .int .i64 c, .int .i64 m, .int .i64 3] := by rw [hW9]; exact K0.out.setY 3 (.int .i64 z)
      rw [← hW9]
      have K9 := Lib.hid k9
      clear hW9 k9 K0
      obtain ⟨d0, d0'⟩ := cells_of_heap K9.out.ha 0 (by simp)
      obtain ⟨d1, d1'⟩ := cells_of_heap K9.out.ha 1 (by simp)
      obtain ⟨d2, d2'⟩ := cells_of_heap K9.out.ha 2 (by simp)
      obtain ⟨d3, d3'⟩ := cells_of_heap K9.out.ha 3 (by simp)
      obtain ⟨x0, x0'⟩ := cells_of_heap K9.out.hr 0 (by simp)
      obtain ⟨x1, x1'⟩ := cells_of_heap K9.out.hr 1 (by simp)
      obtain ⟨x2, x2'⟩ := cells_of_heap K9.out.hr 2 (by simp)
      obtain ⟨x3, x3'⟩ := cells_of_heap K9.out.hr 3 (by simp)
      simp only [List.getElem_toArray, List.getElem_cons_zero, List.getElem_cons_succ] at d0 d1 d2 d3 x0 x1 x2 x3
      go_wp2
      clear d0 d0' d1 d1' d2 d2' d3 d3' x0 x0' x1 x1' x2 x2' x3 x3'
      obtain ⟨wf, hwf⟩ : ∃ x, x = putW W9 (g + 1) 0 [.int .i64 5, .int .i64 c, .int .i64 m, .int .i64 3] := ⟨_, rfl⟩
      have kf := putW_all [.int .i64 5, .int .i64 c, .int .i64 m, .int .i64 3] K9.out.hr rfl
      have rf := K9.out.ret (.int .i64 5) (.int .i64 c) (.int .i64 m) (.int .i64 3)
      rw [← hwf] at kf rf
      have cf := hwf.symm
      simp only [putW, Nat.reduceAdd] at cf
      rw [cf]
      clear cf hwf
      have f0 := (cells_of_heap kf 0 (by simp)).1
      have f1 := (cells_of_heap kf 1 (by simp)).1
      have f2 := (cells_of_heap kf 2 (by simp)).1
      have f3 := (cells_of_heap kf 3 (by simp)).1
      simp only [List.getElem_toArray, List.getElem_cons_zero, List.getElem_cons_succ] at f0 f1 f2 f3
      refine bodyPost_ret (v := acv 5 c m 3) (by simp [results, Tryz.results105, go_sem, f0, f1, f2, f3, acv]) rfl ⟨by rfl, rf⟩
  by_cases k8 : k = 8
  · subst k8
    obtain ⟨z, hz⟩ : ∃ v, v = bits .and .i64 eo m := ⟨_, rfl⟩
    have hz' := hz.symm
    by_cases hq : z = m
    · obtain ⟨v, hv⟩ : ∃ v, v = bits .andNot .i64 eo m := ⟨_, rfl⟩
      have hv' := hv.symm
      obtain rfl : ex = x' := Eq.symm (show x' = ex by rw [HX.out]; simp)
      obtain rfl : v = o' := Eq.symm (show o' = v by rw [HO.out, ← hz, hv]; simp [hq])
      obtain rfl : ep = p' := Eq.symm (show p' = ep by rw [HP.out]; simp)
      obtain rfl : m = m' := Eq.symm (show m' = m by rw [HM.out]; simp)
      clear HX HO HP HM
      clear hz hv
      have hq' : (z == m) = true := by rw [hq]; simp
      go_upto_region 10 with (fail)
      go_quiet (fail)
      go_upto_region 11 with (fail)
      obtain ⟨V8, hV8⟩ : ∃ W, W = V.drewN nq := ⟨_, rfl⟩
      have k8 : KyW w V8 y g #[.int .i64 ek, u1, u2, .int .i64 ex, u3, .int .i64 eo, .bool ep] #[.int .i64 8, .int .i64 c, .int .i64 m, .int .i64 n] := by rw [hV8]; exact K0.out.drewN nq
      rw [← hV8]
      have K8 := Lib.hid k8
      clear hV8 k8 K0 a0 a0' a1 a1' a2 a2' a3 a3' y3 y3' y5 y5' y6 y6'
      obtain ⟨a2, a2'⟩ := cells_of_heap K8.out.ha 2 (by simp)
      obtain ⟨y5, y5'⟩ := cells_of_heap K8.out.hy 5 (by simp)
      simp only [List.getElem_toArray, List.getElem_cons_zero, List.getElem_cons_succ] at a2 y5
      go_upto_region 11 with (fail)
      go_still_tail 10, (by kernel_rfl)
      go_upto_region 15 with (fail)
      first | rw [hz'] | rw [hv'] | skip
      clear a2 a2' y5 y5'
      obtain ⟨W9, hW9⟩ : ∃ W, W = (V8.setCell ⟨y, 5, none⟩ (.int .i64 v)).drew := ⟨_, rfl⟩
      have k9 : KyW w W9 y g #[.int .i64 ek, u1, u2, .int .i64 ex, u3, .int .i64 v, .bool ep] #[.int .i64 8, .int .i64 c, .int .i64 m, .int .i64 n] := by rw [hW9]; exact (K8.out.setY 5 (.int .i64 v)).drew
      rw [← hW9]
      have K9 := Lib.hid k9
      clear hW9 k9 K8
      obtain ⟨d0, d0'⟩ := cells_of_heap K9.out.ha 0 (by simp)
      obtain ⟨d1, d1'⟩ := cells_of_heap K9.out.ha 1 (by simp)
      obtain ⟨d2, d2'⟩ := cells_of_heap K9.out.ha 2 (by simp)
      obtain ⟨d3, d3'⟩ := cells_of_heap K9.out.ha 3 (by simp)
      obtain ⟨x0, x0'⟩ := cells_of_heap K9.out.hr 0 (by simp)
      obtain ⟨x1, x1'⟩ := cells_of_heap K9.out.hr 1 (by simp)
      obtain ⟨x2, x2'⟩ := cells_of_heap K9.out.hr 2 (by simp)
      obtain ⟨x3, x3'⟩ := cells_of_heap K9.out.hr 3 (by simp)
      simp only [List.getElem_toArray, List.getElem_cons_zero, List.getElem_cons_succ] at d0 d1 d2 d3 x0 x1 x2 x3
      go_wp2
      clear d0 d0' d1 d1' d2 d2' d3 d3' x0 x0' x1 x1' x2 x2' x3 x3'
      obtain ⟨wf, hwf⟩ : ∃ x, x = putW W9 (g + 1) 0 [.int .i64 8, .int .i64 c, .int .i64 m, .int .i64 n] := ⟨_, rfl⟩
      have kf := putW_all [.int .i64 8, .int .i64 c, .int .i64 m, .int .i64 n] K9.out.hr rfl
      have rf := K9.out.ret (.int .i64 8) (.int .i64 c) (.int .i64 m) (.int .i64 n)
      rw [← hwf] at kf rf
      have cf := hwf.symm
      simp only [putW, Nat.reduceAdd] at cf
      rw [cf]
      clear cf hwf
      have f0 := (cells_of_heap kf 0 (by simp)).1
      have f1 := (cells_of_heap kf 1 (by simp)).1
      have f2 := (cells_of_heap kf 2 (by simp)).1
      have f3 := (cells_of_heap kf 3 (by simp)).1
      simp only [List.getElem_toArray, List.getElem_cons_zero, List.getElem_cons_succ] at f0 f1 f2 f3
      refine bodyPost_ret (v := acv 8 c m n) (by simp [results, Tryz.results105, go_sem, f0, f1, f2, f3, acv]) rfl ⟨by rfl, rf⟩
    · obtain ⟨v, hv⟩ : ∃ v, v = bits .or .i64 eo m := ⟨_, rfl⟩
      have hv' := hv.symm
      obtain rfl : ex = x' := Eq.symm (show x' = ex by rw [HX.out]; simp)
      obtain rfl : v = o' := Eq.symm (show o' = v by rw [HO.out, ← hz, hv]; simp [hq])
      obtain rfl : ep = p' := Eq.symm (show p' = ep by rw [HP.out]; simp)
      obtain rfl : m = m' := Eq.symm (show m' = m by rw [HM.out]; simp)
      clear HX HO HP HM
      clear hz hv
      have hq' : (z == m) = false := beq_false_of_ne hq
      go_upto_region 10 with (fail)
      go_quiet (fail)
      go_upto_region 12 with (fail)
      obtain ⟨V8, hV8⟩ : ∃ W, W = V.drewN nq := ⟨_, rfl⟩
      have k8 : KyW w V8 y g #[.int .i64 ek, u1, u2, .int .i64 ex, u3, .int .i64 eo, .bool ep] #[.int .i64 8, .int .i64 c, .int .i64 m, .int .i64 n] := by rw [hV8]; exact K0.out.drewN nq
      rw [← hV8]
      have K8 := Lib.hid k8
      clear hV8 k8 K0 a0 a0' a1 a1' a2 a2' a3 a3' y3 y3' y5 y5' y6 y6'
      obtain ⟨a2, a2'⟩ := cells_of_heap K8.out.ha 2 (by simp)
      obtain ⟨y5, y5'⟩ := cells_of_heap K8.out.hy 5 (by simp)
      simp only [List.getElem_toArray, List.getElem_cons_zero, List.getElem_cons_succ] at a2 y5
      go_upto_region 12 with (fail)
      go_still_tail 10, (by kernel_rfl)
      go_upto_region 15 with (fail)
      first | rw [hz'] | rw [hv'] | skip
      clear a2 a2' y5 y5'
      obtain ⟨W9, hW9⟩ : ∃ W, W = (V8.setCell ⟨y, 5, none⟩ (.int .i64 v)).drew := ⟨_, rfl⟩
      have k9 : KyW w W9 y g #[.int .i64 ek, u1, u2, .int .i64 ex, u3, .int .i64 v, .bool ep] #[.int .i64 8, .int .i64 c, .int .i64 m, .int .i64 n] := by rw [hW9]; exact (K8.out.setY 5 (.int .i64 v)).drew
      rw [← hW9]
      have K9 := Lib.hid k9
      clear hW9 k9 K8
      obtain ⟨d0, d0'⟩ := cells_of_heap K9.out.ha 0 (by simp)
      obtain ⟨d1, d1'⟩ := cells_of_heap K9.out.ha 1 (by simp)
      obtain ⟨d2, d2'⟩ := cells_of_heap K9.out.ha 2 (by simp)
      obtain ⟨d3, d3'⟩ := cells_of_heap K9.out.ha 3 (by simp)
      obtain ⟨x0, x0'⟩ := cells_of_heap K9.out.hr 0 (by simp)
      obtain ⟨x1, x1'⟩ := cells_of_heap K9.out.hr 1 (by simp)
      obtain ⟨x2, x2'⟩ := cells_of_heap K9.out.hr 2 (by simp)
      obtain ⟨x3, x3'⟩ := cells_of_heap K9.out.hr 3 (by simp)
      simp only [List.getElem_toArray, List.getElem_cons_zero, List.getElem_cons_succ] at d0 d1 d2 d3 x0 x1 x2 x3
      go_wp2
      clear d0 d0' d1 d1' d2 d2' d3 d3' x0 x0' x1 x1' x2 x2' x3 x3'
      obtain ⟨wf, hwf⟩ : ∃ x, x = putW W9 (g + 1) 0 [.int .i64 8, .int .i64 c, .int .i64 m, .int .i64 n] := ⟨_, rfl⟩
      have kf := putW_all [.int .i64 8, .int .i64 c, .int .i64 m, .int .i64 n] K9.out.hr rfl
      have rf := K9.out.ret (.int .i64 8) (.int .i64 c) (.int .i64 m) (.int .i64 n)
      rw [← hwf] at kf rf
      have cf := hwf.symm
      simp only [putW, Nat.reduceAdd] at cf
      rw [cf]
      clear cf hwf
      have f0 := (cells_of_heap kf 0 (by simp)).1
      have f1 := (cells_of_heap kf 1 (by simp)).1
      have f2 := (cells_of_heap kf 2 (by simp)).1
      have f3 := (cells_of_heap kf 3 (by simp)).1
      simp only [List.getElem_toArray, List.getElem_cons_zero, List.getElem_cons_succ] at f0 f1 f2 f3
      refine bodyPost_ret (v := acv 8 c m n) (by simp [results, Tryz.results105, go_sem, f0, f1, f2, f3, acv]) rfl ⟨by rfl, rf⟩
  by_cases k10 : k = 10
  · subst k10
    obtain rfl : ex = x' := Eq.symm (show x' = ex by rw [HX.out]; simp)
    obtain rfl : eo = o' := Eq.symm (show o' = eo by rw [HO.out]; simp)
    obtain rfl : p' = (!ep) := by rw [HP.out]; simp
    obtain rfl : m = m' := Eq.symm (show m' = m by rw [HM.out]; simp)
    clear HX HO HP HM
    go_upto_region 15 with (fail)
    clear a0 a0' a1 a1' a2 a2' a3 a3' y3 y3' y5 y5' y6 y6'
    obtain ⟨W9, hW9⟩ : ∃ W, W = V.setCell ⟨y, 6, none⟩ (.bool (!ep)) := ⟨_, rfl⟩
    have k9 : KyW w W9 y g #[.int .i64 ek, u1, u2, .int .i64 ex, u3, .int .i64 eo, .bool (!ep)] #[.int .i64 10, .int .i64 c, .int .i64 m, .int .i64 n] := by rw [hW9]; exact K0.out.setY 6 (.bool (!ep))
    rw [← hW9]
    have K9 := Lib.hid k9
    clear hW9 k9 K0
    obtain ⟨d0, d0'⟩ := cells_of_heap K9.out.ha 0 (by simp)
    obtain ⟨d1, d1'⟩ := cells_of_heap K9.out.ha 1 (by simp)
    obtain ⟨d2, d2'⟩ := cells_of_heap K9.out.ha 2 (by simp)
    obtain ⟨d3, d3'⟩ := cells_of_heap K9.out.ha 3 (by simp)
    obtain ⟨x0, x0'⟩ := cells_of_heap K9.out.hr 0 (by simp)
    obtain ⟨x1, x1'⟩ := cells_of_heap K9.out.hr 1 (by simp)
    obtain ⟨x2, x2'⟩ := cells_of_heap K9.out.hr 2 (by simp)
    obtain ⟨x3, x3'⟩ := cells_of_heap K9.out.hr 3 (by simp)
    simp only [List.getElem_toArray, List.getElem_cons_zero, List.getElem_cons_succ] at d0 d1 d2 d3 x0 x1 x2 x3
    go_wp2
    clear d0 d0' d1 d1' d2 d2' d3 d3' x0 x0' x1 x1' x2 x2' x3 x3'
    obtain ⟨wf, hwf⟩ : ∃ x, x = putW W9 (g + 1) 0 [.int .i64 10, .int .i64 c, .int .i64 m, .int .i64 n] := ⟨_, rfl⟩
    have kf := putW_all [.int .i64 10, .int .i64 c, .int .i64 m, .int .i64 n] K9.out.hr rfl
    have rf := K9.out.ret (.int .i64 10) (.int .i64 c) (.int .i64 m) (.int .i64 n)
    rw [← hwf] at kf rf
    have cf := hwf.symm
    simp only [putW, Nat.reduceAdd] at cf
    rw [cf]
    clear cf hwf
    have f0 := (cells_of_heap kf 0 (by simp)).1
    have f1 := (cells_of_heap kf 1 (by simp)).1
    have f2 := (cells_of_heap kf 2 (by simp)).1
    have f3 := (cells_of_heap kf 3 (by simp)).1
    simp only [List.getElem_toArray, List.getElem_cons_zero, List.getElem_cons_succ] at f0 f1 f2 f3
    refine bodyPost_ret (v := acv 10 c m n) (by simp [results, Tryz.results105, go_sem, f0, f1, f2, f3, acv]) rfl ⟨by rfl, rf⟩
  obtain rfl : ex = x' := Eq.symm (show x' = ex by rw [HX.out]; simp [k2, k4, k5, k8, k10])
  obtain rfl : eo = o' := Eq.symm (show o' = eo by rw [HO.out]; simp [k2, k4, k5, k8, k10])
  obtain rfl : ep = p' := Eq.symm (show p' = ep by rw [HP.out]; simp [k2, k4, k5, k8, k10])
  obtain rfl : m = m' := Eq.symm (show m' = m by rw [HM.out]; simp [k2, k4, k5, k8, k10])
  clear HX HO HP HM
  have e2 : (k == 2) = false := beq_false_of_ne k2
  have e4 : (k == 4) = false := beq_false_of_ne k4
  have e5 : (k == 5) = false := beq_false_of_ne k5
  have e8 : (k == 8) = false := beq_false_of_ne k8
  have e10 : (k == 10) = false := beq_false_of_ne k10
  go_upto_region 15 with (fail)
  clear a0 a0' a1 a1' a2 a2' a3 a3' y3 y3' y5 y5' y6 y6'
  obtain ⟨d0, d0'⟩ := cells_of_heap K0.out.ha 0 (by simp)
  obtain ⟨d1, d1'⟩ := cells_of_heap K0.out.ha 1 (by simp)
  obtain ⟨d2, d2'⟩ := cells_of_heap K0.out.ha 2 (by simp)
  obtain ⟨d3, d3'⟩ := cells_of_heap K0.out.ha 3 (by simp)
  obtain ⟨x0, x0'⟩ := cells_of_heap K0.out.hr 0 (by simp)
  obtain ⟨x1, x1'⟩ := cells_of_heap K0.out.hr 1 (by simp)
  obtain ⟨x2, x2'⟩ := cells_of_heap K0.out.hr 2 (by simp)
  obtain ⟨x3, x3'⟩ := cells_of_heap K0.out.hr 3 (by simp)
  simp only [List.getElem_toArray, List.getElem_cons_zero, List.getElem_cons_succ] at d0 d1 d2 d3 x0 x1 x2 x3
  go_wp2
  clear d0 d0' d1 d1' d2 d2' d3 d3' x0 x0' x1 x1' x2 x2' x3 x3'
  obtain ⟨wf, hwf⟩ : ∃ x, x = putW V (g + 1) 0 [.int .i64 k, .int .i64 c, .int .i64 m, .int .i64 n] := ⟨_, rfl⟩
  have kf := putW_all [.int .i64 k, .int .i64 c, .int .i64 m, .int .i64 n] K0.out.hr rfl
  have rf := K0.out.ret (.int .i64 k) (.int .i64 c) (.int .i64 m) (.int .i64 n)
  rw [← hwf] at kf rf
  have cf := hwf.symm
  simp only [putW, Nat.reduceAdd] at cf
  rw [cf]
  clear cf hwf
  have f0 := (cells_of_heap kf 0 (by simp)).1
  have f1 := (cells_of_heap kf 1 (by simp)).1
  have f2 := (cells_of_heap kf 2 (by simp)).1
  have f3 := (cells_of_heap kf 3 (by simp)).1
  simp only [List.getElem_toArray, List.getElem_cons_zero, List.getElem_cons_succ] at f0 f1 f2 f3
  refine bodyPost_ret (v := acv k c m n) (by simp [results, Tryz.results105, go_sem, f0, f1, f2, f3, acv]) rfl ⟨by rfl, rf⟩
end Go.Proofs.YtjfckchoklepbaaGreat

namespace Go.Proofs.YtjfckchoklepbaaGreat
open Go.RowKit

set_option maxRecDepth 100000 in
set_option maxHeartbeats 32000000 in
theorem specPress_any (e : En) (u1 u2 u3 : Value) (key : Int) (hold : Bool) (w : World) (hs : EnSz e) (h : RdE w e u1 u2 u3) :
    Calls Tryz.prog 29 #[env e.k u1 u2 e.x u3 e.o e.p, .int .i64 key, .bool hold] w (PrO (prsV e key hold) w) := by
  obtain ⟨t, ht⟩ : ∃ t, t = prsV e key hold := ⟨_, rfl⟩
  rw [← ht]
  rw [prsV, prsB] at ht
  obtain ⟨b, hbv⟩ : ∃ b, b = okEn e := ⟨_, rfl⟩
  obtain ⟨b2, hb2v⟩ : ∃ b, b = inB key 0 (e.k - 1) := ⟨_, rfl⟩
  obtain ⟨kk, hkk⟩ : ∃ q, q = haI e.H key := ⟨_, rfl⟩
  rw [← hbv, ← hkk, ← hb2v] at ht
  have HT := Lib.hid ht
  have HBV := Lib.hid hbv
  have HBK := Lib.hid hb2v
  have HKK := Lib.hid hkk
  clear ht hbv hb2v hkk
  obtain ⟨h1, h2, h3⟩ := h
  obtain ⟨k, L, F, fx, H, o, p⟩ := e
  simp only at h1 h2 h3 ⊢
  obtain ⟨a1, c1, rfl⟩ := RdS.shape h1
  obtain ⟨a2, c2, rfl⟩ := RdSt.shape h2
  obtain ⟨a3, c3, rfl⟩ := RdN.shape h3
  obtain ⟨nL, hnL⟩ : ∃ n, n = L.length := ⟨_, rfl⟩
  obtain ⟨nF, hnF⟩ : ∃ n, n = F.length := ⟨_, rfl⟩
  obtain ⟨nH, hnH⟩ : ∃ n, n = H.length := ⟨_, rfl⟩
  have HRd := Lib.hid (show ∀ w', Below w.heap.size w w' → RdE w' ⟨k, L, F, fx, H, o, p⟩ (.slice a1 nL c1) (.slice a2 nF c2) (.slice a3 nH c3) from fun w' hw => ⟨by rw [hnL]; exact h1.below hw, by rw [hnF]; exact h2.below hw, by rw [hnH]; exact h3.below hw⟩)
  have HNL := Lib.hid hnL
  have HNF := Lib.hid hnF
  have HNH := Lib.hid hnH
  have HS := Lib.hid hs
  rw [← hnL, ← hnF, ← hnH]
  obtain ⟨g, hg⟩ : ∃ g, g = w.heap.size := ⟨_, rfl⟩
  obtain ⟨U, hU⟩ : ∃ U, U = (w.alloc (.cells #[.int .i64 k, .slice a1 nL c1, .slice a2 nF c2, .int .i64 fx, .slice a3 nH c3, .int .i64 o, .bool p] 30)).alloc (.cells #[.int .i64 0, .slice none 0 0, .slice none 0 0, .int .i64 0, .slice none 0 0, .int .i64 0, .bool false] 30) := ⟨_, rfl⟩
  have HX0 := Lib.hid (show U.heap[g]? = some (.cells #[.int .i64 k, .slice a1 nL c1, .slice a2 nF c2, .int .i64 fx, .slice a3 nH c3, .int .i64 o, .bool p] 30 (0, 0)) by rw [hU, hg, Below.heap_alloc _ _ _ (by simp)]; exact heap_alloc_new w _)
  have HR0 := Lib.hid (show U.heap[g + 1]? = some (.cells #[.int .i64 0, .slice none 0 0, .slice none 0 0, .int .i64 0, .slice none 0 0, .int .i64 0, .bool false] 30 (0, 0)) by rw [hU, hg]; simpa using heap_alloc_new (w.alloc (.cells #[.int .i64 k, .slice a1 nL c1, .slice a2 nF c2, .int .i64 fx, .slice a3 nH c3, .int .i64 o, .bool p] 30)) _)
  have HB0 := Lib.hid (show Below w.heap.size w U by rw [hU]; exact ((Below.refl _ _).alloc (Nat.le_refl _) _).alloc (by simp) _)
  have HG := Lib.hid hg
  have HU := Lib.hid hU
  have hle : w.heap.size ≤ g + 1 := by rw [hg]; omega
  clear h1 h2 h3 hnL hnF hnH hs hg hU
  replace HBK := Lib.hid (show b2 = inB key 0 (k - 1) from HBK.out)
  go_enter Tryz.func29, Tryz.ntmps29
  go_upto_region 1 with (fail)
  rw [← HU.out, ← HG.out]
  obtain ⟨x0, x0'⟩ := cells_of_heap HX0.out 0 (by simp)
  obtain ⟨x1, x1'⟩ := cells_of_heap HX0.out 1 (by simp)
  obtain ⟨x2, x2'⟩ := cells_of_heap HX0.out 2 (by simp)
  obtain ⟨x3, x3'⟩ := cells_of_heap HX0.out 3 (by simp)
  obtain ⟨x4, x4'⟩ := cells_of_heap HX0.out 4 (by simp)
  obtain ⟨x5, x5'⟩ := cells_of_heap HX0.out 5 (by simp)
  obtain ⟨x6, x6'⟩ := cells_of_heap HX0.out 6 (by simp)
  simp only [List.getElem_toArray, List.getElem_cons_zero, List.getElem_cons_succ] at x0 x1 x2 x3 x4 x5 x6
  go_wp2_with fail
  refine (specIsEngine_any ⟨k, L, F, fx, H, o, p⟩ (.slice a1 nL c1) (.slice a2 nF c2) (.slice a3 nH c3) _ HS.out (HRd.out _ HB0.out)).mono ?_
  rw [← HBV.out]
  rintro r w1 ⟨rfl, hb⟩
  have HB1 := Lib.hid (HB0.out.trans (hb.mono HB0.out.size))
  have HX1 := Lib.hid (blk_below HX0.out hb)
  have HR1 := Lib.hid (blk_below HR0.out hb)
  clear x0 x0' x1 x1' x2 x2' x3 x3' x4 x4' x5 x5' x6 x6'
  clear hb
  cases b
  · obtain rfl : t = ⟨en0, [], false⟩ := HT.out
    obtain ⟨r0, r0'⟩ := cells_of_heap (blk_below HR1.out (below_alloc1 w1 (.cells #[] 47))) 0 (by simp)
    obtain ⟨r1, r1'⟩ := cells_of_heap (blk_below HR1.out (below_alloc1 w1 (.cells #[] 47))) 1 (by simp)
    obtain ⟨r2, r2'⟩ := cells_of_heap (blk_below HR1.out (below_alloc1 w1 (.cells #[] 47))) 2 (by simp)
    obtain ⟨r3, r3'⟩ := cells_of_heap (blk_below HR1.out (below_alloc1 w1 (.cells #[] 47))) 3 (by simp)
    obtain ⟨r4, r4'⟩ := cells_of_heap (blk_below HR1.out (below_alloc1 w1 (.cells #[] 47))) 4 (by simp)
    obtain ⟨r5, r5'⟩ := cells_of_heap (blk_below HR1.out (below_alloc1 w1 (.cells #[] 47))) 5 (by simp)
    obtain ⟨r6, r6'⟩ := cells_of_heap (blk_below HR1.out (below_alloc1 w1 (.cells #[] 47))) 6 (by simp)
    simp only [List.getElem_toArray, List.getElem_cons_zero, List.getElem_cons_succ] at r0 r1 r2 r3 r4 r5 r6
    go_wp2
    clear r0 r0' r1 r1' r2 r2' r3 r3' r4 r4' r5 r5' r6 r6'
    have hnz := (OwP.start (f := rpF) (k := 1) (World.ownsRow_lit (base := w1.heap.size) (e := 47) (size := 2) w1 #[] 0 (Nat.le_refl _) (by simp [maxLen]) rfl)).low
    have hgl : g + 1 < w1.heap.size := (Array.getElem?_eq_some_iff.mp HR1.out).1
    obtain ⟨wf, hwf⟩ : ∃ x, x = putW (w1.alloc (.cells #[] 47)) (g + 1) 0 [.int .i64 0, .slice none 0 0, .slice none 0 0, .int .i64 0, .slice none 0 0, .int .i64 0, .bool false] := ⟨_, rfl⟩
    have kf := putW_all [.int .i64 0, .slice none 0 0, .slice none 0 0, .int .i64 0, .slice none 0 0, .int .i64 0, .bool false] (blk_below HR1.out (below_alloc1 w1 (.cells #[] 47))) rfl
    have bf := putW_below (b := g + 1) (by first | omega | simp) [.int .i64 0, .slice none 0 0, .slice none 0 0, .int .i64 0, .slice none 0 0, .int .i64 0, .bool false] 0 _ (HB1.out.alloc HB1.out.size (.cells #[] 47))
    have of := hnz.putAt (y := g + 1) [.int .i64 0, .slice none 0 0, .slice none 0 0, .int .i64 0, .slice none 0 0, .int .i64 0, .bool false] (fun hm => by have := (hnz.rng _ hm).1; omega) 0
    rw [← hwf] at kf bf of
    have cf := hwf.symm
    simp only [putW, Nat.reduceAdd] at cf
    rw [cf]
    clear cf hwf
    have f0 := (cells_of_heap kf 0 (by simp)).1
    have f1 := (cells_of_heap kf 1 (by simp)).1
    have f2 := (cells_of_heap kf 2 (by simp)).1
    have f3 := (cells_of_heap kf 3 (by simp)).1
    have f4 := (cells_of_heap kf 4 (by simp)).1
    have f5 := (cells_of_heap kf 5 (by simp)).1
    have f6 := (cells_of_heap kf 6 (by simp)).1
    simp only [List.getElem_toArray, List.getElem_cons_zero, List.getElem_cons_succ] at f0 f1 f2 f3 f4 f5 f6
    refine bodyPost_ret (v := .tuple #[env 0 (.slice none 0 0) (.slice none 0 0) 0 (.slice none 0 0) 0 false, .slice (some ⟨w1.heap.size, 0, none⟩) 0 0, .bool false]) (by simp [results, Tryz.results29, go_sem, f0, f1, f2, f3, f4, f5, f6]) rfl ⟨none, 0, none, 0, none, 0, _, _, _, _, rfl, OwE.zero _ _, of.base HB1.out.size, (fun _ h => by cases h), bf⟩
  · have HOK := Lib.hid (okEn_iff.1 HBV.out.symm)
    obtain ⟨hk1, hk32⟩ := (okKm_at HOK.out.km).1
    simp only at hk1 hk32
    obtain ⟨x0, x0'⟩ := cells_of_heap HX1.out 0 (by simp)
    obtain ⟨x1, x1'⟩ := cells_of_heap HX1.out 1 (by simp)
    obtain ⟨x2, x2'⟩ := cells_of_heap HX1.out 2 (by simp)
    obtain ⟨x3, x3'⟩ := cells_of_heap HX1.out 3 (by simp)
    obtain ⟨x4, x4'⟩ := cells_of_heap HX1.out 4 (by simp)
    obtain ⟨x5, x5'⟩ := cells_of_heap HX1.out 5 (by simp)
    obtain ⟨x6, x6'⟩ := cells_of_heap HX1.out 6 (by simp)
    simp only [List.getElem_toArray, List.getElem_cons_zero, List.getElem_cons_succ] at x0 x1 x2 x3 x4 x5 x6
    go_wp2_with fail
    refine (inB_q key 0 (k - 1) b2 HBK.out _).mono ?_
    rintro r w0 ⟨rfl, hww⟩
    rw [hww]
    clear hww
    cases b2
    · obtain rfl : t = ⟨en0, [], false⟩ := HT.out
      clear x0 x0' x1 x1' x2 x2' x3 x3' x4 x4' x5 x5' x6 x6'
      obtain ⟨r0, r0'⟩ := cells_of_heap (blk_below HR1.out (below_alloc1 w1 (.cells #[] 47))) 0 (by simp)
      obtain ⟨r1, r1'⟩ := cells_of_heap (blk_below HR1.out (below_alloc1 w1 (.cells #[] 47))) 1 (by simp)
      obtain ⟨r2, r2'⟩ := cells_of_heap (blk_below HR1.out (below_alloc1 w1 (.cells #[] 47))) 2 (by simp)
      obtain ⟨r3, r3'⟩ := cells_of_heap (blk_below HR1.out (below_alloc1 w1 (.cells #[] 47))) 3 (by simp)
      obtain ⟨r4, r4'⟩ := cells_of_heap (blk_below HR1.out (below_alloc1 w1 (.cells #[] 47))) 4 (by simp)
      obtain ⟨r5, r5'⟩ := cells_of_heap (blk_below HR1.out (below_alloc1 w1 (.cells #[] 47))) 5 (by simp)
      obtain ⟨r6, r6'⟩ := cells_of_heap (blk_below HR1.out (below_alloc1 w1 (.cells #[] 47))) 6 (by simp)
      simp only [List.getElem_toArray, List.getElem_cons_zero, List.getElem_cons_succ] at r0 r1 r2 r3 r4 r5 r6
      go_wp2
      clear r0 r0' r1 r1' r2 r2' r3 r3' r4 r4' r5 r5' r6 r6'
      have hnz := (OwP.start (f := rpF) (k := 1) (World.ownsRow_lit (base := w1.heap.size) (e := 47) (size := 2) w1 #[] 0 (Nat.le_refl _) (by simp [maxLen]) rfl)).low
      have hgl : g + 1 < w1.heap.size := (Array.getElem?_eq_some_iff.mp HR1.out).1
      obtain ⟨wf, hwf⟩ : ∃ x, x = putW (w1.alloc (.cells #[] 47)) (g + 1) 0 [.int .i64 0, .slice none 0 0, .slice none 0 0, .int .i64 0, .slice none 0 0, .int .i64 0, .bool false] := ⟨_, rfl⟩
      have kf := putW_all [.int .i64 0, .slice none 0 0, .slice none 0 0, .int .i64 0, .slice none 0 0, .int .i64 0, .bool false] (blk_below HR1.out (below_alloc1 w1 (.cells #[] 47))) rfl
      have bf := putW_below (b := g + 1) (by first | omega | simp) [.int .i64 0, .slice none 0 0, .slice none 0 0, .int .i64 0, .slice none 0 0, .int .i64 0, .bool false] 0 _ (HB1.out.alloc HB1.out.size (.cells #[] 47))
      have of := hnz.putAt (y := g + 1) [.int .i64 0, .slice none 0 0, .slice none 0 0, .int .i64 0, .slice none 0 0, .int .i64 0, .bool false] (fun hm => by have := (hnz.rng _ hm).1; omega) 0
      rw [← hwf] at kf bf of
      have cf := hwf.symm
      simp only [putW, Nat.reduceAdd] at cf
      rw [cf]
      clear cf hwf
      have f0 := (cells_of_heap kf 0 (by simp)).1
      have f1 := (cells_of_heap kf 1 (by simp)).1
      have f2 := (cells_of_heap kf 2 (by simp)).1
      have f3 := (cells_of_heap kf 3 (by simp)).1
      have f4 := (cells_of_heap kf 4 (by simp)).1
      have f5 := (cells_of_heap kf 5 (by simp)).1
      have f6 := (cells_of_heap kf 6 (by simp)).1
      simp only [List.getElem_toArray, List.getElem_cons_zero, List.getElem_cons_succ] at f0 f1 f2 f3 f4 f5 f6
      refine bodyPost_ret (v := .tuple #[env 0 (.slice none 0 0) (.slice none 0 0) 0 (.slice none 0 0) 0 false, .slice (some ⟨w1.heap.size, 0, none⟩) 0 0, .bool false]) (by simp [results, Tryz.results29, go_sem, f0, f1, f2, f3, f4, f5, f6]) rfl ⟨none, 0, none, 0, none, 0, _, _, _, _, rfl, OwE.zero _ _, of.base HB1.out.size, (fun _ h => by cases h), bf⟩
    · go_wp2_with fail
      refine (specHeldAt_any k (.slice a1 nL c1) (.slice a2 nF c2) fx (.slice a3 nH c3) o p H key _ (by have : H.length ≤ 1048576 := HS.out.h; unfold maxLen; omega) (HRd.out _ HB1.out).held).mono ?_
      rw [show haI H key = kk from HKK.out.symm]
      rintro r w2 ⟨rfl, hb⟩
      have HB2 := Lib.hid (HB1.out.trans (hb.mono HB1.out.size))
      have HX2 := Lib.hid (blk_below HX1.out hb)
      have HR2 := Lib.hid (blk_below HR1.out hb)
      clear x0 x0' x1 x1' x2 x2' x3 x3' x4 x4' x5 x5' x6 x6'
      clear hb
      by_cases hk : kk < 0
      · have hk' : ¬ 0 ≤ kk := by omega
        have HT2 := Lib.hid (show t = ⟨prsE ⟨k, L, F, fx, H, o, p⟩ key hold, prsR ⟨k, L, F, fx, H, o, p⟩ key hold, true⟩ by rw [HT.out, decide_eq_true hk]; rfl)
        have HKB := Lib.hid (show 0 ≤ key ∧ key < k from by have := of_decide_eq_true (show decide (0 ≤ key ∧ key ≤ k - 1) = true from HBK.out.symm); omega)
        clear HT
        obtain ⟨x0, x0'⟩ := cells_of_heap HX2.out 0 (by simp)
        obtain ⟨x1, x1'⟩ := cells_of_heap HX2.out 1 (by simp)
        obtain ⟨x2, x2'⟩ := cells_of_heap HX2.out 2 (by simp)
        obtain ⟨x3, x3'⟩ := cells_of_heap HX2.out 3 (by simp)
        obtain ⟨x4, x4'⟩ := cells_of_heap HX2.out 4 (by simp)
        obtain ⟨x5, x5'⟩ := cells_of_heap HX2.out 5 (by simp)
        obtain ⟨x6, x6'⟩ := cells_of_heap HX2.out 6 (by simp)
        simp only [List.getElem_toArray, List.getElem_cons_zero, List.getElem_cons_succ] at x0 x1 x2 x3 x4 x5 x6
        go_wp2_with fail
        refine (specL9Copy_any ⟨k, L, F, fx, H, o, p⟩ (.slice a1 nL c1) (.slice a2 nF c2) (.slice a3 nH c3) _ HOK.out.km HOK.out.fl HS.out.fr HS.out.h (HRd.out _ HB2.out)).mono ?_
        rintro r w3 ⟨b1, d1, b2, d2, b3, d3, fp, rfl, hown, hb⟩
        rw [show (⟨k, L, F, fx, H, o, p⟩ : En).L.length = nL from HNL.out.symm, show (⟨k, L, F, fx, H, o, p⟩ : En).F.length = nF from HNF.out.symm, show (⟨k, L, F, fx, H, o, p⟩ : En).H.length = nH from HNH.out.symm] at hown ⊢
        have HB3 := Lib.hid (HB2.out.trans (hb.mono HB2.out.size))
        have HX3 := Lib.hid (blk_below HX2.out hb)
        have HR3 := Lib.hid (blk_below HR2.out hb)
        clear x0 x0' x1 x1' x2 x2' x3 x3' x4 x4' x5 x5' x6 x6'
        have HOW := Lib.hid hown
        have HS23 := Lib.hid hb.size
        clear hb hown
        go_upto_region 4 with (fail)
        obtain ⟨W4, hW4⟩ : ∃ W, W = w3.alloc (.cells #[.int .i64 k, .slice b1 nL d1, .slice b2 nF d2, .int .i64 fx, .slice b3 nH d3, .int .i64 o, .bool p] 30) := ⟨_, rfl⟩
        obtain ⟨y, hy⟩ : ∃ y, y = w3.heap.size := ⟨_, rfl⟩
        rw [← hW4, ← hy]
        have hb4 : Below w3.heap.size w3 W4 := by rw [hW4]; exact below_alloc1 _ _
        have k4 : RlW w W4 g y #[.int .i64 k, .slice a1 nL c1, .slice a2 nF c2, .int .i64 fx, .slice a3 nH c3, .int .i64 o, .bool p] #[.int .i64 k, .slice b1 nL d1, .slice b2 nF d2, .int .i64 fx, .slice b3 nH d3, .int .i64 o, .bool p] := ⟨blk_below HX3.out hb4, blk_below HR3.out hb4, by rw [hW4, hy]; exact heap_alloc_new w3 _, HB3.out.trans (hb4.mono HB3.out.size), HG.out, by rw [hy]; exact (Array.getElem?_eq_some_iff.mp HR3.out).1⟩
        have HOW4 := Lib.hid ((HOW.out.below hb4).base HB2.out.size)
        have HYF := Lib.hid (show ∀ b ∈ fp, g + 1 < b ∧ b < y from fun b hb => ⟨Nat.lt_of_lt_of_le (Array.getElem?_eq_some_iff.mp HR2.out).1 (HOW.out.rng b hb).1, by rw [hy]; exact (HOW.out.rng b hb).2⟩)
        have K4 := Lib.hid k4
        clear hW4 hy hb4 k4 HOW HX3 HR3 HX2 HR2 HX1 HR1 HX0 HR0
        obtain ⟨on, hon⟩ : ∃ n : Int, n = (onV fx H : Nat) := ⟨_, rfl⟩
        obtain ⟨q0, hq0⟩ : ∃ q, q = atV k L on key := ⟨_, rfl⟩
        have HON := Lib.hid hon
        have HQ0 := Lib.hid hq0
        have hgW : g < W4.heap.size := (Array.getElem?_eq_some_iff.mp K4.out.hx).1
        have hng : ¬ g = W4.heap.size := by omega
        have hng' : ¬ W4.heap.size = g := by omega
        clear hon hq0
        obtain ⟨x0, x0'⟩ := cells_of_heap K4.out.hx 0 (by simp)
        obtain ⟨x1, x1'⟩ := cells_of_heap K4.out.hx 1 (by simp)
        obtain ⟨x2, x2'⟩ := cells_of_heap K4.out.hx 2 (by simp)
        obtain ⟨x3, x3'⟩ := cells_of_heap K4.out.hx 3 (by simp)
        obtain ⟨x4, x4'⟩ := cells_of_heap K4.out.hx 4 (by simp)
        obtain ⟨x5, x5'⟩ := cells_of_heap K4.out.hx 5 (by simp)
        obtain ⟨x6, x6'⟩ := cells_of_heap K4.out.hx 6 (by simp)
        simp only [List.getElem_toArray, List.getElem_cons_zero, List.getElem_cons_succ] at x0 x1 x2 x3 x4 x5 x6
        have X0 := Lib.hid (Below.refl W4.heap.size W4)
        go_cut [10] (fun sp wx => ∃ s, sp = .pointer (some ⟨s, 0, none⟩) ∧ W4.heap.size ≤ s ∧ wx.heap[s]? = some (.cells #[.int .i64 q0.k, .int .i64 q0.c, .int .i64 q0.m, .int .i64 q0.n] 41 (0, 0)) ∧ Below W4.heap.size W4 wx)
        case first =>
          go_region_law (first
            | (go_simp; go_at_call 102; have z9 := X0; clear z9; trace "L"; refine (specLayersOn_any fx (.slice a3 nH c3) H _ (by have : H.length ≤ 1048576 := HS.out.h; unfold maxLen; omega) (HRd.out _ (K4.out.hb.trans (Below.mono (by first | exact X0.out | exact X0.out.drew | exact X0.out.drew.drew | exact X0.out.alloc X0.out.size _ | exact (X0.out.alloc X0.out.size _).drew | exact (X0.out.alloc X0.out.size _).drew.drew | exact X0.out.drew.alloc X0.out.size _ | exact (X0.out.drew.alloc X0.out.size _).drew) K4.out.hb.size))).held).mono ?_; rw [← HON.out]; rintro e v1 ⟨rfl, hb⟩; have hbr : Below W4.heap.size W4 v1 := below_via (by first | exact X0.out | exact X0.out.drew | exact X0.out.drew.drew | exact X0.out.alloc X0.out.size _ | exact (X0.out.alloc X0.out.size _).drew | exact (X0.out.alloc X0.out.size _).drew.drew | exact X0.out.drew.alloc X0.out.size _ | exact (X0.out.drew.alloc X0.out.size _).drew) hb; have KA := blk_below K4.out.hx hbr; obtain ⟨u0, -⟩ := cells_of_heap KA 0 (by simp); obtain ⟨u1, -⟩ := cells_of_heap KA 1 (by simp); obtain ⟨u3, -⟩ := cells_of_heap KA 3 (by simp); obtain ⟨u4, -⟩ := cells_of_heap KA 4 (by simp); simp only [List.getElem_toArray, List.getElem_cons_zero, List.getElem_cons_succ] at u0 u1 u3 u4; clear KA; have KA := blk_below K4.out.hx (hbr.alloc hbr.size (.cells #[.int .i64 0, .int .i64 0, .int .i64 0, .int .i64 0] 41)); obtain ⟨m0, -⟩ := cells_of_heap KA 0 (by simp); obtain ⟨m1, -⟩ := cells_of_heap KA 1 (by simp); obtain ⟨m3, -⟩ := cells_of_heap KA 3 (by simp); obtain ⟨m4, -⟩ := cells_of_heap KA 4 (by simp); simp only [List.getElem_toArray, List.getElem_cons_zero, List.getElem_cons_succ] at m0 m1 m3 m4; clear KA; have un : ¬ g = v1.heap.size := (by have := hbr.size; omega); have um : ¬ v1.heap.size = g := (by have := hbr.size; omega); (first | (have KY := Lib.hid (ky_new X0.out.size hb)) | (have KY := Lib.hid (ky_drew X0.out.size hb)) | (have KY := Lib.hid (ky_old KY.out hb rfl)) | skip); have X1 := Lib.hid hbr; clear hbr hb X0)
            | (go_simp; go_at_call 101; have z9 := X1; clear z9; trace "A"; refine (specActionAt_any k on key (.slice a1 nL c1) L _ (by have := HS.out.l; have : L.length ≤ 1048576 := this; unfold maxLen; omega) (fun l hl => by have := HS.out.lr l hl; unfold maxLen; omega) (HRd.out _ (K4.out.hb.trans (Below.mono (by first | exact X1.out | exact X1.out.drew | exact X1.out.drew.drew | exact X1.out.alloc X1.out.size _ | exact (X1.out.alloc X1.out.size _).drew | exact (X1.out.alloc X1.out.size _).drew.drew | exact X1.out.drew.alloc X1.out.size _ | exact (X1.out.drew.alloc X1.out.size _).drew) K4.out.hb.size))).map).mono ?_; rw [← HQ0.out]; rintro e v2 ⟨rfl, hb⟩; have hbr : Below W4.heap.size W4 v2 := below_via (by first | exact X1.out | exact X1.out.drew | exact X1.out.drew.drew | exact X1.out.alloc X1.out.size _ | exact (X1.out.alloc X1.out.size _).drew | exact (X1.out.alloc X1.out.size _).drew.drew | exact X1.out.drew.alloc X1.out.size _ | exact (X1.out.drew.alloc X1.out.size _).drew) hb; have KA := blk_below K4.out.hx hbr; obtain ⟨z0, -⟩ := cells_of_heap KA 0 (by simp); obtain ⟨z1, -⟩ := cells_of_heap KA 1 (by simp); obtain ⟨z3, -⟩ := cells_of_heap KA 3 (by simp); obtain ⟨z4, -⟩ := cells_of_heap KA 4 (by simp); simp only [List.getElem_toArray, List.getElem_cons_zero, List.getElem_cons_succ] at z0 z1 z3 z4; clear KA; have KA := blk_below K4.out.hx (hbr.alloc hbr.size (.cells #[.int .i64 0, .int .i64 0, .int .i64 0, .int .i64 0] 41)); obtain ⟨n0, -⟩ := cells_of_heap KA 0 (by simp); obtain ⟨n1, -⟩ := cells_of_heap KA 1 (by simp); obtain ⟨n3, -⟩ := cells_of_heap KA 3 (by simp); obtain ⟨n4, -⟩ := cells_of_heap KA 4 (by simp); simp only [List.getElem_toArray, List.getElem_cons_zero, List.getElem_cons_succ] at n0 n1 n3 n4; clear KA; have zn : ¬ g = v2.heap.size := (by have := hbr.size; omega); have zm : ¬ v2.heap.size = g := (by have := hbr.size; omega); (first | (have KY := Lib.hid (ky_new X1.out.size hb)) | (have KY := Lib.hid (ky_drew X1.out.size hb)) | (have KY := Lib.hid (ky_old KY.out hb rfl)) | skip); (try (have e0 := cells_of_heap KY.out.1 0 (by simp); have g0 := e0.2; replace e0 := e0.1; have e1 := cells_of_heap KY.out.1 1 (by simp); have g1 := e1.2; replace e1 := e1.1; have e2 := cells_of_heap KY.out.1 2 (by simp); have g2 := e2.2; replace e2 := e2.1; have e3 := cells_of_heap KY.out.1 3 (by simp); have g3 := e3.2; replace e3 := e3.1)); have X2 := Lib.hid hbr; clear hbr hb X1))
          all_goals
            go_wp2
            go_meet
            first
              | with_reducible exact ⟨v2.heap.size, rfl, X2.out.size, heap_alloc_new _ _, X2.out.alloc X2.out.size _⟩
              | with_reducible exact ⟨v2.heap.size, rfl, X2.out.size, heap_alloc_new _ _, (X2.out.alloc X2.out.size _).drew⟩
              | (have kf := putW_all [.int .i64 q0.k, .int .i64 q0.c, .int .i64 q0.m, .int .i64 q0.n] KY.out.1 rfl; have bf := putW_below KY.out.2.2 [.int .i64 q0.k, .int .i64 q0.c, .int .i64 q0.m, .int .i64 q0.n] 0 _ X2.out; simp only [putW, Nat.reduceAdd] at kf bf; first | with_reducible exact ⟨_, rfl, KY.out.2.2, kf, bf⟩ | with_reducible exact ⟨_, rfl, KY.out.2.2, kf, bf.drew⟩ | exact ⟨_, rfl, KY.out.2.2, kf, bf⟩)
        case rest =>
          obtain ⟨s, rfl, hls, hs5, hb5⟩ := hcut
          obtain ⟨W5, hE⟩ : ∃ x, x = wc := ⟨_, rfl⟩
          rw [← hE] at hs5 hb5 ⊢
          have HS5 := Lib.hid hs5
          have HB5 := Lib.hid hb5
          have hys : y < s := Nat.lt_of_lt_of_le K4.out.lt hls
          clear hE hs5 hb5 X0 x0 x0' x1 x1' x2 x2' x3 x3' x4 x4' x5 x5' x6 x6'
          obtain ⟨qa, hqa⟩ : ∃ q, q = prsA ⟨k, L, F, fx, H, o, p⟩ key hold := ⟨_, rfl⟩
          have HA := Lib.hid (show qa = if hold = true then holdR q0 else tapR q0 by rw [hqa, HQ0.out, HON.out]; rfl)
          have HQA := Lib.hid hqa
          clear hqa
          obtain ⟨t0, t0'⟩ := cells_of_heap HS5.out 0 (by simp)
          obtain ⟨t1, t1'⟩ := cells_of_heap HS5.out 1 (by simp)
          obtain ⟨t2, t2'⟩ := cells_of_heap HS5.out 2 (by simp)
          obtain ⟨t3, t3'⟩ := cells_of_heap HS5.out 3 (by simp)
          simp only [List.getElem_toArray, List.getElem_cons_zero, List.getElem_cons_succ] at t0 t1 t2 t3
          go_upto_if 43 with (fail)
          go_cut [10] (fun sp wx => sp = .pointer (some ⟨s, 0, none⟩) ∧ wx.heap[s]? = some (.cells #[.int .i64 qa.k, .int .i64 qa.c, .int .i64 qa.m, .int .i64 qa.n] 41 (0, 0)) ∧ Below W4.heap.size W4 wx)
          case first =>
            cases hold
            · go_wp2_with fail
              refine (specTapOf_any q0.k q0.c q0.m q0.n _).mono ?_
              rw [show tapR ⟨q0.k, q0.c, q0.m, q0.n⟩ = qa from (HA.out.trans (by rfl : (if false = true then holdR q0 else tapR q0) = tapR q0)).symm]
              rintro r w6 ⟨rfl, hb⟩
              have k6 := blk_below HS5.out hb
              obtain ⟨z0, z0'⟩ := cells_of_heap k6 0 (by simp)
              obtain ⟨z1, z1'⟩ := cells_of_heap k6 1 (by simp)
              obtain ⟨z2, z2'⟩ := cells_of_heap k6 2 (by simp)
              obtain ⟨z3, z3'⟩ := cells_of_heap k6 3 (by simp)
              simp only [List.getElem_toArray, List.getElem_cons_zero, List.getElem_cons_succ] at z0 z1 z2 z3
              have kf := putW_all [.int .i64 qa.k, .int .i64 qa.c, .int .i64 qa.m, .int .i64 qa.n] k6 rfl
              have bf := putW_below hls [.int .i64 qa.k, .int .i64 qa.c, .int .i64 qa.m, .int .i64 qa.n] 0 _ (HB5.out.trans (hb.mono HB5.out.size))
              simp only [putW, Nat.reduceAdd] at kf bf
              have KF := Lib.hid kf
              have BF := Lib.hid bf
              clear kf bf k6 hb t0 t1 t2 t3
              go_wp2
              go_meet
              exact ⟨rfl, KF.out, BF.out⟩
            · go_wp2_with fail
              refine (specHoldOf_any q0.k q0.c q0.m q0.n _).mono ?_
              rw [show holdR ⟨q0.k, q0.c, q0.m, q0.n⟩ = qa from (HA.out.trans (by rfl : (if true = true then holdR q0 else tapR q0) = holdR q0)).symm]
              rintro r w6 ⟨rfl, hb⟩
              have k6 := blk_below HS5.out hb
              obtain ⟨z0, z0'⟩ := cells_of_heap k6 0 (by simp)
              obtain ⟨z1, z1'⟩ := cells_of_heap k6 1 (by simp)
              obtain ⟨z2, z2'⟩ := cells_of_heap k6 2 (by simp)
              obtain ⟨z3, z3'⟩ := cells_of_heap k6 3 (by simp)
              simp only [List.getElem_toArray, List.getElem_cons_zero, List.getElem_cons_succ] at z0 z1 z2 z3
              have kf := putW_all [.int .i64 qa.k, .int .i64 qa.c, .int .i64 qa.m, .int .i64 qa.n] k6 rfl
              have bf := putW_below hls [.int .i64 qa.k, .int .i64 qa.c, .int .i64 qa.m, .int .i64 qa.n] 0 _ (HB5.out.trans (hb.mono HB5.out.size))
              simp only [putW, Nat.reduceAdd] at kf bf
              have KF := Lib.hid kf
              have BF := Lib.hid bf
              clear kf bf k6 hb t0 t1 t2 t3
              go_wp2
              go_meet
              exact ⟨rfl, KF.out, BF.out⟩
          case rest =>
            obtain ⟨rfl, hs6, hb6⟩ := hcut
            obtain ⟨W6, hE⟩ : ∃ x, x = wc := ⟨_, rfl⟩
            rw [← hE] at hs6 hb6 ⊢
            have HS6 := Lib.hid hs6
            have K6 := Lib.hid (K4.out.below hb6)
            have HOW6 := Lib.hid (HOW4.out.below hb6)
            clear hE hs6 hb6 t0 t0' t1 t1' t2 t2' t3 t3' HB5 HS5
            have hpa := (prsA_ok (e := ⟨k, L, F, fx, H, o, p⟩) hold HOK.out HKB.out).1
            rw [← HQA.out] at hpa
            obtain ⟨ga, ha2⟩ : ∃ q, q = (setO ⟨k, L, F, fx, H, o, p⟩ qa).2 := ⟨_, rfl⟩
            obtain ⟨e2, he2⟩ : ∃ q, q = (setO ⟨k, L, F, fx, H, o, p⟩ qa).1 := ⟨_, rfl⟩
            have HA2 := Lib.hid ha2
            have HE2 := Lib.hid he2
            have hqn : qa.k = 4 ∨ qa.k = 5 → 0 ≤ qa.n ∧ qa.n ≤ 3 := fun _ => (okAc_lim hpa.np.1).2.2.2
            have HGN := Lib.hid (show 0 ≤ ga.n ∧ ga.n ≤ 3 by rw [ha2, setO_2]; exact (okAc_lim hpa.np.1).2.2.2)
            clear ha2 he2 hpa
            obtain ⟨t0, t0'⟩ := cells_of_heap HS6.out 0 (by simp)
            obtain ⟨t1, t1'⟩ := cells_of_heap HS6.out 1 (by simp)
            obtain ⟨t2, t2'⟩ := cells_of_heap HS6.out 2 (by simp)
            obtain ⟨t3, t3'⟩ := cells_of_heap HS6.out 3 (by simp)
            simp only [List.getElem_toArray, List.getElem_cons_zero, List.getElem_cons_succ] at t0 t1 t2 t3
            go_wp2_with fail
            refine (specL9Settle_any ⟨k, L, F, fx, H, o, p⟩ (.slice b1 nL d1) (.slice b2 nF d2) (.slice b3 nH d3) y qa.k qa.c qa.m qa.n _ hqn K6.out.ho).mono ?_
            rw [show (setO ⟨k, L, F, fx, H, o, p⟩ ⟨qa.k, qa.c, qa.m, qa.n⟩).2 = ga from HA2.out.symm, show (setO ⟨k, L, F, fx, H, o, p⟩ ⟨qa.k, qa.c, qa.m, qa.n⟩).1 = e2 from HE2.out.symm]
            rintro r w7 ⟨rfl, hy7, hg7⟩
            have hs7 := (hg7.block s (Array.getElem?_eq_some_iff.mp HS6.out).1 (by simp; omega)).trans HS6.out
            obtain ⟨z0, z0'⟩ := cells_of_heap hs7 0 (by simp)
            obtain ⟨z1, z1'⟩ := cells_of_heap hs7 1 (by simp)
            obtain ⟨z2, z2'⟩ := cells_of_heap hs7 2 (by simp)
            obtain ⟨z3, z3'⟩ := cells_of_heap hs7 3 (by simp)
            simp only [List.getElem_toArray, List.getElem_cons_zero, List.getElem_cons_succ] at z0 z1 z2 z3
            have hyl := K6.out.lt
            have hygl := K6.out.hy
            obtain ⟨W8, hW8⟩ : ∃ W, W = putW w7 s 0 [.int .i64 ga.k, .int .i64 ga.c, .int .i64 ga.m, .int .i64 ga.n] := ⟨_, rfl⟩
            have hs8 : W8.heap[s]? = some (.cells #[.int .i64 ga.k, .int .i64 ga.c, .int .i64 ga.m, .int .i64 ga.n] 41 (0, 0)) := by rw [hW8]; exact putW_all [.int .i64 ga.k, .int .i64 ga.c, .int .i64 ga.m, .int .i64 ga.n] hs7 rfl
            have hy8 : W8.heap[y]? = some (.cells #[.int .i64 k, .slice b1 nL d1, .slice b2 nF d2, .int .i64 e2.x, .slice b3 nH d3, .int .i64 e2.o, .bool e2.p] 30 (0, 0)) := by rw [hW8]; exact (putW_other (by omega) _ _ _).trans hy7
            have ht8 : Turn W6 W8 [y, s] := by
              rw [hW8]; exact ((Turn.of_grown hg7).mono (by simp)).trans ((Turn.of_grown (putW_grown _ 0 w7)).mono (by simp))
            have k8 : RlW w W8 g y #[.int .i64 k, .slice a1 nL c1, .slice a2 nF c2, .int .i64 fx, .slice a3 nH c3, .int .i64 o, .bool p] #[.int .i64 k, .slice b1 nL d1, .slice b2 nF d2, .int .i64 e2.x, .slice b3 nH d3, .int .i64 e2.o, .bool e2.p] := ⟨(ht8.block g (by omega) (by simp; omega)).trans K6.out.hx, (ht8.block (g + 1) (by omega) (by simp; omega)).trans K6.out.hr, hy8,
              K6.out.hb.trans (ht8.below (fun b hb => by have := K6.out.hg; simp at hb; omega) K6.out.hb.size), K6.out.hg, K6.out.hy⟩
            have how8 := HOW6.out.turn ht8 (fun b hb hm => by have := HYF.out b hb; simp at hm; omega)
            have K8 := Lib.hid k8
            have HOW8 := Lib.hid how8
            have HS8 := Lib.hid hs8
            simp only [putW, Nat.reduceAdd] at hW8
            have HW8 := Lib.hid hW8
            clear hW8 hs8 hy8 ht8 k8 how8 hs7 hy7 hg7 t0 t1 t2 t3 t0' t1' t2' t3' hyl hygl
            go_upto_region 9 with (fail)
            rw [← HW8.out]
            clear z0 z1 z2 z3 z0' z1' z2' z3' HW8 HS6 K6 HOW6
            obtain ⟨t0, t0'⟩ := cells_of_heap HS8.out 0 (by simp)
            obtain ⟨t1, t1'⟩ := cells_of_heap HS8.out 1 (by simp)
            obtain ⟨t2, t2'⟩ := cells_of_heap HS8.out 2 (by simp)
            obtain ⟨t3, t3'⟩ := cells_of_heap HS8.out 3 (by simp)
            simp only [List.getElem_toArray, List.getElem_cons_zero, List.getElem_cons_succ] at t0 t1 t2 t3
            obtain ⟨o4, o4'⟩ := cells_of_heap K8.out.ho 4 (by simp)
            simp only [List.getElem_toArray, List.getElem_cons_zero, List.getElem_cons_succ] at o4
            obtain ⟨i0, hi, hz0, hz1, hz2⟩ := info_parts info_hd
            have hnH : nH ≤ 1048576 := by rw [HNH.out]; exact HS.out.h
            have b63 : nH + 1 ≤ maxLen := by unfold maxLen; omega
            have b47 : (nH + 1) * 40 ≤ 140737488355328 := by omega
            obtain ⟨f3, hf3, hf3s⟩ := HOW8.out.heldOf
            have hf3o : W8.ownsRow w.heap.size 43 5 (.slice b3 nH d3) nH (flatHd H) := by have := hf3.1; rw [show (⟨k, L, F, fx, H, o, p⟩ : En).H.length = nH from HNH.out.symm] at this; exact this
            have hws : w.heap.size ≤ W8.heap.size := K8.out.hb.size
            go_wp2_with (at_builtin; refine wpList_append_lies _ rfl _ _ 28 rfl w.heap.size 43 i0 (.agg #[.int .i64 0, .int .i64 0, .int .i64 0, .int .i64 0, .int .i64 0]) 5 40 Tryz.underlying28 hi hz0 hz1 hz2 rfl (by decide) _ _ _ rfl (owns_below hf3o (below_alloc1 _ _)) ⟨W8.heap.size, 0, none⟩ 1 1 [.int .i64 key, .int .i64 ga.k, .int .i64 ga.c, .int .i64 ga.m, .int .i64 ga.n] rfl rfl (World.news_of_block (cs := #[.int .i64 key, .int .i64 ga.k, .int .i64 ga.c, .int .i64 ga.m, .int .i64 ga.n]) (t := 43) (fr := (0, 0)) (heap_alloc_new W8 _)) (by simp [Value.oneCell']) (by decide) b63 b47 (by simp; omega) (W8.heap.size + 1) (by simp) ?_)
            intro g2 cap w9 hown9 hgrow9 hat9 hlt9
            obtain ⟨Wa, hWa⟩ : ∃ W, W = W8.alloc (.cells #[.int .i64 key, .int .i64 ga.k, .int .i64 ga.c, .int .i64 ga.m, .int .i64 ga.n] 43) := ⟨_, rfl⟩
            rw [← hWa] at hgrow9
            have hba : Below W8.heap.size W8 Wa := by rw [hWa]; exact below_alloc1 _ _
            have hsa : Wa.heap.size = W8.heap.size + 1 := by rw [hWa]; simp
            rw [← hsa] at hat9
            have hobr : ∀ q, (Value.slice b3 nH d3).ownBlock = some q → q ∈ fp := fun q hq => hf3s q (by rw [hf3.2, ownFp, hq]; simp)
            have hyf := HYF.out
            have hyl := K8.out.lt
            have hyg := K8.out.hy
            have hgg := K8.out.hg
            have hsl := (Array.getElem?_eq_some_iff.mp HS8.out).1
            have hblk : ∀ j, j < W8.heap.size → j ≤ g + 1 ∨ y ≤ j → w9.heap[j]? = W8.heap[j]? := fun j hj hc =>
              (hgrow9.block j (by omega) (fun e => by have := hyf j (hobr j e.symm); omega)).trans (hba.block j hj)
            obtain ⟨fp2, hE9, hfp2⟩ := OwE.heldApp (x := (⟨key, ga.k, ga.c, ga.m, ga.n⟩ : Hd)) (HOW8.out.below hba) (by rw [show (⟨k, L, F, fx, H, o, p⟩ : En).H.length = nH from HNH.out.symm]; exact hown9) hgrow9 hat9
            rw [show (⟨k, L, F, fx, H, o, p⟩ : En).H.length = nH from HNH.out.symm] at hE9
            have hg2 : ¬ y = g2 ∧ g + 1 < g2 := by
              rcases hat9 with h | h
              · have := hyf g2 (hobr g2 h); omega
              · omega
            have hb9 : Below w.heap.size w w9 := (K8.out.hb.trans (hba.mono hws)).grown hgrow9 (by omega) (fun q hq => by have := hyf q (hobr q hq); omega)
            have k9 : RlW w w9 g y #[.int .i64 k, .slice a1 nL c1, .slice a2 nF c2, .int .i64 fx, .slice a3 nH c3, .int .i64 o, .bool p] #[.int .i64 k, .slice b1 nL d1, .slice b2 nF d2, .int .i64 e2.x, .slice b3 nH d3, .int .i64 e2.o, .bool e2.p] := ⟨(hblk g (by omega) (by omega)).trans K8.out.hx, (hblk (g + 1) (by omega) (by omega)).trans K8.out.hr, (hblk y (by omega) (by omega)).trans K8.out.ho, hb9, K8.out.hg, K8.out.hy⟩
            have hs9 := (hblk s hsl (by omega)).trans HS8.out
            obtain ⟨n2, hn2⟩ : ∃ n, n = nH + 1 := ⟨_, rfl⟩
            obtain ⟨H2, hH2⟩ : ∃ l, l = H ++ [(⟨key, ga.k, ga.c, ga.m, ga.n⟩ : Hd)] := ⟨_, rfl⟩
            simp only at hE9
            rw [← hn2, ← hH2] at hE9
            rw [← hn2]
            obtain ⟨p4, p4'⟩ := cells_of_heap k9.ho 4 (by simp)
            simp only [List.getElem_toArray, List.getElem_cons_zero, List.getElem_cons_succ] at p4
            have HE9 := Lib.hid hE9
            have HFP2 := Lib.hid (show ∀ b ∈ fp2, g + 1 < b ∧ b ≠ y from fun b hb => by
              rcases hfp2 b hb with h | h
              · have := hyf b h; omega
              · omega)
            have K9 := Lib.hid k9
            have HS9 := Lib.hid hs9
            have HH2 := Lib.hid hH2
            have HN2 := Lib.hid (show n2 = H2.length by rw [hn2, hH2, HNH.out]; simp)
            have HN2l := Lib.hid (show n2 ≤ 1048577 by omega)
            have HSY := Lib.hid hys
            clear hown9 hgrow9 hat9 hlt9 hWa hba hsa hobr hblk hfp2 hE9 hb9 k9 hs9 hn2 hH2 hyf hf3 hf3s hf3o b63 b47 t0 t1 t2 t3 t0' t1' t2' t3' o4 o4' K8 HOW8 HS8 hnH i0 hi hz0 hz1 hz2
            go_upto_region 10 with (fail)
            obtain ⟨W10, hW10⟩ : ∃ W, W = w9.setCell ⟨y, 4, none⟩ (.slice (some ⟨g2, 0, none⟩) n2 cap) := ⟨_, rfl⟩
            rw [← hW10]
            have k10 : RlW w W10 g y #[.int .i64 k, .slice a1 nL c1, .slice a2 nF c2, .int .i64 fx, .slice a3 nH c3, .int .i64 o, .bool p] #[.int .i64 k, .slice b1 nL d1, .slice b2 nF d2, .int .i64 e2.x, .slice (some ⟨g2, 0, none⟩) n2 cap, .int .i64 e2.o, .bool e2.p] := by rw [hW10]; exact K9.out.set 4 _
            have ht10 : Turn w9 W10 [y] := by rw [hW10]; exact (Turn.refl _ _).setCell 4 _
            have hE10 := (HE9.out.turn ht10 (fun b hb hm => by rw [List.mem_singleton] at hm; exact (HFP2.out b hb).2 hm)).nums e2.x e2.o e2.p
            have hs10 := (ht10.block s (Array.getElem?_eq_some_iff.mp HS9.out).1 (by have := HSY.out; simp; omega)).trans HS9.out
            have K10 := Lib.hid k10
            have HE10 := Lib.hid hE10
            have HS10 := Lib.hid hs10
            clear hW10 k10 ht10 hE10 hs10 K9 HE9 HS9 p4 p4' hgg hyl hyg hsl hg2 hws hls hys
            obtain ⟨W11, hW11⟩ : ∃ W, W = W10.alloc (.cells #[] 47) := ⟨_, rfl⟩
            go_upto_region 11 with (fail)
            rw [← hW11]
            have hb11 : Below W10.heap.size W10 W11 := by rw [hW11]; exact below_alloc1 _ _
            obtain ⟨fq0, hz⟩ : ∃ fq, OwP rpF W11 W10.heap.size 47 1 (.slice (some ⟨W10.heap.size, 0, none⟩) 0 0) [] fq :=
              ⟨_, by rw [hW11]; exact OwP.start (f := rpF) (k := 1) (World.ownsRow_lit (base := W10.heap.size) (e := 47) (size := 2) W10 #[] 0 (Nat.le_refl _) (by simp [maxLen]) rfl)⟩
            have HZ := Lib.hid hz
            have HB11 := Lib.hid hb11
            have hs11 := blk_below HS10.out hb11
            have hx11 := blk_below K10.out.hx hb11
            clear hW11 hz hb11
            obtain ⟨t0, t0'⟩ := cells_of_heap hs11 0 (by simp)
            obtain ⟨t3, t3'⟩ := cells_of_heap hs11 3 (by simp)
            obtain ⟨v2, v2'⟩ := cells_of_heap hx11 2 (by simp)
            simp only [List.getElem_toArray, List.getElem_cons_zero, List.getElem_cons_succ] at t0 t3 v2
            have HS11 := Lib.hid hs11
            have HX11 := Lib.hid hx11
            clear hs11 hx11
            obtain ⟨q9, hq9⟩ : ∃ q, q = (decide (ga.k = 9) && decide (ga.n < (nF : Int))) := ⟨_, rfl⟩
            have HQ9 := Lib.hid hq9
            clear hq9
            go_cut [69] (fun sd wx => sd = .bool q9 ∧ wx = W11)
            case first =>
              by_cases h9 : ga.k = 9
              · go_wp2
                go_meet
                exact ⟨by rw [HQ9.out]; simp [h9], rfl⟩
              · go_wp2
                go_meet
                exact ⟨by rw [HQ9.out]; simp [h9], rfl⟩
            case rest =>
              obtain ⟨rfl, hwc⟩ := hcut
              subst wc
              clear t0 t0' t3 t3' v2 v2'
              obtain ⟨M, hM⟩ : ∃ M, M = (if ga.k = 9 ∧ ga.n < (nF : Int) then mrP H2 (lD F ga.n.toNat) else []) := ⟨_, rfl⟩
              have HM := Lib.hid hM
              clear hM
              go_upto_if 69 with (fail)
              go_cut [11] (fun x11 wx => ∃ a c fq, x11 = .slice a M.length c ∧ OwP rpF wx W10.heap.size 47 1 (.slice a M.length c) M fq ∧ Below W10.heap.size W10 wx)
              case first =>
                cases q9
                · have hq := HQ9.out
                  have hm : M = [] := by
                    rw [HM.out, if_neg]
                    rintro ⟨h1, h2⟩
                    rw [decide_eq_true h1, decide_eq_true h2] at hq
                    simp at hq
                  clear hq
                  go_wp2
                  go_meet
                  rw [hm]
                  exact ⟨_, _, _, rfl, HZ.out, HB11.out⟩
                · have hq := HQ9.out
                  have h9 : ga.k = 9 ∧ ga.n < (nF : Int) := by simpa using hq.symm
                  obtain ⟨j, hj⟩ : ∃ j : Nat, ga.n = (j : Int) := ⟨ga.n.toNat, by have := HGN.out; omega⟩
                  have hjF : j < F.length := by rw [← HNF.out]; omega
                  have hjn : j < nF := by rw [HNF.out]; exact hjF
                  have hm : M = mrP H2 (lD F j) := by rw [HM.out, if_pos h9, hj]; rfl
                  have hsj := HS11.out
                  rw [hj] at hsj
                  obtain ⟨t3, t3'⟩ := cells_of_heap hsj 3 (by simp)
                  obtain ⟨o4, o4'⟩ := cells_of_heap (blk_below K10.out.ho HB11.out) 4 (by simp)
                  simp only [List.getElem_toArray, List.getElem_cons_zero, List.getElem_cons_succ] at t3 o4
                  have hld := (HRd.out W11 (K10.out.hb.trans (HB11.out.mono K10.out.hb.size))).mac
                  rcases RdS.cases (show LdT W11 (.slice a2 nF c2) F from hld) with ⟨hnil, _⟩ | ⟨b0, off, cap', us, _, hv, hblt, hc⟩
                  · exfalso; rw [hnil] at hjF; simp at hjF
                  · obtain ⟨d0, hrow⟩ := hc j hjF
                    obtain ⟨rfl, -, -⟩ := by simpa using hv
                    obtain ⟨v2, v2'⟩ := cells_of_heap HX11.out 2 (by simp)
                    simp only [List.getElem_toArray, List.getElem_cons_zero, List.getElem_cons_succ] at v2
                    have HRl := Lib.hid (show (lD F j).length ≤ 1048576 from lT_le HS.out.fr j)
                    obtain ⟨vr, hvr⟩ : ∃ v, v = uD us j := ⟨_, rfl⟩
                    rw [← hvr] at d0 hrow
                    obtain ⟨ra, rc, rfl⟩ := RdN.shape hrow
                    obtain ⟨nr, hnr⟩ : ∃ n, n = (lD F j).length := ⟨_, rfl⟩
                    rw [← hnr] at d0
                    have HRow := Lib.hid hrow
                    have HNr := Lib.hid hnr
                    have HMj := Lib.hid hm
                    have HE11 := Lib.hid (HE10.out.below HB11.out)
                    have hHm : H2.length ≤ maxLen := by rw [← HN2.out]; have := HN2l.out; unfold maxLen; omega
                    clear hc hrow hnr hvr hv hq hm hsj hld hj hblt
                    have X0 := Lib.hid (Below.refl W11.heap.size W11)
                    go_upto_region 12 with (fail)
                    go_region_law (first
                      | (go_simp; go_at_call 106; have z9 := X0; clear z9; refine (specMacroReports_any (.slice (some ⟨g2, 0, none⟩) n2 cap) (.slice ra nr rc) H2 (lD F j) _ hHm HRl.out (HE11.out.rd.below (by first | exact X0.out | exact X0.out.drew | exact X0.out.drew.drew)).held (by rw [HNr.out]; exact HRow.out.below (by first | exact X0.out | exact X0.out.drew | exact X0.out.drew.drew))).mono ?_; rw [← HMj.out]; rintro e v3 ⟨a7, c7, fq7, rfl, hp7, hb7⟩; have HP7 := Lib.hid (hp7.base (Nat.le_trans HB11.out.size (Below.size (by first | exact X0.out | exact X0.out.drew | exact X0.out.drew.drew)))); have HB7 := Lib.hid (HB11.out.trans ((below_via (by first | exact X0.out | exact X0.out.drew | exact X0.out.drew.drew) hb7).mono HB11.out.size)); clear hp7 hb7 X0))
                    all_goals
                      go_wp2
                      go_meet
                      first
                        | with_reducible exact ⟨_, _, _, rfl, HP7.out, HB7.out⟩
                        | with_reducible exact ⟨_, _, _, rfl, HP7.out.below ((Below.refl _ _).drew), HB7.out.drew⟩
              case rest =>
                obtain ⟨a7, c7, fq, rfl, hp7, hb7⟩ := hcut
                obtain ⟨W12, hE⟩ : ∃ x, x = wc := ⟨_, rfl⟩
                rw [← hE] at hp7 hb7 ⊢
                have K12 := Lib.hid (K10.out.below hb7)
                have HE12 := Lib.hid (HE10.out.below hb7)
                have HP12 := Lib.hid hp7
                have HB12 := Lib.hid hb7
                clear hE hp7 hb7
                obtain ⟨o4, o4'⟩ := cells_of_heap K12.out.ho 4 (by simp)
                simp only [List.getElem_toArray, List.getElem_cons_zero, List.getElem_cons_succ] at o4
                obtain ⟨m1, hm1⟩ : ∃ m : Int, m = (rofM H2 : Nat) := ⟨_, rfl⟩
                obtain ⟨z1, hz1⟩ : ∃ z, z = rofK H2 := ⟨_, rfl⟩
                have H1 := Lib.hid (show ((rofM H2 : Nat) : Int) = m1 ∧ rofK H2 = z1 from ⟨hm1.symm, hz1.symm⟩)
                have HL1 := Lib.hid (show z1.length ≤ 56 by rw [hz1]; exact rofK_len H2)
                have hHm : H2.length ≤ maxLen := by rw [← HN2.out]; have := HN2l.out; unfold maxLen; omega
                clear hm1 hz1
                go_wp2_with fail
                refine (specReportOf_any (.slice (some ⟨g2, 0, none⟩) n2 cap) H2 _ hHm HE12.out.rd.held).mono ?_
                rw [H1.out.1, H1.out.2]
                rintro e v1 ⟨ua, rfl, hu, hb⟩
                obtain ⟨pa, qb, rfl⟩ := owns_shape hu
                have K13 := Lib.hid (K12.out.below hb)
                have HE13 := Lib.hid (HE12.out.below hb)
                have HU13 := Lib.hid hu
                have HB13 := Lib.hid hb
                clear hb hu o4 o4'
                obtain ⟨iR, hR, hR0, hR1, hR2⟩ := info_parts info_rp
                have HML := Lib.hid (show M.length ≤ 16 by rw [HM.out]; split; exact mrP_len_any _ _; simp)
                obtain ⟨fq3, hq1, hq2, hq3⟩ := owC_row HU13.out (by have := HL1.out; omega)
                have hm0 := HP12.out
                obtain ⟨us, fps, hOQ, hfp⟩ := HP12.out
                rw [hfp] at hm0
                have HM0 := Lib.hid hm0
                have HQ := Lib.hid hOQ
                have HNq := Lib.hid hq2
                have HbB := Lib.hid (show Below W12.heap.size W12 (v1.alloc (.cells #[.int .i64 m1, .slice pa z1.length qb] 47)) from HB13.out.alloc HB13.out.size _)
                have HUq := Lib.hid (hq1.below (below_alloc1 v1 (.cells #[.int .i64 m1, .slice pa z1.length qb] 47)))
                have r63 : M.length + 1 ≤ maxLen := by have := HML.out; unfold maxLen; omega
                have r47 : (M.length + 1) * 32 ≤ 140737488355328 := by have := HML.out; omega
                have hws : W10.heap.size ≤ v1.heap.size := Nat.le_trans HB12.out.size HB13.out.size
                clear hm0 hOQ hq1 hq2 hq3
                go_wp2_with (at_builtin; refine wpList_append_lies _ rfl _ _ 34 rfl W10.heap.size 47 iR (.agg #[.int .i64 0, .slice none 0 0]) 2 32 Tryz.underlying34 hR hR0 hR1 hR2 rfl (by decide) _ _ _ rfl (owns_below HQ.out.own HbB.out) ⟨v1.heap.size, 0, none⟩ 1 1 [.int .i64 m1, .slice pa z1.length qb] rfl rfl (World.news_of_block (cs := #[.int .i64 m1, .slice pa z1.length qb]) (t := 47) (fr := (0, 0)) (heap_alloc_new v1 _)) (by simp [Value.oneCell']) (by decide) r63 r47 (by simp; omega) (v1.heap.size + 1) (by simp) ?_)
                intro g4 cap4 w14 hown14 hgrow14 hat14 hlt14
                have hp14 := OwP.pushB (m := m1) (z := z1) HM0.out HQ.out HbB.out HUq.out HNq.out HB12.out.size hown14 hgrow14 (by rcases hat14 with h1 | h1; exact .inl h1; exact .inr (by rw [h1]; simp))
                have hob : ∀ q, (Value.slice a7 M.length c7).ownBlock = some q → W10.heap.size ≤ q := fun q hq => (HM0.out.rng q (List.mem_append_left _ (by rw [ownFp, hq]; simp))).1
                have hb14 : Below W10.heap.size W10 w14 := (HB12.out.trans (HbB.out.mono HB12.out.size)).grown hgrow14 (Nat.le_trans HB12.out.size HbB.out.size) (fun q hq => hob q hq)
                obtain ⟨N1, hN1⟩ : ∃ n, n = M.length + 1 := ⟨_, rfl⟩
                obtain ⟨Mx, hMx⟩ : ∃ l, l = M ++ [(m1, z1)] := ⟨_, rfl⟩
                rw [← hN1, ← hMx] at hp14
                rw [← hN1]
                have K14 := Lib.hid (K10.out.below hb14)
                have HE14 := Lib.hid (HE10.out.below hb14)
                have HP14 := Lib.hid hp14
                have HMX := Lib.hid hMx
                have HMl := Lib.hid (show Mx.length ≤ 1048576 by rw [hMx]; have := HML.out; simp; omega)
                have HN1 := Lib.hid (show N1 = Mx.length by rw [hN1, hMx]; simp)
                have HMr := Lib.hid (show ∀ r ∈ Mx, r.2.length ≤ 1048576 by
                  intro r hr
                  rw [hMx] at hr
                  rcases List.mem_append.1 hr with h | h
                  · have := HM.out
                    split at this
                    · rw [this] at h
                      have := mrP_keys _ _ r h
                      omega
                    · rw [this] at h; cases h
                  · rw [List.mem_singleton] at h; subst h; have := HL1.out; show z1.length ≤ _; omega)
                obtain ⟨m0, hm0⟩ : ∃ m : Int, m = (rofM H : Nat) := ⟨_, rfl⟩
                obtain ⟨z0, hz0⟩ : ∃ z, z = rofK H := ⟨_, rfl⟩
                obtain ⟨rs, hrs⟩ : ∃ l, l = chgV (m0, z0) Mx := ⟨_, rfl⟩
                have he2s : e2 = ⟨k, L, F, e2.x, H, e2.o, e2.p⟩ := by rw [HE2.out]; exact setO_1 _ _
                have e2k : e2.k = k := congrArg En.k he2s
                have e2L : e2.L = L := congrArg En.L he2s
                have e2F : e2.F = F := congrArg En.F he2s
                have hPE : prsE ⟨k, L, F, fx, H, o, p⟩ key hold = ⟨k, L, F, e2.x, H2, e2.o, e2.p⟩ := by
                  rw [prsE, ← HQA.out, ← HE2.out, ← HA2.out, HH2.out, e2k, e2L, e2F]
                have HTL := Lib.hid (show t = ⟨⟨k, L, F, e2.x, H2, e2.o, e2.p⟩, rs, true⟩ by
                  have hpr : prsR ⟨k, L, F, fx, H, o, p⟩ key hold = rs := by
                    rw [prsR, hPE, ← HQA.out, ← HA2.out]
                    show chgV (repV H) ((if ga.k = 9 ∧ ga.n < (F.length : Int) then mrP H2 (lD F ga.n.toNat) else []) ++ [repV H2]) = rs
                    rw [← HNF.out, ← HM.out, hrs, hMx, hm0, hz0, ← H1.out.1, ← H1.out.2]
                    rfl
                  rw [HT2.out, hPE, hpr])
                have H0 := Lib.hid (show ((rofM H : Nat) : Int) = m0 ∧ rofK H = z0 from ⟨hm0.symm, hz0.symm⟩)
                have Hrs := Lib.hid hrs
                have HL0 := Lib.hid (show z0.length ≤ 1048576 by rw [hz0]; have := rofK_len H; omega)
                have hHm0 : H.length ≤ maxLen := by have : H.length ≤ 1048576 := HS.out.h; unfold maxLen; omega
                have HNG := Lib.hid (show g + 1 ∉ fp2 from fun hm => by have := (HFP2.out _ hm).1; omega)
                have HFL := Lib.hid (show ∀ b ∈ fp2, b < w14.heap.size from fun b hb => (HE14.out.rng b hb).2)
                have X0 := Lib.hid (Below.refl w14.heap.size w14)
                clear hown14 hgrow14 hat14 hlt14 hp14 hob hb14 hN1 hMx hm0 hz0 hrs he2s e2k e2L e2F hPE hws r63 r47 hR hR0 hR1 hR2 hHm hfp HP12 HE12 K12 HB12 K13 HE13 HU13 HB13 HM0 HQ HNq HbB HUq HE10 K10
                go_upto_region 14 with (fail)
                obtain ⟨x4, x4'⟩ := cells_of_heap K14.out.hx 4 (by simp)
                simp only [List.getElem_toArray, List.getElem_cons_zero, List.getElem_cons_succ] at x4
                obtain ⟨o0, o0'⟩ := cells_of_heap K14.out.ho 0 (by simp)
                obtain ⟨o1, o1'⟩ := cells_of_heap K14.out.ho 1 (by simp)
                obtain ⟨o2, o2'⟩ := cells_of_heap K14.out.ho 2 (by simp)
                obtain ⟨o3, o3'⟩ := cells_of_heap K14.out.ho 3 (by simp)
                obtain ⟨o4, o4'⟩ := cells_of_heap K14.out.ho 4 (by simp)
                obtain ⟨o5, o5'⟩ := cells_of_heap K14.out.ho 5 (by simp)
                obtain ⟨o6, o6'⟩ := cells_of_heap K14.out.ho 6 (by simp)
                simp only [List.getElem_toArray, List.getElem_cons_zero, List.getElem_cons_succ] at o0 o1 o2 o3 o4 o5 o6
                go_region_law (first
                  | (go_simp; go_at_call 107; have z9 := X0; clear z9; refine (specReportOf_any (.slice a3 nH c3) H _ hHm0 (HRd.out _ (K14.out.hb.trans (Below.mono (by first | exact X0.out | exact X0.out.drew | exact X0.out.drew.drew | exact X0.out.alloc X0.out.size _ | exact (X0.out.alloc X0.out.size _).drew) K14.out.hb.size))).held).mono ?_; rw [H0.out.1, H0.out.2]; rintro e y1 ⟨uy, rfl, hu, hb⟩; obtain ⟨py, qy, rfl⟩ := owns_shape hu; have hbr : Below w14.heap.size w14 y1 := below_via (by first | exact X0.out | exact X0.out.drew | exact X0.out.drew.drew | exact X0.out.alloc X0.out.size _ | exact (X0.out.alloc X0.out.size _).drew) hb; have KA := K14.out.below hbr; obtain ⟨dz0, -⟩ := cells_of_heap KA.ho 0 (by simp); obtain ⟨dz1, -⟩ := cells_of_heap KA.ho 1 (by simp); obtain ⟨dz2, -⟩ := cells_of_heap KA.ho 2 (by simp); obtain ⟨dz3, -⟩ := cells_of_heap KA.ho 3 (by simp); obtain ⟨dz4, -⟩ := cells_of_heap KA.ho 4 (by simp); obtain ⟨dz5, -⟩ := cells_of_heap KA.ho 5 (by simp); obtain ⟨dz6, -⟩ := cells_of_heap KA.ho 6 (by simp); simp only [List.getElem_toArray, List.getElem_cons_zero, List.getElem_cons_succ] at dz0 dz1 dz2 dz3 dz4 dz5 dz6; clear KA; have HUy := Lib.hid (Rd.of_owns hu); have X1 := Lib.hid hbr; clear hbr hb hu X0)
                  | (go_simp; go_at_call 108; have z9 := X1; clear z9; refine (specL9Changes_any m0 z0 py qy (.slice (some ⟨g4, 0, none⟩) N1 cap4) Mx _ HMl.out HMr.out HL0.out (HUy.out.below (by first | exact Below.refl _ _ | exact (Below.refl _ _).drew | exact (Below.refl _ _).drew.drew | exact (Below.refl _ _).alloc (Nat.le_refl _) _ | exact ((Below.refl _ _).alloc (Nat.le_refl _) _).drew)) (by rw [HN1.out]; have := HP14.out.rd; exact (by rw [HN1.out] at this; exact this.below (by first | exact X1.out | exact X1.out.drew | exact X1.out.drew.drew | exact X1.out.alloc X1.out.size _ | exact (X1.out.alloc X1.out.size _).drew)))).mono ?_; rw [← Hrs.out]; rintro e y4 ⟨a5, c5, fq5, rfl, hq, hb⟩; have hbr : Below w14.heap.size w14 y4 := below_via (by first | exact X1.out | exact X1.out.drew | exact X1.out.drew.drew | exact X1.out.alloc X1.out.size _ | exact (X1.out.alloc X1.out.size _).drew) hb; have HQ5 := Lib.hid (hq.low.base (B := w14.heap.size) (Below.size (by first | exact X1.out | exact X1.out.drew | exact X1.out.drew.drew | exact X1.out.alloc X1.out.size _ | exact (X1.out.alloc X1.out.size _).drew))); have X4 := Lib.hid hbr; have KA := K14.out.below hbr; obtain ⟨l0, -⟩ := cells_of_heap KA.ho 0 (by simp); obtain ⟨l1, -⟩ := cells_of_heap KA.ho 1 (by simp); obtain ⟨l2, -⟩ := cells_of_heap KA.ho 2 (by simp); obtain ⟨l3, -⟩ := cells_of_heap KA.ho 3 (by simp); obtain ⟨l4, -⟩ := cells_of_heap KA.ho 4 (by simp); obtain ⟨l5, -⟩ := cells_of_heap KA.ho 5 (by simp); obtain ⟨l6, -⟩ := cells_of_heap KA.ho 6 (by simp); simp only [List.getElem_toArray, List.getElem_cons_zero, List.getElem_cons_succ] at l0 l1 l2 l3 l4 l5 l6; clear KA; have KR := Lib.hid (blk_below K14.out.hr hbr); obtain ⟨r0, r0'⟩ := cells_of_heap KR.out 0 (by simp); obtain ⟨r1, r1'⟩ := cells_of_heap KR.out 1 (by simp); obtain ⟨r2, r2'⟩ := cells_of_heap KR.out 2 (by simp); obtain ⟨r3, r3'⟩ := cells_of_heap KR.out 3 (by simp); obtain ⟨r4, r4'⟩ := cells_of_heap KR.out 4 (by simp); obtain ⟨r5, r5'⟩ := cells_of_heap KR.out 5 (by simp); obtain ⟨r6, r6'⟩ := cells_of_heap KR.out 6 (by simp); simp only [List.getElem_toArray, List.getElem_cons_zero, List.getElem_cons_succ] at r0 r1 r2 r3 r4 r5 r6; clear hq hbr hb))
                all_goals
                  have hle4 : w.heap.size ≤ w14.heap.size := K14.out.hb.size
                  have HG2 := Lib.hid (show g + 1 ∉ fq5 from fun hm => by have := (HQ5.out.rng _ hm).1; have := K14.out.lt; have := K14.out.hy; omega)
                  have HQ4 := Lib.hid (HQ5.out.base hle4)
                  have HE4 := Lib.hid (HE14.out.below X4.out)
                  have HDJ := Lib.hid (show ∀ b ∈ fp2, b ∉ fq5 from fun b hb hm => by have := HFL.out b hb; have := (HQ5.out.rng b hm).1; omega)
                  have HBF := Lib.hid (K14.out.hb.trans (X4.out.mono hle4))
                  clear hle4
                  go_wp2
                  clear r0 r0' r1 r1' r2 r2' r3 r3' r4 r4' r5 r5' r6 r6' 
                  have hz4 := HQ4.out.putAt (y := g + 1) [.int .i64 k, .slice b1 nL d1, .slice b2 nF d2, .int .i64 e2.x, .slice (some ⟨g2, 0, none⟩) n2 cap, .int .i64 e2.o, .bool e2.p] HG2.out 0
                  obtain ⟨wf, hwf⟩ : ∃ x, x = putW (y4) (g + 1) 0 [.int .i64 k, .slice b1 nL d1, .slice b2 nF d2, .int .i64 e2.x, .slice (some ⟨g2, 0, none⟩) n2 cap, .int .i64 e2.o, .bool e2.p] := ⟨_, rfl⟩
                  have kf := putW_all [.int .i64 k, .slice b1 nL d1, .slice b2 nF d2, .int .i64 e2.x, .slice (some ⟨g2, 0, none⟩) n2 cap, .int .i64 e2.o, .bool e2.p] KR.out rfl
                  have bf := putW_below (b := g + 1) (by first | omega | simp) [.int .i64 k, .slice b1 nL d1, .slice b2 nF d2, .int .i64 e2.x, .slice (some ⟨g2, 0, none⟩) n2 cap, .int .i64 e2.o, .bool e2.p] 0 _ HBF.out
                  have of := (show OwE (putW y4 (g + 1) 0 [.int .i64 k, .slice b1 nL d1, .slice b2 nF d2, .int .i64 e2.x, .slice (some ⟨g2, 0, none⟩) n2 cap, .int .i64 e2.o, .bool e2.p]) w.heap.size ⟨k, L, F, e2.x, H2, e2.o, e2.p⟩ (.slice b1 nL d1) (.slice b2 nF d2) (.slice (some ⟨g2, 0, none⟩) n2 cap) fp2 ∧ OwZ rpF (putW y4 (g + 1) 0 [.int .i64 k, .slice b1 nL d1, .slice b2 nF d2, .int .i64 e2.x, .slice (some ⟨g2, 0, none⟩) n2 cap, .int .i64 e2.o, .bool e2.p]) w.heap.size 1 (.slice a5 rs.length c5) rs fq5 from ⟨HE4.out.putAt (y := g + 1) [.int .i64 k, .slice b1 nL d1, .slice b2 nF d2, .int .i64 e2.x, .slice (some ⟨g2, 0, none⟩) n2 cap, .int .i64 e2.o, .bool e2.p] HNG.out 0, hz4⟩)
                  rw [← hwf] at kf bf of
                  have cf := hwf.symm
                  simp only [putW, Nat.reduceAdd] at cf
                  rw [cf]
                  clear cf hwf
                  have f0 := (cells_of_heap kf 0 (by simp)).1
                  have f1 := (cells_of_heap kf 1 (by simp)).1
                  have f2 := (cells_of_heap kf 2 (by simp)).1
                  have f3 := (cells_of_heap kf 3 (by simp)).1
                  have f4 := (cells_of_heap kf 4 (by simp)).1
                  have f5 := (cells_of_heap kf 5 (by simp)).1
                  have f6 := (cells_of_heap kf 6 (by simp)).1
                  simp only [List.getElem_toArray, List.getElem_cons_zero, List.getElem_cons_succ] at f0 f1 f2 f3 f4 f5 f6
                  refine bodyPost_ret (v := .tuple #[env k (.slice b1 nL d1) (.slice b2 nF d2) e2.x (.slice (some ⟨g2, 0, none⟩) n2 cap) e2.o e2.p, .slice a5 rs.length c5, .bool true]) (by simp [results, Tryz.results29, go_sem, f0, f1, f2, f3, f4, f5, f6]) rfl (by rw [HTL.out]; exact ⟨b1, d1, b2, d2, some ⟨g2, 0, none⟩, cap, fp2, a5, c5, fq5, by rw [HNL.out, HNF.out, HN2.out], by rw [HNL.out, HNF.out, HN2.out] at of; exact of.1, of.2, HDJ.out, bf⟩)
      · have hk' : 0 ≤ kk := by omega
        obtain rfl : t = ⟨en0, [], false⟩ := by rw [HT.out, decide_eq_false hk]; rfl
        obtain ⟨r0, r0'⟩ := cells_of_heap (blk_below HR2.out (below_alloc1 w2 (.cells #[] 47))) 0 (by simp)
        obtain ⟨r1, r1'⟩ := cells_of_heap (blk_below HR2.out (below_alloc1 w2 (.cells #[] 47))) 1 (by simp)
        obtain ⟨r2, r2'⟩ := cells_of_heap (blk_below HR2.out (below_alloc1 w2 (.cells #[] 47))) 2 (by simp)
        obtain ⟨r3, r3'⟩ := cells_of_heap (blk_below HR2.out (below_alloc1 w2 (.cells #[] 47))) 3 (by simp)
        obtain ⟨r4, r4'⟩ := cells_of_heap (blk_below HR2.out (below_alloc1 w2 (.cells #[] 47))) 4 (by simp)
        obtain ⟨r5, r5'⟩ := cells_of_heap (blk_below HR2.out (below_alloc1 w2 (.cells #[] 47))) 5 (by simp)
        obtain ⟨r6, r6'⟩ := cells_of_heap (blk_below HR2.out (below_alloc1 w2 (.cells #[] 47))) 6 (by simp)
        simp only [List.getElem_toArray, List.getElem_cons_zero, List.getElem_cons_succ] at r0 r1 r2 r3 r4 r5 r6
        go_wp2
        clear r0 r0' r1 r1' r2 r2' r3 r3' r4 r4' r5 r5' r6 r6'
        have hnz := (OwP.start (f := rpF) (k := 1) (World.ownsRow_lit (base := w2.heap.size) (e := 47) (size := 2) w2 #[] 0 (Nat.le_refl _) (by simp [maxLen]) rfl)).low
        have hgl : g + 1 < w2.heap.size := (Array.getElem?_eq_some_iff.mp HR2.out).1
        obtain ⟨wf, hwf⟩ : ∃ x, x = putW (w2.alloc (.cells #[] 47)) (g + 1) 0 [.int .i64 0, .slice none 0 0, .slice none 0 0, .int .i64 0, .slice none 0 0, .int .i64 0, .bool false] := ⟨_, rfl⟩
        have kf := putW_all [.int .i64 0, .slice none 0 0, .slice none 0 0, .int .i64 0, .slice none 0 0, .int .i64 0, .bool false] (blk_below HR2.out (below_alloc1 w2 (.cells #[] 47))) rfl
        have bf := putW_below (b := g + 1) (by first | omega | simp) [.int .i64 0, .slice none 0 0, .slice none 0 0, .int .i64 0, .slice none 0 0, .int .i64 0, .bool false] 0 _ (HB2.out.alloc HB2.out.size (.cells #[] 47))
        have of := hnz.putAt (y := g + 1) [.int .i64 0, .slice none 0 0, .slice none 0 0, .int .i64 0, .slice none 0 0, .int .i64 0, .bool false] (fun hm => by have := (hnz.rng _ hm).1; omega) 0
        rw [← hwf] at kf bf of
        have cf := hwf.symm
        simp only [putW, Nat.reduceAdd] at cf
        rw [cf]
        clear cf hwf
        have f0 := (cells_of_heap kf 0 (by simp)).1
        have f1 := (cells_of_heap kf 1 (by simp)).1
        have f2 := (cells_of_heap kf 2 (by simp)).1
        have f3 := (cells_of_heap kf 3 (by simp)).1
        have f4 := (cells_of_heap kf 4 (by simp)).1
        have f5 := (cells_of_heap kf 5 (by simp)).1
        have f6 := (cells_of_heap kf 6 (by simp)).1
        simp only [List.getElem_toArray, List.getElem_cons_zero, List.getElem_cons_succ] at f0 f1 f2 f3 f4 f5 f6
        refine bodyPost_ret (v := .tuple #[env 0 (.slice none 0 0) (.slice none 0 0) 0 (.slice none 0 0) 0 false, .slice (some ⟨w2.heap.size, 0, none⟩) 0 0, .bool false]) (by simp [results, Tryz.results29, go_sem, f0, f1, f2, f3, f4, f5, f6]) rfl ⟨none, 0, none, 0, none, 0, _, _, _, _, rfl, OwE.zero _ _, of.base HB2.out.size, (fun _ h => by cases h), bf⟩

end Go.Proofs.YtjfckchoklepbaaGreat
