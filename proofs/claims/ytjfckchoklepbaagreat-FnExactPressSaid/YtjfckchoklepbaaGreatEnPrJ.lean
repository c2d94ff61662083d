/- DERIVED. The program's settle and deedOf: the action that a key acts as, and what it does, as a value of an interface. No condition. · The program's reportsOf: the reports of a deed whose key is held, of the engine that lies first in the box behind the pointer. Called with any engine of at most 1048576 layers, macros, steps and held keys. · The program's press, to the engine that lies first in the box behind the pointer. Called with a valid engine of at most 1048576 macros, steps and held keys. · The program's Press: the key's action is settled, the key is held, and the reports change. Called with any engine of at most 1048576 layers, macros, steps and held keys. -/
import Derived.Test.YtjfckchoklepbaaGreatEnDo
import Derived.Test.YtjfckchoklepbaaGreatAcTapO
import Derived.Test.YtjfckchoklepbaaGreatEnOwn
import Derived.Test.YtjfckchoklepbaaGreatMcRepI
import Derived.Test.YtjfckchoklepbaaGreatEnChg
import Derived.Test.YtjfckchoklepbaaGreatEnCha
import Derived.Test.YtjfckchoklepbaaGreatEnMath
import Derived.Test.YtjfckchoklepbaaGreatEnImplC
namespace Go.Proofs.YtjfckchoklepbaaGreat
open Go.RowKit

/-- The type of an action's deed. -/
def dedT (a : Ac) : TypeId :=
  if a.k = 2 ∧ a.c ≠ 0 then 231 else if a.k = 4 then 232 else if a.k = 5 then 233
  else if a.k = 8 then 234 else if a.k = 9 then 235 else if a.k = 10 then 236 else 237
def dedV (a : Ac) : Value := .iface (dedT a) (acv a.k a.c a.m a.n)
set_option maxRecDepth 100000 in
set_option maxHeartbeats 4000000 in
theorem deedOf_any (k c m n : Int) (w : World) : Calls Tryz.prog 159 #[acv k c m n] w fun e w' => e = .returned (dedV ⟨k, c, m, n⟩) ∧ Below w.heap.size w w' := by
  obtain ⟨T, hT⟩ : ∃ T, T = dedT ⟨k, c, m, n⟩ := ⟨_, rfl⟩
  rw [dedV, ← hT]
  unfold dedT at hT
  simp only at hT
  have HT := Lib.hid hT
  clear hT
  obtain ⟨W, hW⟩ : ∃ W, W = w.alloc (.cells #[.int .i64 k, .int .i64 c, .int .i64 m, .int .i64 n] 41) := ⟨_, rfl⟩
  have HX0 := Lib.hid (show Bxd W w.heap.size [.int .i64 k, .int .i64 c, .int .i64 m, .int .i64 n] by rw [hW]; exact Bxd.new _ _ _)
  have HB0 := Lib.hid (show Below w.heap.size w W by rw [hW]; exact (Below.refl _ _).alloc (Nat.le_refl _) _)
  have HS0 := Lib.hid (show w.heap.size < W.heap.size by rw [hW]; simp)
  have HW := Lib.hid hW
  clear hW
  go_enter Tryz.func159, Tryz.ntmps159
  go_upto_region 2 with (fail)
  rw [← HW.out]
  have c0 := HX0.out.at 0 _ rfl
  have c1 := HX0.out.at 1 _ rfl
  have c2 := HX0.out.at 2 _ rfl
  have c3 := HX0.out.at 3 _ rfl
  by_cases k2 : k = 2
  · subst k2
    by_cases hc : c = 0
    · subst hc
      obtain rfl : T = 237 := HT.out.trans (by simp)
      go_wp2
      go_ret
      exact ⟨rfl, HB0.out⟩
    · have hc' : (c == 0) = false := beq_false_of_ne hc
      have hc2 : (c != 0) = true := by rw [bne, hc']; rfl
      obtain rfl : T = 231 := HT.out.trans (by simp [hc])
      go_wp2
      go_ret
      exact ⟨rfl, HB0.out⟩
  have e2 : (k == 2) = false := beq_false_of_ne k2
  by_cases k4 : k = 4
  · subst k4
    obtain rfl : T = 232 := HT.out.trans (by simp)
    go_wp2
    go_ret
    exact ⟨rfl, HB0.out⟩
  have e4 : (k == 4) = false := beq_false_of_ne k4
  by_cases k5 : k = 5
  · subst k5
    obtain rfl : T = 233 := HT.out.trans (by simp)
    go_wp2
    go_ret
    exact ⟨rfl, HB0.out⟩
  have e5 : (k == 5) = false := beq_false_of_ne k5
  by_cases k8 : k = 8
  · subst k8
    obtain rfl : T = 234 := HT.out.trans (by simp)
    go_wp2
    go_ret
    exact ⟨rfl, HB0.out⟩
  have e8 : (k == 8) = false := beq_false_of_ne k8
  by_cases k9 : k = 9
  · subst k9
    obtain rfl : T = 235 := HT.out.trans (by simp)
    go_wp2
    go_ret
    exact ⟨rfl, HB0.out⟩
  have e9 : (k == 9) = false := beq_false_of_ne k9
  by_cases k10 : k = 10
  · subst k10
    obtain rfl : T = 236 := HT.out.trans (by simp)
    go_wp2
    go_ret
    exact ⟨rfl, HB0.out⟩
  have e10 : (k == 10) = false := beq_false_of_ne k10
  obtain rfl : T = 237 := HT.out.trans (by simp [k2, k4, k5, k8, k9, k10])
  go_wp2
  go_ret
  exact ⟨rfl, HB0.out⟩

set_option maxRecDepth 100000 in
set_option maxHeartbeats 4000000 in
theorem settle_any (k c m n : Int) (hold : Bool) (w : World) : Calls Tryz.prog 160 #[acv k c m n, .bool hold] w fun e w' =>
    e = .returned (acv (if hold = true then holdR ⟨k, c, m, n⟩ else tapR ⟨k, c, m, n⟩).k (if hold = true then holdR ⟨k, c, m, n⟩ else tapR ⟨k, c, m, n⟩).c (if hold = true then holdR ⟨k, c, m, n⟩ else tapR ⟨k, c, m, n⟩).m (if hold = true then holdR ⟨k, c, m, n⟩ else tapR ⟨k, c, m, n⟩).n) ∧ Below w.heap.size w w' := by
  obtain ⟨a, ha⟩ : ∃ a, a = if hold = true then holdR ⟨k, c, m, n⟩ else tapR ⟨k, c, m, n⟩ := ⟨_, rfl⟩
  rw [← ha]
  have HA := Lib.hid ha
  clear ha
  obtain ⟨V, hV⟩ : ∃ V, V = (w.alloc (.cells #[.int .i64 k, .int .i64 c, .int .i64 m, .int .i64 n] 41)).alloc (.cells #[.int .i64 0, .int .i64 0, .int .i64 0, .int .i64 0] 41) := ⟨_, rfl⟩
  have hX : Bxd V w.heap.size [.int .i64 k, .int .i64 c, .int .i64 m, .int .i64 n] := by rw [hV]; exact (Bxd.new _ _ _).below ((Below.refl _ _).alloc (Nat.le_refl _) _) (by simp)
  have hG : V.heap[w.heap.size + 1]? = some (.cells #[.int .i64 0, .int .i64 0, .int .i64 0, .int .i64 0] 41 (0, 0)) := by rw [hV]; have := heap_alloc_new (w.alloc (.cells #[.int .i64 k, .int .i64 c, .int .i64 m, .int .i64 n] 41)) (.cells #[.int .i64 0, .int .i64 0, .int .i64 0, .int .i64 0] 41); simpa using this
  have hB : Below w.heap.size w V := by rw [hV]; exact ((Below.refl _ _).alloc (Nat.le_refl _) _).alloc (by simp) _
  have hS : w.heap.size + 1 < V.heap.size := by rw [hV]; simp
  have HV2 := Lib.hid hV
  have HX0 := Lib.hid hX
  have HG0 := Lib.hid hG
  have HB0 := Lib.hid hB
  have HS0 := Lib.hid hS
  clear hV hX hG hB hS
  go_enter Tryz.func160, Tryz.ntmps160
  go_upto_region 1 with (fail)
  rw [← HV2.out]
  have c0 := HX0.out.at 0 _ rfl
  have c1 := HX0.out.at 1 _ rfl
  have c2 := HX0.out.at 2 _ rfl
  have c3 := HX0.out.at 3 _ rfl
  cases hold
  · go_wp2_with fail
    refine (implTapOf_any k c m n _).mono ?_
    rw [show tapR ⟨k, c, m, n⟩ = a from HA.out.symm]
    rintro e w1 ⟨rfl, hb⟩
    have HB := Lib.hid (HB0.out.trans (hb.mono HB0.out.size))
    have HG1 := Lib.hid ((hb.block _ HS0.out).trans HG0.out)
    clear hb c0 c1 c2 c3
    obtain ⟨y0, q0⟩ := cells_of_heap HG1.out 0 (by simp)
    obtain ⟨y1, q1⟩ := cells_of_heap HG1.out 1 (by simp)
    obtain ⟨y2, q2⟩ := cells_of_heap HG1.out 2 (by simp)
    obtain ⟨y3, q3⟩ := cells_of_heap HG1.out 3 (by simp)
    go_wp2
    clear y0 y1 y2 y3 q0 q1 q2 q3
    obtain ⟨wf, hwf⟩ : ∃ x, x = putW (w1) (w.heap.size + 1) 0 [.int .i64 a.k, .int .i64 a.c, .int .i64 a.m, .int .i64 a.n] := ⟨_, rfl⟩
    have kf := putW_all [.int .i64 a.k, .int .i64 a.c, .int .i64 a.m, .int .i64 a.n] HG1.out rfl
    have bf := putW_below (b := w.heap.size + 1) (by first | omega | simp) [.int .i64 a.k, .int .i64 a.c, .int .i64 a.m, .int .i64 a.n] 0 _ HB.out
    rw [← hwf] at kf bf
    have cf := hwf.symm
    simp only [putW, Nat.reduceAdd] at cf
    rw [cf]
    clear cf hwf
    have f0 := (cells_of_heap kf 0 (by simp)).1
    have f1 := (cells_of_heap kf 1 (by simp)).1
    have f2 := (cells_of_heap kf 2 (by simp)).1
    have f3 := (cells_of_heap kf 3 (by simp)).1
    simp only [List.getElem_toArray, List.getElem_cons_zero, List.getElem_cons_succ] at f0 f1 f2 f3
    refine bodyPost_ret (v := acv a.k a.c a.m a.n) (by simp [results, Tryz.results160, go_sem, f0, f1, f2, f3]) rfl ⟨rfl, bf⟩
  · go_wp2_with fail
    refine (implHoldOf_any k c m n _).mono ?_
    rw [show holdR ⟨k, c, m, n⟩ = a from HA.out.symm]
    rintro e w1 ⟨rfl, hb⟩
    have HB := Lib.hid (HB0.out.trans (hb.mono HB0.out.size))
    have HG1 := Lib.hid ((hb.block _ HS0.out).trans HG0.out)
    clear hb c0 c1 c2 c3
    obtain ⟨y0, q0⟩ := cells_of_heap HG1.out 0 (by simp)
    obtain ⟨y1, q1⟩ := cells_of_heap HG1.out 1 (by simp)
    obtain ⟨y2, q2⟩ := cells_of_heap HG1.out 2 (by simp)
    obtain ⟨y3, q3⟩ := cells_of_heap HG1.out 3 (by simp)
    go_wp2
    clear y0 y1 y2 y3 q0 q1 q2 q3
    obtain ⟨wf, hwf⟩ : ∃ x, x = putW (w1) (w.heap.size + 1) 0 [.int .i64 a.k, .int .i64 a.c, .int .i64 a.m, .int .i64 a.n] := ⟨_, rfl⟩
    have kf := putW_all [.int .i64 a.k, .int .i64 a.c, .int .i64 a.m, .int .i64 a.n] HG1.out rfl
    have bf := putW_below (b := w.heap.size + 1) (by first | omega | simp) [.int .i64 a.k, .int .i64 a.c, .int .i64 a.m, .int .i64 a.n] 0 _ HB.out
    rw [← hwf] at kf bf
    have cf := hwf.symm
    simp only [putW, Nat.reduceAdd] at cf
    rw [cf]
    clear cf hwf
    have f0 := (cells_of_heap kf 0 (by simp)).1
    have f1 := (cells_of_heap kf 1 (by simp)).1
    have f2 := (cells_of_heap kf 2 (by simp)).1
    have f3 := (cells_of_heap kf 3 (by simp)).1
    simp only [List.getElem_toArray, List.getElem_cons_zero, List.getElem_cons_succ] at f0 f1 f2 f3
    refine bodyPost_ret (v := acv a.k a.c a.m a.n) (by simp [results, Tryz.results160, go_sem, f0, f1, f2, f3]) rfl ⟨rfl, bf⟩
end Go.Proofs.YtjfckchoklepbaaGreat

namespace Go.Proofs.YtjfckchoklepbaaGreat
open Go.RowKit

/-- All reports of a deed, also those that repeat the one before. -/
def allR (H : List Hd) (F : List (List St)) (a : Ac) : List Rv := (if a.k = 9 ∧ a.n < (F.length : Int) then mrP H (lD F a.n.toNat) else []) ++ [repV H]
theorem dedT_cases (a : Ac) : (a.k = 9 ∧ dedT a = 235) ∨ (a.k ≠ 9 ∧ (dedT a = 231 ∨ dedT a = 232 ∨ dedT a = 233 ∨ dedT a = 234 ∨ dedT a = 236 ∨ dedT a = 237)) := by
  by_cases h9 : a.k = 9
  · left
    refine ⟨h9, ?_⟩
    unfold dedT
    simp [h9]
  · right
    refine ⟨h9, ?_⟩
    unfold dedT
    repeat' split
    all_goals first | exact absurd (by assumption) h9 | simp
theorem OwP.none (w : World) (B : Nat) : OwP rpF w B 47 1 (.slice none 0 0) [] [] :=
  ⟨[], [], ⟨⟨rfl, .inl ⟨rfl, rfl⟩⟩, rfl, rfl, fun j hj => absurd hj (Nat.not_lt_zero _), by simp [ownFp, Value.ownBlock]⟩, by simp [ownFp, Value.ownBlock]⟩
set_option maxRecDepth 100000 in
set_option maxHeartbeats 16000000 in
theorem reportsOf_at (e : En) (qa : Ac) (rest : List Value) (Tb : TypeId) (a1 a2 a3 : Option Addr) (c1 c2 c3 : Nat) (y : Nat) (w : World) (hs : EnSz e) (hqn : 0 ≤ qa.n)
    (hy : w.heap[y]? = some (.cells (.int .i64 e.k :: .slice a1 e.L.length c1 :: .slice a2 e.F.length c2 :: .int .i64 e.x :: .slice a3 e.H.length c3 :: .int .i64 e.o :: .bool e.p :: rest).toArray Tb (0, 0)))
    (h : RdE w e (.slice a1 e.L.length c1) (.slice a2 e.F.length c2) (.slice a3 e.H.length c3)) :
    Calls Tryz.prog 162 #[.pointer (some ⟨y, 0, none⟩), dedV qa] w fun x w' => ∃ a c fq, x = .returned (.slice a (allR e.H e.F qa).length c) ∧ OwP rpF w' w.heap.size 47 1 (.slice a (allR e.H e.F qa).length c) (allR e.H e.F qa) fq ∧ Below w.heap.size w w' := by
  obtain ⟨k, L, F, fx, H, o, p⟩ := e
  simp only at hy h ⊢
  obtain ⟨rs, hrs⟩ : ∃ l, l = allR H F qa := ⟨_, rfl⟩
  rw [← hrs]
  obtain ⟨nL, hnL⟩ : ∃ n, n = L.length := ⟨_, rfl⟩
  obtain ⟨nF, hnF⟩ : ∃ n, n = F.length := ⟨_, rfl⟩
  obtain ⟨nH, hnH⟩ : ∃ n, n = H.length := ⟨_, rfl⟩
  rw [← hnL, ← hnF, ← hnH] at hy h
  obtain ⟨b9, hb9⟩ : ∃ b, b = decide (qa.k = 9) := ⟨_, rfl⟩
  have hls : H.length ≤ 1048576 := hs.h
  have hHm : H.length ≤ maxLen := by unfold maxLen; omega
  have HY := Lib.hid hy
  have HRd := Lib.hid h
  have HS := Lib.hid hs
  have HNF := Lib.hid hnF
  have HNH := Lib.hid hnH
  have HRS := Lib.hid hrs
  have HB9 := Lib.hid hb9
  have hyl := (Array.getElem?_eq_some_iff.mp hy).1
  obtain ⟨g, hg⟩ : ∃ g, g = w.heap.size := ⟨_, rfl⟩
  have hyg : ¬ y = g := by omega
  have hgy : ¬ g = y := by omega
  have HG := Lib.hid hg
  clear hy h hs hnL hnF hnH hrs hb9 hg
  obtain ⟨TT, hTT⟩ : ∃ x, x = dedT qa := ⟨_, rfl⟩
  rw [dedV, ← hTT]
  have HTT := Lib.hid hTT
  clear hTT
  go_enter Tryz.func162, Tryz.ntmps162
  go_upto_region 2 with (fail)
  go_cut [6, 7] (fun sp sb wx => sp = .pointer (some ⟨g, 0, none⟩) ∧ sb = .bool b9 ∧ wx = w.alloc (.cells (if b9 = true then #[.int .i64 qa.k, .int .i64 qa.c, .int .i64 qa.m, .int .i64 qa.n] else #[.int .i64 0, .int .i64 0, .int .i64 0, .int .i64 0]) 235))
  case first =>
    rcases dedT_cases qa with ⟨h9, hT⟩ | ⟨h9, hT⟩
    · obtain rfl : b9 = true := by rw [HB9.out, decide_eq_true h9]
      obtain rfl : TT = 235 := HTT.out.trans hT
      clear hT h9
      have ta : ∀ (v : Value) (w : World), (Instr.typeAssert (.iface 235 v) 185 235 true).run Tryz.prog w = .ok (.tuple #[v, .bool true]) w := fun _ _ => by kernel_rfl
      go_wp2
      go_meet
      exact ⟨by rw [HG.out], rfl, rfl⟩
    · obtain rfl : b9 = false := by rw [HB9.out, decide_eq_false h9]
      clear h9
      have ta0 : ∀ (v : Value) (w : World), (Instr.typeAssert (.iface 231 v) 185 235 true).run Tryz.prog w = .ok (.tuple #[.agg #[.int .i64 0, .int .i64 0, .int .i64 0, .int .i64 0], .bool false]) w := fun _ _ => by kernel_rfl
      have ta1 : ∀ (v : Value) (w : World), (Instr.typeAssert (.iface 232 v) 185 235 true).run Tryz.prog w = .ok (.tuple #[.agg #[.int .i64 0, .int .i64 0, .int .i64 0, .int .i64 0], .bool false]) w := fun _ _ => by kernel_rfl
      have ta2 : ∀ (v : Value) (w : World), (Instr.typeAssert (.iface 233 v) 185 235 true).run Tryz.prog w = .ok (.tuple #[.agg #[.int .i64 0, .int .i64 0, .int .i64 0, .int .i64 0], .bool false]) w := fun _ _ => by kernel_rfl
      have ta3 : ∀ (v : Value) (w : World), (Instr.typeAssert (.iface 234 v) 185 235 true).run Tryz.prog w = .ok (.tuple #[.agg #[.int .i64 0, .int .i64 0, .int .i64 0, .int .i64 0], .bool false]) w := fun _ _ => by kernel_rfl
      have ta4 : ∀ (v : Value) (w : World), (Instr.typeAssert (.iface 236 v) 185 235 true).run Tryz.prog w = .ok (.tuple #[.agg #[.int .i64 0, .int .i64 0, .int .i64 0, .int .i64 0], .bool false]) w := fun _ _ => by kernel_rfl
      have ta5 : ∀ (v : Value) (w : World), (Instr.typeAssert (.iface 237 v) 185 235 true).run Tryz.prog w = .ok (.tuple #[.agg #[.int .i64 0, .int .i64 0, .int .i64 0, .int .i64 0], .bool false]) w := fun _ _ => by kernel_rfl
      rcases hT with hT | hT | hT | hT | hT | hT
      all_goals
        replace hT := HTT.out.trans hT
        subst hT
        go_wp2
        go_meet
        exact ⟨by rw [HG.out], rfl, rfl⟩
  case rest =>
    obtain ⟨rfl, rfl, hwc⟩ := hcut
    obtain ⟨W1, hW1⟩ : ∃ x, x = wc := ⟨_, rfl⟩
    rw [← hW1] at hwc ⊢
    have hb1 : Below w.heap.size w W1 := by rw [hwc]; exact below_alloc1 _ _
    have HD1 := Lib.hid (show W1.heap[g]? = some (.cells (if b9 = true then #[.int .i64 qa.k, .int .i64 qa.c, .int .i64 qa.m, .int .i64 qa.n] else #[.int .i64 0, .int .i64 0, .int .i64 0, .int .i64 0]) 235 (0, 0)) by rw [hwc, HG.out]; exact heap_alloc_new w _)
    have HY1 := Lib.hid (blk_below HY.out hb1)
    have HB1 := Lib.hid hb1
    have HRd1 := Lib.hid (HRd.out.below hb1)
    clear hW1 hwc hb1
    obtain ⟨q9, hq9⟩ : ∃ q, q = (b9 && decide (qa.n < (nF : Int))) := ⟨_, rfl⟩
    have HQ9 := Lib.hid hq9
    obtain ⟨M, hM⟩ : ∃ M, M = (if qa.k = 9 ∧ qa.n < (nF : Int) then mrP H (lD F qa.n.toNat) else []) := ⟨_, rfl⟩
    have HM := Lib.hid hM
    have HRM := Lib.hid (show rs = M ++ [repV H] by rw [HRS.out, allR, ← HNF.out, ← hM])
    have HML := Lib.hid (show M.length ≤ 16 by rw [hM]; split; exact mrP_len_any _ _; simp)
    clear hq9 hM
    have HIT := Lib.hid (show b9 = true → qa.n < (nF : Int) → q9 = true ∧ M = mrP H (lD F qa.n.toNat) from fun e1 e2 => ⟨by rw [HQ9.out, e1, decide_eq_true e2]; rfl, by rw [HM.out, if_pos ⟨of_decide_eq_true (HB9.out.symm.trans e1), e2⟩]⟩)
    go_upto_region 3 with (fail)
    go_cut [23] (fun sd wx => sd = .bool q9 ∧ Below W1.heap.size W1 wx)
    case first =>
      cases b9
      · obtain rfl : q9 = false := HQ9.out
        go_region
        all_goals
          go_wp2
          go_meet
          exact ⟨rfl, by first | exact Below.refl _ _ | exact (Below.refl _ _).drew | exact (Below.refl _ _).drew.drew | exact (Below.refl _ _).drewN _⟩
      · have hsj := HD1.out
        simp only [if_true] at hsj
        obtain ⟨j, hj⟩ : ∃ j : Nat, qa.n = (j : Int) := ⟨qa.n.toNat, by omega⟩
        rw [hj] at hsj
        obtain ⟨t3, t3'⟩ := cells_of_heap hsj 3 (by simp)
        obtain ⟨y1, y1'⟩ := cells_of_heap HY1.out 2 (by simp <;> omega)
        simp only [List.getElem_toArray, List.getElem_cons_zero, List.getElem_cons_succ] at t3 y1
        have hlt : q9 = decide ((j : Int) < (nF : Int)) := by rw [HQ9.out, hj, Bool.true_and]
        have HLT := Lib.hid hlt
        clear hsj hj hlt
        cases q9
        · have hlt : ¬ (j : Int) < (nF : Int) := of_decide_eq_false HLT.out.symm
          have hlt' : ¬ j < nF := by omega
          go_region
          all_goals
            go_wp2
            go_meet
            exact ⟨rfl, by first | exact Below.refl _ _ | exact (Below.refl _ _).drew | exact (Below.refl _ _).drew.drew | exact (Below.refl _ _).drewN _⟩
        · have hlt : (j : Int) < (nF : Int) := of_decide_eq_true HLT.out.symm
          have hlt' : j < nF := by omega
          go_region
          all_goals
            go_wp2
            go_meet
            exact ⟨rfl, by first | exact Below.refl _ _ | exact (Below.refl _ _).drew | exact (Below.refl _ _).drew.drew | exact (Below.refl _ _).drewN _⟩
    case rest =>
    obtain ⟨rfl, hb2⟩ := hcut
    obtain ⟨W2, hW2⟩ : ∃ x, x = wc := ⟨_, rfl⟩
    rw [← hW2] at hb2 ⊢
    have HD2 := Lib.hid (blk_below HD1.out hb2)
    have HY2 := Lib.hid (blk_below HY1.out hb2)
    have HB2 := Lib.hid (HB1.out.trans (hb2.mono HB1.out.size))
    have HRd2 := Lib.hid (HRd1.out.below hb2)
    clear hW2 hb2
    go_upto_if 23 with (fail)
    go_cut [5] (fun x5 wx => ∃ a c fq, x5 = .slice a M.length c ∧ OwP rpF wx w.heap.size 47 1 (.slice a M.length c) M fq ∧ Below w.heap.size w wx)
    case first =>
      cases q9
      · have hm : M = [] := by
          rw [HM.out, if_neg]
          rintro ⟨h1, h2⟩
          have := (HIT.out (by rw [HB9.out, decide_eq_true h1]) h2).1
          cases this
        go_wp2
        go_meet
        rw [hm]
        exact ⟨none, 0, [], rfl, OwP.none _ _, HB2.out⟩
      · have hq := HQ9.out.symm
        rw [Bool.and_eq_true] at hq
        have hlt : qa.n < (nF : Int) := of_decide_eq_true hq.2
        have hb9t := hq.1
        obtain ⟨j, hj⟩ : ∃ j : Nat, qa.n = (j : Int) := ⟨qa.n.toNat, by omega⟩
        have hjn : j < nF := by omega
        have hjF : j < F.length := by rw [← HNF.out]; exact hjn
        have hm : M = mrP H (lD F j) := by rw [(HIT.out hb9t hlt).2, hj]; rfl
        have HMj := Lib.hid hm
        have hsj := HD2.out
        rw [hb9t, if_pos rfl, hj] at hsj
        have HSJ := Lib.hid hsj
        clear hm hsj hq hlt hb9t hj
        obtain ⟨t3, t3'⟩ := cells_of_heap HSJ.out 3 (by simp)
        simp only [List.getElem_toArray, List.getElem_cons_zero, List.getElem_cons_succ] at t3
        rcases RdS.cases (show LdT W2 (.slice a2 nF c2) F from HRd2.out.mac) with ⟨hnil, _⟩ | ⟨b0, off, cap', us, _, hv, hblt, hc⟩
        · exfalso; rw [hnil] at hjF; simp at hjF
        · obtain ⟨d0, hrow⟩ := hc j hjF
          obtain ⟨rfl, -, -⟩ := by simpa using hv
          obtain ⟨y1, y1'⟩ := cells_of_heap HY2.out 2 (by simp <;> omega)
          obtain ⟨y4, y4'⟩ := cells_of_heap HY2.out 4 (by simp <;> omega)
          simp only [List.getElem_toArray, List.getElem_cons_zero, List.getElem_cons_succ] at y1 y4
          have HRl := Lib.hid (show (lD F j).length ≤ maxLen by have : (lD F j).length ≤ 1048576 := lT_le HS.out.fr j; unfold maxLen; omega)
          obtain ⟨vr, hvr⟩ : ∃ v, v = uD us j := ⟨_, rfl⟩
          rw [← hvr] at d0 hrow
          obtain ⟨ra, rc, rfl⟩ := RdN.shape hrow
          obtain ⟨nr, hnr⟩ : ∃ n, n = (lD F j).length := ⟨_, rfl⟩
          rw [← hnr] at d0
          have HRow := Lib.hid hrow
          have HNr := Lib.hid hnr
          clear hc hrow hnr hvr hv hblt
          have X0 := Lib.hid (Below.refl W2.heap.size W2)
          have HH2 := Lib.hid (show RdN W2 (.slice a3 nH c3) H.length (flatHd H) from HRd2.out.held)
          go_upto_region 4 with (fail)
          go_region_law (first
            | (go_simp; go_at_call 213; have z9 := X0; clear z9; refine (implMacroReports_p (.slice a3 nH c3) (.slice ra nr rc) H (lD F j) _ hHm HRl.out (HH2.out.below (by first | exact X0.out | exact X0.out.drew | exact X0.out.drew.drew)) (by rw [HNr.out]; exact HRow.out.below (by first | exact X0.out | exact X0.out.drew | exact X0.out.drew.drew))).mono ?_; rw [← HMj.out]; rintro e v3 ⟨a7, c7, fq7, rfl, hp7, hb7⟩; have HP7 := Lib.hid (hp7.base (Nat.le_trans HB2.out.size (Below.size (by first | exact X0.out | exact X0.out.drew | exact X0.out.drew.drew)))); have HB7 := Lib.hid (HB2.out.trans ((below_via (by first | exact X0.out | exact X0.out.drew | exact X0.out.drew.drew) hb7).mono HB2.out.size)); clear hp7 hb7 X0))
          all_goals
            go_wp2
            go_meet
            first
              | with_reducible exact ⟨_, _, _, rfl, HP7.out, HB7.out⟩
              | with_reducible exact ⟨_, _, _, rfl, HP7.out.below ((Below.refl _ _).drew), HB7.out.drew⟩
    case rest =>
      obtain ⟨a7, c7, fq, rfl, hp7, hb7⟩ := hcut
      obtain ⟨W5, hE⟩ : ∃ x, x = wc := ⟨_, rfl⟩
      rw [← hE] at hp7 hb7 ⊢
      have HP := Lib.hid hp7
      have HB5 := Lib.hid hb7
      have HY5 := Lib.hid (blk_below HY.out hb7)
      have HRd5 := Lib.hid (HRd.out.below hb7)
      clear hE hp7 hb7
      obtain ⟨y4, y4'⟩ := cells_of_heap HY5.out 4 (by simp <;> omega)
      simp only [List.getElem_toArray, List.getElem_cons_zero, List.getElem_cons_succ] at y4
      obtain ⟨m1, hm1⟩ : ∃ m : Int, m = (rofM H : Nat) := ⟨_, rfl⟩
      obtain ⟨z1, hz1⟩ : ∃ z, z = rofK H := ⟨_, rfl⟩
      have H1 := Lib.hid (show ((rofM H : Nat) : Int) = m1 ∧ rofK H = z1 from ⟨hm1.symm, hz1.symm⟩)
      have HL1 := Lib.hid (show z1.length ≤ 56 by rw [hz1]; exact rofK_len H)
      have HRS2 := Lib.hid (show rs = M ++ [(m1, z1)] by rw [HRM.out, hm1, hz1]; rfl)
      clear hm1 hz1
      go_wp2_with fail
      refine (implReportOf_any (.slice a3 nH c3) H _ hHm (by have := HRd5.out.held; rw [HNH.out] at this ⊢; exact this)).mono ?_
      rw [H1.out.1, H1.out.2]
      rintro r v1 ⟨ua, uc, f0, rfl, hu, hb⟩
      have HP1 := Lib.hid (HP.out.below hb)
      have HB6 := Lib.hid (HB5.out.trans (hb.mono HB5.out.size))
      have HU1 := Lib.hid hu
      have HB56 := Lib.hid hb
      clear hb hu y4 y4'
      obtain ⟨iR, hR, hR0, hR1, hR2⟩ := info_parts info_rp
      have hm0 := HP.out
      obtain ⟨us, fps, hOQ, hfp⟩ := HP.out
      rw [hfp] at hm0
      have HM0 := Lib.hid hm0
      have HQ := Lib.hid hOQ
      have HNq := Lib.hid (owC_ints_nodup HU1.out)
      have HbB := Lib.hid (show Below W5.heap.size W5 (v1.alloc (.cells #[.int .i64 m1, .slice ua z1.length uc] 47)) from HB56.out.alloc HB56.out.size _)
      have HUq := Lib.hid (HU1.out.below (below_alloc1 v1 (.cells #[.int .i64 m1, .slice ua z1.length uc] 47)))
      have r63 : M.length + 1 ≤ maxLen := by have := HML.out; unfold maxLen; omega
      have r47 : (M.length + 1) * 32 ≤ 140737488355328 := by have := HML.out; omega
      have hws : w.heap.size ≤ v1.heap.size := HB6.out.size
      clear hm0 hOQ
      go_wp2_with (at_builtin; refine wpList_append_lies _ rfl _ _ 34 rfl w.heap.size 47 iR (.agg #[.int .i64 0, .slice none 0 0]) 2 32 Tryz.underlying34 hR hR0 hR1 hR2 rfl (by decide) _ _ _ rfl (owns_below HQ.out.own HbB.out) ⟨v1.heap.size, 0, none⟩ 1 1 [.int .i64 m1, .slice ua z1.length uc] rfl rfl (World.news_of_block (cs := #[.int .i64 m1, .slice ua z1.length uc]) (t := 47) (fr := (0, 0)) (heap_alloc_new v1 _)) (by simp [Value.oneCell']) (by decide) r63 r47 (by simp; omega) (v1.heap.size + 1) (by simp) ?_)
      intro g4 cap4 w14 hown14 hgrow14 hat14 hlt14
      have hp14 := OwP.pushB (m := m1) (z := z1) HM0.out HQ.out HbB.out HUq.out HNq.out HB5.out.size hown14 hgrow14 (by rcases hat14 with h1 | h1; exact .inl h1; exact .inr (by rw [h1]; simp))
      have hob : ∀ q, (Value.slice a7 M.length c7).ownBlock = some q → w.heap.size ≤ q := fun q hq => (HM0.out.rng q (List.mem_append_left _ (by rw [ownFp, hq]; simp))).1
      have hb14 : Below w.heap.size w w14 := (HB5.out.trans (HbB.out.mono HB5.out.size)).grown hgrow14 (Nat.le_trans HB5.out.size HbB.out.size) (fun q hq => hob q hq)
      have hl : M.length + 1 = rs.length := by rw [HRS2.out]; simp
      rw [← HRS2.out, hl] at hp14
      rw [hl]
      have HP14 := Lib.hid hp14
      have HB14 := Lib.hid hb14
      clear hown14 hgrow14 hat14 hlt14 hp14 hob hb14 hl
      go_wp2
      go_ret
      exact ⟨_, _, _, rfl, HP14.out, HB14.out⟩
end Go.Proofs.YtjfckchoklepbaaGreat

namespace Go.Proofs.YtjfckchoklepbaaGreat
open Go.RowKit

theorem do_code_set {Tb : TypeId} {w : World} {y : Nat} (rest : List Value) (e : En) (u1 u2 u3 : Value) (a : Ac) (hk : a.k = 2 ∧ a.c ≠ 0) (hc : 0 ≤ a.c) (hy : w.heap[y]? = some (.cells (.int .i64 e.k :: u1 :: u2 :: .int .i64 e.x :: u3 :: .int .i64 e.o :: .bool e.p :: rest).toArray Tb (0, 0))) :
    Calls Tryz.prog 254 #[acv a.k a.c a.m a.n, .pointer (some ⟨y, 0, none⟩)] w (DoO Tb y (.int .i64 e.k :: u1 :: u2 :: .int .i64 (setO e a).1.x :: u3 :: .int .i64 (setO e a).1.o :: .bool (setO e a).1.p :: rest) (setO e a).2 w) := by
  have hS : setO e a = ((keyO e a.c a.m).1, ⟨a.k, a.c, (keyO e a.c a.m).2, a.n⟩) := by unfold setO; rw [if_pos ⟨hk.1, by omega⟩]
  rw [hS]
  exact do_code_any rest e.k e.x e.o e.p u1 u2 u3 a.k a.c a.m a.n (by omega) hy
theorem do_toggle_set {Tb : TypeId} {w : World} {y : Nat} (rest : List Value) (e : En) (u1 u2 u3 : Value) (a : Ac) (hk : a.k = 4) (hn : 0 ≤ a.n ∧ a.n ≤ 3) (hy : w.heap[y]? = some (.cells (.int .i64 e.k :: u1 :: u2 :: .int .i64 e.x :: u3 :: .int .i64 e.o :: .bool e.p :: rest).toArray Tb (0, 0))) :
    Calls Tryz.prog 255 #[acv a.k a.c a.m a.n, .pointer (some ⟨y, 0, none⟩)] w (DoO Tb y (.int .i64 e.k :: u1 :: u2 :: .int .i64 (setO e a).1.x :: u3 :: .int .i64 (setO e a).1.o :: .bool (setO e a).1.p :: rest) (setO e a).2 w) := by
  have hS : setO e a = ({ e with x := bits .xor .i64 e.x (2 ^ a.n.toNat) }, a) := by unfold setO; rw [if_neg (by rintro ⟨h, _⟩; omega), if_pos hk]
  rw [hS]
  exact do_toggle_any rest e.k e.x e.o e.p u1 u2 u3 a.k a.c a.m a.n hn hy
theorem do_to_set {Tb : TypeId} {w : World} {y : Nat} (rest : List Value) (e : En) (u1 u2 u3 : Value) (a : Ac) (hk : a.k = 5) (hn : 0 ≤ a.n ∧ a.n ≤ 3) (hy : w.heap[y]? = some (.cells (.int .i64 e.k :: u1 :: u2 :: .int .i64 e.x :: u3 :: .int .i64 e.o :: .bool e.p :: rest).toArray Tb (0, 0))) :
    Calls Tryz.prog 256 #[acv a.k a.c a.m a.n, .pointer (some ⟨y, 0, none⟩)] w (DoO Tb y (.int .i64 e.k :: u1 :: u2 :: .int .i64 (setO e a).1.x :: u3 :: .int .i64 (setO e a).1.o :: .bool (setO e a).1.p :: rest) (setO e a).2 w) := by
  have hS : setO e a = ({ e with x := bits .andNot .i64 (2 ^ a.n.toNat) 1 }, a) := by unfold setO; rw [if_neg (by rintro ⟨h, _⟩; omega), if_neg (by omega), if_pos hk]
  rw [hS]
  exact do_to_any rest e.k e.x e.o e.p u1 u2 u3 a.k a.c a.m a.n hn hy
theorem do_once_set {Tb : TypeId} {w : World} {y : Nat} (rest : List Value) (e : En) (u1 u2 u3 : Value) (a : Ac) (hk : a.k = 8) (hy : w.heap[y]? = some (.cells (.int .i64 e.k :: u1 :: u2 :: .int .i64 e.x :: u3 :: .int .i64 e.o :: .bool e.p :: rest).toArray Tb (0, 0))) :
    Calls Tryz.prog 257 #[acv a.k a.c a.m a.n, .pointer (some ⟨y, 0, none⟩)] w (DoO Tb y (.int .i64 e.k :: u1 :: u2 :: .int .i64 (setO e a).1.x :: u3 :: .int .i64 (setO e a).1.o :: .bool (setO e a).1.p :: rest) (setO e a).2 w) := by
  have hS : setO e a = ({ e with o := if bits .and .i64 e.o a.m = a.m then bits .andNot .i64 e.o a.m else bits .or .i64 e.o a.m }, a) := by unfold setO; rw [if_neg (by rintro ⟨h, _⟩; omega), if_neg (by omega), if_neg (by omega), if_pos hk]
  rw [hS]
  exact do_once_any rest e.k e.x e.o e.p u1 u2 u3 a.k a.c a.m a.n hy
theorem do_macro_set {Tb : TypeId} {w : World} {y : Nat} (rest : List Value) (e : En) (u1 u2 u3 : Value) (a : Ac) (hk : a.k = 9) (hy : w.heap[y]? = some (.cells (.int .i64 e.k :: u1 :: u2 :: .int .i64 e.x :: u3 :: .int .i64 e.o :: .bool e.p :: rest).toArray Tb (0, 0))) :
    Calls Tryz.prog 258 #[acv a.k a.c a.m a.n, .pointer (some ⟨y, 0, none⟩)] w (DoO Tb y (.int .i64 e.k :: u1 :: u2 :: .int .i64 (setO e a).1.x :: u3 :: .int .i64 (setO e a).1.o :: .bool (setO e a).1.p :: rest) (setO e a).2 w) := by
  have hS : setO e a = (e, a) := by unfold setO; rw [if_neg (by rintro ⟨h, _⟩; omega), if_neg (by omega), if_neg (by omega), if_neg (by omega), if_neg (by omega)]
  rw [hS]
  exact do_macro_any rest e.k e.x e.o e.p u1 u2 u3 a.k a.c a.m a.n hy
theorem do_caps_set {Tb : TypeId} {w : World} {y : Nat} (rest : List Value) (e : En) (u1 u2 u3 : Value) (a : Ac) (hk : a.k = 10) (hy : w.heap[y]? = some (.cells (.int .i64 e.k :: u1 :: u2 :: .int .i64 e.x :: u3 :: .int .i64 e.o :: .bool e.p :: rest).toArray Tb (0, 0))) :
    Calls Tryz.prog 259 #[acv a.k a.c a.m a.n, .pointer (some ⟨y, 0, none⟩)] w (DoO Tb y (.int .i64 e.k :: u1 :: u2 :: .int .i64 (setO e a).1.x :: u3 :: .int .i64 (setO e a).1.o :: .bool (setO e a).1.p :: rest) (setO e a).2 w) := by
  have hS : setO e a = ({ e with p := !e.p }, a) := by unfold setO; rw [if_neg (by rintro ⟨h, _⟩; omega), if_neg (by omega), if_neg (by omega), if_neg (by omega), if_pos hk]
  rw [hS]
  exact do_caps_any rest e.k e.x e.o e.p u1 u2 u3 a.k a.c a.m a.n hy
theorem do_plain_set {Tb : TypeId} {w : World} {y : Nat} (rest : List Value) (e : En) (u1 u2 u3 : Value) (a : Ac) (hk : ¬ (a.k = 2 ∧ a.c ≠ 0) ∧ a.k ≠ 4 ∧ a.k ≠ 5 ∧ a.k ≠ 8 ∧ a.k ≠ 9 ∧ a.k ≠ 10) (hy : w.heap[y]? = some (.cells (.int .i64 e.k :: u1 :: u2 :: .int .i64 e.x :: u3 :: .int .i64 e.o :: .bool e.p :: rest).toArray Tb (0, 0))) :
    Calls Tryz.prog 260 #[acv a.k a.c a.m a.n, .pointer (some ⟨y, 0, none⟩)] w (DoO Tb y (.int .i64 e.k :: u1 :: u2 :: .int .i64 (setO e a).1.x :: u3 :: .int .i64 (setO e a).1.o :: .bool (setO e a).1.p :: rest) (setO e a).2 w) := by
  have hS : setO e a = (e, a) := by obtain ⟨h1, h2, h3, h4, h5, h6⟩ := hk; unfold setO; rw [if_neg (by rintro ⟨h, h'⟩; exact h1 ⟨h, by omega⟩), if_neg h2, if_neg h3, if_neg h4, if_neg h6]
  rw [hS]
  exact do_plain_any rest e.k e.x e.o e.p u1 u2 u3 a.k a.c a.m a.n hy

theorem dedT_seven (a : Ac) : ((a.k = 2 ∧ a.c ≠ 0) ∧ dedT a = 231) ∨ ((a.k = 4) ∧ dedT a = 232) ∨ ((a.k = 5) ∧ dedT a = 233) ∨ ((a.k = 8) ∧ dedT a = 234) ∨ ((a.k = 9) ∧ dedT a = 235) ∨ ((a.k = 10) ∧ dedT a = 236) ∨ ((¬ (a.k = 2 ∧ a.c ≠ 0) ∧ a.k ≠ 4 ∧ a.k ≠ 5 ∧ a.k ≠ 8 ∧ a.k ≠ 9 ∧ a.k ≠ 10) ∧ dedT a = 237) := by
  unfold dedT
  by_cases h2 : a.k = 2 ∧ a.c ≠ 0
  · exact .inl ⟨h2, by rw [if_pos h2]⟩
  rw [if_neg h2]
  by_cases h4 : a.k = 4
  · exact .inr (.inl ⟨h4, by rw [if_pos h4]⟩)
  rw [if_neg h4]
  by_cases h5 : a.k = 5
  · exact .inr (.inr (.inl ⟨h5, by rw [if_pos h5]⟩))
  rw [if_neg h5]
  by_cases h8 : a.k = 8
  · exact .inr (.inr (.inr (.inl ⟨h8, by rw [if_pos h8]⟩)))
  rw [if_neg h8]
  by_cases h9 : a.k = 9
  · exact .inr (.inr (.inr (.inr (.inl ⟨h9, by rw [if_pos h9]⟩))))
  rw [if_neg h9]
  by_cases h10 : a.k = 10
  · exact .inr (.inr (.inr (.inr (.inr (.inl ⟨h10, by rw [if_pos h10]⟩)))))
  rw [if_neg h10]
  exact .inr (.inr (.inr (.inr (.inr (.inr ⟨⟨h2, h4, h5, h8, h9, h10⟩, rfl⟩)))))
theorem doneW {W2 v3 : World} {y : Nat} {cy : List Value} {Tb : TypeId} {a b c d e : Value} (hy : v3.heap[y]? = some (.cells cy.toArray Tb (0, 0))) (hg : W2.grownBy v3 (some y)) :
    ∃ s3, Value.pointer (some ⟨v3.heap.size, 0, none⟩) = .pointer (some ⟨s3, 0, none⟩) ∧ W2.heap.size ≤ s3 ∧ (v3.alloc (.cells #[a, b, c, d, e] 43)).heap[s3]? = some (.cells #[a, b, c, d, e] 43 (0, 0)) ∧ (v3.alloc (.cells #[a, b, c, d, e] 43)).heap[y]? = some (.cells cy.toArray Tb (0, 0)) ∧ Turn W2 (v3.alloc (.cells #[a, b, c, d, e] 43)) [y] :=
  ⟨_, rfl, hg.size, heap_alloc_new _ _, by rw [heap_alloc_old _ _ (Array.getElem?_eq_some_iff.mp hy).1]; exact hy, (Turn.of_grown hg).trans (Turn.of_below (below_alloc1 _ _) _)⟩
theorem reportsOf_t {TT : TypeId} (e : En) (qa : Ac) (hT : TT = dedT qa) (rest : List Value) (Tb : TypeId) (a1 a2 a3 : Option Addr) (c1 c2 c3 : Nat) (y : Nat) (w : World) (hs : EnSz e) (hqn : 0 ≤ qa.n)
    (hy : w.heap[y]? = some (.cells (.int .i64 e.k :: .slice a1 e.L.length c1 :: .slice a2 e.F.length c2 :: .int .i64 e.x :: .slice a3 e.H.length c3 :: .int .i64 e.o :: .bool e.p :: rest).toArray Tb (0, 0)))
    (h : RdE w e (.slice a1 e.L.length c1) (.slice a2 e.F.length c2) (.slice a3 e.H.length c3)) :
    Calls Tryz.prog 162 #[.pointer (some ⟨y, 0, none⟩), .iface TT (acv qa.k qa.c qa.m qa.n)] w fun x w' => ∃ a c fq, x = .returned (.slice a (allR e.H e.F qa).length c) ∧ OwP rpF w' w.heap.size 47 1 (.slice a (allR e.H e.F qa).length c) (allR e.H e.F qa) fq ∧ Below w.heap.size w w' := by
  subst hT
  exact reportsOf_at e qa rest Tb a1 a2 a3 c1 c2 c3 y w hs hqn hy h
/-- What a press has made when its key is held: the engine lies in its box with the new row of held keys; the report before it lies in the box s. -/
def PrsM (rest : List Value) (Tb : TypeId) (e : En) (y s B : Nat) (u1 u2 : Value) (m0 : Int) (ua : Option Addr) (uc : Nat) (z0 : List Int) (f0 fp : List Nat) (w : World) (g2 cap n2 : Nat) (wx : World) : Prop := ∃ fp2,
  wx.heap[y]? = some (.cells (.int .i64 e.k :: u1 :: u2 :: .int .i64 e.x :: .slice (some ⟨g2, 0, none⟩) n2 cap :: .int .i64 e.o :: .bool e.p :: rest).toArray Tb (0, 0)) ∧ OwE wx B e u1 u2 (.slice (some ⟨g2, 0, none⟩) n2 cap) fp2 ∧ (∀ b ∈ fp2, b ∈ fp ∨ w.heap.size ≤ b) ∧ y ∉ fp2 ∧
  wx.heap[s]? = some (.cells #[.int .i64 m0, .slice ua z0.length uc] 47 (0, 0)) ∧ OwC wx w.heap.size (.row [.int .i64]) (.slice ua z0.length uc) (.row (ones z0)) f0 ∧ Turn w wx (y :: fp)
theorem PrsM.drew {rest : List Value} {Tb : TypeId} {e : En} {y s B : Nat} {u1 u2 : Value} {m0 : Int} {ua : Option Addr} {uc : Nat} {z0 : List Int} {f0 fp : List Nat} {w : World} {g2 cap n2 : Nat} {wx : World} (h : PrsM rest Tb e y s B u1 u2 m0 ua uc z0 f0 fp w g2 cap n2 wx) : PrsM rest Tb e y s B u1 u2 m0 ua uc z0 f0 fp w g2 cap n2 wx.drew := by
  obtain ⟨fp2, h1, h2, h3, h4, h5, h6, h7⟩ := h
  exact ⟨fp2, h1, h2.below (Below.refl _ _).drew, h3, h4, h5, h6.below (Below.refl _ _).drew, h7.trans (Turn.of_below (Below.refl _ _).drew _)⟩
theorem prsM_store {rest : List Value} {Tb : TypeId} {k xx o : Int} {p : Bool} {L : List (List Ac)} {F : List (List St)} {H H2 : List Hd} {x : Hd} {y s B nH n2 c3 g2 cap : Nat} {a3 : Option Addr} {u1 u2 : Value} {m0 : Int} {ua : Option Addr} {uc : Nat} {z0 : List Int} {f0 fp : List Nat} {w W3 U3 w9 : World}
    (hH : nH = H.length) (hn : n2 = nH + 1) (hH2 : H2 = H ++ [x]) (hE : OwE W3 B ⟨k, L, F, xx, H, o, p⟩ u1 u2 (.slice a3 nH c3) fp) (hyf : y ∉ fp) (hb : Below W3.heap.size W3 U3) (hU : U3.grownBy w9 (Value.slice a3 nH c3).ownBlock)
    (ho : w9.ownsRow B 43 5 (.slice (some ⟨g2, 0, none⟩) (nH + 1) cap) (nH + 1) (flatHd H ++ x.cells)) (hat : (Value.slice a3 nH c3).ownBlock = some g2 ∨ g2 = U3.heap.size)
    (hy : w9.heap[y]? = some (.cells (.int .i64 k :: u1 :: u2 :: .int .i64 xx :: .slice a3 nH c3 :: .int .i64 o :: .bool p :: rest).toArray Tb (0, 0))) (hs : W3.heap[s]? = some (.cells #[.int .i64 m0, .slice ua z0.length uc] 47 (0, 0))) (hsw : w.heap.size ≤ s)
    (hu : OwC W3 w.heap.size (.row [.int .i64]) (.slice ua z0.length uc) (.row (ones z0)) f0) (hT : Turn w W3 (y :: fp)) (hfw : ∀ b ∈ fp, b < w.heap.size) (hyl : y < w.heap.size) :
    PrsM rest Tb ⟨k, L, F, xx, H2, o, p⟩ y s B u1 u2 m0 ua uc z0 f0 fp w g2 cap n2 (w9.setCell ⟨y, 4, none⟩ (.slice (some ⟨g2, 0, none⟩) n2 cap)) := by
  obtain ⟨fp2, h1, h2⟩ := OwE.heldApp (x := x) (hE.below hb) (by rw [show (⟨k, L, F, xx, H, o, p⟩ : En).H.length = nH from hH.symm]; exact ho) hU hat
  rw [show (⟨k, L, F, xx, H, o, p⟩ : En).H.length = nH from hH.symm] at h1
  simp only at h1
  rw [← hn, ← hH2] at h1
  have hsz := hb.size
  have hwz := hT.size
  have hob : ∀ q, (Value.slice a3 nH c3).ownBlock = some q → q ∈ fp := fun q hq => by
    have := (hE.heldFp).2 q (by rw [ownFp, hq]; simp)
    exact this
  have hg2 : g2 ∈ fp ∨ w.heap.size ≤ g2 := by
    rcases hat with h | h
    · exact .inl (hob g2 h)
    · exact .inr (by omega)
  have hyf2 : y ∉ fp2 := fun hm => by
    rcases h2 y hm with h | h
    · exact hyf h
    · subst h
      rcases hg2 with h | h
      · exact hyf h
      · omega
  have ht9 : Turn U3 w9 fp := by
    rcases hv : (Value.slice a3 nH c3).ownBlock with _ | q
    · rw [hv] at hU; exact ⟨hU.os, hU.tape, hU.output, hU.size, fun z hz _ => hU.block z hz (by simp)⟩
    · rw [hv] at hU; exact (Turn.of_grown hU).mono (fun a ha => (List.mem_singleton.1 ha) ▸ hob q hv)
  have hts : Turn w9 (w9.setCell ⟨y, 4, none⟩ (.slice (some ⟨g2, 0, none⟩) n2 cap)) [y] := Turn.of_grown (grown_set _ _ _ _)
  have hst : s ∉ [y] := fun hm => by rw [List.mem_singleton] at hm; omega
  have hsf : s ∉ fp := fun hm => by have := hfw s hm; omega
  have hf0 : ∀ b ∈ f0, b ∉ fp ∧ b ∉ [y] := fun b hb => by
    have := (hu.rng b hb).1
    exact ⟨fun hm => by have := hfw b hm; omega, fun hm => by rw [List.mem_singleton] at hm; omega⟩
  refine ⟨fp2, ?_, h1.turn hts (fun b hb hm => by rw [List.mem_singleton] at hm; subst hm; exact hyf2 hb), fun b hb => ?_, hyf2, blk_turn (blk_turn (blk_below hs hb) ht9 hsf) hts hst, ((hu.below hb).turn ht9 (fun b hb => (hf0 b hb).1)).turn hts (fun b hb => (hf0 b hb).2), ?_⟩
  · have := heap_setCell_same w9 y 4 _ _ (.slice (some ⟨g2, 0, none⟩) n2 cap) hy
    rw [List.setIfInBounds_toArray] at this
    exact this
  · rcases h2 b hb with h | h
    · exact .inl h
    · subst h; exact hg2
  · exact ((hT.trans (Turn.of_below hb _)).trans (ht9.mono (fun a ha => List.mem_cons_of_mem _ ha))).trans (hts.mono (fun a ha => by rw [List.mem_singleton] at ha; subst ha; exact List.mem_cons_self))
set_option maxRecDepth 100000 in
set_option maxHeartbeats 32000000 in
theorem press_at (e : En) (rest : List Value) (Tb : TypeId) (a1 a2 a3 : Option Addr) (c1 c2 c3 : Nat) (fp : List Nat) (y B : Nat) (key : Int) (hold : Bool) (w : World) (hs : EnSz e) (hok : EnOk e) (hk : 0 ≤ key ∧ key < e.k) (hyf : y ∉ fp) (hBw : B ≤ w.heap.size)
    (hy : w.heap[y]? = some (.cells (.int .i64 e.k :: .slice a1 e.L.length c1 :: .slice a2 e.F.length c2 :: .int .i64 e.x :: .slice a3 e.H.length c3 :: .int .i64 e.o :: .bool e.p :: rest).toArray Tb (0, 0)))
    (h : OwE w B e (.slice a1 e.L.length c1) (.slice a2 e.F.length c2) (.slice a3 e.H.length c3) fp) :
    Calls Tryz.prog 85 #[.pointer (some ⟨y, 0, none⟩), .int .i64 key, .bool hold] w (PtB rest Tb (prsE e key hold) (prsR e key hold) y B (.slice a1 e.L.length c1) (.slice a2 e.F.length c2) fp w) := by
  have hpa := (prsA_ok hold hok hk).1
  have hl32 := hdOk_len hok.hd
  have hw := h.rng
  obtain ⟨k, L, F, fx, H, o, p⟩ := e
  obtain ⟨qa, hqa⟩ : ∃ a, a = prsA ⟨k, L, F, fx, H, o, p⟩ key hold := ⟨_, rfl⟩
  rw [← hqa] at hpa
  obtain ⟨ga, hga⟩ : ∃ q, q = (setO ⟨k, L, F, fx, H, o, p⟩ qa).2 := ⟨_, rfl⟩
  obtain ⟨e2, he2⟩ : ∃ q, q = (setO ⟨k, L, F, fx, H, o, p⟩ qa).1 := ⟨_, rfl⟩
  have hqn := (okAc_lim hpa.np.1).2.2.2
  have hqc : 0 ≤ qa.c := (okAc_lim hpa.np.1).2.1.1
  obtain ⟨H2, hH2⟩ : ∃ l, l = H ++ [(⟨key, ga.k, ga.c, ga.m, ga.n⟩ : Hd)] := ⟨_, rfl⟩
  have he2s : e2 = ⟨k, L, F, e2.x, H, e2.o, e2.p⟩ := by rw [he2]; exact setO_1 _ _
  have e2k : e2.k = k := congrArg En.k he2s
  have e2L : e2.L = L := congrArg En.L he2s
  have e2F : e2.F = F := congrArg En.F he2s
  have hg2 : ga = (⟨qa.k, qa.c, ga.m, qa.n⟩ : Ac) := by rw [hga]; exact setO_2 _ _
  have hgk : ga.k = qa.k := by rw [hg2]
  have hgn : ga.n = qa.n := by rw [hg2]
  obtain ⟨rs, hrs⟩ : ∃ l, l = prsR ⟨k, L, F, fx, H, o, p⟩ key hold := ⟨_, rfl⟩
  have hPE : prsE ⟨k, L, F, fx, H, o, p⟩ key hold = ⟨k, L, F, e2.x, H2, e2.o, e2.p⟩ := by
    rw [prsE, ← hqa, ← he2, ← hga, hH2, e2k, e2L, e2F]
  have hrs2 : rs = chgV (repV H) (allR H2 F qa) := by
    rw [hrs, prsR, hPE, ← hqa, ← hga, hgk, hgn]; rfl
  rw [hPE, ← hrs]
  simp only at hk hy h hl32 ⊢
  obtain ⟨nL, hnL⟩ : ∃ n, n = L.length := ⟨_, rfl⟩
  obtain ⟨nF, hnF⟩ : ∃ n, n = F.length := ⟨_, rfl⟩
  obtain ⟨nH, hnH⟩ : ∃ n, n = H.length := ⟨_, rfl⟩
  rw [← hnL, ← hnF, ← hnH] at hy h
  rw [← hnL, ← hnF]
  obtain ⟨m0, hm0⟩ : ∃ m : Int, m = (rofM H : Nat) := ⟨_, rfl⟩
  obtain ⟨z0, hz0⟩ : ∃ z, z = rofK H := ⟨_, rfl⟩
  obtain ⟨TT, hTT⟩ : ∃ x, x = dedT qa := ⟨_, rfl⟩
  obtain ⟨on, hon⟩ : ∃ n : Int, n = (onV fx H : Nat) := ⟨_, rfl⟩
  obtain ⟨q0, hq0⟩ : ∃ q, q = atV k L on key := ⟨_, rfl⟩
  have HA := Lib.hid (show qa = if hold = true then holdR q0 else tapR q0 by rw [hqa, hq0, hon]; rfl)
  have HON := Lib.hid hon
  have HQ0 := Lib.hid hq0
  have HTT := Lib.hid hTT
  have HGA := Lib.hid hga
  have HE2 := Lib.hid he2
  have HH2 := Lib.hid hH2
  have H0 := Lib.hid (show ((rofM H : Nat) : Int) = m0 ∧ rofK H = z0 from ⟨hm0.symm, hz0.symm⟩)
  have HL0 := Lib.hid (show z0.length ≤ 56 by rw [hz0]; exact rofK_len H)
  have HRS := Lib.hid (show chgV (m0, z0) (allR H2 F qa) = rs by rw [hrs2, hm0, hz0]; rfl)
  have hls : H.length ≤ 1048576 := hs.h
  have hHm : H.length ≤ maxLen := by unfold maxLen; omega
  have hLm : L.length ≤ maxLen := by have : L.length ≤ 1048576 := hs.l; unfold maxLen; omega
  have hLr : ∀ l ∈ L, l.length ≤ maxLen := fun l hl => by have : l.length ≤ 1048576 := hs.lr l hl; unfold maxLen; omega
  have HLR := Lib.hid hLr
  have HS := Lib.hid hs
  have HY := Lib.hid hy
  have HE := Lib.hid h
  have HYF := Lib.hid hyf
  have HWf := Lib.hid hw
  have HNL := Lib.hid hnL
  have HNF := Lib.hid hnF
  have HNH := Lib.hid hnH
  have HPA := Lib.hid hpa
  clear hqa hga he2 hH2 he2s e2k e2L e2F hg2 hgk hgn hrs hPE hrs2 hm0 hz0 hTT hon hq0 hLr hs hok hy h hyf hw hnL hnF hnH hpa hk
  go_enter Tryz.func85, Tryz.ntmps85
  obtain ⟨y4, y4'⟩ := cells_of_heap HY.out 4 (by simp <;> omega)
  simp only [List.getElem_toArray, List.getElem_cons_zero, List.getElem_cons_succ] at y4
  go_wp2_with fail
  refine (implReportOf_any (.slice a3 nH c3) H _ hHm (by have := HE.out.rd.held; rw [show (⟨k, L, F, fx, H, o, p⟩ : En).H.length = nH from HNH.out.symm] at this; rw [← HNH.out]; exact this)).mono ?_
  rw [H0.out.1, H0.out.2]
  rintro r w1 ⟨ua, uc, f0, rfl, hu, hb⟩
  have HB1 := Lib.hid hb
  have HU0 := Lib.hid hu
  have HUF := Lib.hid (show ∀ b ∈ f0, w.heap.size ≤ b from fun b hb => (hu.rng b hb).1)
  clear y4 y4'
  clear hb hu
  go_upto_region 2 with (fail)
  obtain ⟨W1, hW1⟩ : ∃ W, W = w1.alloc (.cells #[.int .i64 m0, .slice ua z0.length uc] 47) := ⟨_, rfl⟩
  obtain ⟨s, hsv⟩ : ∃ s, s = w1.heap.size := ⟨_, rfl⟩
  rw [← hW1, ← hsv]
  have hb1 : Below w1.heap.size w1 W1 := by rw [hW1]; exact below_alloc1 _ _
  have HS1 := Lib.hid (show W1.heap[s]? = some (.cells #[.int .i64 m0, .slice ua z0.length uc] 47 (0, 0)) by rw [hW1, hsv]; exact heap_alloc_new w1 _)
  have HBW1 := Lib.hid (HB1.out.trans (hb1.mono HB1.out.size))
  have HU1 := Lib.hid (HU0.out.below hb1)
  have HSW := Lib.hid (show w.heap.size ≤ s by rw [hsv]; exact HB1.out.size)
  clear hW1 hsv hb1 HU0 HB1
  have HY1 := Lib.hid (blk_below HY.out HBW1.out)
  have HR1 := Lib.hid (HE.out.rd.below HBW1.out)
  go_cut [8] (fun sd wx => sd = .iface TT (acv qa.k qa.c qa.m qa.n) ∧ Below W1.heap.size W1 wx)
  case first =>
    obtain ⟨y0, y0'⟩ := cells_of_heap HY1.out 0 (by simp <;> omega)
    obtain ⟨y1, y1'⟩ := cells_of_heap HY1.out 1 (by simp <;> omega)
    obtain ⟨y3, y3'⟩ := cells_of_heap HY1.out 3 (by simp <;> omega)
    obtain ⟨y4, y4'⟩ := cells_of_heap HY1.out 4 (by simp <;> omega)
    simp only [List.getElem_toArray, List.getElem_cons_zero, List.getElem_cons_succ] at y0 y1 y3 y4
    have ly : y < W1.heap.size := (Array.getElem?_eq_some_iff.mp HY1.out).1
    have X0 := Lib.hid (Below.refl W1.heap.size W1)
    go_region_held3 (fun w' => w'.cell? ⟨y, 0, none⟩ = some (.int .i64 k) ∧ w'.cell? ⟨y, 1, none⟩ = some (.slice a1 nL c1) ∧ w'.cell? ⟨y, 3, none⟩ = some (.int .i64 fx) ∧ w'.cell? ⟨y, 4, none⟩ = some (.slice a3 nH c3)) (first | go_keep)
      (first | (go_at_call 28; have z9 := X0; clear z9; refine (implLayersOn_any fx (.slice a3 nH c3) H _ hHm (by have := (HR1.out.below (by first | exact X0.out | exact X0.out.drew | exact X0.out.drew.drew)).held; rw [show (⟨k, L, F, fx, H, o, p⟩ : En).H.length = nH from HNH.out.symm] at this; rw [← HNH.out]; exact this)).mono ?_; rw [← HON.out]; rintro e v1 ⟨rfl, hb⟩; have hbr : Below W1.heap.size W1 v1 := below_via (by first | exact X0.out | exact X0.out.drew | exact X0.out.drew.drew) hb; have ky0 := (hbr.cell (p := ⟨y, 0, none⟩) ly).trans y0; have ky1 := (hbr.cell (p := ⟨y, 1, none⟩) ly).trans y1; have ky3 := (hbr.cell (p := ⟨y, 3, none⟩) ly).trans y3; have ky4 := (hbr.cell (p := ⟨y, 4, none⟩) ly).trans y4; have X1 := Lib.hid hbr; clear hbr hb X0) | (go_at_call 27; have z9 := X1; clear z9; refine (implActionAt_any k on key (.slice a1 nL c1) L _ hLm HLR.out (HR1.out.below (by first | exact X1.out | exact X1.out.drew | exact X1.out.drew.drew)).map).mono ?_; rw [← HQ0.out]; rintro e v2 ⟨rfl, hb⟩; have hbr : Below W1.heap.size W1 v2 := below_via (by first | exact X1.out | exact X1.out.drew | exact X1.out.drew.drew) hb; have ky0 := (hbr.cell (p := ⟨y, 0, none⟩) ly).trans y0; have ky1 := (hbr.cell (p := ⟨y, 1, none⟩) ly).trans y1; have ky3 := (hbr.cell (p := ⟨y, 3, none⟩) ly).trans y3; have ky4 := (hbr.cell (p := ⟨y, 4, none⟩) ly).trans y4; have X2 := Lib.hid hbr; clear hbr hb X1) | (go_at_call 160; have z9 := X2; clear z9; refine (settle_any q0.k q0.c q0.m q0.n hold _).mono ?_; rw [show (if hold = true then holdR ⟨q0.k, q0.c, q0.m, q0.n⟩ else tapR ⟨q0.k, q0.c, q0.m, q0.n⟩) = qa from HA.out.symm]; rintro e v3 ⟨rfl, hb⟩; have hbr : Below W1.heap.size W1 v3 := below_via (by first | exact X2.out | exact X2.out.drew | exact X2.out.drew.drew) hb; have ky0 := (hbr.cell (p := ⟨y, 0, none⟩) ly).trans y0; have ky1 := (hbr.cell (p := ⟨y, 1, none⟩) ly).trans y1; have ky3 := (hbr.cell (p := ⟨y, 3, none⟩) ly).trans y3; have ky4 := (hbr.cell (p := ⟨y, 4, none⟩) ly).trans y4; have X3 := Lib.hid hbr; clear hbr hb X2) | (go_at_call 159; have z9 := X3; clear z9; refine (deedOf_any qa.k qa.c qa.m qa.n _).mono ?_; rw [show dedV ⟨qa.k, qa.c, qa.m, qa.n⟩ = .iface TT (acv qa.k qa.c qa.m qa.n) by rw [HTT.out]; rfl]; rintro e v4 ⟨rfl, hb⟩; have hbr : Below W1.heap.size W1 v4 := below_via (by first | exact X3.out | exact X3.out.drew | exact X3.out.drew.drew) hb; have ky0 := (hbr.cell (p := ⟨y, 0, none⟩) ly).trans y0; have ky1 := (hbr.cell (p := ⟨y, 1, none⟩) ly).trans y1; have ky3 := (hbr.cell (p := ⟨y, 3, none⟩) ly).trans y3; have ky4 := (hbr.cell (p := ⟨y, 4, none⟩) ly).trans y4; have X4 := Lib.hid hbr; clear hbr hb X3))
    all_goals
      go_wp2
      go_meet
      exact ⟨rfl, by first | exact X4.out | exact X4.out.drew | exact X4.out.drew.drew⟩
  case rest =>
    obtain ⟨rfl, hb2⟩ := hcut
    obtain ⟨W2, hE⟩ : ∃ x, x = wc := ⟨_, rfl⟩
    rw [← hE] at hb2 ⊢
    have HBW2 := Lib.hid (HBW1.out.trans (hb2.mono HBW1.out.size))
    have HU2 := Lib.hid (HU1.out.below hb2)
    have HS2 := Lib.hid (blk_below HS1.out hb2)
    have HY2 := Lib.hid (blk_below HY1.out hb2)
    clear hE hb2 HU1 HS1 HY1 HR1 HBW1
    go_upto_region 3 with (fail)
    go_cut [9] (fun sp wx => ∃ s3, sp = .pointer (some ⟨s3, 0, none⟩) ∧ W2.heap.size ≤ s3 ∧ wx.heap[s3]? = some (.cells #[.int .i64 key, .int .i64 ga.k, .int .i64 ga.c, .int .i64 ga.m, .int .i64 ga.n] 43 (0, 0)) ∧ wx.heap[y]? = some (.cells (.int .i64 k :: .slice a1 nL c1 :: .slice a2 nF c2 :: .int .i64 e2.x :: .slice a3 nH c3 :: .int .i64 e2.o :: .bool e2.p :: rest).toArray Tb (0, 0)) ∧ Turn W2 wx [y])
    case first =>
      rcases dedT_seven qa with ⟨h9, hT⟩ | ⟨h9, hT⟩ | ⟨h9, hT⟩ | ⟨h9, hT⟩ | ⟨h9, hT⟩ | ⟨h9, hT⟩ | ⟨h9, hT⟩
      · obtain rfl : TT = 231 := HTT.out.trans hT
        have H9 := Lib.hid h9
        clear h9 hT
        skip
        go_wp2_with fail
        refine (do_code_set rest ⟨k, L, F, fx, H, o, p⟩ (.slice a1 nL c1) (.slice a2 nF c2) (.slice a3 nH c3) qa H9.out hqc HY2.out).mono ?_
        rw [← HGA.out, ← HE2.out]
        rintro r v3 ⟨rfl, hy3, hg3⟩
        have HY3 := Lib.hid hy3
        have HG3 := Lib.hid hg3
        clear hy3 hg3
        go_wp2
        go_meet
        exact doneW HY3.out HG3.out
      · obtain rfl : TT = 232 := HTT.out.trans hT
        have H9 := Lib.hid h9
        clear h9 hT
        skip
        go_wp2_with fail
        refine (do_toggle_set rest ⟨k, L, F, fx, H, o, p⟩ (.slice a1 nL c1) (.slice a2 nF c2) (.slice a3 nH c3) qa H9.out hqn HY2.out).mono ?_
        rw [← HGA.out, ← HE2.out]
        rintro r v3 ⟨rfl, hy3, hg3⟩
        have HY3 := Lib.hid hy3
        have HG3 := Lib.hid hg3
        clear hy3 hg3
        go_wp2
        go_meet
        exact doneW HY3.out HG3.out
      · obtain rfl : TT = 233 := HTT.out.trans hT
        have H9 := Lib.hid h9
        clear h9 hT
        skip
        go_wp2_with fail
        refine (do_to_set rest ⟨k, L, F, fx, H, o, p⟩ (.slice a1 nL c1) (.slice a2 nF c2) (.slice a3 nH c3) qa H9.out hqn HY2.out).mono ?_
        rw [← HGA.out, ← HE2.out]
        rintro r v3 ⟨rfl, hy3, hg3⟩
        have HY3 := Lib.hid hy3
        have HG3 := Lib.hid hg3
        clear hy3 hg3
        go_wp2
        go_meet
        exact doneW HY3.out HG3.out
      · obtain rfl : TT = 234 := HTT.out.trans hT
        have H9 := Lib.hid h9
        clear h9 hT
        skip
        go_wp2_with fail
        refine (do_once_set rest ⟨k, L, F, fx, H, o, p⟩ (.slice a1 nL c1) (.slice a2 nF c2) (.slice a3 nH c3) qa H9.out HY2.out).mono ?_
        rw [← HGA.out, ← HE2.out]
        rintro r v3 ⟨rfl, hy3, hg3⟩
        have HY3 := Lib.hid hy3
        have HG3 := Lib.hid hg3
        clear hy3 hg3
        go_wp2
        go_meet
        exact doneW HY3.out HG3.out
      · obtain rfl : TT = 235 := HTT.out.trans hT
        have H9 := Lib.hid h9
        clear h9 hT
        skip
        go_wp2_with fail
        refine (do_macro_set rest ⟨k, L, F, fx, H, o, p⟩ (.slice a1 nL c1) (.slice a2 nF c2) (.slice a3 nH c3) qa H9.out HY2.out).mono ?_
        rw [← HGA.out, ← HE2.out]
        rintro r v3 ⟨rfl, hy3, hg3⟩
        have HY3 := Lib.hid hy3
        have HG3 := Lib.hid hg3
        clear hy3 hg3
        go_wp2
        go_meet
        exact doneW HY3.out HG3.out
      · obtain rfl : TT = 236 := HTT.out.trans hT
        have H9 := Lib.hid h9
        clear h9 hT
        skip
        go_wp2_with fail
        refine (do_caps_set rest ⟨k, L, F, fx, H, o, p⟩ (.slice a1 nL c1) (.slice a2 nF c2) (.slice a3 nH c3) qa H9.out HY2.out).mono ?_
        rw [← HGA.out, ← HE2.out]
        rintro r v3 ⟨rfl, hy3, hg3⟩
        have HY3 := Lib.hid hy3
        have HG3 := Lib.hid hg3
        clear hy3 hg3
        go_wp2
        go_meet
        exact doneW HY3.out HG3.out
      · obtain rfl : TT = 237 := HTT.out.trans hT
        have H9 := Lib.hid h9
        clear h9 hT
        skip
        go_wp2_with fail
        refine (do_plain_set rest ⟨k, L, F, fx, H, o, p⟩ (.slice a1 nL c1) (.slice a2 nF c2) (.slice a3 nH c3) qa H9.out HY2.out).mono ?_
        rw [← HGA.out, ← HE2.out]
        rintro r v3 ⟨rfl, hy3, hg3⟩
        have HY3 := Lib.hid hy3
        have HG3 := Lib.hid hg3
        clear hy3 hg3
        go_wp2
        go_meet
        exact doneW HY3.out HG3.out
    case rest =>
      obtain ⟨s3, rfl, hs3, hk3, hy3, ht3⟩ := hcut
      obtain ⟨W3, hE⟩ : ∃ x, x = wc := ⟨_, rfl⟩
      rw [← hE] at hk3 hy3 ht3 ⊢
      have hyl : y < w.heap.size := (Array.getElem?_eq_some_iff.mp HY.out).1
      have hsy : s ≠ y := fun e => by have := HSW.out; omega
      have HK3 := Lib.hid hk3
      have HY3 := Lib.hid hy3
      have HE3 := Lib.hid (OwE.nums e2.x e2.o e2.p ((HE.out.below HBW2.out).turn ht3 (fun b hb hm => by rw [List.mem_singleton] at hm; subst hm; exact HYF.out hb)))
      have HS3 := Lib.hid (blk_turn HS2.out ht3 (fun hm => by rw [List.mem_singleton] at hm; exact hsy hm))
      have HU3 := Lib.hid (HU2.out.turn ht3 (fun b hb hm => by rw [List.mem_singleton] at hm; have := HUF.out b hb; omega))
      have HT3 := Lib.hid (show Turn w W3 (y :: fp) from (Turn.of_below HBW2.out _).trans (ht3.mono (fun x hx => by rw [List.mem_singleton] at hx; subst hx; exact List.mem_cons_self)))
      have HW3 := Lib.hid (show w.heap.size ≤ s3 ∧ w.heap.size ≤ W3.heap.size from ⟨Nat.le_trans HBW2.out.size hs3, Nat.le_trans HBW2.out.size ht3.size⟩)
      obtain ⟨n2, hn2⟩ : ∃ n, n = nH + 1 := ⟨_, rfl⟩
      have HN2 := Lib.hid hn2
      clear hE hk3 hy3 ht3 hs3 HS2 HY2 HU2 HBW2 hn2
      go_upto_region 4 with (fail)
      go_cut [6] (fun s6 wx => s6 = .slice none 0 0 ∧ ∃ g2 cap, PrsM rest Tb ⟨k, L, F, e2.x, H2, e2.o, e2.p⟩ y s B (.slice a1 nL c1) (.slice a2 nF c2) m0 ua uc z0 f0 fp w g2 cap n2 wx)
      case first =>
        obtain ⟨y4, y4'⟩ := cells_of_heap HY3.out 4 (by simp <;> omega)
        simp only [List.getElem_toArray, List.getElem_cons_zero, List.getElem_cons_succ] at y4
        obtain ⟨k0, k0'⟩ := cells_of_heap HK3.out 0 (by simp <;> omega)
        obtain ⟨k1, k1'⟩ := cells_of_heap HK3.out 1 (by simp <;> omega)
        obtain ⟨k2, k2'⟩ := cells_of_heap HK3.out 2 (by simp <;> omega)
        obtain ⟨k3, k3'⟩ := cells_of_heap HK3.out 3 (by simp <;> omega)
        obtain ⟨k4, k4'⟩ := cells_of_heap HK3.out 4 (by simp <;> omega)
        simp only [List.getElem_toArray, List.getElem_cons_zero, List.getElem_cons_succ] at k0 k1 k2 k3 k4
        obtain ⟨i0, hi, hz0, hz1, hz2⟩ := info_parts info_hd
        have hnl : nH ≤ 32 := by rw [HNH.out]; exact hl32
        have b63 : nH + 1 ≤ maxLen := by unfold maxLen; omega
        have b47 : (nH + 1) * 40 ≤ 140737488355328 := by omega
        obtain ⟨f3, hf3, hf3s⟩ := HE3.out.heldOf
        have hf3o : W3.ownsRow B 43 5 (.slice a3 nH c3) nH (flatHd H) := by have := hf3.1; rw [show (⟨k, L, F, e2.x, H, e2.o, e2.p⟩ : En).H.length = nH from HNH.out.symm] at this; exact this
        have hobr : ∀ q, (Value.slice a3 nH c3).ownBlock = some q → q ∈ fp := fun q hq => hf3s q (by rw [hf3.2, ownFp, hq]; simp)
        have HF3 := Lib.hid hf3o
        have HOB := Lib.hid hobr
        have hws := HW3.out.2
        have hysz : y < W3.heap.size := (Array.getElem?_eq_some_iff.mp HY3.out).1
        have hys : ¬ y = W3.heap.size := by omega
        have hys' : ¬ W3.heap.size = y := by omega
        have hss : ¬ s3 = W3.heap.size := by have := (Array.getElem?_eq_some_iff.mp HK3.out).1; omega
        have hss' : ¬ W3.heap.size = s3 := fun e => hss e.symm
        have hy3l : s3 < W3.heap.size := (Array.getElem?_eq_some_iff.mp HK3.out).1
        have hba := below_alloc1 W3 (.cells #[.int .i64 key, .int .i64 ga.k, .int .i64 ga.c, .int .i64 ga.m, .int .i64 ga.n] 43)
        have hka := blk_below HK3.out hba
        obtain ⟨j0, -⟩ := cells_of_heap hka 0 (by simp)
        obtain ⟨j1, -⟩ := cells_of_heap hka 1 (by simp)
        obtain ⟨j2, -⟩ := cells_of_heap hka 2 (by simp)
        obtain ⟨j3, -⟩ := cells_of_heap hka 3 (by simp)
        obtain ⟨j4, -⟩ := cells_of_heap hka 4 (by simp)
        have hya := blk_below HY3.out hba
        obtain ⟨ja, -⟩ := cells_of_heap hya 4 (by simp <;> omega)
        simp only [List.getElem_toArray, List.getElem_cons_zero, List.getElem_cons_succ] at j0 j1 j2 j3 j4 ja
        clear hf3 hf3s hf3o hobr hka hya hba
        go_region_law (first
          | (refine step_append_lies _ (by rfl) _ _ _ (by rfl) B 43 i0 (.agg #[.int .i64 0, .int .i64 0, .int .i64 0, .int .i64 0, .int .i64 0]) 5 40 Tryz.underlying28 hi hz0 hz1 hz2 rfl (by decide) (.slice a3 nH c3) nH (flatHd H) (by rfl) (owns_below HF3.out (by first | exact below_alloc1 _ _ | exact (below_alloc1 _ _).drew | exact (Below.refl _ _).drew.alloc (Nat.le_refl _) _ | exact ((Below.refl _ _).drew.alloc (Nat.le_refl _) _).drew)) ⟨W3.heap.size, 0, none⟩ 1 1 [.int .i64 key, .int .i64 ga.k, .int .i64 ga.c, .int .i64 ga.m, .int .i64 ga.n] (by rfl) (by rfl) (World.news_of_block (cs := #[.int .i64 key, .int .i64 ga.k, .int .i64 ga.c, .int .i64 ga.m, .int .i64 ga.n]) (t := 43) (fr := (0, 0)) (by first | exact heap_alloc_new W3 _ | exact heap_alloc_new W3.drew _)) (by simp [Value.oneCell']) (by decide) b63 b47 (by simp; omega) (W3.heap.size + 1) (by simp) ?_; intro g2 cap w9 hown9 hgrow9 hat9 hlt9; obtain ⟨U3, hU3, hba2, hus⟩ : ∃ U, U.grownBy w9 (Value.slice a3 nH c3).ownBlock ∧ Below W3.heap.size W3 U ∧ U.heap.size = W3.heap.size + 1 := ⟨_, hgrow9, (by first | exact below_alloc1 _ _ | exact (below_alloc1 _ _).drew | exact (Below.refl _ _).drew.alloc (Nat.le_refl _) _ | exact ((Below.refl _ _).drew.alloc (Nat.le_refl _) _).drew), by simp⟩; have hu3 : W3.heap.size ≤ U3.heap.size := hba2.size; have hy9 := (hU3.block y (by omega) (fun e => HYF.out (HOB.out y e.symm))).trans (blk_below HY3.out hba2); obtain ⟨q4, q4'⟩ := cells_of_heap hy9 4 (by simp <;> omega); simp only [List.getElem_toArray, List.getElem_cons_zero, List.getElem_cons_succ] at q4; have HY9 := Lib.hid hy9; have HO9 := Lib.hid hown9; have HG9 := Lib.hid hU3; have HU9 := Lib.hid hba2; have HA9 := Lib.hid (show (Value.slice a3 nH c3).ownBlock = some g2 ∨ g2 = U3.heap.size from hat9.imp id (fun e => by omega)); clear hown9 hgrow9 hat9 hlt9 hba2 hy9 hU3 hu3 hus))
        all_goals
          rw [← HN2.out]
          go_wp2
          go_meet
          have hst := prsM_store (x := ⟨key, ga.k, ga.c, ga.m, ga.n⟩) HNH.out HN2.out HH2.out HE3.out HYF.out HU9.out HG9.out HO9.out HA9.out HY9.out HS3.out HSW.out HU3.out HT3.out (fun b hb => (HWf.out b hb).2) hyl
          first
            | with_reducible exact ⟨rfl, g2, cap, hst⟩
            | with_reducible exact ⟨rfl, g2, cap, hst.drew⟩
      case rest =>
        obtain ⟨rfl, g2, cap, fp2, hy4, he4, hf4, hyf4, hs4, hu4, ht4⟩ := hcut
        obtain ⟨W4, hE⟩ : ∃ x, x = wc := ⟨_, rfl⟩
        rw [← hE] at hy4 he4 hs4 hu4 ht4 ⊢
        have HY4 := Lib.hid hy4
        have HE4 := Lib.hid he4
        have HF4 := Lib.hid hf4
        have HS4 := Lib.hid hs4
        have HU4 := Lib.hid (owC_rd hu4)
        have HT4 := Lib.hid ht4
        have HWW := Lib.hid (show w.heap.size ≤ W4.heap.size from ht4.size)
        have HNh2 := Lib.hid (show n2 = H2.length by rw [HN2.out, HH2.out, HNH.out]; simp)
        have hH2l : H2.length ≤ 33 := by rw [HH2.out, List.length_append, List.length_singleton]; omega
        obtain ⟨Al, hAl⟩ : ∃ l, l = allR H2 F qa := ⟨_, rfl⟩
        have HAL := Lib.hid hAl
        have HALl := Lib.hid (show Al.length ≤ 17 by
          rw [hAl, allR, List.length_append, List.length_singleton]
          split
          · have := mrP_len_any H2 (lD F qa.n.toNat); omega
          · simp)
        have HALr := Lib.hid (show ∀ r ∈ Al, r.2.length ≤ 1048576 by
          intro r hr
          rw [hAl, allR] at hr
          rcases List.mem_append.1 hr with h | h
          · split at h
            · have := mrP_keys _ _ r h; omega
            · cases h
          · rw [List.mem_singleton] at h; subst h
            have := rofK_len H2
            show (rofK H2).length ≤ _; omega)
        have HRS2 := Lib.hid (show chgV (m0, z0) Al = rs by rw [hAl]; exact HRS.out)
        have HES := Lib.hid (show EnSz ⟨k, L, F, e2.x, H2, e2.o, e2.p⟩ from ⟨HS.out.l, HS.out.lr, HS.out.lt, HS.out.f, HS.out.fr, HS.out.ft, by show H2.length ≤ _; omega⟩)
        clear hE hy4 he4 hf4 hyf4 hs4 hu4 ht4 hAl
        have X0 := Lib.hid (Below.refl W4.heap.size W4)
        have HYL := Lib.hid (show W4.heap[y]? = some (.cells (.int .i64 k :: .slice a1 L.length c1 :: .slice a2 F.length c2 :: .int .i64 e2.x :: .slice (some ⟨g2, 0, none⟩) H2.length cap :: .int .i64 e2.o :: .bool e2.p :: rest).toArray Tb (0, 0)) by rw [← HNL.out, ← HNF.out, ← HNh2.out]; exact HY4.out)
        have HRL := Lib.hid (show RdE W4 ⟨k, L, F, e2.x, H2, e2.o, e2.p⟩ (.slice a1 L.length c1) (.slice a2 F.length c2) (.slice (some ⟨g2, 0, none⟩) H2.length cap) by rw [← HNL.out, ← HNF.out, ← HNh2.out]; exact HE4.out.rd)
        go_upto_region 5 with (fail)
        obtain ⟨b0, b0'⟩ := cells_of_heap HS4.out 0 (by simp <;> omega)
        obtain ⟨b1, b1'⟩ := cells_of_heap HS4.out 1 (by simp <;> omega)
        simp only [List.getElem_toArray, List.getElem_cons_zero, List.getElem_cons_succ] at b0 b1
        go_region_law (first
          | (go_simp; go_at_call 162; have z9 := X0; clear z9; refine (reportsOf_t ⟨k, L, F, e2.x, H2, e2.o, e2.p⟩ qa HTT.out rest Tb a1 a2 (some ⟨g2, 0, none⟩) c1 c2 cap y _ HES.out hqn.1 (blk_below HYL.out (by first | exact X0.out | exact X0.out.drew | exact X0.out.drew.drew | exact X0.out.alloc X0.out.size _ | exact (X0.out.alloc X0.out.size _).drew)) (HRL.out.below (by first | exact X0.out | exact X0.out.drew | exact X0.out.drew.drew | exact X0.out.alloc X0.out.size _ | exact (X0.out.alloc X0.out.size _).drew))).mono ?_; rw [show allR (⟨k, L, F, e2.x, H2, e2.o, e2.p⟩ : En).H (⟨k, L, F, e2.x, H2, e2.o, e2.p⟩ : En).F qa = Al from HAL.out.symm]; rintro e v1 ⟨ar, cr, fr, rfl, hr, hb⟩; have hbr : Below W4.heap.size W4 v1 := below_via (by first | exact X0.out | exact X0.out.drew | exact X0.out.drew.drew | exact X0.out.alloc X0.out.size _ | exact (X0.out.alloc X0.out.size _).drew) hb; have KA := blk_below HS4.out hbr; obtain ⟨d0, -⟩ := cells_of_heap KA 0 (by simp); obtain ⟨d1, -⟩ := cells_of_heap KA 1 (by simp); simp only [List.getElem_toArray, List.getElem_cons_zero, List.getElem_cons_succ] at d0 d1; clear KA; have HO1 := Lib.hid (hr.low.base (show W4.heap.size ≤ _ from Below.size (by first | exact X0.out | exact X0.out.drew | exact X0.out.drew.drew | exact X0.out.alloc X0.out.size _ | exact (X0.out.alloc X0.out.size _).drew))); have X1 := Lib.hid hbr; clear hbr hb hr X0)
          | (go_simp; go_at_call 161; have z9 := X1; clear z9; refine (changesAfter_any m0 z0 ua uc (.slice ar Al.length cr) Al _ W4.heap.size _ (by have := HALl.out; omega) HALr.out (by have := HL0.out; omega) (Below.size (by first | exact X1.out | exact X1.out.drew | exact X1.out.drew.drew | exact X1.out.alloc X1.out.size _ | exact (X1.out.alloc X1.out.size _).drew)) (HU4.out.below (by first | exact X1.out | exact X1.out.drew | exact X1.out.drew.drew | exact X1.out.alloc X1.out.size _ | exact (X1.out.alloc X1.out.size _).drew)) (HO1.out.below (by first | exact Below.refl _ _ | exact (Below.refl _ _).drew | exact (Below.refl _ _).drew.drew | exact (Below.refl _ _).alloc (Nat.le_refl _) _ | exact ((Below.refl _ _).alloc (Nat.le_refl _) _).drew))).mono ?_; rw [HRS2.out]; rintro e v2 ⟨a4, c4, fq, rfl, hq, hfq, hb⟩; have hbr : Below W4.heap.size W4 v2 := below_via (by first | exact X1.out | exact X1.out.drew | exact X1.out.drew.drew | exact X1.out.alloc X1.out.size _ | exact (X1.out.alloc X1.out.size _).drew) hb; have KA := blk_below HS4.out hbr; obtain ⟨l0, -⟩ := cells_of_heap KA 0 (by simp); obtain ⟨l1, -⟩ := cells_of_heap KA 1 (by simp); simp only [List.getElem_toArray, List.getElem_cons_zero, List.getElem_cons_succ] at l0 l1; clear KA; have HQ := Lib.hid hq; have X2 := Lib.hid hbr; clear hbr hb hq hfq))
        all_goals
          have HK5 := Lib.hid (blk_below HY4.out X2.out)
          have HE5 := Lib.hid (HE4.out.below X2.out)
          have HT5 := Lib.hid (HT4.out.trans (Turn.of_below X2.out _))
          have HDJ := Lib.hid (show ∀ b ∈ fp2, b ∉ fq from fun b hb hm => by have := (HE4.out.rng b hb).2; have := (HQ.out.rng b hm).1; omega)
          have HQ4 := Lib.hid (HQ.out.base HWW.out)
          clear HQ X2 X1 b0 b0' b1 b1' d0 d1 l0 l1
          go_wp2
          go_ret
          exact ⟨_, cap, fp2, a4, c4, fq, rfl, by rw [← HNh2.out]; exact HK5.out, by rw [← HNh2.out]; exact HE5.out, HF4.out, HQ4.out, HDJ.out, HT5.out⟩
end Go.Proofs.YtjfckchoklepbaaGreat

namespace Go.Proofs.YtjfckchoklepbaaGreat
open Go.RowKit

set_option maxRecDepth 100000 in
set_option maxHeartbeats 4000000 in
theorem canGoDown_q (e : En) (u1 u2 : Value) (a3 : Option Addr) (c3 : Nat) (key : Int) (q : Bool) (hq : q = (inB key 0 (e.k - 1) && decide (haI e.H key < 0))) (w : World) (hl : e.H.length ≤ 1048576) (hk : 1 ≤ e.k ∧ e.k ≤ 32) (h : RdE w e u1 u2 (.slice a3 e.H.length c3)) :
    Calls Tryz.prog 83 #[env e.k u1 u2 e.x (.slice a3 e.H.length c3) e.o e.p, .int .i64 key] w fun r w' => r = .returned (.bool q) ∧ Below w.heap.size w w' := by
  obtain ⟨k, L, F, fx, H, o, p⟩ := e
  simp only at hq hl hk h ⊢
  obtain ⟨b, hb⟩ : ∃ b, b = inB key 0 (k - 1) := ⟨_, rfl⟩
  obtain ⟨kk, hkk⟩ : ∃ q, q = haI H key := ⟨_, rfl⟩
  rw [← hb, ← hkk] at hq
  obtain ⟨nH, hnH⟩ : ∃ n, n = H.length := ⟨_, rfl⟩
  rw [← hnH]
  have HQ := Lib.hid hq
  have HBB := Lib.hid hb
  have HKK := Lib.hid hkk
  have HNH := Lib.hid hnH
  have HR := Lib.hid (show RdN w (.slice a3 nH c3) H.length (flatHd H) by rw [hnH]; exact h.held)
  have hHm : H.length ≤ maxLen := by unfold maxLen; omega
  have hk1 := hk.1
  have hk2 := hk.2
  obtain ⟨W, hW⟩ : ∃ W, W = w.alloc (.cells #[.int .i64 k, u1, u2, .int .i64 fx, .slice a3 nH c3, .int .i64 o, .bool p] 30) := ⟨_, rfl⟩
  have HB := Lib.hid (show Below w.heap.size w W by rw [hW]; exact below_alloc1 _ _)
  have HX := Lib.hid (show W.heap[w.heap.size]? = some (.cells #[.int .i64 k, u1, u2, .int .i64 fx, .slice a3 nH c3, .int .i64 o, .bool p] 30 (0, 0)) by rw [hW]; exact heap_alloc_new w _)
  have HW := Lib.hid hW
  clear hq hb hkk hnH h hW hl hk
  go_enter Tryz.func83, Tryz.ntmps83
  go_upto_region 1 with (fail)
  rw [← HW.out]
  obtain ⟨x0, x0'⟩ := cells_of_heap HX.out 0 (by simp)
  obtain ⟨x1, x1'⟩ := cells_of_heap HX.out 1 (by simp)
  obtain ⟨x2, x2'⟩ := cells_of_heap HX.out 2 (by simp)
  obtain ⟨x3, x3'⟩ := cells_of_heap HX.out 3 (by simp)
  obtain ⟨x4, x4'⟩ := cells_of_heap HX.out 4 (by simp)
  obtain ⟨x5, x5'⟩ := cells_of_heap HX.out 5 (by simp)
  obtain ⟨x6, x6'⟩ := cells_of_heap HX.out 6 (by simp)
  simp only [List.getElem_toArray, List.getElem_cons_zero, List.getElem_cons_succ] at x0 x1 x2 x3 x4 x5 x6
  go_wp2_with fail
  refine (isBetween_q key 0 (k - 1) b HBB.out _).mono ?_
  rintro r w0 ⟨rfl, hww⟩
  rw [← hww]
  clear hww
  cases b
  · obtain rfl : q = false := HQ.out
    go_wp2
    go_ret
    exact ⟨rfl, HB.out⟩
  · go_wp2_with fail
    refine (implHeldAt_any k u1 u2 fx (.slice a3 nH c3) o p H key _ hHm (HR.out.below HB.out)).mono ?_
    rw [show haI H key = kk from HKK.out.symm]
    rintro r w1 ⟨rfl, hb⟩
    have HB1 := Lib.hid (HB.out.trans (hb.mono HB.out.size))
    clear hb
    by_cases h0 : kk < 0
    · obtain rfl : q = true := by rw [HQ.out, decide_eq_true h0]; rfl
      go_wp2
      go_ret
      exact ⟨rfl, HB1.out⟩
    · obtain rfl : q = false := by rw [HQ.out, decide_eq_false h0]; rfl
      go_wp2
      go_ret
      exact ⟨by simp [h0], HB1.out⟩
theorem press_facts2 (e : En) (key : Int) (hold : Bool) : (prsE e key hold).k = e.k ∧ (prsE e key hold).L = e.L ∧ (prsE e key hold).F = e.F := by
  have e1 := setO_1 e (prsA e key hold)
  refine ⟨?_, ?_, ?_⟩ <;> (rw [prsE, e1])
set_option maxRecDepth 100000 in
set_option maxHeartbeats 16000000 in
theorem implPress_any (e : En) (u1 u2 u3 : Value) (key : Int) (hold : Bool) (w : World) (hs : EnSz e) (h : RdE w e u1 u2 u3) :
    Calls Tryz.prog 20 #[env e.k u1 u2 e.x u3 e.o e.p, .int .i64 key, .bool hold] w (PrO (prsV e key hold) w) := by
  obtain ⟨t, ht⟩ : ∃ t, t = prsV e key hold := ⟨_, rfl⟩
  rw [← ht]
  rw [prsV, prsB] at ht
  obtain ⟨b, hbv⟩ : ∃ b, b = okEn e := ⟨_, rfl⟩
  obtain ⟨q, hqv⟩ : ∃ b, b = (inB key 0 (e.k - 1) && decide (haI e.H key < 0)) := ⟨_, rfl⟩
  rw [← hbv, ← hqv] at ht
  have HT := Lib.hid ht
  have HBV := Lib.hid hbv
  have HQV := Lib.hid hqv
  clear ht hbv hqv
  obtain ⟨h1, h2, h3⟩ := h
  obtain ⟨k, L, F, fx, H, o, p⟩ := e
  simp only at h1 h2 h3 ⊢
  obtain ⟨a1, c1, rfl⟩ := RdS.shape h1
  obtain ⟨a2, c2, rfl⟩ := RdSt.shape h2
  obtain ⟨a3, c3, rfl⟩ := RdN.shape h3
  obtain ⟨nL, hnL⟩ : ∃ n, n = L.length := ⟨_, rfl⟩
  obtain ⟨nF, hnF⟩ : ∃ n, n = F.length := ⟨_, rfl⟩
  obtain ⟨nH, hnH⟩ : ∃ n, n = H.length := ⟨_, rfl⟩
  have HRd := Lib.hid (show ∀ w', Below w.heap.size w w' → RdE w' ⟨k, L, F, fx, H, o, p⟩ (.slice a1 nL c1) (.slice a2 nF c2) (.slice a3 nH c3) from fun w' hw => ⟨by rw [hnL]; exact h1.below hw, by rw [hnF]; exact h2.below hw, by rw [hnH]; exact h3.below hw⟩)
  have HNL := Lib.hid hnL
  have HNF := Lib.hid hnF
  have HNH := Lib.hid hnH
  have HS := Lib.hid hs
  rw [← hnL, ← hnF, ← hnH]
  obtain ⟨g, hg⟩ : ∃ g, g = w.heap.size := ⟨_, rfl⟩
  obtain ⟨U, hU⟩ : ∃ U, U = (w.alloc (.cells #[.int .i64 k, .slice a1 nL c1, .slice a2 nF c2, .int .i64 fx, .slice a3 nH c3, .int .i64 o, .bool p] 30)).alloc (.cells #[.int .i64 0, .slice none 0 0, .slice none 0 0, .int .i64 0, .slice none 0 0, .int .i64 0, .bool false] 30) := ⟨_, rfl⟩
  have HX0 := Lib.hid (show U.heap[g]? = some (.cells #[.int .i64 k, .slice a1 nL c1, .slice a2 nF c2, .int .i64 fx, .slice a3 nH c3, .int .i64 o, .bool p] 30 (0, 0)) by rw [hU, hg, Below.heap_alloc _ _ _ (by simp)]; exact heap_alloc_new w _)
  have HR0 := Lib.hid (show U.heap[g + 1]? = some (.cells #[.int .i64 0, .slice none 0 0, .slice none 0 0, .int .i64 0, .slice none 0 0, .int .i64 0, .bool false] 30 (0, 0)) by rw [hU, hg]; simpa using heap_alloc_new (w.alloc (.cells #[.int .i64 k, .slice a1 nL c1, .slice a2 nF c2, .int .i64 fx, .slice a3 nH c3, .int .i64 o, .bool p] 30)) _)
  have HB0 := Lib.hid (show Below w.heap.size w U by rw [hU]; exact ((Below.refl _ _).alloc (Nat.le_refl _) _).alloc (by simp) _)
  have HG := Lib.hid hg
  have HU := Lib.hid hU
  have hle : w.heap.size ≤ g + 1 := by rw [hg]; omega
  clear h1 h2 h3 hnL hnF hnH hs hg hU
  go_enter Tryz.func20, Tryz.ntmps20
  go_upto_region 1 with (fail)
  rw [← HU.out, ← HG.out]
  obtain ⟨x0, x0'⟩ := cells_of_heap HX0.out 0 (by simp)
  obtain ⟨x1, x1'⟩ := cells_of_heap HX0.out 1 (by simp)
  obtain ⟨x2, x2'⟩ := cells_of_heap HX0.out 2 (by simp)
  obtain ⟨x3, x3'⟩ := cells_of_heap HX0.out 3 (by simp)
  obtain ⟨x4, x4'⟩ := cells_of_heap HX0.out 4 (by simp)
  obtain ⟨x5, x5'⟩ := cells_of_heap HX0.out 5 (by simp)
  obtain ⟨x6, x6'⟩ := cells_of_heap HX0.out 6 (by simp)
  simp only [List.getElem_toArray, List.getElem_cons_zero, List.getElem_cons_succ] at x0 x1 x2 x3 x4 x5 x6
  go_wp2_with fail
  refine (implIsEngine_any ⟨k, L, F, fx, H, o, p⟩ (.slice a1 nL c1) (.slice a2 nF c2) (.slice a3 nH c3) _ HS.out (HRd.out _ HB0.out)).mono ?_
  rw [← HBV.out]
  rintro r w1 ⟨rfl, hb⟩
  have HB1 := Lib.hid (HB0.out.trans (hb.mono HB0.out.size))
  have HX1 := Lib.hid (blk_below HX0.out hb)
  have HR1 := Lib.hid (blk_below HR0.out hb)
  clear x0 x0' x1 x1' x2 x2' x3 x3' x4 x4' x5 x5' x6 x6'
  clear hb
  cases b
  · obtain rfl : t = ⟨en0, [], false⟩ := HT.out
    obtain ⟨r0, r0'⟩ := cells_of_heap HR1.out 0 (by simp)
    obtain ⟨r1, r1'⟩ := cells_of_heap HR1.out 1 (by simp)
    obtain ⟨r2, r2'⟩ := cells_of_heap HR1.out 2 (by simp)
    obtain ⟨r3, r3'⟩ := cells_of_heap HR1.out 3 (by simp)
    obtain ⟨r4, r4'⟩ := cells_of_heap HR1.out 4 (by simp)
    obtain ⟨r5, r5'⟩ := cells_of_heap HR1.out 5 (by simp)
    obtain ⟨r6, r6'⟩ := cells_of_heap HR1.out 6 (by simp)
    simp only [List.getElem_toArray, List.getElem_cons_zero, List.getElem_cons_succ] at r0 r1 r2 r3 r4 r5 r6
    go_wp2
    clear r0 r0' r1 r1' r2 r2' r3 r3' r4 r4' r5 r5' r6 r6'
    obtain ⟨wf, hwf⟩ : ∃ x, x = putW (w1) (g + 1) 0 [.int .i64 0, .slice none 0 0, .slice none 0 0, .int .i64 0, .slice none 0 0, .int .i64 0, .bool false] := ⟨_, rfl⟩
    have kf := putW_all [.int .i64 0, .slice none 0 0, .slice none 0 0, .int .i64 0, .slice none 0 0, .int .i64 0, .bool false] HR1.out rfl
    have bf := putW_below (b := g + 1) (by first | omega | simp) [.int .i64 0, .slice none 0 0, .slice none 0 0, .int .i64 0, .slice none 0 0, .int .i64 0, .bool false] 0 _ HB1.out
    rw [← hwf] at kf bf
    have cf := hwf.symm
    simp only [putW, Nat.reduceAdd] at cf
    rw [cf]
    clear cf hwf
    have f0 := (cells_of_heap kf 0 (by simp)).1
    have f1 := (cells_of_heap kf 1 (by simp)).1
    have f2 := (cells_of_heap kf 2 (by simp)).1
    have f3 := (cells_of_heap kf 3 (by simp)).1
    have f4 := (cells_of_heap kf 4 (by simp)).1
    have f5 := (cells_of_heap kf 5 (by simp)).1
    have f6 := (cells_of_heap kf 6 (by simp)).1
    simp only [List.getElem_toArray, List.getElem_cons_zero, List.getElem_cons_succ] at f0 f1 f2 f3 f4 f5 f6
    refine bodyPost_ret (v := .tuple #[env 0 (.slice none 0 0) (.slice none 0 0) 0 (.slice none 0 0) 0 false, .slice none 0 0, .bool false]) (by simp [results, Tryz.results20, go_sem, f0, f1, f2, f3, f4, f5, f6]) rfl ⟨none, 0, none, 0, none, 0, _, none, 0, _, rfl, OwE.zero _ _, owZ_nil _ _, (fun _ h => by cases h), bf⟩
  · have hok := okEn_iff.1 HBV.out.symm
    have hkm := (okKm_at hok.km).1
    have HOK := Lib.hid hok
    have HKM := Lib.hid hkm
    clear hok hkm
    obtain ⟨x0, x0'⟩ := cells_of_heap HX1.out 0 (by simp)
    obtain ⟨x1, x1'⟩ := cells_of_heap HX1.out 1 (by simp)
    obtain ⟨x2, x2'⟩ := cells_of_heap HX1.out 2 (by simp)
    obtain ⟨x3, x3'⟩ := cells_of_heap HX1.out 3 (by simp)
    obtain ⟨x4, x4'⟩ := cells_of_heap HX1.out 4 (by simp)
    obtain ⟨x5, x5'⟩ := cells_of_heap HX1.out 5 (by simp)
    obtain ⟨x6, x6'⟩ := cells_of_heap HX1.out 6 (by simp)
    simp only [List.getElem_toArray, List.getElem_cons_zero, List.getElem_cons_succ] at x0 x1 x2 x3 x4 x5 x6
    go_wp2_with fail
    have HRD1 := Lib.hid (show RdE w1 ⟨k, L, F, fx, H, o, p⟩ (.slice a1 nL c1) (.slice a2 nF c2) (.slice a3 H.length c3) by have := HRd.out _ HB1.out; rw [HNH.out] at this; exact this)
    rw [HNH.out]
    refine (canGoDown_q ⟨k, L, F, fx, H, o, p⟩ (.slice a1 nL c1) (.slice a2 nF c2) a3 c3 key q HQV.out _ HS.out.h HKM.out HRD1.out).mono ?_
    rw [← HNH.out]
    rintro r w2 ⟨rfl, hb⟩
    have HB2 := Lib.hid (HB1.out.trans (hb.mono HB1.out.size))
    have HX2 := Lib.hid (blk_below HX1.out hb)
    have HR2 := Lib.hid (blk_below HR1.out hb)
    clear x0 x0' x1 x1' x2 x2' x3 x3' x4 x4' x5 x5' x6 x6'
    clear hb HRD1
    cases q
    · obtain rfl : t = ⟨en0, [], false⟩ := HT.out
      obtain ⟨r0, r0'⟩ := cells_of_heap HR2.out 0 (by simp)
      obtain ⟨r1, r1'⟩ := cells_of_heap HR2.out 1 (by simp)
      obtain ⟨r2, r2'⟩ := cells_of_heap HR2.out 2 (by simp)
      obtain ⟨r3, r3'⟩ := cells_of_heap HR2.out 3 (by simp)
      obtain ⟨r4, r4'⟩ := cells_of_heap HR2.out 4 (by simp)
      obtain ⟨r5, r5'⟩ := cells_of_heap HR2.out 5 (by simp)
      obtain ⟨r6, r6'⟩ := cells_of_heap HR2.out 6 (by simp)
      simp only [List.getElem_toArray, List.getElem_cons_zero, List.getElem_cons_succ] at r0 r1 r2 r3 r4 r5 r6
      go_wp2
      clear r0 r0' r1 r1' r2 r2' r3 r3' r4 r4' r5 r5' r6 r6'
      obtain ⟨wf, hwf⟩ : ∃ x, x = putW (w2) (g + 1) 0 [.int .i64 0, .slice none 0 0, .slice none 0 0, .int .i64 0, .slice none 0 0, .int .i64 0, .bool false] := ⟨_, rfl⟩
      have kf := putW_all [.int .i64 0, .slice none 0 0, .slice none 0 0, .int .i64 0, .slice none 0 0, .int .i64 0, .bool false] HR2.out rfl
      have bf := putW_below (b := g + 1) (by first | omega | simp) [.int .i64 0, .slice none 0 0, .slice none 0 0, .int .i64 0, .slice none 0 0, .int .i64 0, .bool false] 0 _ HB2.out
      rw [← hwf] at kf bf
      have cf := hwf.symm
      simp only [putW, Nat.reduceAdd] at cf
      rw [cf]
      clear cf hwf
      have f0 := (cells_of_heap kf 0 (by simp)).1
      have f1 := (cells_of_heap kf 1 (by simp)).1
      have f2 := (cells_of_heap kf 2 (by simp)).1
      have f3 := (cells_of_heap kf 3 (by simp)).1
      have f4 := (cells_of_heap kf 4 (by simp)).1
      have f5 := (cells_of_heap kf 5 (by simp)).1
      have f6 := (cells_of_heap kf 6 (by simp)).1
      simp only [List.getElem_toArray, List.getElem_cons_zero, List.getElem_cons_succ] at f0 f1 f2 f3 f4 f5 f6
      refine bodyPost_ret (v := .tuple #[env 0 (.slice none 0 0) (.slice none 0 0) 0 (.slice none 0 0) 0 false, .slice none 0 0, .bool false]) (by simp [results, Tryz.results20, go_sem, f0, f1, f2, f3, f4, f5, f6]) rfl ⟨none, 0, none, 0, none, 0, _, none, 0, _, rfl, OwE.zero _ _, owZ_nil _ _, (fun _ h => by cases h), bf⟩
    · have hqq := HQV.out.symm
      rw [Bool.and_eq_true] at hqq
      have HKB := Lib.hid (show 0 ≤ key ∧ key < k from by have := of_decide_eq_true (show decide (0 ≤ key ∧ key ≤ k - 1) = true from hqq.1); omega)
      have HT2 := Lib.hid (show t = ⟨prsE ⟨k, L, F, fx, H, o, p⟩ key hold, prsR ⟨k, L, F, fx, H, o, p⟩ key hold, true⟩ from HT.out)
      clear hqq
      obtain ⟨x0, x0'⟩ := cells_of_heap HX2.out 0 (by simp)
      obtain ⟨x1, x1'⟩ := cells_of_heap HX2.out 1 (by simp)
      obtain ⟨x2, x2'⟩ := cells_of_heap HX2.out 2 (by simp)
      obtain ⟨x3, x3'⟩ := cells_of_heap HX2.out 3 (by simp)
      obtain ⟨x4, x4'⟩ := cells_of_heap HX2.out 4 (by simp)
      obtain ⟨x5, x5'⟩ := cells_of_heap HX2.out 5 (by simp)
      obtain ⟨x6, x6'⟩ := cells_of_heap HX2.out 6 (by simp)
      simp only [List.getElem_toArray, List.getElem_cons_zero, List.getElem_cons_succ] at x0 x1 x2 x3 x4 x5 x6
      go_wp2_with fail
      refine (implCopyEngine_any ⟨k, L, F, fx, H, o, p⟩ (.slice a1 nL c1) (.slice a2 nF c2) (.slice a3 nH c3) _ HS.out (HRd.out _ HB2.out)).mono ?_
      rintro r w3 ⟨b1, d1, b2, d2, b3, d3, fp, rfl, hown, hb⟩
      have HB3 := Lib.hid (HB2.out.trans (hb.mono HB2.out.size))
      have HX3 := Lib.hid (blk_below HX2.out hb)
      have HR3 := Lib.hid (blk_below HR2.out hb)
      clear x0 x0' x1 x1' x2 x2' x3 x3' x4 x4' x5 x5' x6 x6'
      have HOW := Lib.hid hown
      rw [show (⟨k, L, F, fx, H, o, p⟩ : En).L.length = nL from HNL.out.symm, show (⟨k, L, F, fx, H, o, p⟩ : En).F.length = nF from HNF.out.symm, show (⟨k, L, F, fx, H, o, p⟩ : En).H.length = nH from HNH.out.symm] at HOW ⊢
      clear hb hown HT
      go_upto_region 4 with (fail)
      obtain ⟨W4, hW4⟩ : ∃ W, W = w3.alloc (.cells #[.int .i64 k, .slice b1 nL d1, .slice b2 nF d2, .int .i64 fx, .slice b3 nH d3, .int .i64 o, .bool p] 30) := ⟨_, rfl⟩
      obtain ⟨y, hy⟩ : ∃ y, y = w3.heap.size := ⟨_, rfl⟩
      rw [← hW4, ← hy]
      have hb4 : Below w3.heap.size w3 W4 := by rw [hW4]; exact below_alloc1 _ _
      have k4 : RlW w W4 g y #[.int .i64 k, .slice a1 nL c1, .slice a2 nF c2, .int .i64 fx, .slice a3 nH c3, .int .i64 o, .bool p] #[.int .i64 k, .slice b1 nL d1, .slice b2 nF d2, .int .i64 fx, .slice b3 nH d3, .int .i64 o, .bool p] := ⟨blk_below HX3.out hb4, blk_below HR3.out hb4, by rw [hW4, hy]; exact heap_alloc_new w3 _, HB3.out.trans (hb4.mono HB3.out.size), HG.out, by rw [hy]; exact (Array.getElem?_eq_some_iff.mp HR3.out).1⟩
      have HOW4 := Lib.hid ((HOW.out.below hb4).base HB2.out.size)
      have HYF := Lib.hid (show y ∉ fp from fun hm => by have := (HOW.out.rng y hm).2; omega)
      have HGF := Lib.hid (show g + 1 ∉ y :: fp from fun hm => by
        rcases List.mem_cons.1 hm with h | h
        · have := k4.hy; omega
        · have := (HOW.out.rng _ h).1; have := (Array.getElem?_eq_some_iff.mp HR2.out).1; omega)
      have HFW := Lib.hid (show ∀ b ∈ y :: fp, w.heap.size ≤ b from fun b hm => by
        rcases List.mem_cons.1 hm with h | h
        · rw [h, hy]; exact HB3.out.size
        · exact Nat.le_trans HB2.out.size (HOW.out.rng _ h).1)
      have HFG := Lib.hid (show ∀ b, b ∈ fp ∨ W4.heap.size ≤ b → b ≠ g + 1 from fun b hm => by
        rcases hm with h | h
        · have := (HOW.out.rng _ h).1; have := (Array.getElem?_eq_some_iff.mp HR2.out).1; omega
        · have := k4.hy; have := k4.lt; omega)
      have K4 := Lib.hid k4
      clear hW4 hy hb4 k4 HOW HX3 HR3 HX2 HR2 HX1 HR1 HX0 HR0
      go_wp2_with fail
      refine (press_at ⟨k, L, F, fx, H, o, p⟩ [] 30 b1 b2 b3 d1 d2 d3 fp y w.heap.size key hold _ HS.out HOK.out HKB.out HYF.out K4.out.hb.size (by rw [← HNL.out, ← HNF.out, ← HNH.out]; exact K4.out.ho) (by rw [← HNL.out, ← HNF.out, ← HNH.out]; exact HOW4.out)).mono ?_
      rw [← HNL.out, ← HNF.out]
      rintro r w5 ⟨a4, c4, fp', a5, c5, fq, rfl, hy5, he5, hf5, hq5, hd5, ht5⟩
      obtain ⟨rs, hrs⟩ : ∃ l, l = prsR ⟨k, L, F, fx, H, o, p⟩ key hold := ⟨_, rfl⟩
      rw [← hrs] at hq5 ⊢
      obtain ⟨e2, he2⟩ : ∃ e, e = prsE ⟨k, L, F, fx, H, o, p⟩ key hold := ⟨_, rfl⟩
      have hpf := press_facts2 ⟨k, L, F, fx, H, o, p⟩ key hold
      rw [← he2] at hpf
      obtain ⟨k2, L2, F2, x2, H', o2, p2⟩ := e2
      obtain ⟨rfl, rfl, rfl⟩ : k2 = k ∧ L2 = L ∧ F2 = F := hpf
      obtain ⟨n4, hn4⟩ : ∃ n, n = H'.length := ⟨_, rfl⟩
      rw [← he2] at he5 hy5
      rw [show (⟨k2, L2, F2, x2, H', o2, p2⟩ : En).H.length = n4 from hn4.symm] at he5 hy5
      have HTL := Lib.hid (show t = ⟨⟨k2, L2, F2, x2, H', o2, p2⟩, rs, true⟩ by rw [HT2.out, ← he2, hrs])
      have HK5 := Lib.hid (show w5.heap[y]? = some (.cells #[.int .i64 k2, .slice b1 nL d1, .slice b2 nF d2, .int .i64 x2, .slice a4 n4 c4, .int .i64 o2, .bool p2] 30 (0, 0)) from hy5)
      have HR5 := Lib.hid (blk_turn K4.out.hr ht5 HGF.out)
      have HB5 := Lib.hid (K4.out.hb.trans (ht5.below HFW.out K4.out.hb.size))
      have HE5 := Lib.hid he5
      have HQ5 := Lib.hid (hq5.base K4.out.hb.size)
      have HD5 := Lib.hid hd5
      have HNG := Lib.hid (show g + 1 ∉ fp' from fun hm => HFG.out _ (hf5 _ hm) rfl)
      have HNQ := Lib.hid (show g + 1 ∉ fq from fun hm => HFG.out _ (.inr (hq5.rng _ hm).1) rfl)
      have HN4 := Lib.hid hn4
      clear hrs he2 hn4 hy5 he5 hf5 hq5 hd5 ht5 HT2 HOW4
      obtain ⟨y0, y0'⟩ := cells_of_heap HK5.out 0 (by simp)
      obtain ⟨y1, y1'⟩ := cells_of_heap HK5.out 1 (by simp)
      obtain ⟨y2, y2'⟩ := cells_of_heap HK5.out 2 (by simp)
      obtain ⟨y3, y3'⟩ := cells_of_heap HK5.out 3 (by simp)
      obtain ⟨y4, y4'⟩ := cells_of_heap HK5.out 4 (by simp)
      obtain ⟨y5, y5'⟩ := cells_of_heap HK5.out 5 (by simp)
      obtain ⟨y6, y6'⟩ := cells_of_heap HK5.out 6 (by simp)
      simp only [List.getElem_toArray, List.getElem_cons_zero, List.getElem_cons_succ] at y0 y1 y2 y3 y4 y5 y6
      obtain ⟨r0, r0'⟩ := cells_of_heap HR5.out 0 (by simp)
      obtain ⟨r1, r1'⟩ := cells_of_heap HR5.out 1 (by simp)
      obtain ⟨r2, r2'⟩ := cells_of_heap HR5.out 2 (by simp)
      obtain ⟨r3, r3'⟩ := cells_of_heap HR5.out 3 (by simp)
      obtain ⟨r4, r4'⟩ := cells_of_heap HR5.out 4 (by simp)
      obtain ⟨r5, r5'⟩ := cells_of_heap HR5.out 5 (by simp)
      obtain ⟨r6, r6'⟩ := cells_of_heap HR5.out 6 (by simp)
      simp only [List.getElem_toArray, List.getElem_cons_zero, List.getElem_cons_succ] at r0 r1 r2 r3 r4 r5 r6
      go_wp2
      clear y0 y0' y1 y1' y2 y2' y3 y3' y4 y4' y5 y5' y6 y6'
      clear r0 r0' r1 r1' r2 r2' r3 r3' r4 r4' r5 r5' r6 r6'
      have hz4 := HQ5.out.putAt (y := g + 1) [.int .i64 k2, .slice b1 nL d1, .slice b2 nF d2, .int .i64 x2, .slice a4 n4 c4, .int .i64 o2, .bool p2] HNQ.out 0
      obtain ⟨wf, hwf⟩ : ∃ x, x = putW (w5) (g + 1) 0 [.int .i64 k2, .slice b1 nL d1, .slice b2 nF d2, .int .i64 x2, .slice a4 n4 c4, .int .i64 o2, .bool p2] := ⟨_, rfl⟩
      have kf := putW_all [.int .i64 k2, .slice b1 nL d1, .slice b2 nF d2, .int .i64 x2, .slice a4 n4 c4, .int .i64 o2, .bool p2] HR5.out rfl
      have bf := putW_below (b := g + 1) (by first | omega | simp) [.int .i64 k2, .slice b1 nL d1, .slice b2 nF d2, .int .i64 x2, .slice a4 n4 c4, .int .i64 o2, .bool p2] 0 _ HB5.out
      have of := (show OwE (putW w5 (g + 1) 0 [.int .i64 k2, .slice b1 nL d1, .slice b2 nF d2, .int .i64 x2, .slice a4 n4 c4, .int .i64 o2, .bool p2]) w.heap.size ⟨k2, L2, F2, x2, H', o2, p2⟩ (.slice b1 nL d1) (.slice b2 nF d2) (.slice a4 n4 c4) fp' ∧ OwZ rpF (putW w5 (g + 1) 0 [.int .i64 k2, .slice b1 nL d1, .slice b2 nF d2, .int .i64 x2, .slice a4 n4 c4, .int .i64 o2, .bool p2]) w.heap.size 1 (.slice a5 rs.length c5) rs fq from ⟨HE5.out.putAt (y := g + 1) [.int .i64 k2, .slice b1 nL d1, .slice b2 nF d2, .int .i64 x2, .slice a4 n4 c4, .int .i64 o2, .bool p2] HNG.out 0, hz4⟩)
      rw [← hwf] at kf bf of
      have cf := hwf.symm
      simp only [putW, Nat.reduceAdd] at cf
      rw [cf]
      clear cf hwf
      have f0 := (cells_of_heap kf 0 (by simp)).1
      have f1 := (cells_of_heap kf 1 (by simp)).1
      have f2 := (cells_of_heap kf 2 (by simp)).1
      have f3 := (cells_of_heap kf 3 (by simp)).1
      have f4 := (cells_of_heap kf 4 (by simp)).1
      have f5 := (cells_of_heap kf 5 (by simp)).1
      have f6 := (cells_of_heap kf 6 (by simp)).1
      simp only [List.getElem_toArray, List.getElem_cons_zero, List.getElem_cons_succ] at f0 f1 f2 f3 f4 f5 f6
      refine bodyPost_ret (v := .tuple #[env k2 (.slice b1 nL d1) (.slice b2 nF d2) x2 (.slice a4 n4 c4) o2 p2, .slice a5 rs.length c5, .bool true]) (by simp [results, Tryz.results20, go_sem, f0, f1, f2, f3, f4, f5, f6]) rfl (by rw [HTL.out]; exact ⟨b1, d1, b2, d2, a4, c4, fp', a5, c5, fq, by rw [HNL.out, HNF.out, HN4.out], by rw [HNL.out, HNF.out, HN4.out] at of; exact of.1, of.2, HD5.out, bf⟩)

end Go.Proofs.YtjfckchoklepbaaGreat
