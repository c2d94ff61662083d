/- DERIVED. What the reference reads as an action: l5Left and ParseAction return it. Called with any text of at most 1048576 bytes. -/
import Derived.Test.YticpfciebpdkdaaDoorAcTx
import Derived.Test.YticpfciebpdkdaaDoorParseInt
import Derived.Test.YticpfciebpdkdaaDoorSplit
namespace Go.Proofs.YticpfciebpdkdaaDoor
open Go.RowKit

abbrev sMo : ByteArray := ⟨#[109, 111]⟩
abbrev sTg : ByteArray := ⟨#[116, 103]⟩
abbrev sTo : ByteArray := ⟨#[116, 111]⟩
abbrev sMacro : ByteArray := ⟨#[109, 97, 99, 114, 111]⟩
/-- An action with a part before a sign. -/
def leftV (k : Int) (l r : ByteArray) : Ac :=
  if l = sMo then ⟨3, 0, 0, pval r⟩ else if l = sTg then ⟨4, 0, 0, pval r⟩ else if l = sTo then ⟨5, 0, 0, pval r⟩ else if l = sMacro then ⟨9, 0, 0, pval r⟩ else ⟨k, 0, pmV r, 0⟩

theorem specParseInt_n (s : ByteArray) (n : Int) (b : Bool) (hn : n = pval s) (hb : b = okI s) (w : World) (hl : s.size ≤ 1048576) :
    Calls Tryd.prog 29 #[.string s] w fun e w' => e = .returned (.tuple #[.int .i64 n, .bool b]) ∧ Below w.heap.size w w' := by
  rw [hn, hb]; exact specParseInt_any s w hl

set_option maxRecDepth 100000 in
set_option maxHeartbeats 4000000 in
theorem specLeft_any (k : Int) (l r : ByteArray) (w : World) (hl : r.size ≤ 1048576) : Calls Tryd.prog 28 #[.int .i64 k, .string l, .string r] w fun e w' => e = .returned (acv (leftV k l r).k (leftV k l r).c (leftV k l r).m (leftV k l r).n) ∧ Below w.heap.size w w' := by
  obtain ⟨z, hz⟩ : ∃ z, z = leftV k l r := ⟨_, rfl⟩
  obtain ⟨n, hn⟩ : ∃ n, n = pval r := ⟨_, rfl⟩
  obtain ⟨b, hb⟩ : ∃ b, b = okI r := ⟨_, rfl⟩
  have hz2 := hz
  rw [leftV, ← hn] at hz2
  rw [← hz]
  have HN := Lib.hid hn
  have HOK := Lib.hid hb
  have HZ := Lib.hid hz2
  clear hz hz2 hn hb
  obtain ⟨V, hV⟩ : ∃ V, V = w.alloc (.cells #[.int .i64 0, .int .i64 0, .int .i64 0, .int .i64 0] 29) := ⟨_, rfl⟩
  have HG0 := Lib.hid (show V.heap[w.heap.size]? = some (.cells #[.int .i64 0, .int .i64 0, .int .i64 0, .int .i64 0] 29 (0, 0)) by rw [hV]; exact heap_alloc_new w _)
  have HB0 := Lib.hid (show Below w.heap.size w V by rw [hV]; exact (Below.refl _ _).alloc (Nat.le_refl _) _)
  have HS0 := Lib.hid (show w.heap.size < V.heap.size by rw [hV]; simp)
  have HV2 := Lib.hid hV
  clear hV
  go_enter Tryd.func28, Tryd.ntmps28
  go_wp2_with fail
  rw [← HV2.out]
  refine (specParseInt_n r n b HN.out HOK.out _ hl).mono ?_
  rintro e w1 ⟨rfl, hb⟩
  have HB := Lib.hid (HB0.out.trans (hb.mono HB0.out.size))
  have HG1 := Lib.hid ((hb.block _ HS0.out).trans HG0.out)
  have HS1 := Lib.hid (Nat.lt_of_lt_of_le HS0.out hb.size)
  clear hb
  obtain ⟨y0, q0⟩ := cells_of_heap HG1.out 0 (by simp)
  obtain ⟨y1, q1⟩ := cells_of_heap HG1.out 1 (by simp)
  obtain ⟨y2, q2⟩ := cells_of_heap HG1.out 2 (by simp)
  obtain ⟨y3, q3⟩ := cells_of_heap HG1.out 3 (by simp)
  by_cases h1 : l = sMo
  · have hz : z = ⟨3, 0, 0, n⟩ := by rw [HZ.out, if_pos h1]
    subst hz h1
    go_wp2
    clear y0 y1 y2 y3 q0 q1 q2 q3
    obtain ⟨wf, hwf⟩ : ∃ x, x = putW (w1) (w.heap.size) 0 [.int .i64 3, .int .i64 0, .int .i64 0, .int .i64 n] := ⟨_, rfl⟩
    have kf := putW_all [.int .i64 3, .int .i64 0, .int .i64 0, .int .i64 n] HG1.out rfl
    have bf := putW_below (b := w.heap.size) (by simp) [.int .i64 3, .int .i64 0, .int .i64 0, .int .i64 n] 0 _ HB.out
    rw [← hwf] at kf bf
    have cf := hwf.symm
    simp only [putW, Nat.reduceAdd] at cf
    rw [cf]
    clear cf hwf
    have f0 := (cells_of_heap kf 0 (by simp)).1
    have f1 := (cells_of_heap kf 1 (by simp)).1
    have f2 := (cells_of_heap kf 2 (by simp)).1
    have f3 := (cells_of_heap kf 3 (by simp)).1
    simp only [List.getElem_toArray, List.getElem_cons_zero, List.getElem_cons_succ] at f0 f1 f2 f3
    refine bodyPost_ret (v := acv 3 0 0 n) (by simp [results, Tryd.results28, go_sem, f0, f1, f2, f3]) rfl ⟨rfl, bf⟩
  · skip
    by_cases h2 : l = sTg
    · have hz : z = ⟨4, 0, 0, n⟩ := by rw [HZ.out, if_neg h1, if_pos h2]
      subst hz h2
      have e1 := lit_ne [109, 111] h1
      go_wp2
      clear y0 y1 y2 y3 q0 q1 q2 q3
      obtain ⟨wf, hwf⟩ : ∃ x, x = putW (w1) (w.heap.size) 0 [.int .i64 4, .int .i64 0, .int .i64 0, .int .i64 n] := ⟨_, rfl⟩
      have kf := putW_all [.int .i64 4, .int .i64 0, .int .i64 0, .int .i64 n] HG1.out rfl
      have bf := putW_below (b := w.heap.size) (by simp) [.int .i64 4, .int .i64 0, .int .i64 0, .int .i64 n] 0 _ HB.out
      rw [← hwf] at kf bf
      have cf := hwf.symm
      simp only [putW, Nat.reduceAdd] at cf
      rw [cf]
      clear cf hwf
      have f0 := (cells_of_heap kf 0 (by simp)).1
      have f1 := (cells_of_heap kf 1 (by simp)).1
      have f2 := (cells_of_heap kf 2 (by simp)).1
      have f3 := (cells_of_heap kf 3 (by simp)).1
      simp only [List.getElem_toArray, List.getElem_cons_zero, List.getElem_cons_succ] at f0 f1 f2 f3
      refine bodyPost_ret (v := acv 4 0 0 n) (by simp [results, Tryd.results28, go_sem, f0, f1, f2, f3]) rfl ⟨rfl, bf⟩
    · skip
      by_cases h3 : l = sTo
      · have hz : z = ⟨5, 0, 0, n⟩ := by rw [HZ.out, if_neg h1, if_neg h2, if_pos h3]
        subst hz h3
        have e1 := lit_ne [109, 111] h1
        have e2 := lit_ne [116, 103] h2
        go_wp2
        clear y0 y1 y2 y3 q0 q1 q2 q3
        obtain ⟨wf, hwf⟩ : ∃ x, x = putW (w1) (w.heap.size) 0 [.int .i64 5, .int .i64 0, .int .i64 0, .int .i64 n] := ⟨_, rfl⟩
        have kf := putW_all [.int .i64 5, .int .i64 0, .int .i64 0, .int .i64 n] HG1.out rfl
        have bf := putW_below (b := w.heap.size) (by simp) [.int .i64 5, .int .i64 0, .int .i64 0, .int .i64 n] 0 _ HB.out
        rw [← hwf] at kf bf
        have cf := hwf.symm
        simp only [putW, Nat.reduceAdd] at cf
        rw [cf]
        clear cf hwf
        have f0 := (cells_of_heap kf 0 (by simp)).1
        have f1 := (cells_of_heap kf 1 (by simp)).1
        have f2 := (cells_of_heap kf 2 (by simp)).1
        have f3 := (cells_of_heap kf 3 (by simp)).1
        simp only [List.getElem_toArray, List.getElem_cons_zero, List.getElem_cons_succ] at f0 f1 f2 f3
        refine bodyPost_ret (v := acv 5 0 0 n) (by simp [results, Tryd.results28, go_sem, f0, f1, f2, f3]) rfl ⟨rfl, bf⟩
      · skip
        by_cases h4 : l = sMacro
        · have hz : z = ⟨9, 0, 0, n⟩ := by rw [HZ.out, if_neg h1, if_neg h2, if_neg h3, if_pos h4]
          subst hz h4
          have e1 := lit_ne [109, 111] h1
          have e2 := lit_ne [116, 103] h2
          have e3 := lit_ne [116, 111] h3
          go_wp2
          clear y0 y1 y2 y3 q0 q1 q2 q3
          obtain ⟨wf, hwf⟩ : ∃ x, x = putW (w1) (w.heap.size) 0 [.int .i64 9, .int .i64 0, .int .i64 0, .int .i64 n] := ⟨_, rfl⟩
          have kf := putW_all [.int .i64 9, .int .i64 0, .int .i64 0, .int .i64 n] HG1.out rfl
          have bf := putW_below (b := w.heap.size) (by simp) [.int .i64 9, .int .i64 0, .int .i64 0, .int .i64 n] 0 _ HB.out
          rw [← hwf] at kf bf
          have cf := hwf.symm
          simp only [putW, Nat.reduceAdd] at cf
          rw [cf]
          clear cf hwf
          have f0 := (cells_of_heap kf 0 (by simp)).1
          have f1 := (cells_of_heap kf 1 (by simp)).1
          have f2 := (cells_of_heap kf 2 (by simp)).1
          have f3 := (cells_of_heap kf 3 (by simp)).1
          simp only [List.getElem_toArray, List.getElem_cons_zero, List.getElem_cons_succ] at f0 f1 f2 f3
          refine bodyPost_ret (v := acv 9 0 0 n) (by simp [results, Tryd.results28, go_sem, f0, f1, f2, f3]) rfl ⟨rfl, bf⟩
        · skip
          obtain ⟨M, hM⟩ : ∃ M, M = pmV r := ⟨_, rfl⟩
          have hz : z = ⟨k, 0, M, 0⟩ := by rw [HZ.out, if_neg h1, if_neg h2, if_neg h3, if_neg h4, hM]
          subst hz
          have HM := Lib.hid hM
          clear hM
          have e1 := lit_ne [109, 111] h1
          have e2 := lit_ne [116, 103] h2
          have e3 := lit_ne [116, 111] h3
          have e4 := lit_ne [109, 97, 99, 114, 111] h4
          clear h1 h2 h3 h4
          go_wp2_with fail
          refine (specParseMods_any r _).mono ?_
          rw [← HM.out]
          rintro e w2 ⟨rfl, hb⟩
          have HB2 := Lib.hid (HB.out.trans (hb.mono HB.out.size))
          have HG2 := Lib.hid ((hb.block _ HS1.out).trans HG1.out)
          clear hb y0 y1 y2 y3 q0 q1 q2 q3
          obtain ⟨y0, q0⟩ := cells_of_heap HG2.out 0 (by simp)
          obtain ⟨y1, q1⟩ := cells_of_heap HG2.out 1 (by simp)
          obtain ⟨y2, q2⟩ := cells_of_heap HG2.out 2 (by simp)
          obtain ⟨y3, q3⟩ := cells_of_heap HG2.out 3 (by simp)
          go_wp2
          clear y0 y1 y2 y3 q0 q1 q2 q3
          obtain ⟨wf, hwf⟩ : ∃ x, x = putW (w2) (w.heap.size) 0 [.int .i64 k, .int .i64 0, .int .i64 M, .int .i64 0] := ⟨_, rfl⟩
          have kf := putW_all [.int .i64 k, .int .i64 0, .int .i64 M, .int .i64 0] HG2.out rfl
          have bf := putW_below (b := w.heap.size) (by simp) [.int .i64 k, .int .i64 0, .int .i64 M, .int .i64 0] 0 _ HB2.out
          rw [← hwf] at kf bf
          have cf := hwf.symm
          simp only [putW, Nat.reduceAdd] at cf
          rw [cf]
          clear cf hwf
          have f0 := (cells_of_heap kf 0 (by simp)).1
          have f1 := (cells_of_heap kf 1 (by simp)).1
          have f2 := (cells_of_heap kf 2 (by simp)).1
          have f3 := (cells_of_heap kf 3 (by simp)).1
          simp only [List.getElem_toArray, List.getElem_cons_zero, List.getElem_cons_succ] at f0 f1 f2 f3
          refine bodyPost_ret (v := acv k 0 M 0) (by simp [results, Tryd.results28, go_sem, f0, f1, f2, f3]) rfl ⟨rfl, bf⟩

end Go.Proofs.YticpfciebpdkdaaDoor
