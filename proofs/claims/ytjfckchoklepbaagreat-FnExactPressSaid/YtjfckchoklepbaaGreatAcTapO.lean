/- DERIVED. TapOf and HoldOf, the reference's and the program's: each returns what a plain function says. · The numbers of a valid action. No condition. -/
import Derived.Test.YtjfckchoklepbaaGreatAcOk
import Derived.Test.YtjfckchoklepbaaGreatAcs
namespace Go.Proofs.YtjfckchoklepbaaGreat
open Go.RowKit

theorem specTapOf_any (k c m n : Int) (w : World) : Calls Tryz.prog 104 #[acv k c m n] w fun e w' => e = .returned (acv (tapR ⟨k, c, m, n⟩).k (tapR ⟨k, c, m, n⟩).c (tapR ⟨k, c, m, n⟩).m (tapR ⟨k, c, m, n⟩).n) ∧ Below w.heap.size w w' := by
  obtain ⟨v, hv⟩ : ∃ v, v = holdAc k c m n := ⟨_, rfl⟩
  obtain ⟨r, hr⟩ : ∃ r, r = tapR ⟨k, c, m, n⟩ := ⟨_, rfl⟩
  have hr2 := hr
  rw [tapR] at hr2
  simp only [] at hr2
  rw [← hv] at hr2
  rw [← hr]
  have HV := Lib.hid hv
  have HR := Lib.hid hr2
  clear hv hr hr2
  obtain ⟨V, hV⟩ : ∃ V, V = (w.alloc (.cells #[.int .i64 k, .int .i64 c, .int .i64 m, .int .i64 n] 41)).alloc (.cells #[.int .i64 0, .int .i64 0, .int .i64 0, .int .i64 0] 41) := ⟨_, rfl⟩
  have hX : Bxd V w.heap.size [.int .i64 k, .int .i64 c, .int .i64 m, .int .i64 n] := by rw [hV]; exact (Bxd.new _ _ _).below ((Below.refl _ _).alloc (Nat.le_refl _) _) (by simp)
  have hG : V.heap[w.heap.size + 1]? = some (.cells #[.int .i64 0, .int .i64 0, .int .i64 0, .int .i64 0] 41 (0, 0)) := by rw [hV]; have := heap_alloc_new (w.alloc (.cells #[.int .i64 k, .int .i64 c, .int .i64 m, .int .i64 n] 41)) (.cells #[.int .i64 0, .int .i64 0, .int .i64 0, .int .i64 0] 41); simpa using this
  have hB : Below w.heap.size w V := by rw [hV]; exact ((Below.refl _ _).alloc (Nat.le_refl _) _).alloc (by simp) _
  have hS : w.heap.size + 1 < V.heap.size := by rw [hV]; simp
  have HV2 := Lib.hid hV
  have HX0 := Lib.hid hX
  have HG0 := Lib.hid hG
  have HB0 := Lib.hid hB
  have HS0 := Lib.hid hS
  clear hV hX hG hB hS
  go_enter Tryz.func104, Tryz.ntmps104
  go_wp2_with fail
  rw [← HV2.out]
  have c0 := HX0.out.at 0 _ rfl
  have c1 := HX0.out.at 1 _ rfl
  have c2 := HX0.out.at 2 _ rfl
  have c3 := HX0.out.at 3 _ rfl
  refine (specIsTapHold_q k c m n v HV.out _).mono ?_
  rintro e w1 ⟨rfl, hb⟩
  have HB := Lib.hid (HB0.out.trans (hb.mono HB0.out.size))
  have HX1 := Lib.hid (HX0.out.below hb (Nat.lt_of_succ_lt HS0.out))
  have HG1 := Lib.hid ((hb.block _ HS0.out).trans HG0.out)
  clear hb c0 c1 c2 c3
  have c0 := HX1.out.at 0 _ rfl
  have c1 := HX1.out.at 1 _ rfl
  have c2 := HX1.out.at 2 _ rfl
  have c3 := HX1.out.at 3 _ rfl
  obtain ⟨y0, q0⟩ := cells_of_heap HG1.out 0 (by simp)
  obtain ⟨y1, q1⟩ := cells_of_heap HG1.out 1 (by simp)
  obtain ⟨y2, q2⟩ := cells_of_heap HG1.out 2 (by simp)
  obtain ⟨y3, q3⟩ := cells_of_heap HG1.out 3 (by simp)
  cases v
  · have hr3 : r = ⟨k, c, m, n⟩ := HR.out
    subst hr3
    go_wp2
    clear c0 c1 c2 c3 y0 y1 y2 y3 q0 q1 q2 q3
    obtain ⟨wf, hwf⟩ : ∃ x, x = putW (w1) (w.heap.size + 1) 0 [.int .i64 k, .int .i64 c, .int .i64 m, .int .i64 n] := ⟨_, rfl⟩
    have kf := putW_all [.int .i64 k, .int .i64 c, .int .i64 m, .int .i64 n] HG1.out rfl
    have bf := putW_below (b := w.heap.size + 1) (by simp) [.int .i64 k, .int .i64 c, .int .i64 m, .int .i64 n] 0 _ HB.out
    rw [← hwf] at kf bf
    have cf := hwf.symm
    simp only [putW, Nat.reduceAdd] at cf
    rw [cf]
    clear cf hwf
    have f0 := (cells_of_heap kf 0 (by simp)).1
    have f1 := (cells_of_heap kf 1 (by simp)).1
    have f2 := (cells_of_heap kf 2 (by simp)).1
    have f3 := (cells_of_heap kf 3 (by simp)).1
    simp only [List.getElem_toArray, List.getElem_cons_zero, List.getElem_cons_succ] at f0 f1 f2 f3
    refine bodyPost_ret (v := acv k c m n) (by simp [results, Tryz.results104, go_sem, f0, f1, f2, f3]) rfl ⟨rfl, bf⟩
  · have hr3 : r = ⟨2, c, 0, 0⟩ := HR.out
    subst hr3
    go_wp2
    clear c0 c1 c2 c3 y0 y1 y2 y3 q0 q1 q2 q3
    obtain ⟨wf, hwf⟩ : ∃ x, x = putW (w1) (w.heap.size + 1) 0 [.int .i64 2, .int .i64 c, .int .i64 0, .int .i64 0] := ⟨_, rfl⟩
    have kf := putW_all [.int .i64 2, .int .i64 c, .int .i64 0, .int .i64 0] HG1.out rfl
    have bf := putW_below (b := w.heap.size + 1) (by simp) [.int .i64 2, .int .i64 c, .int .i64 0, .int .i64 0] 0 _ HB.out
    rw [← hwf] at kf bf
    have cf := hwf.symm
    simp only [putW, Nat.reduceAdd] at cf
    rw [cf]
    clear cf hwf
    have f0 := (cells_of_heap kf 0 (by simp)).1
    have f1 := (cells_of_heap kf 1 (by simp)).1
    have f2 := (cells_of_heap kf 2 (by simp)).1
    have f3 := (cells_of_heap kf 3 (by simp)).1
    simp only [List.getElem_toArray, List.getElem_cons_zero, List.getElem_cons_succ] at f0 f1 f2 f3
    refine bodyPost_ret (v := acv 2 c 0 0) (by simp [results, Tryz.results104, go_sem, f0, f1, f2, f3]) rfl ⟨rfl, bf⟩
theorem specHoldOf_any (k c m n : Int) (w : World) : Calls Tryz.prog 103 #[acv k c m n] w fun e w' => e = .returned (acv (holdR ⟨k, c, m, n⟩).k (holdR ⟨k, c, m, n⟩).c (holdR ⟨k, c, m, n⟩).m (holdR ⟨k, c, m, n⟩).n) ∧ Below w.heap.size w w' := by
  obtain ⟨v, hv⟩ : ∃ v, v = holdAc k c m n := ⟨_, rfl⟩
  obtain ⟨r, hr⟩ : ∃ r, r = holdR ⟨k, c, m, n⟩ := ⟨_, rfl⟩
  have hr2 := hr
  rw [holdR] at hr2
  simp only [] at hr2
  rw [← hv] at hr2
  rw [← hr]
  have HV := Lib.hid hv
  have HR := Lib.hid hr2
  clear hv hr hr2
  obtain ⟨V, hV⟩ : ∃ V, V = (w.alloc (.cells #[.int .i64 k, .int .i64 c, .int .i64 m, .int .i64 n] 41)).alloc (.cells #[.int .i64 0, .int .i64 0, .int .i64 0, .int .i64 0] 41) := ⟨_, rfl⟩
  have hX : Bxd V w.heap.size [.int .i64 k, .int .i64 c, .int .i64 m, .int .i64 n] := by rw [hV]; exact (Bxd.new _ _ _).below ((Below.refl _ _).alloc (Nat.le_refl _) _) (by simp)
  have hG : V.heap[w.heap.size + 1]? = some (.cells #[.int .i64 0, .int .i64 0, .int .i64 0, .int .i64 0] 41 (0, 0)) := by rw [hV]; have := heap_alloc_new (w.alloc (.cells #[.int .i64 k, .int .i64 c, .int .i64 m, .int .i64 n] 41)) (.cells #[.int .i64 0, .int .i64 0, .int .i64 0, .int .i64 0] 41); simpa using this
  have hB : Below w.heap.size w V := by rw [hV]; exact ((Below.refl _ _).alloc (Nat.le_refl _) _).alloc (by simp) _
  have hS : w.heap.size + 1 < V.heap.size := by rw [hV]; simp
  have HV2 := Lib.hid hV
  have HX0 := Lib.hid hX
  have HG0 := Lib.hid hG
  have HB0 := Lib.hid hB
  have HS0 := Lib.hid hS
  clear hV hX hG hB hS
  go_enter Tryz.func103, Tryz.ntmps103
  go_wp2_with fail
  rw [← HV2.out]
  have c0 := HX0.out.at 0 _ rfl
  have c1 := HX0.out.at 1 _ rfl
  have c2 := HX0.out.at 2 _ rfl
  have c3 := HX0.out.at 3 _ rfl
  refine (specIsTapHold_q k c m n v HV.out _).mono ?_
  rintro e w1 ⟨rfl, hb⟩
  have HB := Lib.hid (HB0.out.trans (hb.mono HB0.out.size))
  have HX1 := Lib.hid (HX0.out.below hb (Nat.lt_of_succ_lt HS0.out))
  have HG1 := Lib.hid ((hb.block _ HS0.out).trans HG0.out)
  clear hb c0 c1 c2 c3
  have c0 := HX1.out.at 0 _ rfl
  have c1 := HX1.out.at 1 _ rfl
  have c2 := HX1.out.at 2 _ rfl
  have c3 := HX1.out.at 3 _ rfl
  obtain ⟨y0, q0⟩ := cells_of_heap HG1.out 0 (by simp)
  obtain ⟨y1, q1⟩ := cells_of_heap HG1.out 1 (by simp)
  obtain ⟨y2, q2⟩ := cells_of_heap HG1.out 2 (by simp)
  obtain ⟨y3, q3⟩ := cells_of_heap HG1.out 3 (by simp)
  cases v
  · have hr3 : r = ⟨k, c, m, n⟩ := HR.out
    subst hr3
    go_wp2
    clear c0 c1 c2 c3 y0 y1 y2 y3 q0 q1 q2 q3
    obtain ⟨wf, hwf⟩ : ∃ x, x = putW (w1) (w.heap.size + 1) 0 [.int .i64 k, .int .i64 c, .int .i64 m, .int .i64 n] := ⟨_, rfl⟩
    have kf := putW_all [.int .i64 k, .int .i64 c, .int .i64 m, .int .i64 n] HG1.out rfl
    have bf := putW_below (b := w.heap.size + 1) (by simp) [.int .i64 k, .int .i64 c, .int .i64 m, .int .i64 n] 0 _ HB.out
    rw [← hwf] at kf bf
    have cf := hwf.symm
    simp only [putW, Nat.reduceAdd] at cf
    rw [cf]
    clear cf hwf
    have f0 := (cells_of_heap kf 0 (by simp)).1
    have f1 := (cells_of_heap kf 1 (by simp)).1
    have f2 := (cells_of_heap kf 2 (by simp)).1
    have f3 := (cells_of_heap kf 3 (by simp)).1
    simp only [List.getElem_toArray, List.getElem_cons_zero, List.getElem_cons_succ] at f0 f1 f2 f3
    refine bodyPost_ret (v := acv k c m n) (by simp [results, Tryz.results103, go_sem, f0, f1, f2, f3]) rfl ⟨rfl, bf⟩
  · by_cases hk : k = 6
    · subst hk
      have hr3 : r = ⟨2, 0, m, 0⟩ := HR.out
      subst hr3
      go_wp2
      clear c0 c1 c2 c3 y0 y1 y2 y3 q0 q1 q2 q3
      obtain ⟨wf, hwf⟩ : ∃ x, x = putW (w1) (w.heap.size + 1) 0 [.int .i64 2, .int .i64 0, .int .i64 m, .int .i64 0] := ⟨_, rfl⟩
      have kf := putW_all [.int .i64 2, .int .i64 0, .int .i64 m, .int .i64 0] HG1.out rfl
      have bf := putW_below (b := w.heap.size + 1) (by simp) [.int .i64 2, .int .i64 0, .int .i64 m, .int .i64 0] 0 _ HB.out
      rw [← hwf] at kf bf
      have cf := hwf.symm
      simp only [putW, Nat.reduceAdd] at cf
      rw [cf]
      clear cf hwf
      have f0 := (cells_of_heap kf 0 (by simp)).1
      have f1 := (cells_of_heap kf 1 (by simp)).1
      have f2 := (cells_of_heap kf 2 (by simp)).1
      have f3 := (cells_of_heap kf 3 (by simp)).1
      simp only [List.getElem_toArray, List.getElem_cons_zero, List.getElem_cons_succ] at f0 f1 f2 f3
      refine bodyPost_ret (v := acv 2 0 m 0) (by simp [results, Tryz.results103, go_sem, f0, f1, f2, f3]) rfl ⟨rfl, bf⟩
    · have hr3 : r = ⟨3, 0, 0, n⟩ := by rw [HR.out, if_pos rfl, if_neg hk]
      subst hr3
      go_wp2
      clear c0 c1 c2 c3 y0 y1 y2 y3 q0 q1 q2 q3
      obtain ⟨wf, hwf⟩ : ∃ x, x = putW (w1) (w.heap.size + 1) 0 [.int .i64 3, .int .i64 0, .int .i64 0, .int .i64 n] := ⟨_, rfl⟩
      have kf := putW_all [.int .i64 3, .int .i64 0, .int .i64 0, .int .i64 n] HG1.out rfl
      have bf := putW_below (b := w.heap.size + 1) (by simp) [.int .i64 3, .int .i64 0, .int .i64 0, .int .i64 n] 0 _ HB.out
      rw [← hwf] at kf bf
      have cf := hwf.symm
      simp only [putW, Nat.reduceAdd] at cf
      rw [cf]
      clear cf hwf
      have f0 := (cells_of_heap kf 0 (by simp)).1
      have f1 := (cells_of_heap kf 1 (by simp)).1
      have f2 := (cells_of_heap kf 2 (by simp)).1
      have f3 := (cells_of_heap kf 3 (by simp)).1
      simp only [List.getElem_toArray, List.getElem_cons_zero, List.getElem_cons_succ] at f0 f1 f2 f3
      refine bodyPost_ret (v := acv 3 0 0 n) (by simp [results, Tryz.results103, go_sem, f0, f1, f2, f3]) rfl ⟨rfl, bf⟩
end Go.Proofs.YtjfckchoklepbaaGreat

namespace Go.Proofs.YtjfckchoklepbaaGreat
open Go.RowKit

theorem implTapOf_any (k c m n : Int) (w : World) : Calls Tryz.prog 26 #[acv k c m n] w fun e w' => e = .returned (acv (tapR ⟨k, c, m, n⟩).k (tapR ⟨k, c, m, n⟩).c (tapR ⟨k, c, m, n⟩).m (tapR ⟨k, c, m, n⟩).n) ∧ Below w.heap.size w w' := by
  obtain ⟨v, hv⟩ : ∃ v, v = holdAc k c m n := ⟨_, rfl⟩
  obtain ⟨r, hr⟩ : ∃ r, r = tapR ⟨k, c, m, n⟩ := ⟨_, rfl⟩
  have hr2 := hr
  rw [tapR] at hr2
  simp only [] at hr2
  rw [← hv] at hr2
  rw [← hr]
  have HV := Lib.hid hv
  have HR := Lib.hid hr2
  clear hv hr hr2
  obtain ⟨V, hV⟩ : ∃ V, V = (w.alloc (.cells #[.int .i64 k, .int .i64 c, .int .i64 m, .int .i64 n] 41)).alloc (.cells #[.int .i64 0, .int .i64 0, .int .i64 0, .int .i64 0] 41) := ⟨_, rfl⟩
  have hX : Bxd V w.heap.size [.int .i64 k, .int .i64 c, .int .i64 m, .int .i64 n] := by rw [hV]; exact (Bxd.new _ _ _).below ((Below.refl _ _).alloc (Nat.le_refl _) _) (by simp)
  have hG : V.heap[w.heap.size + 1]? = some (.cells #[.int .i64 0, .int .i64 0, .int .i64 0, .int .i64 0] 41 (0, 0)) := by rw [hV]; have := heap_alloc_new (w.alloc (.cells #[.int .i64 k, .int .i64 c, .int .i64 m, .int .i64 n] 41)) (.cells #[.int .i64 0, .int .i64 0, .int .i64 0, .int .i64 0] 41); simpa using this
  have hB : Below w.heap.size w V := by rw [hV]; exact ((Below.refl _ _).alloc (Nat.le_refl _) _).alloc (by simp) _
  have hS : w.heap.size + 1 < V.heap.size := by rw [hV]; simp
  have HV2 := Lib.hid hV
  have HX0 := Lib.hid hX
  have HG0 := Lib.hid hG
  have HB0 := Lib.hid hB
  have HS0 := Lib.hid hS
  clear hV hX hG hB hS
  go_enter Tryz.func26, Tryz.ntmps26
  go_wp2_with fail
  rw [← HV2.out]
  have c0 := HX0.out.at 0 _ rfl
  have c1 := HX0.out.at 1 _ rfl
  have c2 := HX0.out.at 2 _ rfl
  have c3 := HX0.out.at 3 _ rfl
  refine (implIsTapHold_q k c m n v HV.out _).mono ?_
  rintro e w1 ⟨rfl, hb⟩
  have HB := Lib.hid (HB0.out.trans (hb.mono HB0.out.size))
  have HX1 := Lib.hid (HX0.out.below hb (Nat.lt_of_succ_lt HS0.out))
  have HG1 := Lib.hid ((hb.block _ HS0.out).trans HG0.out)
  clear hb c0 c1 c2 c3
  have c0 := HX1.out.at 0 _ rfl
  have c1 := HX1.out.at 1 _ rfl
  have c2 := HX1.out.at 2 _ rfl
  have c3 := HX1.out.at 3 _ rfl
  obtain ⟨y0, q0⟩ := cells_of_heap HG1.out 0 (by simp)
  obtain ⟨y1, q1⟩ := cells_of_heap HG1.out 1 (by simp)
  obtain ⟨y2, q2⟩ := cells_of_heap HG1.out 2 (by simp)
  obtain ⟨y3, q3⟩ := cells_of_heap HG1.out 3 (by simp)
  cases v
  · have hr3 : r = ⟨k, c, m, n⟩ := HR.out
    subst hr3
    go_wp2
    clear c0 c1 c2 c3 y0 y1 y2 y3 q0 q1 q2 q3
    obtain ⟨wf, hwf⟩ : ∃ x, x = putW (w1) (w.heap.size + 1) 0 [.int .i64 k, .int .i64 c, .int .i64 m, .int .i64 n] := ⟨_, rfl⟩
    have kf := putW_all [.int .i64 k, .int .i64 c, .int .i64 m, .int .i64 n] HG1.out rfl
    have bf := putW_below (b := w.heap.size + 1) (by first | omega | simp) [.int .i64 k, .int .i64 c, .int .i64 m, .int .i64 n] 0 _ HB.out
    rw [← hwf] at kf bf
    have cf := hwf.symm
    simp only [putW, Nat.reduceAdd] at cf
    rw [cf]
    clear cf hwf
    have f0 := (cells_of_heap kf 0 (by simp)).1
    have f1 := (cells_of_heap kf 1 (by simp)).1
    have f2 := (cells_of_heap kf 2 (by simp)).1
    have f3 := (cells_of_heap kf 3 (by simp)).1
    simp only [List.getElem_toArray, List.getElem_cons_zero, List.getElem_cons_succ] at f0 f1 f2 f3
    refine bodyPost_ret (v := acv k c m n) (by simp [results, Tryz.results26, go_sem, f0, f1, f2, f3]) rfl ⟨rfl, bf⟩
  · have hr3 : r = ⟨2, c, 0, 0⟩ := HR.out
    subst hr3
    go_wp2
    clear c0 c1 c2 c3 y0 y1 y2 y3 q0 q1 q2 q3
    obtain ⟨wf, hwf⟩ : ∃ x, x = putW (w1) (w.heap.size + 1) 0 [.int .i64 2, .int .i64 c, .int .i64 0, .int .i64 0] := ⟨_, rfl⟩
    have kf := putW_all [.int .i64 2, .int .i64 c, .int .i64 0, .int .i64 0] HG1.out rfl
    have bf := putW_below (b := w.heap.size + 1) (by first | omega | simp) [.int .i64 2, .int .i64 c, .int .i64 0, .int .i64 0] 0 _ HB.out
    rw [← hwf] at kf bf
    have cf := hwf.symm
    simp only [putW, Nat.reduceAdd] at cf
    rw [cf]
    clear cf hwf
    have f0 := (cells_of_heap kf 0 (by simp)).1
    have f1 := (cells_of_heap kf 1 (by simp)).1
    have f2 := (cells_of_heap kf 2 (by simp)).1
    have f3 := (cells_of_heap kf 3 (by simp)).1
    simp only [List.getElem_toArray, List.getElem_cons_zero, List.getElem_cons_succ] at f0 f1 f2 f3
    refine bodyPost_ret (v := acv 2 c 0 0) (by simp [results, Tryz.results26, go_sem, f0, f1, f2, f3]) rfl ⟨rfl, bf⟩
theorem implHoldOf_any (k c m n : Int) (w : World) : Calls Tryz.prog 211 #[acv k c m n] w fun e w' => e = .returned (acv (holdR ⟨k, c, m, n⟩).k (holdR ⟨k, c, m, n⟩).c (holdR ⟨k, c, m, n⟩).m (holdR ⟨k, c, m, n⟩).n) ∧ Below w.heap.size w w' := by
  obtain ⟨v, hv⟩ : ∃ v, v = holdAc k c m n := ⟨_, rfl⟩
  obtain ⟨r, hr⟩ : ∃ r, r = holdR ⟨k, c, m, n⟩ := ⟨_, rfl⟩
  have hr2 := hr
  rw [holdR] at hr2
  simp only [] at hr2
  rw [← hv] at hr2
  rw [← hr]
  have HV := Lib.hid hv
  have HR := Lib.hid hr2
  clear hv hr hr2
  obtain ⟨V, hV⟩ : ∃ V, V = (w.alloc (.cells #[.int .i64 k, .int .i64 c, .int .i64 m, .int .i64 n] 41)).alloc (.cells #[.int .i64 0, .int .i64 0, .int .i64 0, .int .i64 0] 41) := ⟨_, rfl⟩
  have hX : Bxd V w.heap.size [.int .i64 k, .int .i64 c, .int .i64 m, .int .i64 n] := by rw [hV]; exact (Bxd.new _ _ _).below ((Below.refl _ _).alloc (Nat.le_refl _) _) (by simp)
  have hG : V.heap[w.heap.size + 1]? = some (.cells #[.int .i64 0, .int .i64 0, .int .i64 0, .int .i64 0] 41 (0, 0)) := by rw [hV]; have := heap_alloc_new (w.alloc (.cells #[.int .i64 k, .int .i64 c, .int .i64 m, .int .i64 n] 41)) (.cells #[.int .i64 0, .int .i64 0, .int .i64 0, .int .i64 0] 41); simpa using this
  have hB : Below w.heap.size w V := by rw [hV]; exact ((Below.refl _ _).alloc (Nat.le_refl _) _).alloc (by simp) _
  have hS : w.heap.size + 1 < V.heap.size := by rw [hV]; simp
  have HV2 := Lib.hid hV
  have HX0 := Lib.hid hX
  have HG0 := Lib.hid hG
  have HB0 := Lib.hid hB
  have HS0 := Lib.hid hS
  clear hV hX hG hB hS
  go_enter Tryz.func211, Tryz.ntmps211
  go_wp2_with fail
  rw [← HV2.out]
  have c0 := HX0.out.at 0 _ rfl
  have c1 := HX0.out.at 1 _ rfl
  have c2 := HX0.out.at 2 _ rfl
  have c3 := HX0.out.at 3 _ rfl
  refine (implIsTapHold_q k c m n v HV.out _).mono ?_
  rintro e w1 ⟨rfl, hb⟩
  have HB := Lib.hid (HB0.out.trans (hb.mono HB0.out.size))
  have HX1 := Lib.hid (HX0.out.below hb (Nat.lt_of_succ_lt HS0.out))
  have HG1 := Lib.hid ((hb.block _ HS0.out).trans HG0.out)
  clear hb c0 c1 c2 c3
  have c0 := HX1.out.at 0 _ rfl
  have c1 := HX1.out.at 1 _ rfl
  have c2 := HX1.out.at 2 _ rfl
  have c3 := HX1.out.at 3 _ rfl
  obtain ⟨y0, q0⟩ := cells_of_heap HG1.out 0 (by simp)
  obtain ⟨y1, q1⟩ := cells_of_heap HG1.out 1 (by simp)
  obtain ⟨y2, q2⟩ := cells_of_heap HG1.out 2 (by simp)
  obtain ⟨y3, q3⟩ := cells_of_heap HG1.out 3 (by simp)
  cases v
  · have hr3 : r = ⟨k, c, m, n⟩ := HR.out
    subst hr3
    go_wp2
    clear c0 c1 c2 c3 y0 y1 y2 y3 q0 q1 q2 q3
    obtain ⟨wf, hwf⟩ : ∃ x, x = putW (w1) (w.heap.size + 1) 0 [.int .i64 k, .int .i64 c, .int .i64 m, .int .i64 n] := ⟨_, rfl⟩
    have kf := putW_all [.int .i64 k, .int .i64 c, .int .i64 m, .int .i64 n] HG1.out rfl
    have bf := putW_below (b := w.heap.size + 1) (by first | omega | simp) [.int .i64 k, .int .i64 c, .int .i64 m, .int .i64 n] 0 _ HB.out
    rw [← hwf] at kf bf
    have cf := hwf.symm
    simp only [putW, Nat.reduceAdd] at cf
    rw [cf]
    clear cf hwf
    have f0 := (cells_of_heap kf 0 (by simp)).1
    have f1 := (cells_of_heap kf 1 (by simp)).1
    have f2 := (cells_of_heap kf 2 (by simp)).1
    have f3 := (cells_of_heap kf 3 (by simp)).1
    simp only [List.getElem_toArray, List.getElem_cons_zero, List.getElem_cons_succ] at f0 f1 f2 f3
    refine bodyPost_ret (v := acv k c m n) (by simp [results, Tryz.results211, go_sem, f0, f1, f2, f3]) rfl ⟨rfl, bf⟩
  · by_cases hk : k = 6
    · subst hk
      have hr3 : r = ⟨2, 0, m, 0⟩ := HR.out
      subst hr3
      go_wp2
      clear c0 c1 c2 c3 y0 y1 y2 y3 q0 q1 q2 q3
      obtain ⟨wf, hwf⟩ : ∃ x, x = putW (w1) (w.heap.size + 1) 0 [.int .i64 2, .int .i64 0, .int .i64 m, .int .i64 0] := ⟨_, rfl⟩
      have kf := putW_all [.int .i64 2, .int .i64 0, .int .i64 m, .int .i64 0] HG1.out rfl
      have bf := putW_below (b := w.heap.size + 1) (by first | omega | simp) [.int .i64 2, .int .i64 0, .int .i64 m, .int .i64 0] 0 _ HB.out
      rw [← hwf] at kf bf
      have cf := hwf.symm
      simp only [putW, Nat.reduceAdd] at cf
      rw [cf]
      clear cf hwf
      have f0 := (cells_of_heap kf 0 (by simp)).1
      have f1 := (cells_of_heap kf 1 (by simp)).1
      have f2 := (cells_of_heap kf 2 (by simp)).1
      have f3 := (cells_of_heap kf 3 (by simp)).1
      simp only [List.getElem_toArray, List.getElem_cons_zero, List.getElem_cons_succ] at f0 f1 f2 f3
      refine bodyPost_ret (v := acv 2 0 m 0) (by simp [results, Tryz.results211, go_sem, f0, f1, f2, f3]) rfl ⟨rfl, bf⟩
    · have hr3 : r = ⟨3, 0, 0, n⟩ := by rw [HR.out, if_pos rfl, if_neg hk]
      subst hr3
      go_wp2
      clear c0 c1 c2 c3 y0 y1 y2 y3 q0 q1 q2 q3
      obtain ⟨wf, hwf⟩ : ∃ x, x = putW (w1) (w.heap.size + 1) 0 [.int .i64 3, .int .i64 0, .int .i64 0, .int .i64 n] := ⟨_, rfl⟩
      have kf := putW_all [.int .i64 3, .int .i64 0, .int .i64 0, .int .i64 n] HG1.out rfl
      have bf := putW_below (b := w.heap.size + 1) (by first | omega | simp) [.int .i64 3, .int .i64 0, .int .i64 0, .int .i64 n] 0 _ HB.out
      rw [← hwf] at kf bf
      have cf := hwf.symm
      simp only [putW, Nat.reduceAdd] at cf
      rw [cf]
      clear cf hwf
      have f0 := (cells_of_heap kf 0 (by simp)).1
      have f1 := (cells_of_heap kf 1 (by simp)).1
      have f2 := (cells_of_heap kf 2 (by simp)).1
      have f3 := (cells_of_heap kf 3 (by simp)).1
      simp only [List.getElem_toArray, List.getElem_cons_zero, List.getElem_cons_succ] at f0 f1 f2 f3
      refine bodyPost_ret (v := acv 3 0 0 n) (by simp [results, Tryz.results211, go_sem, f0, f1, f2, f3]) rfl ⟨rfl, bf⟩
end Go.Proofs.YtjfckchoklepbaaGreat

namespace Go.Proofs.YtjfckchoklepbaaGreat
open Go.RowKit

theorem okAc_lim {k c m n : Int} (h : okAc k c m n = true) : (0 ≤ k ∧ k ≤ 10) ∧ (0 ≤ c ∧ c ≤ 56) ∧ (0 ≤ m ∧ m ≤ 15) ∧ 0 ≤ n ∧ n ≤ 3 := by
  unfold okAc inB at h
  split at h
  · simp only [Bool.and_eq_true, decide_eq_true_eq] at h; omega
  split at h
  · simp only [Bool.and_eq_true, Bool.or_eq_true, decide_eq_true_eq] at h; omega
  split at h
  · simp only [Bool.and_eq_true, decide_eq_true_eq] at h; omega
  split at h
  · simp only [Bool.and_eq_true, decide_eq_true_eq] at h; omega
  split at h
  · simp only [Bool.and_eq_true, decide_eq_true_eq] at h; omega
  split at h
  · simp only [Bool.and_eq_true, decide_eq_true_eq] at h; omega
  split at h
  · simp only [Bool.and_eq_true, decide_eq_true_eq] at h; omega
  · exact absurd h (by decide)

end Go.Proofs.YtjfckchoklepbaaGreat
