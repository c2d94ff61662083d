/- DERIVED. The exact laws of chapter 5: each, called with any arguments, returns true and changes nothing that was there, where the program's function answers as the plain function. -/
import Derived.Test.YticpfciebpdkdaaAcTap
import Derived.Test.YticpfciebpdkdaaAcSpec
import Derived.Test.YticpfciebpdkdaaIntsLaw
namespace Go.Proofs.Yticpfciebpdkdaa
open Go.RowKit

set_option maxHeartbeats 1000000 in
set_option maxRecDepth 100000 in
theorem lawFormatMods_walk (m : Int) (w : World) (hI : ∀ w', Below w.heap.size w w' → Calls Try.prog 10 #[.int .i64 m] w' fun e w'' => e = .returned (.string (mdV m)) ∧ Below w'.heap.size w' w'') : Calls Try.prog 3 #[.int .i64 m] w fun e w' => e = .returned (.bool true) ∧ Below w.heap.size w w' := by
  obtain ⟨r, hr⟩ : ∃ x, x = mdV m := ⟨_, rfl⟩
  rw [← hr] at hI
  have HRR := Lib.hid hr
  have HI := Lib.hid hI
  clear hr hI
  have b0 : (!(r.toList == r.toList)) = false := by simp
  have HB0 := Lib.hid (Below.refl w.heap.size w)
  go_enter Try.func3, Try.ntmps3
  go_wp2_with fail
  refine (specFormatMods_any m _).mono ?_
  rw [← HRR.out]
  rintro e w1 ⟨rfl, hb⟩
  have HB1 := Lib.hid (HB0.out.trans (hb.mono HB0.out.size))
  have HS1 := Lib.hid hb.size
  clear hb
  go_wp2_with fail
  refine (HI.out _ HB1.out).mono ?_
  rintro e w2 ⟨rfl, hb⟩
  have HB2 := Lib.hid (HB1.out.trans (hb.mono HB1.out.size))
  have HS2 := Lib.hid hb.size
  clear hb
  go_wp2
  go_ret
  exact ⟨rfl, HB2.out⟩

set_option maxHeartbeats 1000000 in
set_option maxRecDepth 100000 in
theorem lawParseMods_walk (s : ByteArray) (w : World) (hI : s.size ≤ 1048576 → ∀ w', Below w.heap.size w w' → Calls Try.prog 12 #[.string s] w' fun e w'' => e = .returned (.int .i64 (pmV s : Nat)) ∧ Below w'.heap.size w' w'') : Calls Try.prog 4 #[.string s] w fun e w' => e = .returned (.bool true) ∧ Below w.heap.size w w' := by
  by_cases hl : s.size ≤ 1048576
  · obtain ⟨r, hr⟩ : ∃ x, x = pmV s := ⟨_, rfl⟩
    have hl2 : ¬ (1048576 : Int) < (s.size : Int) := by omega
    have hI := hI hl
    rw [← hr] at hI
    have HRR := Lib.hid hr
    have HI := Lib.hid hI
    clear hr hI hl
    have HB0 := Lib.hid (Below.refl w.heap.size w)
    go_enter Try.func4, Try.ntmps4
    go_wp2_with fail
    refine (specParseMods_any s _).mono ?_
    rw [← HRR.out]
    rintro e w1 ⟨rfl, hb⟩
    have HB1 := Lib.hid (HB0.out.trans (hb.mono HB0.out.size))
    have HS1 := Lib.hid hb.size
    clear hb
    go_wp2_with fail
    refine (HI.out _ HB1.out).mono ?_
    rintro e w2 ⟨rfl, hb⟩
    have HB2 := Lib.hid (HB1.out.trans (hb.mono HB1.out.size))
    have HS2 := Lib.hid hb.size
    clear hb
    go_wp2
    go_ret
    exact ⟨rfl, HB2.out⟩
  · have hl' : (1048576 : Int) < (s.size : Int) := by omega
    clear hl hI
    go_enter Try.func4, Try.ntmps4
    go_wp2
    go_ret
    exact ⟨rfl, Below.refl _ _⟩

set_option maxHeartbeats 1000000 in
set_option maxRecDepth 100000 in
theorem lawIsAction_walk (k c m n : Int) (w : World) (hI : ∀ w', Below w.heap.size w w' → Calls Try.prog 15 #[acv k c m n] w' fun e w'' => e = .returned (.bool (okAc k c m n)) ∧ Below w'.heap.size w' w'') : Calls Try.prog 5 #[acv k c m n] w fun e w' => e = .returned (.bool true) ∧ Below w.heap.size w w' := by
  obtain ⟨r, hr⟩ : ∃ x, x = okAc k c m n := ⟨_, rfl⟩
  rw [← hr] at hI
  have HRR := Lib.hid hr
  have HI := Lib.hid hI
  clear hr hI
  obtain ⟨w0, hw0⟩ : ∃ x, x = (w.alloc (.cells #[.int .i64 k, .int .i64 c, .int .i64 m, .int .i64 n] 27)) := ⟨_, rfl⟩
  have HB0 := Lib.hid (show Below w.heap.size w w0 by rw [hw0]; exact (Below.refl _ _).alloc (Nat.le_refl _) _)
  have Ke_0 := Lib.hid (show w0.heap[w.heap.size]? = some (.cells #[.int .i64 k, .int .i64 c, .int .i64 m, .int .i64 n] 27 (0, 0)) by rw [hw0]; exact heap_alloc_new w _)
  have SZ0 := Lib.hid (show w0.heap.size = w.heap.size + 1 by rw [hw0]; simp)
  have HW := Lib.hid hw0
  clear hw0
  go_enter Try.func5, Try.ntmps5
  have ce0 := (cells_of_heap Ke_0.out 0 (by simp)).1
  have ce1 := (cells_of_heap Ke_0.out 1 (by simp)).1
  have ce2 := (cells_of_heap Ke_0.out 2 (by simp)).1
  have ce3 := (cells_of_heap Ke_0.out 3 (by simp)).1
  go_wp2_with fail
  rw [← HW.out]
  refine (toAction_any k c m n _).mono ?_
  rintro e w1 ⟨rfl, hb⟩
  clear ce0 ce1 ce2 ce3
  have HB1 := Lib.hid (HB0.out.trans (hb.mono HB0.out.size))
  have HS1 := Lib.hid hb.size
  have Ke_1 := Lib.hid (blk_below Ke_0.out hb)
  clear Ke_0
  clear hb
  go_wp2_with fail
  refine (specIsAction_any k c m n _).mono ?_
  rw [← HRR.out]
  rintro e w2 ⟨rfl, hb⟩
  have HB2 := Lib.hid (HB1.out.trans (hb.mono HB1.out.size))
  have HS2 := Lib.hid hb.size
  have Ke_2 := Lib.hid (blk_below Ke_1.out hb)
  clear Ke_1
  clear hb
  have ce0 := (cells_of_heap Ke_2.out 0 (by simp)).1
  have ce1 := (cells_of_heap Ke_2.out 1 (by simp)).1
  have ce2 := (cells_of_heap Ke_2.out 2 (by simp)).1
  have ce3 := (cells_of_heap Ke_2.out 3 (by simp)).1
  go_wp2_with fail
  refine (toAction_any k c m n _).mono ?_
  rintro e w3 ⟨rfl, hb⟩
  clear ce0 ce1 ce2 ce3
  have HB3 := Lib.hid (HB2.out.trans (hb.mono HB2.out.size))
  have HS3 := Lib.hid hb.size
  have Ke_3 := Lib.hid (blk_below Ke_2.out hb)
  clear Ke_2
  clear hb
  go_wp2_with fail
  refine (HI.out _ HB3.out).mono ?_
  rintro e w4 ⟨rfl, hb⟩
  have HB4 := Lib.hid (HB3.out.trans (hb.mono HB3.out.size))
  have HS4 := Lib.hid hb.size
  have Ke_4 := Lib.hid (blk_below Ke_3.out hb)
  clear Ke_3
  clear hb
  go_wp2
  go_ret
  exact ⟨rfl, HB4.out⟩

set_option maxHeartbeats 1000000 in
set_option maxRecDepth 100000 in
theorem lawIsTapHold_walk (k c m n : Int) (w : World) (hI : ∀ w', Below w.heap.size w w' → Calls Try.prog 17 #[acv k c m n] w' fun e w'' => e = .returned (.bool (holdAc k c m n)) ∧ Below w'.heap.size w' w'') : Calls Try.prog 6 #[acv k c m n] w fun e w' => e = .returned (.bool true) ∧ Below w.heap.size w w' := by
  obtain ⟨r, hr⟩ : ∃ x, x = holdAc k c m n := ⟨_, rfl⟩
  rw [← hr] at hI
  have HRR := Lib.hid hr
  have HI := Lib.hid hI
  clear hr hI
  obtain ⟨w0, hw0⟩ : ∃ x, x = (w.alloc (.cells #[.int .i64 k, .int .i64 c, .int .i64 m, .int .i64 n] 27)) := ⟨_, rfl⟩
  have HB0 := Lib.hid (show Below w.heap.size w w0 by rw [hw0]; exact (Below.refl _ _).alloc (Nat.le_refl _) _)
  have Ke_0 := Lib.hid (show w0.heap[w.heap.size]? = some (.cells #[.int .i64 k, .int .i64 c, .int .i64 m, .int .i64 n] 27 (0, 0)) by rw [hw0]; exact heap_alloc_new w _)
  have SZ0 := Lib.hid (show w0.heap.size = w.heap.size + 1 by rw [hw0]; simp)
  have HW := Lib.hid hw0
  clear hw0
  go_enter Try.func6, Try.ntmps6
  have ce0 := (cells_of_heap Ke_0.out 0 (by simp)).1
  have ce1 := (cells_of_heap Ke_0.out 1 (by simp)).1
  have ce2 := (cells_of_heap Ke_0.out 2 (by simp)).1
  have ce3 := (cells_of_heap Ke_0.out 3 (by simp)).1
  go_wp2_with fail
  rw [← HW.out]
  refine (toAction_any k c m n _).mono ?_
  rintro e w1 ⟨rfl, hb⟩
  clear ce0 ce1 ce2 ce3
  have HB1 := Lib.hid (HB0.out.trans (hb.mono HB0.out.size))
  have HS1 := Lib.hid hb.size
  have Ke_1 := Lib.hid (blk_below Ke_0.out hb)
  clear Ke_0
  clear hb
  go_wp2_with fail
  refine (specIsTapHold_any k c m n _).mono ?_
  rw [← HRR.out]
  rintro e w2 ⟨rfl, hb⟩
  have HB2 := Lib.hid (HB1.out.trans (hb.mono HB1.out.size))
  have HS2 := Lib.hid hb.size
  have Ke_2 := Lib.hid (blk_below Ke_1.out hb)
  clear Ke_1
  clear hb
  have ce0 := (cells_of_heap Ke_2.out 0 (by simp)).1
  have ce1 := (cells_of_heap Ke_2.out 1 (by simp)).1
  have ce2 := (cells_of_heap Ke_2.out 2 (by simp)).1
  have ce3 := (cells_of_heap Ke_2.out 3 (by simp)).1
  go_wp2_with fail
  refine (toAction_any k c m n _).mono ?_
  rintro e w3 ⟨rfl, hb⟩
  clear ce0 ce1 ce2 ce3
  have HB3 := Lib.hid (HB2.out.trans (hb.mono HB2.out.size))
  have HS3 := Lib.hid hb.size
  have Ke_3 := Lib.hid (blk_below Ke_2.out hb)
  clear Ke_2
  clear hb
  go_wp2_with fail
  refine (HI.out _ HB3.out).mono ?_
  rintro e w4 ⟨rfl, hb⟩
  have HB4 := Lib.hid (HB3.out.trans (hb.mono HB3.out.size))
  have HS4 := Lib.hid hb.size
  have Ke_4 := Lib.hid (blk_below Ke_3.out hb)
  clear Ke_3
  clear hb
  go_wp2
  go_ret
  exact ⟨rfl, HB4.out⟩

set_option maxHeartbeats 1000000 in
set_option maxRecDepth 100000 in
theorem lawTapOf_walk (k c m n : Int) (w : World) (hI : ∀ w', Below w.heap.size w w' → Calls Try.prog 19 #[acv k c m n] w' fun e w'' => e = .returned (acv (tapR ⟨k, c, m, n⟩).k (tapR ⟨k, c, m, n⟩).c (tapR ⟨k, c, m, n⟩).m (tapR ⟨k, c, m, n⟩).n) ∧ Below w'.heap.size w' w'') : Calls Try.prog 7 #[acv k c m n] w fun e w' => e = .returned (.bool true) ∧ Below w.heap.size w w' := by
  obtain ⟨r, hr⟩ : ∃ x, x = tapR ⟨k, c, m, n⟩ := ⟨_, rfl⟩
  rw [← hr] at hI
  have HRR := Lib.hid hr
  have HI := Lib.hid hI
  clear hr hI
  obtain ⟨w0, hw0⟩ : ∃ x, x = (w.alloc (.cells #[.int .i64 k, .int .i64 c, .int .i64 m, .int .i64 n] 27)) := ⟨_, rfl⟩
  have HB0 := Lib.hid (show Below w.heap.size w w0 by rw [hw0]; exact (Below.refl _ _).alloc (Nat.le_refl _) _)
  have Ke_0 := Lib.hid (show w0.heap[w.heap.size]? = some (.cells #[.int .i64 k, .int .i64 c, .int .i64 m, .int .i64 n] 27 (0, 0)) by rw [hw0]; exact heap_alloc_new w _)
  have SZ0 := Lib.hid (show w0.heap.size = w.heap.size + 1 by rw [hw0]; simp)
  have HW := Lib.hid hw0
  clear hw0
  go_enter Try.func7, Try.ntmps7
  have ce0 := (cells_of_heap Ke_0.out 0 (by simp)).1
  have ce1 := (cells_of_heap Ke_0.out 1 (by simp)).1
  have ce2 := (cells_of_heap Ke_0.out 2 (by simp)).1
  have ce3 := (cells_of_heap Ke_0.out 3 (by simp)).1
  go_wp2_with fail
  rw [← HW.out]
  refine (toAction_any k c m n _).mono ?_
  rintro e w1 ⟨rfl, hb⟩
  clear ce0 ce1 ce2 ce3
  have HB1 := Lib.hid (HB0.out.trans (hb.mono HB0.out.size))
  have HS1 := Lib.hid hb.size
  have Ke_1 := Lib.hid (blk_below Ke_0.out hb)
  clear Ke_0
  clear hb
  go_wp2_with fail
  refine (specTapOf_any k c m n _).mono ?_
  rw [← HRR.out]
  rintro e w2 ⟨rfl, hb⟩
  have HB2 := Lib.hid (HB1.out.trans (hb.mono HB1.out.size))
  have HS2 := Lib.hid hb.size
  have Ke_2 := Lib.hid (blk_below Ke_1.out hb)
  clear Ke_1
  clear hb
  go_upto_region 2 with (fail)
  obtain ⟨w3, hw⟩ : ∃ x, x = w2.alloc (.cells #[.int .i64 r.k, .int .i64 r.c, .int .i64 r.m, .int .i64 r.n] 29) := ⟨_, rfl⟩
  have hb : Below w2.heap.size w2 w3 := by rw [hw]; exact below_alloc1 _ _
  have hk : w3.heap[w2.heap.size]? = some (.cells #[.int .i64 r.k, .int .i64 r.c, .int .i64 r.m, .int .i64 r.n] 29 (0, 0)) := by rw [hw]; exact heap_alloc_new _ _
  rw [← hw]
  have HB3 := Lib.hid (HB2.out.trans (hb.mono HB2.out.size))
  have HS3 := Lib.hid (show w2.heap.size < w3.heap.size from (Array.getElem?_eq_some_iff.mp hk).1)
  have Ke_3 := Lib.hid (blk_below Ke_2.out hb)
  clear Ke_2
  have Kw_3 := Lib.hid hk
  clear hb hk hw
  have ce0 := (cells_of_heap Ke_3.out 0 (by simp)).1
  have ce1 := (cells_of_heap Ke_3.out 1 (by simp)).1
  have ce2 := (cells_of_heap Ke_3.out 2 (by simp)).1
  have ce3 := (cells_of_heap Ke_3.out 3 (by simp)).1
  go_wp2_with fail
  refine (toAction_any k c m n _).mono ?_
  rintro e w4 ⟨rfl, hb⟩
  clear ce0 ce1 ce2 ce3
  have HB4 := Lib.hid (HB3.out.trans (hb.mono HB3.out.size))
  have HS4 := Lib.hid hb.size
  have Ke_4 := Lib.hid (blk_below Ke_3.out hb)
  have Kw_4 := Lib.hid (blk_below Kw_3.out hb)
  clear Ke_3 Kw_3
  clear hb
  go_wp2_with fail
  refine (HI.out _ HB4.out).mono ?_
  rintro e w5 ⟨rfl, hb⟩
  have HB5 := Lib.hid (HB4.out.trans (hb.mono HB4.out.size))
  have HS5 := Lib.hid hb.size
  have Ke_5 := Lib.hid (blk_below Ke_4.out hb)
  have Kw_5 := Lib.hid (blk_below Kw_4.out hb)
  clear Ke_4 Kw_4
  clear hb
  go_upto_region 3 with (fail)
  obtain ⟨w6, hw⟩ : ∃ x, x = w5.alloc (.cells #[.int .i64 r.k, .int .i64 r.c, .int .i64 r.m, .int .i64 r.n] 29) := ⟨_, rfl⟩
  have hb : Below w5.heap.size w5 w6 := by rw [hw]; exact below_alloc1 _ _
  have hk : w6.heap[w5.heap.size]? = some (.cells #[.int .i64 r.k, .int .i64 r.c, .int .i64 r.m, .int .i64 r.n] 29 (0, 0)) := by rw [hw]; exact heap_alloc_new _ _
  rw [← hw]
  have HB6 := Lib.hid (HB5.out.trans (hb.mono HB5.out.size))
  have HS6 := Lib.hid (show w5.heap.size < w6.heap.size from (Array.getElem?_eq_some_iff.mp hk).1)
  have Ke_6 := Lib.hid (blk_below Ke_5.out hb)
  have Kw_6 := Lib.hid (blk_below Kw_5.out hb)
  clear Ke_5 Kw_5
  have Kg_6 := Lib.hid hk
  clear hb hk hw
  have cg0 := (cells_of_heap Kg_6.out 0 (by simp)).1
  have cg1 := (cells_of_heap Kg_6.out 1 (by simp)).1
  have cg2 := (cells_of_heap Kg_6.out 2 (by simp)).1
  have cg3 := (cells_of_heap Kg_6.out 3 (by simp)).1
  have cw0 := (cells_of_heap Kw_6.out 0 (by simp)).1
  have cw1 := (cells_of_heap Kw_6.out 1 (by simp)).1
  have cw2 := (cells_of_heap Kw_6.out 2 (by simp)).1
  have cw3 := (cells_of_heap Kw_6.out 3 (by simp)).1
  go_wp2_with fail
  refine (eqAction_same r.k r.c r.m r.n _).mono ?_
  rintro e w7 ⟨rfl, hb⟩
  clear cg0 cg1 cg2 cg3 cw0 cw1 cw2 cw3
  have HB7 := Lib.hid (HB6.out.trans (hb.mono HB6.out.size))
  have HS7 := Lib.hid hb.size
  have Ke_7 := Lib.hid (blk_below Ke_6.out hb)
  have Kw_7 := Lib.hid (blk_below Kw_6.out hb)
  have Kg_7 := Lib.hid (blk_below Kg_6.out hb)
  clear Ke_6 Kw_6 Kg_6
  clear hb
  go_wp2
  go_ret
  exact ⟨rfl, HB7.out⟩

set_option maxHeartbeats 1000000 in
set_option maxRecDepth 100000 in
theorem lawHoldOf_walk (k c m n : Int) (w : World) (hI : ∀ w', Below w.heap.size w w' → Calls Try.prog 22 #[acv k c m n] w' fun e w'' => e = .returned (acv (holdR ⟨k, c, m, n⟩).k (holdR ⟨k, c, m, n⟩).c (holdR ⟨k, c, m, n⟩).m (holdR ⟨k, c, m, n⟩).n) ∧ Below w'.heap.size w' w'') : Calls Try.prog 8 #[acv k c m n] w fun e w' => e = .returned (.bool true) ∧ Below w.heap.size w w' := by
  obtain ⟨r, hr⟩ : ∃ x, x = holdR ⟨k, c, m, n⟩ := ⟨_, rfl⟩
  rw [← hr] at hI
  have HRR := Lib.hid hr
  have HI := Lib.hid hI
  clear hr hI
  obtain ⟨w0, hw0⟩ : ∃ x, x = (w.alloc (.cells #[.int .i64 k, .int .i64 c, .int .i64 m, .int .i64 n] 27)) := ⟨_, rfl⟩
  have HB0 := Lib.hid (show Below w.heap.size w w0 by rw [hw0]; exact (Below.refl _ _).alloc (Nat.le_refl _) _)
  have Ke_0 := Lib.hid (show w0.heap[w.heap.size]? = some (.cells #[.int .i64 k, .int .i64 c, .int .i64 m, .int .i64 n] 27 (0, 0)) by rw [hw0]; exact heap_alloc_new w _)
  have SZ0 := Lib.hid (show w0.heap.size = w.heap.size + 1 by rw [hw0]; simp)
  have HW := Lib.hid hw0
  clear hw0
  go_enter Try.func8, Try.ntmps8
  have ce0 := (cells_of_heap Ke_0.out 0 (by simp)).1
  have ce1 := (cells_of_heap Ke_0.out 1 (by simp)).1
  have ce2 := (cells_of_heap Ke_0.out 2 (by simp)).1
  have ce3 := (cells_of_heap Ke_0.out 3 (by simp)).1
  go_wp2_with fail
  rw [← HW.out]
  refine (toAction_any k c m n _).mono ?_
  rintro e w1 ⟨rfl, hb⟩
  clear ce0 ce1 ce2 ce3
  have HB1 := Lib.hid (HB0.out.trans (hb.mono HB0.out.size))
  have HS1 := Lib.hid hb.size
  have Ke_1 := Lib.hid (blk_below Ke_0.out hb)
  clear Ke_0
  clear hb
  go_wp2_with fail
  refine (specHoldOf_any k c m n _).mono ?_
  rw [← HRR.out]
  rintro e w2 ⟨rfl, hb⟩
  have HB2 := Lib.hid (HB1.out.trans (hb.mono HB1.out.size))
  have HS2 := Lib.hid hb.size
  have Ke_2 := Lib.hid (blk_below Ke_1.out hb)
  clear Ke_1
  clear hb
  go_upto_region 2 with (fail)
  obtain ⟨w3, hw⟩ : ∃ x, x = w2.alloc (.cells #[.int .i64 r.k, .int .i64 r.c, .int .i64 r.m, .int .i64 r.n] 29) := ⟨_, rfl⟩
  have hb : Below w2.heap.size w2 w3 := by rw [hw]; exact below_alloc1 _ _
  have hk : w3.heap[w2.heap.size]? = some (.cells #[.int .i64 r.k, .int .i64 r.c, .int .i64 r.m, .int .i64 r.n] 29 (0, 0)) := by rw [hw]; exact heap_alloc_new _ _
  rw [← hw]
  have HB3 := Lib.hid (HB2.out.trans (hb.mono HB2.out.size))
  have HS3 := Lib.hid (show w2.heap.size < w3.heap.size from (Array.getElem?_eq_some_iff.mp hk).1)
  have Ke_3 := Lib.hid (blk_below Ke_2.out hb)
  clear Ke_2
  have Kw_3 := Lib.hid hk
  clear hb hk hw
  have ce0 := (cells_of_heap Ke_3.out 0 (by simp)).1
  have ce1 := (cells_of_heap Ke_3.out 1 (by simp)).1
  have ce2 := (cells_of_heap Ke_3.out 2 (by simp)).1
  have ce3 := (cells_of_heap Ke_3.out 3 (by simp)).1
  go_wp2_with fail
  refine (toAction_any k c m n _).mono ?_
  rintro e w4 ⟨rfl, hb⟩
  clear ce0 ce1 ce2 ce3
  have HB4 := Lib.hid (HB3.out.trans (hb.mono HB3.out.size))
  have HS4 := Lib.hid hb.size
  have Ke_4 := Lib.hid (blk_below Ke_3.out hb)
  have Kw_4 := Lib.hid (blk_below Kw_3.out hb)
  clear Ke_3 Kw_3
  clear hb
  go_wp2_with fail
  refine (HI.out _ HB4.out).mono ?_
  rintro e w5 ⟨rfl, hb⟩
  have HB5 := Lib.hid (HB4.out.trans (hb.mono HB4.out.size))
  have HS5 := Lib.hid hb.size
  have Ke_5 := Lib.hid (blk_below Ke_4.out hb)
  have Kw_5 := Lib.hid (blk_below Kw_4.out hb)
  clear Ke_4 Kw_4
  clear hb
  go_upto_region 3 with (fail)
  obtain ⟨w6, hw⟩ : ∃ x, x = w5.alloc (.cells #[.int .i64 r.k, .int .i64 r.c, .int .i64 r.m, .int .i64 r.n] 29) := ⟨_, rfl⟩
  have hb : Below w5.heap.size w5 w6 := by rw [hw]; exact below_alloc1 _ _
  have hk : w6.heap[w5.heap.size]? = some (.cells #[.int .i64 r.k, .int .i64 r.c, .int .i64 r.m, .int .i64 r.n] 29 (0, 0)) := by rw [hw]; exact heap_alloc_new _ _
  rw [← hw]
  have HB6 := Lib.hid (HB5.out.trans (hb.mono HB5.out.size))
  have HS6 := Lib.hid (show w5.heap.size < w6.heap.size from (Array.getElem?_eq_some_iff.mp hk).1)
  have Ke_6 := Lib.hid (blk_below Ke_5.out hb)
  have Kw_6 := Lib.hid (blk_below Kw_5.out hb)
  clear Ke_5 Kw_5
  have Kg_6 := Lib.hid hk
  clear hb hk hw
  have cg0 := (cells_of_heap Kg_6.out 0 (by simp)).1
  have cg1 := (cells_of_heap Kg_6.out 1 (by simp)).1
  have cg2 := (cells_of_heap Kg_6.out 2 (by simp)).1
  have cg3 := (cells_of_heap Kg_6.out 3 (by simp)).1
  have cw0 := (cells_of_heap Kw_6.out 0 (by simp)).1
  have cw1 := (cells_of_heap Kw_6.out 1 (by simp)).1
  have cw2 := (cells_of_heap Kw_6.out 2 (by simp)).1
  have cw3 := (cells_of_heap Kw_6.out 3 (by simp)).1
  go_wp2_with fail
  refine (eqAction_same r.k r.c r.m r.n _).mono ?_
  rintro e w7 ⟨rfl, hb⟩
  clear cg0 cg1 cg2 cg3 cw0 cw1 cw2 cw3
  have HB7 := Lib.hid (HB6.out.trans (hb.mono HB6.out.size))
  have HS7 := Lib.hid hb.size
  have Ke_7 := Lib.hid (blk_below Ke_6.out hb)
  have Kw_7 := Lib.hid (blk_below Kw_6.out hb)
  have Kg_7 := Lib.hid (blk_below Kg_6.out hb)
  clear Ke_6 Kw_6 Kg_6
  clear hb
  go_wp2
  go_ret
  exact ⟨rfl, HB7.out⟩

end Go.Proofs.Yticpfciebpdkdaa
