/- DERIVED. The exact laws of chapter 5: each, called with any arguments, returns true and changes nothing that was there, where the program's function answers as the plain function. -/
import Derived.Test.YticpfciebpdkdaaDoorAcSpec
import Derived.Test.YticpfciebpdkdaaDoorAcPa2
import Derived.Test.YticpfciebpdkdaaDoorIntsLaw
namespace Go.Proofs.YticpfciebpdkdaaDoor
open Go.RowKit

set_option maxHeartbeats 1000000 in
set_option maxRecDepth 100000 in
theorem lawFormatAction_walk (k c m n : Int) (w : World) (hI : ∀ w', Below w.heap.size w w' → Calls Tryd.prog 13 #[acv k c m n] w' fun e w'' => e = .returned (.string (acS k c m n)) ∧ Below w'.heap.size w' w'') : Calls Tryd.prog 5 #[acv k c m n] w fun e w' => e = .returned (.bool true) ∧ Below w.heap.size w w' := by
  obtain ⟨r, hr⟩ : ∃ x, x = acS k c m n := ⟨_, rfl⟩
  rw [← hr] at hI
  have HRR := Lib.hid hr
  have HI := Lib.hid hI
  clear hr hI
  have b0 : (!(r.toList == r.toList)) = false := by simp
  obtain ⟨w0, hw0⟩ : ∃ x, x = (w.alloc (.cells #[.int .i64 k, .int .i64 c, .int .i64 m, .int .i64 n] 27)) := ⟨_, rfl⟩
  have HB0 := Lib.hid (show Below w.heap.size w w0 by rw [hw0]; exact (Below.refl _ _).alloc (Nat.le_refl _) _)
  have Ke_0 := Lib.hid (show w0.heap[w.heap.size]? = some (.cells #[.int .i64 k, .int .i64 c, .int .i64 m, .int .i64 n] 27 (0, 0)) by rw [hw0]; exact heap_alloc_new w _)
  have SZ0 := Lib.hid (show w0.heap.size = w.heap.size + 1 by rw [hw0]; simp)
  have HW := Lib.hid hw0
  clear hw0
  go_enter Tryd.func5, Tryd.ntmps5
  have ce0 := (cells_of_heap Ke_0.out 0 (by simp)).1
  have ce1 := (cells_of_heap Ke_0.out 1 (by simp)).1
  have ce2 := (cells_of_heap Ke_0.out 2 (by simp)).1
  have ce3 := (cells_of_heap Ke_0.out 3 (by simp)).1
  go_wp2_with fail
  rw [← HW.out]
  refine (toAction_any k c m n _).mono ?_
  rintro e w1 ⟨rfl, hb⟩
  clear ce0 ce1 ce2 ce3
  have HB1 := Lib.hid (HB0.out.trans (hb.mono HB0.out.size))
  have HS1 := Lib.hid hb.size
  have Ke_1 := Lib.hid (blk_below Ke_0.out hb)
  clear Ke_0
  clear hb
  go_wp2_with fail
  refine (specFormatAction_any k c m n _).mono ?_
  rw [← HRR.out]
  rintro e w2 ⟨rfl, hb⟩
  have HB2 := Lib.hid (HB1.out.trans (hb.mono HB1.out.size))
  have HS2 := Lib.hid hb.size
  have Ke_2 := Lib.hid (blk_below Ke_1.out hb)
  clear Ke_1
  clear hb
  have ce0 := (cells_of_heap Ke_2.out 0 (by simp)).1
  have ce1 := (cells_of_heap Ke_2.out 1 (by simp)).1
  have ce2 := (cells_of_heap Ke_2.out 2 (by simp)).1
  have ce3 := (cells_of_heap Ke_2.out 3 (by simp)).1
  go_wp2_with fail
  refine (toAction_any k c m n _).mono ?_
  rintro e w3 ⟨rfl, hb⟩
  clear ce0 ce1 ce2 ce3
  have HB3 := Lib.hid (HB2.out.trans (hb.mono HB2.out.size))
  have HS3 := Lib.hid hb.size
  have Ke_3 := Lib.hid (blk_below Ke_2.out hb)
  clear Ke_2
  clear hb
  go_wp2_with fail
  refine (HI.out _ HB3.out).mono ?_
  rintro e w4 ⟨rfl, hb⟩
  have HB4 := Lib.hid (HB3.out.trans (hb.mono HB3.out.size))
  have HS4 := Lib.hid hb.size
  have Ke_4 := Lib.hid (blk_below Ke_3.out hb)
  clear Ke_3
  clear hb
  go_wp2
  go_ret
  exact ⟨rfl, HB4.out⟩

set_option maxHeartbeats 1000000 in
set_option maxRecDepth 100000 in
theorem lawParseAction_walk (s : ByteArray) (w : World) (hI : s.size ≤ 1048576 → ∀ w', Below w.heap.size w w' → Calls Tryd.prog 15 #[.string s] w' fun e w'' => e = .returned (.tuple #[acv (acP s).1.k (acP s).1.c (acP s).1.m (acP s).1.n, .bool (acP s).2]) ∧ Below w'.heap.size w' w'') : Calls Tryd.prog 6 #[.string s] w fun e w' => e = .returned (.bool true) ∧ Below w.heap.size w w' := by
  by_cases hl : s.size ≤ 1048576
  · obtain ⟨⟨r, b⟩, hr⟩ : ∃ x, x = acP s := ⟨_, rfl⟩
    have hl2 : ¬ (1048576 : Int) < (s.size : Int) := by omega
    have hI := hI hl
    rw [← hr] at hI
    have HRR := Lib.hid hr
    have HI := Lib.hid hI
    have HL := Lib.hid hl
    clear hr hI hl
    have HB0 := Lib.hid (Below.refl w.heap.size w)
    go_enter Tryd.func6, Tryd.ntmps6
    go_wp2_with fail
    refine (specParseAction_any s _ HL.out).mono ?_
    rw [← HRR.out]
    rintro e w1 ⟨rfl, hb⟩
    have HB1 := Lib.hid (HB0.out.trans (hb.mono HB0.out.size))
    have HS1 := Lib.hid hb.size
    clear hb
    go_upto_region 4 with (fail)
    obtain ⟨w2, hw⟩ : ∃ x, x = w1.alloc (.cells #[.int .i64 r.k, .int .i64 r.c, .int .i64 r.m, .int .i64 r.n] 29) := ⟨_, rfl⟩
    have hb : Below w1.heap.size w1 w2 := by rw [hw]; exact below_alloc1 _ _
    have hk : w2.heap[w1.heap.size]? = some (.cells #[.int .i64 r.k, .int .i64 r.c, .int .i64 r.m, .int .i64 r.n] 29 (0, 0)) := by rw [hw]; exact heap_alloc_new _ _
    rw [← hw]
    have HB2 := Lib.hid (HB1.out.trans (hb.mono HB1.out.size))
    have HS2 := Lib.hid (show w1.heap.size < w2.heap.size from (Array.getElem?_eq_some_iff.mp hk).1)
    have Kw_2 := Lib.hid hk
    clear hb hk hw
    go_wp2_with fail
    refine (HI.out _ HB2.out).mono ?_
    rintro e w3 ⟨rfl, hb⟩
    have HB3 := Lib.hid (HB2.out.trans (hb.mono HB2.out.size))
    have HS3 := Lib.hid hb.size
    have Kw_3 := Lib.hid (blk_below Kw_2.out hb)
    clear Kw_2
    clear hb
    go_upto_region 5 with (fail)
    obtain ⟨w4, hw⟩ : ∃ x, x = w3.alloc (.cells #[.int .i64 r.k, .int .i64 r.c, .int .i64 r.m, .int .i64 r.n] 29) := ⟨_, rfl⟩
    have hb : Below w3.heap.size w3 w4 := by rw [hw]; exact below_alloc1 _ _
    have hk : w4.heap[w3.heap.size]? = some (.cells #[.int .i64 r.k, .int .i64 r.c, .int .i64 r.m, .int .i64 r.n] 29 (0, 0)) := by rw [hw]; exact heap_alloc_new _ _
    rw [← hw]
    have HB4 := Lib.hid (HB3.out.trans (hb.mono HB3.out.size))
    have HS4 := Lib.hid (show w3.heap.size < w4.heap.size from (Array.getElem?_eq_some_iff.mp hk).1)
    have Kw_4 := Lib.hid (blk_below Kw_3.out hb)
    clear Kw_3
    have Kg_4 := Lib.hid hk
    clear hb hk hw
    have cg0 := (cells_of_heap Kg_4.out 0 (by simp)).1
    have cg1 := (cells_of_heap Kg_4.out 1 (by simp)).1
    have cg2 := (cells_of_heap Kg_4.out 2 (by simp)).1
    have cg3 := (cells_of_heap Kg_4.out 3 (by simp)).1
    have cw0 := (cells_of_heap Kw_4.out 0 (by simp)).1
    have cw1 := (cells_of_heap Kw_4.out 1 (by simp)).1
    have cw2 := (cells_of_heap Kw_4.out 2 (by simp)).1
    have cw3 := (cells_of_heap Kw_4.out 3 (by simp)).1
    go_wp2_with fail
    refine (eqAction_same r.k r.c r.m r.n _).mono ?_
    rintro e w5 ⟨rfl, hb⟩
    clear cg0 cg1 cg2 cg3 cw0 cw1 cw2 cw3
    have HB5 := Lib.hid (HB4.out.trans (hb.mono HB4.out.size))
    have HS5 := Lib.hid hb.size
    have Kw_5 := Lib.hid (blk_below Kw_4.out hb)
    have Kg_5 := Lib.hid (blk_below Kg_4.out hb)
    clear Kw_4 Kg_4
    clear hb
    go_wp2
    go_ret
    exact ⟨rfl, HB5.out⟩
  · have hl' : (1048576 : Int) < (s.size : Int) := by omega
    clear hl hI
    go_enter Tryd.func6, Tryd.ntmps6
    go_wp2
    go_ret
    exact ⟨rfl, Below.refl _ _⟩

end Go.Proofs.YticpfciebpdkdaaDoor
