/- DERIVED. The exact laws of chapter 4 on events: each, called with any events and any numbers, returns true and changes nothing that was there. -/
import Derived.Test.YtkhakelhfnoeoaaEvLawI
import Derived.Test.YtkhakelhfnoeoaaEvOpen
namespace Go.Proofs.Ytkhakelhfnoeoaa
open Go.RowKit

theorem marks_rd {w : World} {B n : Nat} {q : Int} {u : Value} {fp : List Nat} (h : OwF w B 41 3 u n (flatEv (marksEv q n)) fp) : RdN w u n (flatEv (marksEv q n)) := h.rd

set_option maxHeartbeats 1000000 in
set_option maxRecDepth 100000 in
theorem lawIsEvent_walk (t k : Int) (d : Bool) (w : World)  : Calls Try.prog 4 #[evv t k d] w fun e w' => e = .returned (.bool true) ∧ Below w.heap.size w w' := by
  obtain ⟨r, hr⟩ : ∃ x, x = okEv ⟨t, k, d⟩ := ⟨_, rfl⟩
  have HRR := Lib.hid hr
  clear hr
  obtain ⟨w0, hw0⟩ : ∃ x, x = (w.alloc (.cells #[.int .i64 t, .int .i64 k, .bool d] 39)) := ⟨_, rfl⟩
  have HB0 := Lib.hid (show Below w.heap.size w w0 by rw [hw0]; exact (Below.refl _ _).alloc (Nat.le_refl _) _)
  have Ke_0 := Lib.hid (show w0.heap[w.heap.size]? = some (.cells #[.int .i64 t, .int .i64 k, .bool d] 39 (0, 0)) by rw [hw0]; exact heap_alloc_new w _)
  have SZ0 := Lib.hid (show w0.heap.size = w.heap.size + 1 by rw [hw0]; simp)
  have HW := Lib.hid hw0
  clear hw0
  go_enter Try.func4, Try.ntmps4
  have ce0 := (cells_of_heap Ke_0.out 0 (by simp)).1
  have ce1 := (cells_of_heap Ke_0.out 1 (by simp)).1
  have ce2 := (cells_of_heap Ke_0.out 2 (by simp)).1
  go_wp2_with fail
  rw [← HW.out]
  refine (toEvent_any t k d _).mono ?_
  rintro e w1 ⟨rfl, hb⟩
  clear ce0 ce1 ce2
  have HB1 := Lib.hid (HB0.out.trans (hb.mono HB0.out.size))
  have HS1 := Lib.hid hb.size
  have Ke_1 := Lib.hid (blk_below Ke_0.out hb)
  clear Ke_0
  clear hb
  go_wp2_with fail
  refine (specIsEvent_any t k d _).mono ?_
  rw [← HRR.out]
  rintro e w2 ⟨rfl, hb⟩
  have HB2 := Lib.hid (HB1.out.trans (hb.mono HB1.out.size))
  have HS2 := Lib.hid hb.size
  have Ke_2 := Lib.hid (blk_below Ke_1.out hb)
  clear Ke_1
  clear hb
  have ce0 := (cells_of_heap Ke_2.out 0 (by simp)).1
  have ce1 := (cells_of_heap Ke_2.out 1 (by simp)).1
  have ce2 := (cells_of_heap Ke_2.out 2 (by simp)).1
  go_wp2_with fail
  refine (toEvent_any t k d _).mono ?_
  rintro e w3 ⟨rfl, hb⟩
  clear ce0 ce1 ce2
  have HB3 := Lib.hid (HB2.out.trans (hb.mono HB2.out.size))
  have HS3 := Lib.hid hb.size
  have Ke_3 := Lib.hid (blk_below Ke_2.out hb)
  clear Ke_2
  clear hb
  go_wp2_with fail
  refine (implIsEvent_any t k d _).mono ?_
  rw [← HRR.out]
  rintro e w4 ⟨rfl, hb⟩
  have HB4 := Lib.hid (HB3.out.trans (hb.mono HB3.out.size))
  have HS4 := Lib.hid hb.size
  have Ke_4 := Lib.hid (blk_below Ke_3.out hb)
  clear Ke_3
  clear hb
  go_wp2
  go_ret
  exact ⟨rfl, HB4.out⟩

set_option maxHeartbeats 1000000 in
set_option maxRecDepth 100000 in
theorem lawIsEvents_walk (a : Option Addr) (n cap : Nat) (l : List Ev) (w : World) (hn : l.length = n) (hm : n ≤ maxLen) (h : RdN w (.slice a n cap) l.length (flatEv l)) : Calls Try.prog 5 #[.slice a n cap] w fun e w' => e = .returned (.bool true) ∧ Below w.heap.size w w' := by
  subst hn
  have HR := Lib.hid h
  have HM := Lib.hid hm
  clear h hm
  by_cases hl : l.length ≤ 1048576
  · have hsz : (if (1048576 : Int) < (l.length : Int) then -1 else (1048576 : Int) - (l.length : Int)) = 1048576 - (l.length : Int) := if_neg (by omega)
    have hsz0 : ¬ (1048576 : Int) - (l.length : Int) < 0 := by omega
    have HSZ := Lib.hid hsz
    have HLM := Lib.hid (show l.length ≤ maxLen by unfold maxLen; omega)
    clear hsz
    obtain ⟨r, hR⟩ : ∃ x, okEvs l = x := ⟨_, rfl⟩
    have HRR := Lib.hid hR
    clear hR
    have HB0 := Lib.hid (Below.refl w.heap.size w)
    go_enter Try.func5, Try.ntmps5
    go_wp2_with fail
    refine (szEventS_any a l.length cap 1048576 _ (by omega) (by omega) HM.out).mono ?_
    rw [HSZ.out]
    rintro e v0 ⟨rfl, rfl⟩
    go_wp2_with fail
    refine (toEventS_law _ l _ hl (HR.out.below HB0.out)).mono ?_
    rintro e w1 ⟨a1, c1, f1, rfl, h1, hb⟩
    have HB1 := Lib.hid (HB0.out.trans (hb.mono HB0.out.size))
    have HS1 := Lib.hid hb.size
    have Rt := Lib.hid (h1.rng)
    have Ot_1 := Lib.hid h1
    clear hb h1
    go_wp2_with fail
    refine (specIsEvents_any _ l _ HLM.out Ot_1.out.rd).mono ?_
    rw [HRR.out]
    rintro e w2 ⟨rfl, hb⟩
    have HB2 := Lib.hid (HB1.out.trans (hb.mono HB1.out.size))
    have HS2 := Lib.hid hb.size
    have Ot_2 := Lib.hid (Ot_1.out.below hb)
    clear Ot_1
    clear hb
    go_wp2_with fail
    refine (toEventS_law _ l _ hl (HR.out.below HB2.out)).mono ?_
    rintro e w3 ⟨a2, c2, f2, rfl, h2, hb⟩
    have HB3 := Lib.hid (HB2.out.trans (hb.mono HB2.out.size))
    have HS3 := Lib.hid hb.size
    have Ot_3 := Lib.hid (Ot_2.out.below hb)
    clear Ot_2
    have Rx := Lib.hid (h2.rng)
    have Ox_3 := Lib.hid h2
    clear hb h2
    go_wp2_with fail
    refine (implIsEvents_any _ l _ HLM.out Ox_3.out.rd).mono ?_
    rw [HRR.out]
    rintro e w4 ⟨rfl, hb⟩
    have HB4 := Lib.hid (HB3.out.trans (hb.mono HB3.out.size))
    have HS4 := Lib.hid hb.size
    have Ot_4 := Lib.hid (Ot_3.out.below hb)
    have Ox_4 := Lib.hid (Ox_3.out.below hb)
    clear Ot_3 Ox_3
    clear hb
    go_wp2_with fail
    refine (toEventS_law _ l _ hl (HR.out.below HB4.out)).mono ?_
    rintro e w5 ⟨a3, c3, f3, rfl, h3, hb⟩
    have HB5 := Lib.hid (HB4.out.trans (hb.mono HB4.out.size))
    have HS5 := Lib.hid hb.size
    have Ot_5 := Lib.hid (Ot_4.out.below hb)
    have Ox_5 := Lib.hid (Ox_4.out.below hb)
    clear Ot_4 Ox_4
    have Ry := Lib.hid (h3.rng)
    have Oy_5 := Lib.hid h3
    clear hb h3
    go_wp2_with fail
    refine (eqEventS_same _ _ l _ (by omega) Ox_5.out.rd Oy_5.out.rd).mono ?_
    rintro e w6 ⟨rfl, hb⟩
    have HB6 := Lib.hid (HB5.out.trans (hb.mono HB5.out.size))
    have HS6 := Lib.hid hb.size
    have Ot_6 := Lib.hid (Ot_5.out.below hb)
    have Ox_6 := Lib.hid (Ox_5.out.below hb)
    have Oy_6 := Lib.hid (Oy_5.out.below hb)
    clear Ot_5 Ox_5 Oy_5
    clear hb
    go_wp2
    go_ret
    exact ⟨rfl, HB6.out⟩
  · have hsz : (if (1048576 : Int) < (l.length : Int) then -1 else (1048576 : Int) - (l.length : Int)) = -1 := if_pos (by omega)
    have HSZ := Lib.hid hsz
    clear hsz hl
    have HB0 := Lib.hid (Below.refl w.heap.size w)
    go_enter Try.func5, Try.ntmps5
    go_wp2_with fail
    refine (szEventS_any a l.length cap 1048576 _ (by omega) (by omega) HM.out).mono ?_
    rw [HSZ.out]
    rintro e v0 ⟨rfl, rfl⟩
    go_wp2
    go_ret
    exact ⟨rfl, HB0.out⟩

set_option maxHeartbeats 1000000 in
set_option maxRecDepth 100000 in
theorem lawHeldAfter_walk (a : Option Addr) (n cap : Nat) (l : List Ev) (w : World) (hn : l.length = n) (hm : n ≤ maxLen) (h : RdN w (.slice a n cap) l.length (flatEv l)) : Calls Try.prog 6 #[.slice a n cap] w fun e w' => e = .returned (.bool true) ∧ Below w.heap.size w w' := by
  subst hn
  have HR := Lib.hid h
  have HM := Lib.hid hm
  clear h hm
  by_cases hl : l.length ≤ 1048576
  · have hsz : (if (1048576 : Int) < (l.length : Int) then -1 else (1048576 : Int) - (l.length : Int)) = 1048576 - (l.length : Int) := if_neg (by omega)
    have hsz0 : ¬ (1048576 : Int) - (l.length : Int) < 0 := by omega
    have HSZ := Lib.hid hsz
    have HLM := Lib.hid (show l.length ≤ maxLen by unfold maxLen; omega)
    clear hsz
    obtain ⟨r, hR⟩ : ∃ x, heldV l = x := ⟨_, rfl⟩
    have HRR := Lib.hid hR
    clear hR
    have HB0 := Lib.hid (Below.refl w.heap.size w)
    go_enter Try.func6, Try.ntmps6
    go_wp2_with fail
    refine (szEventS_any a l.length cap 1048576 _ (by omega) (by omega) HM.out).mono ?_
    rw [HSZ.out]
    rintro e v0 ⟨rfl, rfl⟩
    go_wp2_with fail
    refine (toEventS_law _ l _ hl (HR.out.below HB0.out)).mono ?_
    rintro e w1 ⟨a1, c1, f1, rfl, h1, hb⟩
    have HB1 := Lib.hid (HB0.out.trans (hb.mono HB0.out.size))
    have HS1 := Lib.hid hb.size
    have Rt := Lib.hid (h1.rng)
    have Ot_1 := Lib.hid h1
    clear hb h1
    go_wp2_with fail
    refine (specHeldAfter_any _ l _ HLM.out Ot_1.out.rd).mono ?_
    rw [HRR.out]
    rintro e w2 ⟨rfl, hb⟩
    have HB2 := Lib.hid (HB1.out.trans (hb.mono HB1.out.size))
    have HS2 := Lib.hid hb.size
    have Ot_2 := Lib.hid (Ot_1.out.below hb)
    clear Ot_1
    clear hb
    go_wp2_with fail
    refine (toEventS_law _ l _ hl (HR.out.below HB2.out)).mono ?_
    rintro e w3 ⟨a2, c2, f2, rfl, h2, hb⟩
    have HB3 := Lib.hid (HB2.out.trans (hb.mono HB2.out.size))
    have HS3 := Lib.hid hb.size
    have Ot_3 := Lib.hid (Ot_2.out.below hb)
    clear Ot_2
    have Rx := Lib.hid (h2.rng)
    have Ox_3 := Lib.hid h2
    clear hb h2
    go_wp2_with fail
    refine (implHeldAfter_any _ l _ HLM.out Ox_3.out.rd).mono ?_
    rw [HRR.out]
    rintro e w4 ⟨rfl, hb⟩
    have HB4 := Lib.hid (HB3.out.trans (hb.mono HB3.out.size))
    have HS4 := Lib.hid hb.size
    have Ot_4 := Lib.hid (Ot_3.out.below hb)
    have Ox_4 := Lib.hid (Ox_3.out.below hb)
    clear Ot_3 Ox_3
    clear hb
    go_wp2_with fail
    refine (toEventS_law _ l _ hl (HR.out.below HB4.out)).mono ?_
    rintro e w5 ⟨a3, c3, f3, rfl, h3, hb⟩
    have HB5 := Lib.hid (HB4.out.trans (hb.mono HB4.out.size))
    have HS5 := Lib.hid hb.size
    have Ot_5 := Lib.hid (Ot_4.out.below hb)
    have Ox_5 := Lib.hid (Ox_4.out.below hb)
    clear Ot_4 Ox_4
    have Ry := Lib.hid (h3.rng)
    have Oy_5 := Lib.hid h3
    clear hb h3
    go_wp2_with fail
    refine (eqEventS_same _ _ l _ (by omega) Ox_5.out.rd Oy_5.out.rd).mono ?_
    rintro e w6 ⟨rfl, hb⟩
    have HB6 := Lib.hid (HB5.out.trans (hb.mono HB5.out.size))
    have HS6 := Lib.hid hb.size
    have Ot_6 := Lib.hid (Ot_5.out.below hb)
    have Ox_6 := Lib.hid (Ox_5.out.below hb)
    have Oy_6 := Lib.hid (Oy_5.out.below hb)
    clear Ot_5 Ox_5 Oy_5
    clear hb
    go_wp2
    go_ret
    exact ⟨rfl, HB6.out⟩
  · have hsz : (if (1048576 : Int) < (l.length : Int) then -1 else (1048576 : Int) - (l.length : Int)) = -1 := if_pos (by omega)
    have HSZ := Lib.hid hsz
    clear hsz hl
    have HB0 := Lib.hid (Below.refl w.heap.size w)
    go_enter Try.func6, Try.ntmps6
    go_wp2_with fail
    refine (szEventS_any a l.length cap 1048576 _ (by omega) (by omega) HM.out).mono ?_
    rw [HSZ.out]
    rintro e v0 ⟨rfl, rfl⟩
    go_wp2
    go_ret
    exact ⟨rfl, HB0.out⟩

set_option maxHeartbeats 1000000 in
set_option maxRecDepth 100000 in
theorem lawMasksOf_walk (a : Option Addr) (n cap : Nat) (l : List Ev) (m : Int) (w : World) (hn : l.length = n) (hm : n ≤ maxLen) (h : RdN w (.slice a n cap) l.length (flatEv l)) : Calls Try.prog 8 #[.slice a n cap, .int .i64 m] w fun e w' => e = .returned (.bool true) ∧ Below w.heap.size w w' := by
  subst hn
  have HR := Lib.hid h
  have HM := Lib.hid hm
  clear h hm
  by_cases hl : l.length ≤ 1048576
  · have hsz : (if (1048576 : Int) < (l.length : Int) then -1 else (1048576 : Int) - (l.length : Int)) = 1048576 - (l.length : Int) := if_neg (by omega)
    have hsz0 : ¬ (1048576 : Int) - (l.length : Int) < 0 := by omega
    have HSZ := Lib.hid hsz
    have HLM := Lib.hid (show l.length ≤ maxLen by unfold maxLen; omega)
    clear hsz
    obtain ⟨⟨R, b⟩, hR⟩ : ∃ x, masksR l m = x := ⟨_, rfl⟩
    have hR' := masksR_len l m
    rw [hR] at hR'
    replace hR' : R.length ≤ 1048576 := hR'
    have hR0 := hR'
    have HRR := Lib.hid hR
    clear hR
    have HB0 := Lib.hid (Below.refl w.heap.size w)
    go_enter Try.func8, Try.ntmps8
    go_wp2_with fail
    refine (szEventS_any a l.length cap 1048576 _ (by omega) (by omega) HM.out).mono ?_
    rw [HSZ.out]
    rintro e v0 ⟨rfl, rfl⟩
    go_wp2_with fail
    refine (toEventS_law _ l _ hl (HR.out.below HB0.out)).mono ?_
    rintro e w1 ⟨a1, c1, f1, rfl, h1, hb⟩
    have HB1 := Lib.hid (HB0.out.trans (hb.mono HB0.out.size))
    have HS1 := Lib.hid hb.size
    have Rt := Lib.hid (h1.rng)
    have Ot_1 := Lib.hid h1
    clear hb h1
    go_wp2_with fail
    refine (specMasksOf_law _ l m R b _ HRR.out hl Ot_1.out.rd).mono ?_
    rintro e w2 ⟨a2, c2, f2, rfl, h2, hb⟩
    have HB2 := Lib.hid (HB1.out.trans (hb.mono HB1.out.size))
    have HS2 := Lib.hid hb.size
    have Ot_2 := Lib.hid (Ot_1.out.below hb)
    clear Ot_1
    have Rw := Lib.hid (h2.rng)
    have Ow_2 := Lib.hid h2
    clear hb h2
    go_wp2_with fail
    refine (toEventS_law _ l _ hl (HR.out.below HB2.out)).mono ?_
    rintro e w3 ⟨a3, c3, f3, rfl, h3, hb⟩
    have HB3 := Lib.hid (HB2.out.trans (hb.mono HB2.out.size))
    have HS3 := Lib.hid hb.size
    have Ot_3 := Lib.hid (Ot_2.out.below hb)
    have Ow_3 := Lib.hid (Ow_2.out.below hb)
    clear Ot_2 Ow_2
    have Rx := Lib.hid (h3.rng)
    have Ox_3 := Lib.hid h3
    clear hb h3
    go_wp2_with fail
    refine (implMasksOf_law _ l m R b _ HRR.out hl Ox_3.out.rd).mono ?_
    rintro e w4 ⟨a4, c4, f4, rfl, h4, hb⟩
    have HB4 := Lib.hid (HB3.out.trans (hb.mono HB3.out.size))
    have HS4 := Lib.hid hb.size
    have Ot_4 := Lib.hid (Ot_3.out.below hb)
    have Ow_4 := Lib.hid (Ow_3.out.below hb)
    have Ox_4 := Lib.hid (Ox_3.out.below hb)
    clear Ot_3 Ow_3 Ox_3
    have Rg := Lib.hid (h4.rng)
    have Og_4 := Lib.hid h4
    clear hb h4
    go_wp2_with fail
    refine (below_post (eqIntS_same _ _ R _ (by omega) (owC_rd Og_4.out) (owC_rd Ow_4.out))).mono ?_
    rintro e w5 ⟨rfl, hb⟩
    have HB5 := Lib.hid (HB4.out.trans (hb.mono HB4.out.size))
    have HS5 := Lib.hid hb.size
    have Ot_5 := Lib.hid (Ot_4.out.below hb)
    have Ow_5 := Lib.hid (Ow_4.out.below hb)
    have Ox_5 := Lib.hid (Ox_4.out.below hb)
    have Og_5 := Lib.hid (Og_4.out.below hb)
    clear Ot_4 Ow_4 Ox_4 Og_4
    clear hb
    go_wp2_with fail
    refine (toEventS_law _ l _ hl (HR.out.below HB5.out)).mono ?_
    rintro e w6 ⟨a5, c5, f5, rfl, h5, hb⟩
    have HB6 := Lib.hid (HB5.out.trans (hb.mono HB5.out.size))
    have HS6 := Lib.hid hb.size
    have Ot_6 := Lib.hid (Ot_5.out.below hb)
    have Ow_6 := Lib.hid (Ow_5.out.below hb)
    have Ox_6 := Lib.hid (Ox_5.out.below hb)
    have Og_6 := Lib.hid (Og_5.out.below hb)
    clear Ot_5 Ow_5 Ox_5 Og_5
    have Ry := Lib.hid (h5.rng)
    have Oy_6 := Lib.hid h5
    clear hb h5
    go_wp2_with fail
    refine (eqEventS_same _ _ l _ (by omega) Ox_6.out.rd Oy_6.out.rd).mono ?_
    rintro e w7 ⟨rfl, hb⟩
    have HB7 := Lib.hid (HB6.out.trans (hb.mono HB6.out.size))
    have HS7 := Lib.hid hb.size
    have Ot_7 := Lib.hid (Ot_6.out.below hb)
    have Ow_7 := Lib.hid (Ow_6.out.below hb)
    have Ox_7 := Lib.hid (Ox_6.out.below hb)
    have Og_7 := Lib.hid (Og_6.out.below hb)
    have Oy_7 := Lib.hid (Oy_6.out.below hb)
    clear Ot_6 Ow_6 Ox_6 Og_6 Oy_6
    clear hb
    go_wp2_with fail
    refine (markEventS_law _ _ l _ 1 _ (by omega) (by omega) (by omega) Ox_7.out).mono ?_
    rintro e w8 ⟨rfl, ho, ht⟩
    have HB8 := Lib.hid (HB7.out.trans (ht.below (fun b hb => by have := Rx.out b hb; have := HB2.out.size; omega) HB7.out.size))
    have HS8 := Lib.hid ht.size
    have Ot_8 := Lib.hid (Ot_7.out.turn ht (fun b hb hb' => by have := Rx.out b hb'; have := Rt.out b hb; have := HS2.out; omega))
    have Ow_8 := Lib.hid (Ow_7.out.turn ht (fun b hb hb' => by have := Rx.out b hb'; have := Rw.out b hb; omega))
    have Og_8 := Lib.hid (Og_7.out.turn ht (fun b hb hb' => by have := Rx.out b hb'; have := Rg.out b hb; omega))
    have Oy_8 := Lib.hid (Oy_7.out.turn ht (fun b hb hb' => by have := Rx.out b hb'; have := Ry.out b hb; have := HS4.out; have := HS5.out; omega))
    have Ox_8 := Lib.hid ho
    clear ho ht Ot_7 Ow_7 Ox_7 Og_7 Oy_7
    go_wp2_with fail
    refine (below_post (eqIntS_same _ _ R _ (by omega) (owC_rd Og_8.out) (owC_rd Ow_8.out))).mono ?_
    rintro e w9 ⟨rfl, hb⟩
    have HB9 := Lib.hid (HB8.out.trans (hb.mono HB8.out.size))
    have HS9 := Lib.hid hb.size
    have Ot_9 := Lib.hid (Ot_8.out.below hb)
    have Ow_9 := Lib.hid (Ow_8.out.below hb)
    have Ox_9 := Lib.hid (Ox_8.out.below hb)
    have Og_9 := Lib.hid (Og_8.out.below hb)
    have Oy_9 := Lib.hid (Oy_8.out.below hb)
    clear Ot_8 Ow_8 Ox_8 Og_8 Oy_8
    clear hb
    go_wp2_with fail
    refine (markIntS_own _ _ R _ 1 _ (by omega) (by omega) (by omega) Og_9.out).mono ?_
    rintro e w10 ⟨rfl, ho, ht⟩
    have HB10 := Lib.hid (HB9.out.trans (ht.below (fun b hb => by have := Rg.out b hb; have := HB3.out.size; omega) HB9.out.size))
    have HS10 := Lib.hid ht.size
    have Ot_10 := Lib.hid (Ot_9.out.turn ht (fun b hb hb' => by have := Rg.out b hb'; have := Rt.out b hb; have := HS2.out; have := HS3.out; omega))
    have Ow_10 := Lib.hid (Ow_9.out.turn ht (fun b hb hb' => by have := Rg.out b hb'; have := Rw.out b hb; have := HS3.out; omega))
    have Ox_10 := Lib.hid (Ox_9.out.turn ht (fun b hb hb' => by have := Rg.out b hb'; have := Rx.out b hb; omega))
    have Oy_10 := Lib.hid (Oy_9.out.turn ht (fun b hb hb' => by have := Rg.out b hb'; have := Ry.out b hb; have := HS5.out; omega))
    have Og_10 := Lib.hid ho
    clear ho ht Ot_9 Ow_9 Ox_9 Og_9 Oy_9
    have hR := hR0
    go_wp2_with fail
    refine (heldIntS_any _ R.length 1 _ hR (by omega) (by omega) (owC_marks Og_10.out)).mono ?_
    rintro e v0 ⟨rfl, rfl⟩
    go_wp2_with fail
    refine (toEventS_law _ l _ hl (HR.out.below HB10.out)).mono ?_
    rintro e w11 ⟨a6, c6, f6, rfl, h6, hb⟩
    have HB11 := Lib.hid (HB10.out.trans (hb.mono HB10.out.size))
    have HS11 := Lib.hid hb.size
    have Ot_11 := Lib.hid (Ot_10.out.below hb)
    have Ow_11 := Lib.hid (Ow_10.out.below hb)
    have Ox_11 := Lib.hid (Ox_10.out.below hb)
    have Og_11 := Lib.hid (Og_10.out.below hb)
    have Oy_11 := Lib.hid (Oy_10.out.below hb)
    clear Ot_10 Ow_10 Ox_10 Og_10 Oy_10
    have Ru := Lib.hid (h6.rng)
    have Ou_11 := Lib.hid h6
    clear hb h6
    go_wp2_with fail
    refine (implMasksOf_law _ l m R b _ HRR.out hl Ou_11.out.rd).mono ?_
    rintro e w12 ⟨a7, c7, f7, rfl, h7, hb⟩
    have HB12 := Lib.hid (HB11.out.trans (hb.mono HB11.out.size))
    have HS12 := Lib.hid hb.size
    have Ot_12 := Lib.hid (Ot_11.out.below hb)
    have Ow_12 := Lib.hid (Ow_11.out.below hb)
    have Ox_12 := Lib.hid (Ox_11.out.below hb)
    have Og_12 := Lib.hid (Og_11.out.below hb)
    have Oy_12 := Lib.hid (Oy_11.out.below hb)
    have Ou_12 := Lib.hid (Ou_11.out.below hb)
    clear Ot_11 Ow_11 Ox_11 Og_11 Oy_11 Ou_11
    have Rh := Lib.hid (h7.rng)
    have Oh_12 := Lib.hid h7
    clear hb h7
    go_wp2_with fail
    refine (below_post (eqIntS_same _ _ R _ (by omega) (owC_rd Oh_12.out) (owC_rd Ow_12.out))).mono ?_
    rintro e w13 ⟨rfl, hb⟩
    have HB13 := Lib.hid (HB12.out.trans (hb.mono HB12.out.size))
    have HS13 := Lib.hid hb.size
    have Ot_13 := Lib.hid (Ot_12.out.below hb)
    have Ow_13 := Lib.hid (Ow_12.out.below hb)
    have Ox_13 := Lib.hid (Ox_12.out.below hb)
    have Og_13 := Lib.hid (Og_12.out.below hb)
    have Oy_13 := Lib.hid (Oy_12.out.below hb)
    have Ou_13 := Lib.hid (Ou_12.out.below hb)
    have Oh_13 := Lib.hid (Oh_12.out.below hb)
    clear Ot_12 Ow_12 Ox_12 Og_12 Oy_12 Ou_12 Oh_12
    clear hb
    go_wp2_with fail
    refine (heldIntS_any _ R.length 1 _ hR (by omega) (by omega) (owC_marks Og_13.out)).mono ?_
    rintro e v0 ⟨rfl, rfl⟩
    go_wp2
    go_ret
    exact ⟨rfl, HB13.out⟩
  · have hsz : (if (1048576 : Int) < (l.length : Int) then -1 else (1048576 : Int) - (l.length : Int)) = -1 := if_pos (by omega)
    have HSZ := Lib.hid hsz
    clear hsz hl
    have HB0 := Lib.hid (Below.refl w.heap.size w)
    go_enter Try.func8, Try.ntmps8
    go_wp2_with fail
    refine (szEventS_any a l.length cap 1048576 _ (by omega) (by omega) HM.out).mono ?_
    rw [HSZ.out]
    rintro e v0 ⟨rfl, rfl⟩
    go_wp2
    go_ret
    exact ⟨rfl, HB0.out⟩

set_option maxHeartbeats 1000000 in
set_option maxRecDepth 100000 in
theorem lawReleaseAll_walk (a : Option Addr) (n cap : Nat) (l : List Ev) (time : Int) (w : World) (hn : l.length = n) (hm : n ≤ maxLen) (h : RdN w (.slice a n cap) l.length (flatEv l)) : Calls Try.prog 9 #[.slice a n cap, .int .i64 time] w fun e w' => e = .returned (.bool true) ∧ Below w.heap.size w w' := by
  subst hn
  have HR := Lib.hid h
  have HM := Lib.hid hm
  clear h hm
  by_cases hl : l.length ≤ 1048576
  · have hsz : (if (1048576 : Int) < (l.length : Int) then -1 else (1048576 : Int) - (l.length : Int)) = 1048576 - (l.length : Int) := if_neg (by omega)
    have hsz0 : ¬ (1048576 : Int) - (l.length : Int) < 0 := by omega
    have HSZ := Lib.hid hsz
    have HLM := Lib.hid (show l.length ≤ maxLen by unfold maxLen; omega)
    clear hsz
    obtain ⟨⟨R, b⟩, hR⟩ : ∃ x, relR l time = x := ⟨_, rfl⟩
    have hR' := relR_len l time
    rw [hR] at hR'
    replace hR' : R.length ≤ 1048576 := hR'
    have hR0 := hR'
    have HRR := Lib.hid hR
    clear hR
    have HB0 := Lib.hid (Below.refl w.heap.size w)
    go_enter Try.func9, Try.ntmps9
    go_wp2_with fail
    refine (szEventS_any a l.length cap 1048576 _ (by omega) (by omega) HM.out).mono ?_
    rw [HSZ.out]
    rintro e v0 ⟨rfl, rfl⟩
    go_wp2_with fail
    refine (toEventS_law _ l _ hl (HR.out.below HB0.out)).mono ?_
    rintro e w1 ⟨a1, c1, f1, rfl, h1, hb⟩
    have HB1 := Lib.hid (HB0.out.trans (hb.mono HB0.out.size))
    have HS1 := Lib.hid hb.size
    have Rt := Lib.hid (h1.rng)
    have Ot_1 := Lib.hid h1
    clear hb h1
    go_wp2_with fail
    refine (specReleaseAll_law _ l time R b _ HRR.out hl Ot_1.out.rd Ot_1.out.nil).mono ?_
    rintro e w2 ⟨a2, c2, f2, rfl, h2, hb⟩
    have HB2 := Lib.hid (HB1.out.trans (hb.mono HB1.out.size))
    have HS2 := Lib.hid hb.size
    have Ot_2 := Lib.hid (Ot_1.out.below hb)
    clear Ot_1
    have Rw := Lib.hid (h2.rng)
    have Ow_2 := Lib.hid h2
    clear hb h2
    go_wp2_with fail
    refine (toEventS_law _ l _ hl (HR.out.below HB2.out)).mono ?_
    rintro e w3 ⟨a3, c3, f3, rfl, h3, hb⟩
    have HB3 := Lib.hid (HB2.out.trans (hb.mono HB2.out.size))
    have HS3 := Lib.hid hb.size
    have Ot_3 := Lib.hid (Ot_2.out.below hb)
    have Ow_3 := Lib.hid (Ow_2.out.below hb)
    clear Ot_2 Ow_2
    have Rx := Lib.hid (h3.rng)
    have Ox_3 := Lib.hid h3
    clear hb h3
    go_wp2_with fail
    refine (implReleaseAll_law _ l time R b _ HRR.out hl Ox_3.out.rd Ox_3.out.nil).mono ?_
    rintro e w4 ⟨a4, c4, f4, rfl, h4, hb⟩
    have HB4 := Lib.hid (HB3.out.trans (hb.mono HB3.out.size))
    have HS4 := Lib.hid hb.size
    have Ot_4 := Lib.hid (Ot_3.out.below hb)
    have Ow_4 := Lib.hid (Ow_3.out.below hb)
    have Ox_4 := Lib.hid (Ox_3.out.below hb)
    clear Ot_3 Ow_3 Ox_3
    have Rg := Lib.hid (h4.rng)
    have Og_4 := Lib.hid h4
    clear hb h4
    go_wp2_with fail
    refine (eqEventS_same _ _ R _ (by omega) Og_4.out.rd Ow_4.out.rd).mono ?_
    rintro e w5 ⟨rfl, hb⟩
    have HB5 := Lib.hid (HB4.out.trans (hb.mono HB4.out.size))
    have HS5 := Lib.hid hb.size
    have Ot_5 := Lib.hid (Ot_4.out.below hb)
    have Ow_5 := Lib.hid (Ow_4.out.below hb)
    have Ox_5 := Lib.hid (Ox_4.out.below hb)
    have Og_5 := Lib.hid (Og_4.out.below hb)
    clear Ot_4 Ow_4 Ox_4 Og_4
    clear hb
    go_wp2_with fail
    refine (toEventS_law _ l _ hl (HR.out.below HB5.out)).mono ?_
    rintro e w6 ⟨a5, c5, f5, rfl, h5, hb⟩
    have HB6 := Lib.hid (HB5.out.trans (hb.mono HB5.out.size))
    have HS6 := Lib.hid hb.size
    have Ot_6 := Lib.hid (Ot_5.out.below hb)
    have Ow_6 := Lib.hid (Ow_5.out.below hb)
    have Ox_6 := Lib.hid (Ox_5.out.below hb)
    have Og_6 := Lib.hid (Og_5.out.below hb)
    clear Ot_5 Ow_5 Ox_5 Og_5
    have Ry := Lib.hid (h5.rng)
    have Oy_6 := Lib.hid h5
    clear hb h5
    go_wp2_with fail
    refine (eqEventS_same _ _ l _ (by omega) Ox_6.out.rd Oy_6.out.rd).mono ?_
    rintro e w7 ⟨rfl, hb⟩
    have HB7 := Lib.hid (HB6.out.trans (hb.mono HB6.out.size))
    have HS7 := Lib.hid hb.size
    have Ot_7 := Lib.hid (Ot_6.out.below hb)
    have Ow_7 := Lib.hid (Ow_6.out.below hb)
    have Ox_7 := Lib.hid (Ox_6.out.below hb)
    have Og_7 := Lib.hid (Og_6.out.below hb)
    have Oy_7 := Lib.hid (Oy_6.out.below hb)
    clear Ot_6 Ow_6 Ox_6 Og_6 Oy_6
    clear hb
    go_wp2_with fail
    refine (markEventS_law _ _ l _ 1 _ (by omega) (by omega) (by omega) Ox_7.out).mono ?_
    rintro e w8 ⟨rfl, ho, ht⟩
    have HB8 := Lib.hid (HB7.out.trans (ht.below (fun b hb => by have := Rx.out b hb; have := HB2.out.size; omega) HB7.out.size))
    have HS8 := Lib.hid ht.size
    have Ot_8 := Lib.hid (Ot_7.out.turn ht (fun b hb hb' => by have := Rx.out b hb'; have := Rt.out b hb; have := HS2.out; omega))
    have Ow_8 := Lib.hid (Ow_7.out.turn ht (fun b hb hb' => by have := Rx.out b hb'; have := Rw.out b hb; omega))
    have Og_8 := Lib.hid (Og_7.out.turn ht (fun b hb hb' => by have := Rx.out b hb'; have := Rg.out b hb; omega))
    have Oy_8 := Lib.hid (Oy_7.out.turn ht (fun b hb hb' => by have := Rx.out b hb'; have := Ry.out b hb; have := HS4.out; have := HS5.out; omega))
    have Ox_8 := Lib.hid ho
    clear ho ht Ot_7 Ow_7 Ox_7 Og_7 Oy_7
    go_wp2_with fail
    refine (eqEventS_same _ _ R _ (by omega) Og_8.out.rd Ow_8.out.rd).mono ?_
    rintro e w9 ⟨rfl, hb⟩
    have HB9 := Lib.hid (HB8.out.trans (hb.mono HB8.out.size))
    have HS9 := Lib.hid hb.size
    have Ot_9 := Lib.hid (Ot_8.out.below hb)
    have Ow_9 := Lib.hid (Ow_8.out.below hb)
    have Ox_9 := Lib.hid (Ox_8.out.below hb)
    have Og_9 := Lib.hid (Og_8.out.below hb)
    have Oy_9 := Lib.hid (Oy_8.out.below hb)
    clear Ot_8 Ow_8 Ox_8 Og_8 Oy_8
    clear hb
    go_wp2_with fail
    refine (markEventS_law _ _ R _ 1 _ (by omega) (by omega) (by omega) Og_9.out).mono ?_
    rintro e w10 ⟨rfl, ho, ht⟩
    have HB10 := Lib.hid (HB9.out.trans (ht.below (fun b hb => by have := Rg.out b hb; have := HB3.out.size; omega) HB9.out.size))
    have HS10 := Lib.hid ht.size
    have Ot_10 := Lib.hid (Ot_9.out.turn ht (fun b hb hb' => by have := Rg.out b hb'; have := Rt.out b hb; have := HS2.out; have := HS3.out; omega))
    have Ow_10 := Lib.hid (Ow_9.out.turn ht (fun b hb hb' => by have := Rg.out b hb'; have := Rw.out b hb; have := HS3.out; omega))
    have Ox_10 := Lib.hid (Ox_9.out.turn ht (fun b hb hb' => by have := Rg.out b hb'; have := Rx.out b hb; omega))
    have Oy_10 := Lib.hid (Oy_9.out.turn ht (fun b hb hb' => by have := Rg.out b hb'; have := Ry.out b hb; have := HS5.out; omega))
    have Og_10 := Lib.hid ho
    clear ho ht Ot_9 Ow_9 Ox_9 Og_9 Oy_9
    have hR := hR0
    go_wp2_with fail
    refine (heldEventS_any _ R.length 1 _ hR (by omega) (by omega) (marks_rd Og_10.out)).mono ?_
    rintro e v0 ⟨rfl, rfl⟩
    go_wp2_with fail
    refine (toEventS_law _ l _ hl (HR.out.below HB10.out)).mono ?_
    rintro e w11 ⟨a6, c6, f6, rfl, h6, hb⟩
    have HB11 := Lib.hid (HB10.out.trans (hb.mono HB10.out.size))
    have HS11 := Lib.hid hb.size
    have Ot_11 := Lib.hid (Ot_10.out.below hb)
    have Ow_11 := Lib.hid (Ow_10.out.below hb)
    have Ox_11 := Lib.hid (Ox_10.out.below hb)
    have Og_11 := Lib.hid (Og_10.out.below hb)
    have Oy_11 := Lib.hid (Oy_10.out.below hb)
    clear Ot_10 Ow_10 Ox_10 Og_10 Oy_10
    have Ru := Lib.hid (h6.rng)
    have Ou_11 := Lib.hid h6
    clear hb h6
    go_wp2_with fail
    refine (implReleaseAll_law _ l time R b _ HRR.out hl Ou_11.out.rd Ou_11.out.nil).mono ?_
    rintro e w12 ⟨a7, c7, f7, rfl, h7, hb⟩
    have HB12 := Lib.hid (HB11.out.trans (hb.mono HB11.out.size))
    have HS12 := Lib.hid hb.size
    have Ot_12 := Lib.hid (Ot_11.out.below hb)
    have Ow_12 := Lib.hid (Ow_11.out.below hb)
    have Ox_12 := Lib.hid (Ox_11.out.below hb)
    have Og_12 := Lib.hid (Og_11.out.below hb)
    have Oy_12 := Lib.hid (Oy_11.out.below hb)
    have Ou_12 := Lib.hid (Ou_11.out.below hb)
    clear Ot_11 Ow_11 Ox_11 Og_11 Oy_11 Ou_11
    have Rh := Lib.hid (h7.rng)
    have Oh_12 := Lib.hid h7
    clear hb h7
    go_wp2_with fail
    refine (eqEventS_same _ _ R _ (by omega) Oh_12.out.rd Ow_12.out.rd).mono ?_
    rintro e w13 ⟨rfl, hb⟩
    have HB13 := Lib.hid (HB12.out.trans (hb.mono HB12.out.size))
    have HS13 := Lib.hid hb.size
    have Ot_13 := Lib.hid (Ot_12.out.below hb)
    have Ow_13 := Lib.hid (Ow_12.out.below hb)
    have Ox_13 := Lib.hid (Ox_12.out.below hb)
    have Og_13 := Lib.hid (Og_12.out.below hb)
    have Oy_13 := Lib.hid (Oy_12.out.below hb)
    have Ou_13 := Lib.hid (Ou_12.out.below hb)
    have Oh_13 := Lib.hid (Oh_12.out.below hb)
    clear Ot_12 Ow_12 Ox_12 Og_12 Oy_12 Ou_12 Oh_12
    clear hb
    go_wp2_with fail
    refine (heldEventS_any _ R.length 1 _ hR (by omega) (by omega) (marks_rd Og_13.out)).mono ?_
    rintro e v0 ⟨rfl, rfl⟩
    go_wp2
    go_ret
    exact ⟨rfl, HB13.out⟩
  · have hsz : (if (1048576 : Int) < (l.length : Int) then -1 else (1048576 : Int) - (l.length : Int)) = -1 := if_pos (by omega)
    have HSZ := Lib.hid hsz
    clear hsz hl
    have HB0 := Lib.hid (Below.refl w.heap.size w)
    go_enter Try.func9, Try.ntmps9
    go_wp2_with fail
    refine (szEventS_any a l.length cap 1048576 _ (by omega) (by omega) HM.out).mono ?_
    rw [HSZ.out]
    rintro e v0 ⟨rfl, rfl⟩
    go_wp2
    go_ret
    exact ⟨rfl, HB0.out⟩

set_option maxHeartbeats 1000000 in
set_option maxRecDepth 100000 in
theorem lawEventsOf_walk (a : Option Addr) (n cap : Nat) (zs : List Int) (w : World) (hn : zs.length = n) (h : Rd w (.slice a n cap) (zs.map (.int .i64))) : Calls Try.prog 7 #[.slice a n cap] w fun e w' => e = .returned (.bool true) ∧ Below w.heap.size w w' := by
  subst hn
  have HR := Lib.hid h
  clear h
  by_cases hl : zs.length ≤ 1048576
  · obtain ⟨⟨R, b⟩, hR⟩ : ∃ x, evsR zs = x := ⟨_, rfl⟩
    have hR' := evsR_len zs
    rw [hR] at hR'
    replace hR' : R.length ≤ 1048576 := hR'
    have hR0 := hR'
    have HRR := Lib.hid hR
    clear hR
    have HB0 := Lib.hid (Below.refl w.heap.size w)
    go_enter Try.func7, Try.ntmps7
    go_wp2_with fail
    refine (toIntS_law _ zs _ hl (HR.out.below HB0.out)).mono ?_
    rintro e w1 ⟨a1, c1, f1, rfl, h1, hb⟩
    have HB1 := Lib.hid (HB0.out.trans (hb.mono HB0.out.size))
    have HS1 := Lib.hid hb.size
    have Rt := Lib.hid (h1.rng)
    have Ot_1 := Lib.hid h1
    clear hb h1
    go_wp2_with fail
    refine (specEventsOf_law _ zs R b _ HRR.out hl (owC_rd Ot_1.out)).mono ?_
    rintro e w2 ⟨a2, c2, f2, rfl, h2, hb⟩
    have HB2 := Lib.hid (HB1.out.trans (hb.mono HB1.out.size))
    have HS2 := Lib.hid hb.size
    have Ot_2 := Lib.hid (Ot_1.out.below hb)
    clear Ot_1
    have Rw := Lib.hid (h2.rng)
    have Ow_2 := Lib.hid h2
    clear hb h2
    go_wp2_with fail
    refine (toIntS_law _ zs _ hl (HR.out.below HB2.out)).mono ?_
    rintro e w3 ⟨a3, c3, f3, rfl, h3, hb⟩
    have HB3 := Lib.hid (HB2.out.trans (hb.mono HB2.out.size))
    have HS3 := Lib.hid hb.size
    have Ot_3 := Lib.hid (Ot_2.out.below hb)
    have Ow_3 := Lib.hid (Ow_2.out.below hb)
    clear Ot_2 Ow_2
    have Rx := Lib.hid (h3.rng)
    have Ox_3 := Lib.hid h3
    clear hb h3
    go_wp2_with fail
    refine (implEventsOf_law _ zs R b _ HRR.out hl (owC_rd Ox_3.out)).mono ?_
    rintro e w4 ⟨a4, c4, f4, rfl, h4, hb⟩
    have HB4 := Lib.hid (HB3.out.trans (hb.mono HB3.out.size))
    have HS4 := Lib.hid hb.size
    have Ot_4 := Lib.hid (Ot_3.out.below hb)
    have Ow_4 := Lib.hid (Ow_3.out.below hb)
    have Ox_4 := Lib.hid (Ox_3.out.below hb)
    clear Ot_3 Ow_3 Ox_3
    have Rg := Lib.hid (h4.rng)
    have Og_4 := Lib.hid h4
    clear hb h4
    go_wp2_with fail
    refine (eqEventS_same _ _ R _ (by omega) Og_4.out.rd Ow_4.out.rd).mono ?_
    rintro e w5 ⟨rfl, hb⟩
    have HB5 := Lib.hid (HB4.out.trans (hb.mono HB4.out.size))
    have HS5 := Lib.hid hb.size
    have Ot_5 := Lib.hid (Ot_4.out.below hb)
    have Ow_5 := Lib.hid (Ow_4.out.below hb)
    have Ox_5 := Lib.hid (Ox_4.out.below hb)
    have Og_5 := Lib.hid (Og_4.out.below hb)
    clear Ot_4 Ow_4 Ox_4 Og_4
    clear hb
    go_wp2_with fail
    refine (toIntS_law _ zs _ hl (HR.out.below HB5.out)).mono ?_
    rintro e w6 ⟨a5, c5, f5, rfl, h5, hb⟩
    have HB6 := Lib.hid (HB5.out.trans (hb.mono HB5.out.size))
    have HS6 := Lib.hid hb.size
    have Ot_6 := Lib.hid (Ot_5.out.below hb)
    have Ow_6 := Lib.hid (Ow_5.out.below hb)
    have Ox_6 := Lib.hid (Ox_5.out.below hb)
    have Og_6 := Lib.hid (Og_5.out.below hb)
    clear Ot_5 Ow_5 Ox_5 Og_5
    have Ry := Lib.hid (h5.rng)
    have Oy_6 := Lib.hid h5
    clear hb h5
    go_wp2_with fail
    refine (below_post (eqIntS_same _ _ zs _ (by omega) (owC_rd Ox_6.out) (owC_rd Oy_6.out))).mono ?_
    rintro e w7 ⟨rfl, hb⟩
    have HB7 := Lib.hid (HB6.out.trans (hb.mono HB6.out.size))
    have HS7 := Lib.hid hb.size
    have Ot_7 := Lib.hid (Ot_6.out.below hb)
    have Ow_7 := Lib.hid (Ow_6.out.below hb)
    have Ox_7 := Lib.hid (Ox_6.out.below hb)
    have Og_7 := Lib.hid (Og_6.out.below hb)
    have Oy_7 := Lib.hid (Oy_6.out.below hb)
    clear Ot_6 Ow_6 Ox_6 Og_6 Oy_6
    clear hb
    go_wp2_with fail
    refine (markIntS_own _ _ zs _ 1 _ (by omega) (by omega) (by omega) Ox_7.out).mono ?_
    rintro e w8 ⟨rfl, ho, ht⟩
    have HB8 := Lib.hid (HB7.out.trans (ht.below (fun b hb => by have := Rx.out b hb; have := HB2.out.size; omega) HB7.out.size))
    have HS8 := Lib.hid ht.size
    have Ot_8 := Lib.hid (Ot_7.out.turn ht (fun b hb hb' => by have := Rx.out b hb'; have := Rt.out b hb; have := HS2.out; omega))
    have Ow_8 := Lib.hid (Ow_7.out.turn ht (fun b hb hb' => by have := Rx.out b hb'; have := Rw.out b hb; omega))
    have Og_8 := Lib.hid (Og_7.out.turn ht (fun b hb hb' => by have := Rx.out b hb'; have := Rg.out b hb; omega))
    have Oy_8 := Lib.hid (Oy_7.out.turn ht (fun b hb hb' => by have := Rx.out b hb'; have := Ry.out b hb; have := HS4.out; have := HS5.out; omega))
    have Ox_8 := Lib.hid ho
    clear ho ht Ot_7 Ow_7 Ox_7 Og_7 Oy_7
    go_wp2_with fail
    refine (eqEventS_same _ _ R _ (by omega) Og_8.out.rd Ow_8.out.rd).mono ?_
    rintro e w9 ⟨rfl, hb⟩
    have HB9 := Lib.hid (HB8.out.trans (hb.mono HB8.out.size))
    have HS9 := Lib.hid hb.size
    have Ot_9 := Lib.hid (Ot_8.out.below hb)
    have Ow_9 := Lib.hid (Ow_8.out.below hb)
    have Ox_9 := Lib.hid (Ox_8.out.below hb)
    have Og_9 := Lib.hid (Og_8.out.below hb)
    have Oy_9 := Lib.hid (Oy_8.out.below hb)
    clear Ot_8 Ow_8 Ox_8 Og_8 Oy_8
    clear hb
    go_wp2_with fail
    refine (markEventS_law _ _ R _ 1 _ (by omega) (by omega) (by omega) Og_9.out).mono ?_
    rintro e w10 ⟨rfl, ho, ht⟩
    have HB10 := Lib.hid (HB9.out.trans (ht.below (fun b hb => by have := Rg.out b hb; have := HB3.out.size; omega) HB9.out.size))
    have HS10 := Lib.hid ht.size
    have Ot_10 := Lib.hid (Ot_9.out.turn ht (fun b hb hb' => by have := Rg.out b hb'; have := Rt.out b hb; have := HS2.out; have := HS3.out; omega))
    have Ow_10 := Lib.hid (Ow_9.out.turn ht (fun b hb hb' => by have := Rg.out b hb'; have := Rw.out b hb; have := HS3.out; omega))
    have Ox_10 := Lib.hid (Ox_9.out.turn ht (fun b hb hb' => by have := Rg.out b hb'; have := Rx.out b hb; omega))
    have Oy_10 := Lib.hid (Oy_9.out.turn ht (fun b hb hb' => by have := Rg.out b hb'; have := Ry.out b hb; have := HS5.out; omega))
    have Og_10 := Lib.hid ho
    clear ho ht Ot_9 Ow_9 Ox_9 Og_9 Oy_9
    have hR := hR0
    go_wp2_with fail
    refine (heldEventS_any _ R.length 1 _ hR (by omega) (by omega) (marks_rd Og_10.out)).mono ?_
    rintro e v0 ⟨rfl, rfl⟩
    go_wp2_with fail
    refine (toIntS_law _ zs _ hl (HR.out.below HB10.out)).mono ?_
    rintro e w11 ⟨a6, c6, f6, rfl, h6, hb⟩
    have HB11 := Lib.hid (HB10.out.trans (hb.mono HB10.out.size))
    have HS11 := Lib.hid hb.size
    have Ot_11 := Lib.hid (Ot_10.out.below hb)
    have Ow_11 := Lib.hid (Ow_10.out.below hb)
    have Ox_11 := Lib.hid (Ox_10.out.below hb)
    have Og_11 := Lib.hid (Og_10.out.below hb)
    have Oy_11 := Lib.hid (Oy_10.out.below hb)
    clear Ot_10 Ow_10 Ox_10 Og_10 Oy_10
    have Ru := Lib.hid (h6.rng)
    have Ou_11 := Lib.hid h6
    clear hb h6
    go_wp2_with fail
    refine (implEventsOf_law _ zs R b _ HRR.out hl (owC_rd Ou_11.out)).mono ?_
    rintro e w12 ⟨a7, c7, f7, rfl, h7, hb⟩
    have HB12 := Lib.hid (HB11.out.trans (hb.mono HB11.out.size))
    have HS12 := Lib.hid hb.size
    have Ot_12 := Lib.hid (Ot_11.out.below hb)
    have Ow_12 := Lib.hid (Ow_11.out.below hb)
    have Ox_12 := Lib.hid (Ox_11.out.below hb)
    have Og_12 := Lib.hid (Og_11.out.below hb)
    have Oy_12 := Lib.hid (Oy_11.out.below hb)
    have Ou_12 := Lib.hid (Ou_11.out.below hb)
    clear Ot_11 Ow_11 Ox_11 Og_11 Oy_11 Ou_11
    have Rh := Lib.hid (h7.rng)
    have Oh_12 := Lib.hid h7
    clear hb h7
    go_wp2_with fail
    refine (eqEventS_same _ _ R _ (by omega) Oh_12.out.rd Ow_12.out.rd).mono ?_
    rintro e w13 ⟨rfl, hb⟩
    have HB13 := Lib.hid (HB12.out.trans (hb.mono HB12.out.size))
    have HS13 := Lib.hid hb.size
    have Ot_13 := Lib.hid (Ot_12.out.below hb)
    have Ow_13 := Lib.hid (Ow_12.out.below hb)
    have Ox_13 := Lib.hid (Ox_12.out.below hb)
    have Og_13 := Lib.hid (Og_12.out.below hb)
    have Oy_13 := Lib.hid (Oy_12.out.below hb)
    have Ou_13 := Lib.hid (Ou_12.out.below hb)
    have Oh_13 := Lib.hid (Oh_12.out.below hb)
    clear Ot_12 Ow_12 Ox_12 Og_12 Oy_12 Ou_12 Oh_12
    clear hb
    go_wp2_with fail
    refine (heldEventS_any _ R.length 1 _ hR (by omega) (by omega) (marks_rd Og_13.out)).mono ?_
    rintro e v0 ⟨rfl, rfl⟩
    go_wp2
    go_ret
    exact ⟨rfl, HB13.out⟩
  · have hl' : (1048576 : Int) < (zs.length : Int) := by omega
    clear hl
    go_enter Try.func7, Try.ntmps7
    go_wp2
    go_ret
    exact ⟨rfl, Below.refl _ _⟩

end Go.Proofs.Ytkhakelhfnoeoaa
