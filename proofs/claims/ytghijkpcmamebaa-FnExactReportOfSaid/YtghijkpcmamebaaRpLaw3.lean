/- DERIVED. The exact laws of ReportOf and ReadBoot: each, called with any argument, returns true and changes nothing that was there; what the program's function does is a premise. -/
import Derived.Test.YtghijkpcmamebaaRpSpec7
import Derived.Test.YtghijkpcmamebaaOwnBase
import Derived.Test.YtghijkpcmamebaaRpLaw2
import Derived.Test.YtghijkpcmamebaaHdLaw
namespace Go.Proofs.Ytghijkpcmamebaa
open Go.RowKit

/-- What a function returns that makes a report. -/
def RpvO (r : Int) (zs : List Int) (w : World) (e : Ending) (w' : World) : Prop := ∃ a c fp, e = .returned (rpv r (.slice a zs.length c)) ∧ OwC w' w.heap.size (.row [.int .i64]) (.slice a zs.length c) (.row (ones zs)) fp ∧ Below w.heap.size w w'
theorem rpvO {r : Int} {zs : List Int} {w w' : World} {e : Ending} (h : RpV r zs w e w') (hl : zs.length ≤ 1048576) : RpvO r zs w e w' := by
  obtain ⟨u, he, ho, hb⟩ := h
  obtain ⟨a, c, fp, rfl, h⟩ := owC_len ho hl
  exact ⟨a, c, fp, he, h, hb⟩
theorem rofK_len (l : List Hd) : (rofK l).length ≤ 56 := by
  rw [rofK]; split
  · exact codesN_len l 56
  · simp
theorem rbV_len (bs : List Int) (rl : Int) (zl : List Int) (h : zl.length ≤ 1048576) : (rbV bs rl zl).z.length ≤ 1048576 := by
  have := bKeys_len bs 6
  rw [rbV]; split
  · rw [rbEnd]; split
    · exact h
    · split
      · show (bKeys bs 6).length ≤ 1048576; omega
      · simp
  · simp
theorem specReportOf_law (v : Value) (l : List Hd) (rr : Int) (rz : List Int) (hr : rr = (rofM l : Nat)) (hz : rz = rofK l) (w : World) (hn : l.length ≤ maxLen) (h : RdN w v l.length (flatHd l)) :
    Calls Try.prog 24 #[v] w (RpvO rr rz w) := by
  have := rofK_len l
  rw [hr, hz]; exact (specReportOf_any v l w hn h).mono fun _ _ hp => rpvO hp (by omega)
theorem markHeldS_q (B : Nat) (v : Value) (l : List Hd) (fp : List Nat) (q q2 : Int) (hq : q2 = q + ((l.length * 5 : Nat) : Int)) (w : World) (hn : l.length ≤ 1048576) (hk : 0 ≤ q) (hk' : q ≤ 1099511627776) (h : OwF w B 33 5 v l.length (flatHd l) fp) :
    Calls Try.prog 26 #[v, .int .i64 q] w fun e w' => e = .returned (.int .i64 q2) ∧ OwF w' B 33 5 v l.length (flatHd (marksHd q l.length)) fp ∧ Turn w w' fp := by
  rw [hq]; exact markHeldS_law B v l fp q w hn hk hk' h

set_option maxHeartbeats 1000000 in
set_option maxRecDepth 100000 in
theorem lawReportOf_walk (a : Option Addr) (n cap : Nat) (l : List Hd) (w : World) (hn : l.length = n) (hm : n ≤ maxLen) (h : RdN w (.slice a n cap) l.length (flatHd l)) (hI : ∀ (v : Value) (l : List Hd) (w : World), l.length ≤ maxLen → RdN w v l.length (flatHd l) → Calls Try.prog 13 #[v] w (RpvO (rofM l : Nat) (rofK l) w)) : Calls Try.prog 6 #[.slice a n cap] w fun e w' => e = .returned (.bool true) ∧ Below w.heap.size w w' := by
  subst hn
  have HR := Lib.hid h
  have HM := Lib.hid hm
  have hlen := rofK_len l
  obtain ⟨rr, hrr⟩ : ∃ x : Int, x = (rofM l : Nat) := ⟨_, rfl⟩
  obtain ⟨rz, hrz⟩ : ∃ x, x = rofK l := ⟨_, rfl⟩
  rw [← hrz] at hlen
  have HI := Lib.hid (show ∀ (v : Value) (w : World), RdN w v l.length (flatHd l) → Calls Try.prog 13 #[v] w (RpvO rr rz w) from fun v w hr => by rw [hrr, hrz]; exact hI v l w HM.out hr)
  have HE1 := Lib.hid (show rz.length ≤ 1000000000000 by omega)
  have HE2 := Lib.hid (show rz.length ≤ 1099511627776 by omega)
  have HE3 := Lib.hid (show rz.length ≤ 1048576 by omega)
  have HRR := Lib.hid hrr
  have HRZ := Lib.hid hrz
  clear h hI hrr hrz hlen
  obtain ⟨qx, hqx⟩ : ∃ q : Int, q = 1 + ((l.length * 5 : Nat) : Int) := ⟨_, rfl⟩
  obtain ⟨qr, hqr⟩ : ∃ q : Int, q = 1 + (rz.length : Int) := ⟨_, rfl⟩
  have hqx0 : ¬ qx < 0 := by omega
  have hqr0 : ¬ qr < 0 := by omega
  have HQX := Lib.hid hqx
  have HQR := Lib.hid hqr
  clear hqx hqr hm
  by_cases hl : l.length ≤ 1048576
  · have hsz : (if (1048576 : Int) < (l.length : Int) then -1 else (1048576 : Int) - (l.length : Int)) = 1048576 - (l.length : Int) := if_neg (by omega)
    have hsz0 : ¬ (1048576 : Int) - (l.length : Int) < 0 := by omega
    have HSZ := Lib.hid hsz
    have HL := Lib.hid hl
    have HE0 := Lib.hid (show l.length ≤ 1000000000000 by omega)
    clear hsz hl
    have HB0 := Lib.hid (Below.refl w.heap.size w)
    go_enter Try.func6, Try.ntmps6
    go_wp2_with fail
    refine (szHeldS_any a l.length cap 1048576 _ (by omega) (by omega) HM.out).mono ?_
    rw [HSZ.out]
    rintro e v0 ⟨rfl, rfl⟩
    go_wp2_with fail
    refine (toHeldS_law _ l _ HL.out (HR.out.below HB0.out)).mono ?_
    rintro e w1 ⟨a1, c1, f1, rfl, h1, hb⟩
    have HB1 := Lib.hid (HB0.out.trans (hb.mono HB0.out.size))
    have HS1 := Lib.hid hb.size
    have Rt := Lib.hid (h1.rng)
    have Ot_1 := Lib.hid h1
    clear hb h1
    go_wp2_with fail
    refine (specReportOf_law _ l rr rz HRR.out HRZ.out _ HM.out Ot_1.out.rd).mono ?_
    rintro e w2 ⟨a2, c2, f2, rfl, h2, hb⟩
    have HB2 := Lib.hid (HB1.out.trans (hb.mono HB1.out.size))
    have HS2 := Lib.hid hb.size
    have Ot_2 := Lib.hid (Ot_1.out.below hb)
    clear Ot_1
    have Rw := Lib.hid (h2.rng)
    have Ow_2 := Lib.hid h2
    clear hb h2
    go_upto_region 6 with (fail)
    obtain ⟨w3, hw⟩ : ∃ x, x = w2.alloc (.cells #[.int .i64 rr, .slice a2 rz.length c2] 28) := ⟨_, rfl⟩
    have hb : Below w2.heap.size w2 w3 := by rw [hw]; exact below_alloc1 _ _
    have hk : w3.heap[w2.heap.size]? = some (.cells #[.int .i64 rr, .slice a2 rz.length c2] 28 (0, 0)) := by rw [hw]; exact heap_alloc_new _ _
    rw [← hw]
    have HB3 := Lib.hid (HB2.out.trans (hb.mono HB2.out.size))
    have HS3 := Lib.hid (show w2.heap.size < w3.heap.size from (Array.getElem?_eq_some_iff.mp hk).1)
    have Ot_3 := Lib.hid (Ot_2.out.below hb)
    have Ow_3 := Lib.hid (Ow_2.out.below hb)
    clear Ot_2 Ow_2
    have Kw_3 := Lib.hid hk
    clear hb hk hw
    go_wp2_with fail
    refine (toHeldS_law _ l _ HL.out (HR.out.below HB3.out)).mono ?_
    rintro e w4 ⟨a3, c3, f3, rfl, h3, hb⟩
    have HB4 := Lib.hid (HB3.out.trans (hb.mono HB3.out.size))
    have HS4 := Lib.hid hb.size
    have Kw_4 := Lib.hid (blk_below Kw_3.out hb)
    have Ot_4 := Lib.hid (Ot_3.out.below hb)
    have Ow_4 := Lib.hid (Ow_3.out.below hb)
    clear Kw_3 Ot_3 Ow_3
    have Rx := Lib.hid (h3.rng)
    have Ox_4 := Lib.hid h3
    clear hb h3
    go_wp2_with fail
    refine (HI.out _ _ Ox_4.out.rd).mono ?_
    rintro e w5 ⟨a4, c4, f4, rfl, h4, hb⟩
    have HB5 := Lib.hid (HB4.out.trans (hb.mono HB4.out.size))
    have HS5 := Lib.hid hb.size
    have Kw_5 := Lib.hid (blk_below Kw_4.out hb)
    have Ot_5 := Lib.hid (Ot_4.out.below hb)
    have Ow_5 := Lib.hid (Ow_4.out.below hb)
    have Ox_5 := Lib.hid (Ox_4.out.below hb)
    clear Kw_4 Ot_4 Ow_4 Ox_4
    have Rg := Lib.hid (h4.rng)
    have Og_5 := Lib.hid h4
    clear hb h4
    go_upto_region 8 with (fail)
    obtain ⟨w6, hw⟩ : ∃ x, x = w5.alloc (.cells #[.int .i64 rr, .slice a4 rz.length c4] 28) := ⟨_, rfl⟩
    have hb : Below w5.heap.size w5 w6 := by rw [hw]; exact below_alloc1 _ _
    have hk : w6.heap[w5.heap.size]? = some (.cells #[.int .i64 rr, .slice a4 rz.length c4] 28 (0, 0)) := by rw [hw]; exact heap_alloc_new _ _
    rw [← hw]
    have HB6 := Lib.hid (HB5.out.trans (hb.mono HB5.out.size))
    have HS6 := Lib.hid (show w5.heap.size < w6.heap.size from (Array.getElem?_eq_some_iff.mp hk).1)
    have Kw_6 := Lib.hid (blk_below Kw_5.out hb)
    have Ot_6 := Lib.hid (Ot_5.out.below hb)
    have Ow_6 := Lib.hid (Ow_5.out.below hb)
    have Ox_6 := Lib.hid (Ox_5.out.below hb)
    have Og_6 := Lib.hid (Og_5.out.below hb)
    clear Kw_5 Ot_5 Ow_5 Ox_5 Og_5
    have Kg_6 := Lib.hid hk
    clear hb hk hw
    have cg0 := (cells_of_heap Kg_6.out 0 (by simp)).1
    have cg1 := (cells_of_heap Kg_6.out 1 (by simp)).1
    have cw0 := (cells_of_heap Kw_6.out 0 (by simp)).1
    have cw1 := (cells_of_heap Kw_6.out 1 (by simp)).1
    go_wp2_with fail
    refine (eqReport_same rr _ _ rz _ HE1.out (owC_rd Og_6.out) (owC_rd Ow_6.out)).mono ?_
    rintro e w7 ⟨rfl, hb⟩
    clear cg0 cg1 cw0 cw1
    have HB7 := Lib.hid (HB6.out.trans (hb.mono HB6.out.size))
    have HS7 := Lib.hid hb.size
    have Kw_7 := Lib.hid (blk_below Kw_6.out hb)
    have Kg_7 := Lib.hid (blk_below Kg_6.out hb)
    have Ot_7 := Lib.hid (Ot_6.out.below hb)
    have Ow_7 := Lib.hid (Ow_6.out.below hb)
    have Ox_7 := Lib.hid (Ox_6.out.below hb)
    have Og_7 := Lib.hid (Og_6.out.below hb)
    clear Kw_6 Kg_6 Ot_6 Ow_6 Ox_6 Og_6
    clear hb
    go_wp2_with fail
    refine (toHeldS_law _ l _ HL.out (HR.out.below HB7.out)).mono ?_
    rintro e w8 ⟨a5, c5, f5, rfl, h5, hb⟩
    have HB8 := Lib.hid (HB7.out.trans (hb.mono HB7.out.size))
    have HS8 := Lib.hid hb.size
    have Kw_8 := Lib.hid (blk_below Kw_7.out hb)
    have Kg_8 := Lib.hid (blk_below Kg_7.out hb)
    have Ot_8 := Lib.hid (Ot_7.out.below hb)
    have Ow_8 := Lib.hid (Ow_7.out.below hb)
    have Ox_8 := Lib.hid (Ox_7.out.below hb)
    have Og_8 := Lib.hid (Og_7.out.below hb)
    clear Kw_7 Kg_7 Ot_7 Ow_7 Ox_7 Og_7
    have Ry := Lib.hid (h5.rng)
    have Oy_8 := Lib.hid h5
    clear hb h5
    go_wp2_with fail
    refine (eqHeldS_same _ _ l _ HE0.out Ox_8.out.rd Oy_8.out.rd).mono ?_
    rintro e w9 ⟨rfl, hb⟩
    have HB9 := Lib.hid (HB8.out.trans (hb.mono HB8.out.size))
    have HS9 := Lib.hid hb.size
    have Kw_9 := Lib.hid (blk_below Kw_8.out hb)
    have Kg_9 := Lib.hid (blk_below Kg_8.out hb)
    have Ot_9 := Lib.hid (Ot_8.out.below hb)
    have Ow_9 := Lib.hid (Ow_8.out.below hb)
    have Ox_9 := Lib.hid (Ox_8.out.below hb)
    have Og_9 := Lib.hid (Og_8.out.below hb)
    have Oy_9 := Lib.hid (Oy_8.out.below hb)
    clear Kw_8 Kg_8 Ot_8 Ow_8 Ox_8 Og_8 Oy_8
    clear hb
    go_wp2_with fail
    refine (markHeldS_q _ _ l _ 1 qx HQX.out _ HL.out (by decide) (by decide) Ox_9.out).mono ?_
    rintro e w10 ⟨rfl, ho, ht⟩
    have HB10 := Lib.hid (HB9.out.trans (ht.below (fun b hb => by have := Rx.out b hb; have := HB3.out.size; omega) HB9.out.size))
    have HS10 := Lib.hid ht.size
    have Kw_10 := Lib.hid (blk_turn Kw_9.out ht (fun hm => by have := Rx.out _ hm; have := HS3.out; omega))
    have Kg_10 := Lib.hid (blk_turn Kg_9.out ht (fun hm => by have := Rx.out _ hm; have := HS5.out; omega))
    have Ot_10 := Lib.hid (Ot_9.out.turn ht (fun b hb hb' => by have := Rx.out b hb'; have := Rt.out b hb; have := HS2.out; have := HS3.out; omega))
    have Ow_10 := Lib.hid (Ow_9.out.turn ht (fun b hb hb' => by have := Rx.out b hb'; have := Rw.out b hb; have := HS3.out; omega))
    have Og_10 := Lib.hid (Og_9.out.turn ht (fun b hb hb' => by have := Rx.out b hb'; have := Rg.out b hb; omega))
    have Oy_10 := Lib.hid (Oy_9.out.turn ht (fun b hb hb' => by have := Rx.out b hb'; have := Ry.out b hb; have := HS5.out; have := HS6.out; have := HS7.out; omega))
    have Ox_10 := Lib.hid ho
    clear ho ht Kw_9 Kg_9 Ot_9 Ow_9 Ox_9 Og_9 Oy_9
    have cg0 := (cells_of_heap Kg_10.out 0 (by simp)).1
    have cg1 := (cells_of_heap Kg_10.out 1 (by simp)).1
    have cw0 := (cells_of_heap Kw_10.out 0 (by simp)).1
    have cw1 := (cells_of_heap Kw_10.out 1 (by simp)).1
    go_wp2_with fail
    refine (eqReport_same rr _ _ rz _ HE1.out (owC_rd Og_10.out) (owC_rd Ow_10.out)).mono ?_
    rintro e w11 ⟨rfl, hb⟩
    clear cg0 cg1 cw0 cw1
    have HB11 := Lib.hid (HB10.out.trans (hb.mono HB10.out.size))
    have HS11 := Lib.hid hb.size
    have Kw_11 := Lib.hid (blk_below Kw_10.out hb)
    have Kg_11 := Lib.hid (blk_below Kg_10.out hb)
    have Ot_11 := Lib.hid (Ot_10.out.below hb)
    have Ow_11 := Lib.hid (Ow_10.out.below hb)
    have Ox_11 := Lib.hid (Ox_10.out.below hb)
    have Og_11 := Lib.hid (Og_10.out.below hb)
    have Oy_11 := Lib.hid (Oy_10.out.below hb)
    clear Kw_10 Kg_10 Ot_10 Ow_10 Ox_10 Og_10 Oy_10
    clear hb
    have cg0 := (cells_of_heap Kg_11.out 0 (by simp)).1
    have cg1 := (cells_of_heap Kg_11.out 1 (by simp)).1
    go_wp2_with fail
    refine (markReport_q _ rr _ rz _ 1 qr HQR.out _ HE2.out (by decide) (by decide) Og_11.out).mono ?_
    rintro e w12 ⟨rfl, ho, ht⟩
    clear cg0 cg1
    have HB12 := Lib.hid (HB11.out.trans (ht.below (fun b hb => by have := Rg.out b hb; have := HB4.out.size; omega) HB11.out.size))
    have HS12 := Lib.hid ht.size
    have Kw_12 := Lib.hid (blk_turn Kw_11.out ht (fun hm => by have := Rg.out _ hm; have := HS3.out; have := HS4.out; omega))
    have Kg_12 := Lib.hid (blk_turn Kg_11.out ht (fun hm => by have := Rg.out _ hm; omega))
    have Ot_12 := Lib.hid (Ot_11.out.turn ht (fun b hb hb' => by have := Rg.out b hb'; have := Rt.out b hb; have := HS2.out; have := HS3.out; have := HS4.out; omega))
    have Ow_12 := Lib.hid (Ow_11.out.turn ht (fun b hb hb' => by have := Rg.out b hb'; have := Rw.out b hb; have := HS3.out; have := HS4.out; omega))
    have Ox_12 := Lib.hid (Ox_11.out.turn ht (fun b hb hb' => by have := Rg.out b hb'; have := Rx.out b hb; omega))
    have Oy_12 := Lib.hid (Oy_11.out.turn ht (fun b hb hb' => by have := Rg.out b hb'; have := Ry.out b hb; have := HS6.out; have := HS7.out; omega))
    have Og_12 := Lib.hid ho
    clear ho ht Kw_11 Kg_11 Ot_11 Ow_11 Ox_11 Og_11 Oy_11
    have cg0 := (cells_of_heap Kg_12.out 0 (by simp)).1
    have cg1 := (cells_of_heap Kg_12.out 1 (by simp)).1
    go_wp2_with fail
    refine (heldReport_q rr _ rz.length 1 qr HQR.out _ HE3.out (by decide) (by decide) (owC_marks Og_12.out)).mono ?_
    rintro e w13 ⟨rfl, hb⟩
    clear cg0 cg1
    have HB13 := Lib.hid (HB12.out.trans (hb.mono HB12.out.size))
    have HS13 := Lib.hid hb.size
    have Kw_13 := Lib.hid (blk_below Kw_12.out hb)
    have Kg_13 := Lib.hid (blk_below Kg_12.out hb)
    have Ot_13 := Lib.hid (Ot_12.out.below hb)
    have Ow_13 := Lib.hid (Ow_12.out.below hb)
    have Ox_13 := Lib.hid (Ox_12.out.below hb)
    have Og_13 := Lib.hid (Og_12.out.below hb)
    have Oy_13 := Lib.hid (Oy_12.out.below hb)
    clear Kw_12 Kg_12 Ot_12 Ow_12 Ox_12 Og_12 Oy_12
    clear hb
    go_wp2_with fail
    refine (toHeldS_law _ l _ HL.out (HR.out.below HB13.out)).mono ?_
    rintro e w14 ⟨a6, c6, f6, rfl, h6, hb⟩
    have HB14 := Lib.hid (HB13.out.trans (hb.mono HB13.out.size))
    have HS14 := Lib.hid hb.size
    have Kw_14 := Lib.hid (blk_below Kw_13.out hb)
    have Kg_14 := Lib.hid (blk_below Kg_13.out hb)
    have Ot_14 := Lib.hid (Ot_13.out.below hb)
    have Ow_14 := Lib.hid (Ow_13.out.below hb)
    have Ox_14 := Lib.hid (Ox_13.out.below hb)
    have Og_14 := Lib.hid (Og_13.out.below hb)
    have Oy_14 := Lib.hid (Oy_13.out.below hb)
    clear Kw_13 Kg_13 Ot_13 Ow_13 Ox_13 Og_13 Oy_13
    have Ru := Lib.hid (h6.rng)
    have Ou_14 := Lib.hid h6
    clear hb h6
    go_wp2_with fail
    refine (HI.out _ _ Ou_14.out.rd).mono ?_
    rintro e w15 ⟨a7, c7, f7, rfl, h7, hb⟩
    have HB15 := Lib.hid (HB14.out.trans (hb.mono HB14.out.size))
    have HS15 := Lib.hid hb.size
    have Kw_15 := Lib.hid (blk_below Kw_14.out hb)
    have Kg_15 := Lib.hid (blk_below Kg_14.out hb)
    have Ot_15 := Lib.hid (Ot_14.out.below hb)
    have Ow_15 := Lib.hid (Ow_14.out.below hb)
    have Ox_15 := Lib.hid (Ox_14.out.below hb)
    have Og_15 := Lib.hid (Og_14.out.below hb)
    have Oy_15 := Lib.hid (Oy_14.out.below hb)
    have Ou_15 := Lib.hid (Ou_14.out.below hb)
    clear Kw_14 Kg_14 Ot_14 Ow_14 Ox_14 Og_14 Oy_14 Ou_14
    have Rh := Lib.hid (h7.rng)
    have Oh_15 := Lib.hid h7
    clear hb h7
    go_upto_region 25 with (fail)
    obtain ⟨w16, hw⟩ : ∃ x, x = w15.alloc (.cells #[.int .i64 rr, .slice a7 rz.length c7] 28) := ⟨_, rfl⟩
    have hb : Below w15.heap.size w15 w16 := by rw [hw]; exact below_alloc1 _ _
    have hk : w16.heap[w15.heap.size]? = some (.cells #[.int .i64 rr, .slice a7 rz.length c7] 28 (0, 0)) := by rw [hw]; exact heap_alloc_new _ _
    rw [← hw]
    have HB16 := Lib.hid (HB15.out.trans (hb.mono HB15.out.size))
    have HS16 := Lib.hid (show w15.heap.size < w16.heap.size from (Array.getElem?_eq_some_iff.mp hk).1)
    have Kw_16 := Lib.hid (blk_below Kw_15.out hb)
    have Kg_16 := Lib.hid (blk_below Kg_15.out hb)
    have Ot_16 := Lib.hid (Ot_15.out.below hb)
    have Ow_16 := Lib.hid (Ow_15.out.below hb)
    have Ox_16 := Lib.hid (Ox_15.out.below hb)
    have Og_16 := Lib.hid (Og_15.out.below hb)
    have Oy_16 := Lib.hid (Oy_15.out.below hb)
    have Ou_16 := Lib.hid (Ou_15.out.below hb)
    have Oh_16 := Lib.hid (Oh_15.out.below hb)
    clear Kw_15 Kg_15 Ot_15 Ow_15 Ox_15 Og_15 Oy_15 Ou_15 Oh_15
    have Kh_16 := Lib.hid hk
    clear hb hk hw
    have ch0 := (cells_of_heap Kh_16.out 0 (by simp)).1
    have ch1 := (cells_of_heap Kh_16.out 1 (by simp)).1
    have cw0 := (cells_of_heap Kw_16.out 0 (by simp)).1
    have cw1 := (cells_of_heap Kw_16.out 1 (by simp)).1
    go_wp2_with fail
    refine (eqReport_same rr _ _ rz _ HE1.out (owC_rd Oh_16.out) (owC_rd Ow_16.out)).mono ?_
    rintro e w17 ⟨rfl, hb⟩
    clear ch0 ch1 cw0 cw1
    have HB17 := Lib.hid (HB16.out.trans (hb.mono HB16.out.size))
    have HS17 := Lib.hid hb.size
    have Kw_17 := Lib.hid (blk_below Kw_16.out hb)
    have Kg_17 := Lib.hid (blk_below Kg_16.out hb)
    have Kh_17 := Lib.hid (blk_below Kh_16.out hb)
    have Ot_17 := Lib.hid (Ot_16.out.below hb)
    have Ow_17 := Lib.hid (Ow_16.out.below hb)
    have Ox_17 := Lib.hid (Ox_16.out.below hb)
    have Og_17 := Lib.hid (Og_16.out.below hb)
    have Oy_17 := Lib.hid (Oy_16.out.below hb)
    have Ou_17 := Lib.hid (Ou_16.out.below hb)
    have Oh_17 := Lib.hid (Oh_16.out.below hb)
    clear Kw_16 Kg_16 Kh_16 Ot_16 Ow_16 Ox_16 Og_16 Oy_16 Ou_16 Oh_16
    clear hb
    have cg0 := (cells_of_heap Kg_17.out 0 (by simp)).1
    have cg1 := (cells_of_heap Kg_17.out 1 (by simp)).1
    go_wp2_with fail
    refine (heldReport_q rr _ rz.length 1 qr HQR.out _ HE3.out (by decide) (by decide) (owC_marks Og_17.out)).mono ?_
    rintro e w18 ⟨rfl, hb⟩
    clear cg0 cg1
    have HB18 := Lib.hid (HB17.out.trans (hb.mono HB17.out.size))
    have HS18 := Lib.hid hb.size
    have Kw_18 := Lib.hid (blk_below Kw_17.out hb)
    have Kg_18 := Lib.hid (blk_below Kg_17.out hb)
    have Kh_18 := Lib.hid (blk_below Kh_17.out hb)
    have Ot_18 := Lib.hid (Ot_17.out.below hb)
    have Ow_18 := Lib.hid (Ow_17.out.below hb)
    have Ox_18 := Lib.hid (Ox_17.out.below hb)
    have Og_18 := Lib.hid (Og_17.out.below hb)
    have Oy_18 := Lib.hid (Oy_17.out.below hb)
    have Ou_18 := Lib.hid (Ou_17.out.below hb)
    have Oh_18 := Lib.hid (Oh_17.out.below hb)
    clear Kw_17 Kg_17 Kh_17 Ot_17 Ow_17 Ox_17 Og_17 Oy_17 Ou_17 Oh_17
    clear hb
    go_wp2
    go_ret
    exact ⟨rfl, HB18.out⟩
  · have hsz : (if (1048576 : Int) < (l.length : Int) then -1 else (1048576 : Int) - (l.length : Int)) = -1 := if_pos (by omega)
    have HSZ := Lib.hid hsz
    clear hsz hl
    have HB0 := Lib.hid (Below.refl w.heap.size w)
    go_enter Try.func6, Try.ntmps6
    go_wp2_with fail
    refine (szHeldS_any a l.length cap 1048576 _ (by omega) (by omega) HM.out).mono ?_
    rw [HSZ.out]
    rintro e v0 ⟨rfl, rfl⟩
    go_wp2
    go_ret
    exact ⟨rfl, HB0.out⟩

end Go.Proofs.Ytghijkpcmamebaa
