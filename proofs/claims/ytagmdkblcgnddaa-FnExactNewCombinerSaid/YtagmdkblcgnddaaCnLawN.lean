/- DERIVED. The exact law of NewCombiner: called with any arguments, it returns true and changes nothing that was there. -/
import Derived.Test.YtagmdkblcgnddaaCnCpy
import Derived.Test.YtagmdkblcgnddaaCbOpen
namespace Go.Proofs.Ytagmdkblcgnddaa
open Go.RowKit

set_option maxHeartbeats 1000000 in
set_option maxRecDepth 100000 in
theorem lawNewCombiner_all (a : Option Addr) (n cap : Nat) (l : List Cb) (t : Int) (w : World) (hn : l.length = n) (hm : n ≤ maxLen) (h : RdN w (.slice a n cap) l.length (flatCb l)) : Calls Try.prog 11 #[.slice a n cap, .int .i64 t] w fun e w' => e = .returned (.bool true) ∧ Below w.heap.size w w' := by
  subst hn
  have HR := Lib.hid h
  have HM := Lib.hid hm
  clear h hm
  by_cases hl : l.length ≤ 1048576
  · have hsz : (if (1048576 : Int) < (l.length : Int) then -1 else (1048576 : Int) - (l.length : Int)) = 1048576 - (l.length : Int) := if_neg (by omega)
    have hsz0 : ¬ (1048576 : Int) - (l.length : Int) < 0 := by omega
    have HSZ := Lib.hid hsz
    have HL := Lib.hid hl
    clear hsz
    obtain ⟨b, hb0⟩ : ∃ b, b = okCn (newC l t) := ⟨_, rfl⟩
    obtain ⟨r, hr0⟩ : ∃ r, r = newCV l t := ⟨_, rfl⟩
    have HER := Lib.hid (show CnSz r by rw [hr0, newCV]; split; exact ⟨hl, Nat.zero_le _, Nat.zero_le _⟩; exact ⟨Nat.zero_le _, Nat.zero_le _, Nat.zero_le _⟩)
    have HBB := Lib.hid hb0
    have HRR := Lib.hid hr0
    obtain ⟨nx, hqx⟩ : ∃ q : Int, q = 1 + ((l.length * 2 : Nat) : Int) := ⟨_, rfl⟩
    obtain ⟨qr, hqr⟩ : ∃ q : Int, q = 1 + (lenCn r : Int) := ⟨_, rfl⟩
    have hqx0 : ¬ nx < 0 := by omega
    have hqr0 : ¬ qr < 0 := by omega
    have HQX := Lib.hid hqx
    have HQR := Lib.hid hqr
    clear hqx hqr hb0 hr0 hl
    have HB0 := Lib.hid (Below.refl w.heap.size w)
    go_enter Try.func11, Try.ntmps11
    go_wp2_with fail
    refine (szComboS_any a l.length cap 1048576 _ (by omega) (by omega) HM.out).mono ?_
    rw [HSZ.out]
    rintro e v0 ⟨rfl, rfl⟩
    go_wp2_with fail
    refine (toComboS_law _ l _ HL.out (HR.out.below HB0.out)).mono ?_
    rintro e w1 ⟨at0, qt0, ft0, rfl, ht0, hb⟩
    have HB1 := Lib.hid (HB0.out.trans (hb.mono HB0.out.size))
    have HS1 := Lib.hid hb.size
    have Rt0 := Lib.hid (ht0.rng)
    have Ot0_1 := Lib.hid ht0
    clear hb ht0
    go_wp2_with fail
    refine (specNewCombiner_any _ l t r b HRR.out HBB.out _ HL.out Ot0_1.out.rd).mono ?_
    rintro e w2 ⟨aw1, qw1, aw2, qw2, aw3, qw3, fw, rfl, hw, hb⟩
    have HB2 := Lib.hid (HB1.out.trans (hb.mono HB1.out.size))
    have HS2 := Lib.hid hb.size
    have Ot0_2 := Lib.hid (Ot0_1.out.below hb)
    clear Ot0_1
    have Rw := Lib.hid (hw.rng)
    have Ow_2 := Lib.hid hw
    clear hb hw
    go_upto_region 6 with (fail)
    obtain ⟨w3, hw⟩ : ∃ x, x = w2.alloc (.cells #[.slice aw1 r.C.length qw1, .int .i64 r.t, .slice aw2 r.Q.length qw2, .int .i64 r.n, .int .i64 r.k, .int .i64 r.d, .slice aw3 r.A.length qw3] 28) := ⟨_, rfl⟩
    have hb : Below w2.heap.size w2 w3 := by rw [hw]; exact below_alloc1 _ _
    have hk : w3.heap[w2.heap.size]? = some (.cells #[.slice aw1 r.C.length qw1, .int .i64 r.t, .slice aw2 r.Q.length qw2, .int .i64 r.n, .int .i64 r.k, .int .i64 r.d, .slice aw3 r.A.length qw3] 28 (0, 0)) := by rw [hw]; exact heap_alloc_new _ _
    rw [← hw]
    have HB3 := Lib.hid (HB2.out.trans (hb.mono HB2.out.size))
    have HS3 := Lib.hid (show w2.heap.size < w3.heap.size from (Array.getElem?_eq_some_iff.mp hk).1)
    have Ot0_3 := Lib.hid (Ot0_2.out.below hb)
    have Ow_3 := Lib.hid (Ow_2.out.below hb)
    clear Ot0_2 Ow_2
    have Kw_3 := Lib.hid hk
    clear hb hk hw
    go_wp2_with fail
    refine (toComboS_law _ l _ HL.out (HR.out.below HB3.out)).mono ?_
    rintro e w4 ⟨ax, qx, fx, rfl, hx, hb⟩
    have HB4 := Lib.hid (HB3.out.trans (hb.mono HB3.out.size))
    have HS4 := Lib.hid hb.size
    have Kw_4 := Lib.hid (blk_below Kw_3.out hb)
    have Ot0_4 := Lib.hid (Ot0_3.out.below hb)
    have Ow_4 := Lib.hid (Ow_3.out.below hb)
    clear Kw_3 Ot0_3 Ow_3
    have Rx := Lib.hid (hx.rng)
    have Ox_4 := Lib.hid hx
    clear hb hx
    go_wp2_with fail
    refine (implNewCombiner_any _ l t r b HRR.out HBB.out _ HL.out (capLe_of Ox_4.out.1) Ox_4.out.rd).mono ?_
    rintro e w5 ⟨ag1, qg1, ag2, qg2, ag3, qg3, fg, rfl, hg, hb⟩
    have HB5 := Lib.hid (HB4.out.trans (hb.mono HB4.out.size))
    have HS5 := Lib.hid hb.size
    have Kw_5 := Lib.hid (blk_below Kw_4.out hb)
    have Ot0_5 := Lib.hid (Ot0_4.out.below hb)
    have Ow_5 := Lib.hid (Ow_4.out.below hb)
    have Ox_5 := Lib.hid (Ox_4.out.below hb)
    clear Kw_4 Ot0_4 Ow_4 Ox_4
    have Rg := Lib.hid (hg.rng)
    have Og_5 := Lib.hid hg
    clear hb hg
    go_upto_region 8 with (fail)
    obtain ⟨w6, hw⟩ : ∃ x, x = w5.alloc (.cells #[.slice ag1 r.C.length qg1, .int .i64 r.t, .slice ag2 r.Q.length qg2, .int .i64 r.n, .int .i64 r.k, .int .i64 r.d, .slice ag3 r.A.length qg3] 28) := ⟨_, rfl⟩
    have hb : Below w5.heap.size w5 w6 := by rw [hw]; exact below_alloc1 _ _
    have hk : w6.heap[w5.heap.size]? = some (.cells #[.slice ag1 r.C.length qg1, .int .i64 r.t, .slice ag2 r.Q.length qg2, .int .i64 r.n, .int .i64 r.k, .int .i64 r.d, .slice ag3 r.A.length qg3] 28 (0, 0)) := by rw [hw]; exact heap_alloc_new _ _
    rw [← hw]
    have HB6 := Lib.hid (HB5.out.trans (hb.mono HB5.out.size))
    have HS6 := Lib.hid (show w5.heap.size < w6.heap.size from (Array.getElem?_eq_some_iff.mp hk).1)
    have Kw_6 := Lib.hid (blk_below Kw_5.out hb)
    have Ot0_6 := Lib.hid (Ot0_5.out.below hb)
    have Ow_6 := Lib.hid (Ow_5.out.below hb)
    have Ox_6 := Lib.hid (Ox_5.out.below hb)
    have Og_6 := Lib.hid (Og_5.out.below hb)
    clear Kw_5 Ot0_5 Ow_5 Ox_5 Og_5
    have Kg_6 := Lib.hid hk
    clear hb hk hw
    have cg0 := (cells_of_heap Kg_6.out 0 (by simp)).1
    have cg1 := (cells_of_heap Kg_6.out 1 (by simp)).1
    have cg2 := (cells_of_heap Kg_6.out 2 (by simp)).1
    have cg3 := (cells_of_heap Kg_6.out 3 (by simp)).1
    have cg4 := (cells_of_heap Kg_6.out 4 (by simp)).1
    have cg5 := (cells_of_heap Kg_6.out 5 (by simp)).1
    have cg6 := (cells_of_heap Kg_6.out 6 (by simp)).1
    have cw0 := (cells_of_heap Kw_6.out 0 (by simp)).1
    have cw1 := (cells_of_heap Kw_6.out 1 (by simp)).1
    have cw2 := (cells_of_heap Kw_6.out 2 (by simp)).1
    have cw3 := (cells_of_heap Kw_6.out 3 (by simp)).1
    have cw4 := (cells_of_heap Kw_6.out 4 (by simp)).1
    have cw5 := (cells_of_heap Kw_6.out 5 (by simp)).1
    have cw6 := (cells_of_heap Kw_6.out 6 (by simp)).1
    go_wp2_with fail
    refine (eqCombiner_same r _ _ _ _ _ _ _ HER.out Og_6.out.rd Ow_6.out.rd).mono ?_
    rintro e w7 ⟨rfl, hb⟩
    clear cg0 cg1 cg2 cg3 cg4 cg5 cg6 cw0 cw1 cw2 cw3 cw4 cw5 cw6
    have HB7 := Lib.hid (HB6.out.trans (hb.mono HB6.out.size))
    have HS7 := Lib.hid hb.size
    have Kw_7 := Lib.hid (blk_below Kw_6.out hb)
    have Kg_7 := Lib.hid (blk_below Kg_6.out hb)
    have Ot0_7 := Lib.hid (Ot0_6.out.below hb)
    have Ow_7 := Lib.hid (Ow_6.out.below hb)
    have Ox_7 := Lib.hid (Ox_6.out.below hb)
    have Og_7 := Lib.hid (Og_6.out.below hb)
    clear Kw_6 Kg_6 Ot0_6 Ow_6 Ox_6 Og_6
    clear hb
    go_wp2_with fail
    refine (toComboS_law _ l _ HL.out (HR.out.below HB7.out)).mono ?_
    rintro e w8 ⟨ay, qy, fy, rfl, hy, hb⟩
    have HB8 := Lib.hid (HB7.out.trans (hb.mono HB7.out.size))
    have HS8 := Lib.hid hb.size
    have Kw_8 := Lib.hid (blk_below Kw_7.out hb)
    have Kg_8 := Lib.hid (blk_below Kg_7.out hb)
    have Ot0_8 := Lib.hid (Ot0_7.out.below hb)
    have Ow_8 := Lib.hid (Ow_7.out.below hb)
    have Ox_8 := Lib.hid (Ox_7.out.below hb)
    have Og_8 := Lib.hid (Og_7.out.below hb)
    clear Kw_7 Kg_7 Ot0_7 Ow_7 Ox_7 Og_7
    have Ry := Lib.hid (hy.rng)
    have Oy_8 := Lib.hid hy
    clear hb hy
    go_wp2_with fail
    refine (eqComboS_same _ _ l _ (by have := HL.out; omega) Ox_8.out.rd Oy_8.out.rd).mono ?_
    rintro e w9 ⟨rfl, hb⟩
    have HB9 := Lib.hid (HB8.out.trans (hb.mono HB8.out.size))
    have HS9 := Lib.hid hb.size
    have Kw_9 := Lib.hid (blk_below Kw_8.out hb)
    have Kg_9 := Lib.hid (blk_below Kg_8.out hb)
    have Ot0_9 := Lib.hid (Ot0_8.out.below hb)
    have Ow_9 := Lib.hid (Ow_8.out.below hb)
    have Ox_9 := Lib.hid (Ox_8.out.below hb)
    have Og_9 := Lib.hid (Og_8.out.below hb)
    have Oy_9 := Lib.hid (Oy_8.out.below hb)
    clear Kw_8 Kg_8 Ot0_8 Ow_8 Ox_8 Og_8 Oy_8
    clear hb
    go_wp2_with fail
    refine (markComboS_q _ _ l _ 1 nx HQX.out _ HL.out (by decide) (by decide) Ox_9.out).mono ?_
    rintro e w10 ⟨rfl, ho, ht⟩
    have HB10 := Lib.hid (HB9.out.trans (ht.below (fun b hb => by have := Rx.out b hb; have := HB3.out.size; omega) HB9.out.size))
    have HS10 := Lib.hid ht.size
    have Kw_10 := Lib.hid (blk_turn Kw_9.out ht (fun hm => by have := Rx.out _ hm; have := HS3.out; omega))
    have Kg_10 := Lib.hid (blk_turn Kg_9.out ht (fun hm => by have := Rx.out _ hm; have := HS5.out; omega))
    have Ot0_10 := Lib.hid (Ot0_9.out.turn ht (fun b hb hb' => by have := Rx.out b hb'; have := Rt0.out b hb; have := HS2.out; have := HS3.out; omega))
    have Ow_10 := Lib.hid (Ow_9.out.turn ht (fun b hb hb' => by have := Rx.out b hb'; have := Rw.out b hb; have := HS3.out; omega))
    have Og_10 := Lib.hid (Og_9.out.turn ht (fun b hb hb' => by have := Rx.out b hb'; have := Rg.out b hb; omega))
    have Oy_10 := Lib.hid (Oy_9.out.turn ht (fun b hb hb' => by have := Rx.out b hb'; have := Ry.out b hb; have := HS5.out; have := HS6.out; have := HS7.out; omega))
    have Ox_10 := Lib.hid ho
    clear ho ht Kw_9 Kg_9 Ot0_9 Ow_9 Ox_9 Og_9 Oy_9
    have cg0 := (cells_of_heap Kg_10.out 0 (by simp)).1
    have cg1 := (cells_of_heap Kg_10.out 1 (by simp)).1
    have cg2 := (cells_of_heap Kg_10.out 2 (by simp)).1
    have cg3 := (cells_of_heap Kg_10.out 3 (by simp)).1
    have cg4 := (cells_of_heap Kg_10.out 4 (by simp)).1
    have cg5 := (cells_of_heap Kg_10.out 5 (by simp)).1
    have cg6 := (cells_of_heap Kg_10.out 6 (by simp)).1
    have cw0 := (cells_of_heap Kw_10.out 0 (by simp)).1
    have cw1 := (cells_of_heap Kw_10.out 1 (by simp)).1
    have cw2 := (cells_of_heap Kw_10.out 2 (by simp)).1
    have cw3 := (cells_of_heap Kw_10.out 3 (by simp)).1
    have cw4 := (cells_of_heap Kw_10.out 4 (by simp)).1
    have cw5 := (cells_of_heap Kw_10.out 5 (by simp)).1
    have cw6 := (cells_of_heap Kw_10.out 6 (by simp)).1
    go_wp2_with fail
    refine (eqCombiner_same r _ _ _ _ _ _ _ HER.out Og_10.out.rd Ow_10.out.rd).mono ?_
    rintro e w11 ⟨rfl, hb⟩
    clear cg0 cg1 cg2 cg3 cg4 cg5 cg6 cw0 cw1 cw2 cw3 cw4 cw5 cw6
    have HB11 := Lib.hid (HB10.out.trans (hb.mono HB10.out.size))
    have HS11 := Lib.hid hb.size
    have Kw_11 := Lib.hid (blk_below Kw_10.out hb)
    have Kg_11 := Lib.hid (blk_below Kg_10.out hb)
    have Ot0_11 := Lib.hid (Ot0_10.out.below hb)
    have Ow_11 := Lib.hid (Ow_10.out.below hb)
    have Ox_11 := Lib.hid (Ox_10.out.below hb)
    have Og_11 := Lib.hid (Og_10.out.below hb)
    have Oy_11 := Lib.hid (Oy_10.out.below hb)
    clear Kw_10 Kg_10 Ot0_10 Ow_10 Ox_10 Og_10 Oy_10
    clear hb
    have cg0 := (cells_of_heap Kg_11.out 0 (by simp)).1
    have cg1 := (cells_of_heap Kg_11.out 1 (by simp)).1
    have cg2 := (cells_of_heap Kg_11.out 2 (by simp)).1
    have cg3 := (cells_of_heap Kg_11.out 3 (by simp)).1
    have cg4 := (cells_of_heap Kg_11.out 4 (by simp)).1
    have cg5 := (cells_of_heap Kg_11.out 5 (by simp)).1
    have cg6 := (cells_of_heap Kg_11.out 6 (by simp)).1
    go_wp2_with fail
    refine (markCombiner_own _ r _ _ _ _ 1 qr HQR.out _ HER.out (by decide) (by decide) Og_11.out).mono ?_
    rintro e w12 ⟨rfl, ho, ht⟩
    clear cg0 cg1 cg2 cg3 cg4 cg5 cg6
    have HB12 := Lib.hid (HB11.out.trans (ht.below (fun b hb => by have := Rg.out b hb; have := HB4.out.size; omega) HB11.out.size))
    have HS12 := Lib.hid ht.size
    have Kw_12 := Lib.hid (blk_turn Kw_11.out ht (fun hm => by have := Rg.out _ hm; have := HS3.out; have := HS4.out; omega))
    have Kg_12 := Lib.hid (blk_turn Kg_11.out ht (fun hm => by have := Rg.out _ hm; omega))
    have Ot0_12 := Lib.hid (Ot0_11.out.turn ht (fun b hb hb' => by have := Rg.out b hb'; have := Rt0.out b hb; have := HS2.out; have := HS3.out; have := HS4.out; omega))
    have Ow_12 := Lib.hid (Ow_11.out.turn ht (fun b hb hb' => by have := Rg.out b hb'; have := Rw.out b hb; have := HS3.out; have := HS4.out; omega))
    have Ox_12 := Lib.hid (Ox_11.out.turn ht (fun b hb hb' => by have := Rg.out b hb'; have := Rx.out b hb; omega))
    have Oy_12 := Lib.hid (Oy_11.out.turn ht (fun b hb hb' => by have := Rg.out b hb'; have := Ry.out b hb; have := HS6.out; have := HS7.out; omega))
    have Og_12 := Lib.hid ho
    clear ho ht Kw_11 Kg_11 Ot0_11 Ow_11 Ox_11 Og_11 Oy_11
    have cg0 := (cells_of_heap Kg_12.out 0 (by simp)).1
    have cg1 := (cells_of_heap Kg_12.out 1 (by simp)).1
    have cg2 := (cells_of_heap Kg_12.out 2 (by simp)).1
    have cg3 := (cells_of_heap Kg_12.out 3 (by simp)).1
    have cg4 := (cells_of_heap Kg_12.out 4 (by simp)).1
    have cg5 := (cells_of_heap Kg_12.out 5 (by simp)).1
    have cg6 := (cells_of_heap Kg_12.out 6 (by simp)).1
    go_wp2_with fail
    refine (heldCombiner_any r _ _ _ 1 qr HQR.out _ HER.out (by decide) (by decide) Og_12.out.rd).mono ?_
    rintro e w13 ⟨rfl, hb⟩
    clear cg0 cg1 cg2 cg3 cg4 cg5 cg6
    have HB13 := Lib.hid (HB12.out.trans (hb.mono HB12.out.size))
    have HS13 := Lib.hid hb.size
    have Kw_13 := Lib.hid (blk_below Kw_12.out hb)
    have Kg_13 := Lib.hid (blk_below Kg_12.out hb)
    have Ot0_13 := Lib.hid (Ot0_12.out.below hb)
    have Ow_13 := Lib.hid (Ow_12.out.below hb)
    have Ox_13 := Lib.hid (Ox_12.out.below hb)
    have Og_13 := Lib.hid (Og_12.out.below hb)
    have Oy_13 := Lib.hid (Oy_12.out.below hb)
    clear Kw_12 Kg_12 Ot0_12 Ow_12 Ox_12 Og_12 Oy_12
    clear hb
    go_wp2_with fail
    refine (toComboS_law _ l _ HL.out (HR.out.below HB13.out)).mono ?_
    rintro e w14 ⟨asa, qsa, fsa, rfl, hsa, hb⟩
    have HB14 := Lib.hid (HB13.out.trans (hb.mono HB13.out.size))
    have HS14 := Lib.hid hb.size
    have Kw_14 := Lib.hid (blk_below Kw_13.out hb)
    have Kg_14 := Lib.hid (blk_below Kg_13.out hb)
    have Ot0_14 := Lib.hid (Ot0_13.out.below hb)
    have Ow_14 := Lib.hid (Ow_13.out.below hb)
    have Ox_14 := Lib.hid (Ox_13.out.below hb)
    have Og_14 := Lib.hid (Og_13.out.below hb)
    have Oy_14 := Lib.hid (Oy_13.out.below hb)
    clear Kw_13 Kg_13 Ot0_13 Ow_13 Ox_13 Og_13 Oy_13
    have Rsa := Lib.hid (hsa.rng)
    have Osa_14 := Lib.hid hsa
    clear hb hsa
    go_wp2_with fail
    refine (implNewCombiner_any _ l t r b HRR.out HBB.out _ HL.out (capLe_of Osa_14.out.1) Osa_14.out.rd).mono ?_
    rintro e w15 ⟨ah1, qh1, ah2, qh2, ah3, qh3, fh, rfl, hh, hb⟩
    have HB15 := Lib.hid (HB14.out.trans (hb.mono HB14.out.size))
    have HS15 := Lib.hid hb.size
    have Kw_15 := Lib.hid (blk_below Kw_14.out hb)
    have Kg_15 := Lib.hid (blk_below Kg_14.out hb)
    have Ot0_15 := Lib.hid (Ot0_14.out.below hb)
    have Ow_15 := Lib.hid (Ow_14.out.below hb)
    have Ox_15 := Lib.hid (Ox_14.out.below hb)
    have Og_15 := Lib.hid (Og_14.out.below hb)
    have Oy_15 := Lib.hid (Oy_14.out.below hb)
    have Osa_15 := Lib.hid (Osa_14.out.below hb)
    clear Kw_14 Kg_14 Ot0_14 Ow_14 Ox_14 Og_14 Oy_14 Osa_14
    have Rh := Lib.hid (hh.rng)
    have Oh_15 := Lib.hid hh
    clear hb hh
    go_upto_region 25 with (fail)
    obtain ⟨w16, hw⟩ : ∃ x, x = w15.alloc (.cells #[.slice ah1 r.C.length qh1, .int .i64 r.t, .slice ah2 r.Q.length qh2, .int .i64 r.n, .int .i64 r.k, .int .i64 r.d, .slice ah3 r.A.length qh3] 28) := ⟨_, rfl⟩
    have hb : Below w15.heap.size w15 w16 := by rw [hw]; exact below_alloc1 _ _
    have hk : w16.heap[w15.heap.size]? = some (.cells #[.slice ah1 r.C.length qh1, .int .i64 r.t, .slice ah2 r.Q.length qh2, .int .i64 r.n, .int .i64 r.k, .int .i64 r.d, .slice ah3 r.A.length qh3] 28 (0, 0)) := by rw [hw]; exact heap_alloc_new _ _
    rw [← hw]
    have HB16 := Lib.hid (HB15.out.trans (hb.mono HB15.out.size))
    have HS16 := Lib.hid (show w15.heap.size < w16.heap.size from (Array.getElem?_eq_some_iff.mp hk).1)
    have Kw_16 := Lib.hid (blk_below Kw_15.out hb)
    have Kg_16 := Lib.hid (blk_below Kg_15.out hb)
    have Ot0_16 := Lib.hid (Ot0_15.out.below hb)
    have Ow_16 := Lib.hid (Ow_15.out.below hb)
    have Ox_16 := Lib.hid (Ox_15.out.below hb)
    have Og_16 := Lib.hid (Og_15.out.below hb)
    have Oy_16 := Lib.hid (Oy_15.out.below hb)
    have Osa_16 := Lib.hid (Osa_15.out.below hb)
    have Oh_16 := Lib.hid (Oh_15.out.below hb)
    clear Kw_15 Kg_15 Ot0_15 Ow_15 Ox_15 Og_15 Oy_15 Osa_15 Oh_15
    have Kh_16 := Lib.hid hk
    clear hb hk hw
    have ch0 := (cells_of_heap Kh_16.out 0 (by simp)).1
    have ch1 := (cells_of_heap Kh_16.out 1 (by simp)).1
    have ch2 := (cells_of_heap Kh_16.out 2 (by simp)).1
    have ch3 := (cells_of_heap Kh_16.out 3 (by simp)).1
    have ch4 := (cells_of_heap Kh_16.out 4 (by simp)).1
    have ch5 := (cells_of_heap Kh_16.out 5 (by simp)).1
    have ch6 := (cells_of_heap Kh_16.out 6 (by simp)).1
    have cw0 := (cells_of_heap Kw_16.out 0 (by simp)).1
    have cw1 := (cells_of_heap Kw_16.out 1 (by simp)).1
    have cw2 := (cells_of_heap Kw_16.out 2 (by simp)).1
    have cw3 := (cells_of_heap Kw_16.out 3 (by simp)).1
    have cw4 := (cells_of_heap Kw_16.out 4 (by simp)).1
    have cw5 := (cells_of_heap Kw_16.out 5 (by simp)).1
    have cw6 := (cells_of_heap Kw_16.out 6 (by simp)).1
    go_wp2_with fail
    refine (eqCombiner_same r _ _ _ _ _ _ _ HER.out Oh_16.out.rd Ow_16.out.rd).mono ?_
    rintro e w17 ⟨rfl, hb⟩
    clear ch0 ch1 ch2 ch3 ch4 ch5 ch6 cw0 cw1 cw2 cw3 cw4 cw5 cw6
    have HB17 := Lib.hid (HB16.out.trans (hb.mono HB16.out.size))
    have HS17 := Lib.hid hb.size
    have Kw_17 := Lib.hid (blk_below Kw_16.out hb)
    have Kg_17 := Lib.hid (blk_below Kg_16.out hb)
    have Kh_17 := Lib.hid (blk_below Kh_16.out hb)
    have Ot0_17 := Lib.hid (Ot0_16.out.below hb)
    have Ow_17 := Lib.hid (Ow_16.out.below hb)
    have Ox_17 := Lib.hid (Ox_16.out.below hb)
    have Og_17 := Lib.hid (Og_16.out.below hb)
    have Oy_17 := Lib.hid (Oy_16.out.below hb)
    have Osa_17 := Lib.hid (Osa_16.out.below hb)
    have Oh_17 := Lib.hid (Oh_16.out.below hb)
    clear Kw_16 Kg_16 Kh_16 Ot0_16 Ow_16 Ox_16 Og_16 Oy_16 Osa_16 Oh_16
    clear hb
    have cg0 := (cells_of_heap Kg_17.out 0 (by simp)).1
    have cg1 := (cells_of_heap Kg_17.out 1 (by simp)).1
    have cg2 := (cells_of_heap Kg_17.out 2 (by simp)).1
    have cg3 := (cells_of_heap Kg_17.out 3 (by simp)).1
    have cg4 := (cells_of_heap Kg_17.out 4 (by simp)).1
    have cg5 := (cells_of_heap Kg_17.out 5 (by simp)).1
    have cg6 := (cells_of_heap Kg_17.out 6 (by simp)).1
    go_wp2_with fail
    refine (heldCombiner_any r _ _ _ 1 qr HQR.out _ HER.out (by decide) (by decide) Og_17.out.rd).mono ?_
    rintro e w18 ⟨rfl, hb⟩
    clear cg0 cg1 cg2 cg3 cg4 cg5 cg6
    have HB18 := Lib.hid (HB17.out.trans (hb.mono HB17.out.size))
    have HS18 := Lib.hid hb.size
    have Kw_18 := Lib.hid (blk_below Kw_17.out hb)
    have Kg_18 := Lib.hid (blk_below Kg_17.out hb)
    have Kh_18 := Lib.hid (blk_below Kh_17.out hb)
    have Ot0_18 := Lib.hid (Ot0_17.out.below hb)
    have Ow_18 := Lib.hid (Ow_17.out.below hb)
    have Ox_18 := Lib.hid (Ox_17.out.below hb)
    have Og_18 := Lib.hid (Og_17.out.below hb)
    have Oy_18 := Lib.hid (Oy_17.out.below hb)
    have Osa_18 := Lib.hid (Osa_17.out.below hb)
    have Oh_18 := Lib.hid (Oh_17.out.below hb)
    clear Kw_17 Kg_17 Kh_17 Ot0_17 Ow_17 Ox_17 Og_17 Oy_17 Osa_17 Oh_17
    clear hb
    go_wp2
    go_ret
    exact ⟨rfl, HB18.out⟩
  · have hsz : (if (1048576 : Int) < (l.length : Int) then -1 else (1048576 : Int) - (l.length : Int)) = -1 := if_pos (by omega)
    have HSZ := Lib.hid hsz
    clear hsz hl
    have HB0 := Lib.hid (Below.refl w.heap.size w)
    go_enter Try.func11, Try.ntmps11
    go_wp2_with fail
    refine (szComboS_any a l.length cap 1048576 _ (by omega) (by omega) HM.out).mono ?_
    rw [HSZ.out]
    rintro e v0 ⟨rfl, rfl⟩
    go_wp2
    go_ret
    exact ⟨rfl, HB0.out⟩

end Go.Proofs.Ytagmdkblcgnddaa
