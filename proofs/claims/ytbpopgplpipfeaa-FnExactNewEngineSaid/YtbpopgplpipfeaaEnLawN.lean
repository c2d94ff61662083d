/- DERIVED. The exact law of NewEngine: called with any arguments, it returns true and changes nothing that was there; what the program's function does is a premise. -/
import Derived.Test.YtbpopgplpipfeaaEnNew
import Derived.Test.YtbpopgplpipfeaaEnLaw
import Derived.Test.YtbpopgplpipfeaaKmLaw
import Derived.Deep.RegionHeld3
namespace Go.Proofs.Ytbpopgplpipfeaa
open Go.RowKit

theorem markStepSS_q (B : Nat) (v : Value) (L : List (List St)) (fp : List Nat) (q q2 : Int) (hq : q2 = q + ((lenT L L.length * 3 : Nat) : Int)) (w : World) (hn : L.length ≤ 1048576) (ht : lenT L L.length ≤ 1048576) (hk : 0 ≤ q) (hk' : q ≤ 1000000000) (h : LoT w B v L fp) :
    Calls Try.prog 29 #[v, .int .i64 q] w fun e w' => e = .returned (.int .i64 q2) ∧ LoT w' B v (mkTS q L) fp ∧ Turn w w' fp := by
  rw [hq]; exact markStepSS_own B v L fp q w hn ht hk hk' h

set_option maxHeartbeats 1000000 in
set_option maxRecDepth 100000 in
theorem lawNewEngine_walk (k : Int) (u1 u2 : Value) (L : List (List Ac)) (F : List (List St)) (w : World) (hn1 : L.length ≤ maxLen ∧ ∀ l ∈ L, l.length ≤ maxLen) (hn2 : F.length ≤ maxLen ∧ ∀ l ∈ F, l.length ≤ maxLen) (h1 : LdS w u1 L) (h2 : LdT w u2 F) (hI : ∀ (w' : World) (v1 v2 : Value), EnSz (newE k L F) → Below w.heap.size w w' → LdS w' v1 L → LdT w' v2 F → Calls Try.prog 25 #[kmv k v1, v2] w' (EnB (newV k L F) (okEn (newE k L F)) w')) : Calls Try.prog 5 #[kmv k u1, u2] w fun e w' => e = .returned (.bool true) ∧ Below w.heap.size w w' := by
  obtain ⟨ad1, qd1, rfl⟩ := RdS.shape h1
  obtain ⟨ad2, qd2, rfl⟩ := RdSt.shape h2
  have H1 := Lib.hid h1
  have H2 := Lib.hid h2
  have HN1 := Lib.hid hn1
  have HN2 := Lib.hid hn2
  have HI := Lib.hid hI
  clear h1 h2 hn1 hn2 hI
  obtain ⟨tL, htL⟩ : ∃ t, t = L.length + lenS L L.length := ⟨_, rfl⟩
  obtain ⟨tF, htF⟩ : ∃ t, t = F.length + lenT F F.length := ⟨_, rfl⟩
  have HTL := Lib.hid htL
  have HTF := Lib.hid htF
  clear htL htF
  by_cases hl : tL ≤ 1048576
  · obtain ⟨X, hX⟩ : ∃ X : Nat, X = 1048576 - tL := ⟨_, rfl⟩
    have HX := Lib.hid (show X ≤ 1048576 by omega)
    have HXL := Lib.hid (show X + tL = 1048576 by omega)
    have HSZ := Lib.hid (show (X : Int) = if tL ≤ 1048576 then 1048576 - (tL : Int) else -1 by rw [if_pos hl]; omega)
    obtain ⟨s2, hs2⟩ : ∃ s : Int, s = if tF ≤ X then (X : Int) - (tF : Int) else -1 := ⟨_, rfl⟩
    have HS2 := Lib.hid hs2
    clear hX
    by_cases hf : tF ≤ X
    · have hs0 : ¬ s2 < 0 := by rw [hs2, if_pos hf]; omega
      have HES := Lib.hid (show EnSz (newE k L F) from ⟨by have := HTL.out; show L.length ≤ _; omega, fun l hl => by have := HTL.out; have := lenS_in (show l ∈ L from hl); omega, by have := HTL.out; show lenS L L.length ≤ _; omega, by have := HTF.out; have := HX.out; show F.length ≤ _; omega, fun l hl => by have := HTF.out; have := HX.out; have := lenT_in (show l ∈ F from hl); omega, by have := HTF.out; have := HX.out; show lenT F F.length ≤ _; omega, Nat.zero_le _⟩)
      obtain ⟨b, hb0⟩ : ∃ b, b = okEn (newE k L F) := ⟨_, rfl⟩
      obtain ⟨r, hr0⟩ : ∃ r, r = newV k L F := ⟨_, rfl⟩
      have HER := Lib.hid (show EnSz r by rw [hr0, newV]; split; exact HES.out; exact ⟨Nat.zero_le _, (fun _ h => by cases h), Nat.zero_le _, Nat.zero_le _, (fun _ h => by cases h), Nat.zero_le _, Nat.zero_le _⟩)
      have HBB := Lib.hid hb0
      have HRR := Lib.hid hr0
      obtain ⟨nx, hqx⟩ : ∃ q : Int, q = 1 + ((lenS L L.length * 4 : Nat) : Int) := ⟨_, rfl⟩
      obtain ⟨ny, hqy⟩ : ∃ q : Int, q = nx + ((lenT F F.length * 3 : Nat) : Int) := ⟨_, rfl⟩
      obtain ⟨qr, hqr⟩ : ∃ q : Int, q = 1 + (lenE r : Int) := ⟨_, rfl⟩
      have hqy0 : ¬ ny < 0 := by omega
      have hqr0 : ¬ qr < 0 := by omega
      have hqx1 : 0 ≤ nx ∧ nx ≤ 1000000000 := by have := HES.out.lt; have : lenS L L.length ≤ 1048576 := this; omega
      have HQX := Lib.hid hqx
      have HQY := Lib.hid hqy
      have HQR := Lib.hid hqr
      have HQB := Lib.hid hqx1
      clear hqx hqy hqr hb0 hr0 hs2 hl hf hqx1
      obtain ⟨w0, hw0⟩ : ∃ x, x = (w.alloc (.cells #[.int .i64 k, .slice ad1 L.length qd1] 48)) := ⟨_, rfl⟩
      have HB0 := Lib.hid (show Below w.heap.size w w0 by rw [hw0]; exact (Below.refl _ _).alloc (Nat.le_refl _) _)
      have Kd_0 := Lib.hid (show w0.heap[w.heap.size]? = some (.cells #[.int .i64 k, .slice ad1 L.length qd1] 48 (0, 0)) by rw [hw0]; exact heap_alloc_new w _)
      have SZ0 := Lib.hid (show w0.heap.size = w.heap.size + 1 by rw [hw0]; simp)
      have HW := Lib.hid hw0
      clear hw0
      go_enter Try.func5, Try.ntmps5
      have cd0 := (cells_of_heap Kd_0.out 0 (by simp)).1
      have cd1 := (cells_of_heap Kd_0.out 1 (by simp)).1
      go_wp2_with fail
      rw [← HW.out]
      refine (szKeymap_any k _ L _ HN1.out.1 HN1.out.2 (H1.out.below HB0.out)).mono ?_
      rw [← HTL.out, ← HSZ.out]
      rintro e w1 ⟨rfl, hb⟩
      clear cd0 cd1
      have HB1 := Lib.hid (HB0.out.trans (hb.mono HB0.out.size))
      have HS1 := Lib.hid hb.size
      have Kd_1 := Lib.hid (blk_below Kd_0.out hb)
      clear Kd_0
      clear hb
      go_wp2_with fail
      refine (szStepSS_any X HX.out _ F _ HN2.out.1 HN2.out.2 (H2.out.below HB1.out)).mono ?_
      rw [← HTF.out, ← HS2.out]
      rintro e v0 ⟨rfl, rfl⟩
      have cd0 := (cells_of_heap Kd_1.out 0 (by simp)).1
      have cd1 := (cells_of_heap Kd_1.out 1 (by simp)).1
      go_wp2_with fail
      refine (toKeymap_any k _ L _ HES.out.l HES.out.lr (H1.out.below HB1.out)).mono ?_
      rintro e w2 ⟨ata, qta, fta, rfl, hta, hb⟩
      clear cd0 cd1
      have HB2 := Lib.hid (HB1.out.trans (hb.mono HB1.out.size))
      have HS2 := Lib.hid hb.size
      have Kd_2 := Lib.hid (blk_below Kd_1.out hb)
      clear Kd_1
      have Rta := Lib.hid (hta.rng)
      have Ota_2 := Lib.hid hta
      clear hb hta
      go_wp2_with fail
      refine (toStepSS_any _ F _ HES.out.f HES.out.fr (H2.out.below HB2.out)).mono ?_
      rintro e w3 ⟨utb, ftb, rfl, htb, hb⟩
      have HB3 := Lib.hid (HB2.out.trans (hb.mono HB2.out.size))
      have HS3 := Lib.hid hb.size
      have Kd_3 := Lib.hid (blk_below Kd_2.out hb)
      have Ota_3 := Lib.hid (Ota_2.out.below hb)
      clear Kd_2 Ota_2
      have Rtb := Lib.hid (htb.rng)
      have Otb_3 := Lib.hid htb
      clear hb htb
      go_wp2_with fail
      refine (specNewEngine_any k _ _ L F _ HES.out Ota_3.out.rd Otb_3.out.rd).mono ?_
      rw [← HRR.out, ← HBB.out]
      rintro e w4 ⟨aw1, qw1, aw2, qw2, aw3, qw3, fw, rfl, hw, hb⟩
      have HB4 := Lib.hid (HB3.out.trans (hb.mono HB3.out.size))
      have HS4 := Lib.hid hb.size
      have Kd_4 := Lib.hid (blk_below Kd_3.out hb)
      have Ota_4 := Lib.hid (Ota_3.out.below hb)
      have Otb_4 := Lib.hid (Otb_3.out.below hb)
      clear Kd_3 Ota_3 Otb_3
      have Rw := Lib.hid (hw.rng)
      have Ow_4 := Lib.hid hw
      clear hb hw
      go_upto_region 9 with (fail)
      obtain ⟨w5, hw⟩ : ∃ x, x = w4.alloc (.cells #[.int .i64 r.k, .slice aw1 r.L.length qw1, .slice aw2 r.F.length qw2, .int .i64 r.x, .slice aw3 r.H.length qw3, .int .i64 r.o, .bool r.p] 30) := ⟨_, rfl⟩
      have hb : Below w4.heap.size w4 w5 := by rw [hw]; exact below_alloc1 _ _
      have hk : w5.heap[w4.heap.size]? = some (.cells #[.int .i64 r.k, .slice aw1 r.L.length qw1, .slice aw2 r.F.length qw2, .int .i64 r.x, .slice aw3 r.H.length qw3, .int .i64 r.o, .bool r.p] 30 (0, 0)) := by rw [hw]; exact heap_alloc_new _ _
      rw [← hw]
      have HB5 := Lib.hid (HB4.out.trans (hb.mono HB4.out.size))
      have HS5 := Lib.hid (show w4.heap.size < w5.heap.size from (Array.getElem?_eq_some_iff.mp hk).1)
      have Kd_5 := Lib.hid (blk_below Kd_4.out hb)
      have Ota_5 := Lib.hid (Ota_4.out.below hb)
      have Otb_5 := Lib.hid (Otb_4.out.below hb)
      have Ow_5 := Lib.hid (Ow_4.out.below hb)
      clear Kd_4 Ota_4 Otb_4 Ow_4
      have Kw_5 := Lib.hid hk
      clear hb hk hw
      have cd0 := (cells_of_heap Kd_5.out 0 (by simp)).1
      have cd1 := (cells_of_heap Kd_5.out 1 (by simp)).1
      go_wp2_with fail
      refine (toKeymap_any k _ L _ HES.out.l HES.out.lr (H1.out.below HB5.out)).mono ?_
      rintro e w6 ⟨ax, qx, fx, rfl, hx, hb⟩
      clear cd0 cd1
      have HB6 := Lib.hid (HB5.out.trans (hb.mono HB5.out.size))
      have HS6 := Lib.hid hb.size
      have Kd_6 := Lib.hid (blk_below Kd_5.out hb)
      have Kw_6 := Lib.hid (blk_below Kw_5.out hb)
      have Ota_6 := Lib.hid (Ota_5.out.below hb)
      have Otb_6 := Lib.hid (Otb_5.out.below hb)
      have Ow_6 := Lib.hid (Ow_5.out.below hb)
      clear Kd_5 Kw_5 Ota_5 Otb_5 Ow_5
      have Rx := Lib.hid (hx.rng)
      have Ox_6 := Lib.hid hx
      clear hb hx
      go_upto_region 10 with (fail)
      obtain ⟨w7, hw⟩ : ∃ x, x = w6.alloc (.cells #[.int .i64 k, .slice ax L.length qx] 26) := ⟨_, rfl⟩
      have hb : Below w6.heap.size w6 w7 := by rw [hw]; exact below_alloc1 _ _
      have hk : w7.heap[w6.heap.size]? = some (.cells #[.int .i64 k, .slice ax L.length qx] 26 (0, 0)) := by rw [hw]; exact heap_alloc_new _ _
      rw [← hw]
      have HB7 := Lib.hid (HB6.out.trans (hb.mono HB6.out.size))
      have HS7 := Lib.hid (show w6.heap.size < w7.heap.size from (Array.getElem?_eq_some_iff.mp hk).1)
      have Kd_7 := Lib.hid (blk_below Kd_6.out hb)
      have Kw_7 := Lib.hid (blk_below Kw_6.out hb)
      have Ota_7 := Lib.hid (Ota_6.out.below hb)
      have Otb_7 := Lib.hid (Otb_6.out.below hb)
      have Ow_7 := Lib.hid (Ow_6.out.below hb)
      have Ox_7 := Lib.hid (Ox_6.out.below hb)
      clear Kd_6 Kw_6 Ota_6 Otb_6 Ow_6 Ox_6
      have Kx_7 := Lib.hid hk
      clear hb hk hw
      go_wp2_with fail
      refine (toStepSS_any _ F _ HES.out.f HES.out.fr (H2.out.below HB7.out)).mono ?_
      rintro e w8 ⟨uy, fy, rfl, hy, hb⟩
      have HB8 := Lib.hid (HB7.out.trans (hb.mono HB7.out.size))
      have HS8 := Lib.hid hb.size
      have Kd_8 := Lib.hid (blk_below Kd_7.out hb)
      have Kw_8 := Lib.hid (blk_below Kw_7.out hb)
      have Kx_8 := Lib.hid (blk_below Kx_7.out hb)
      have Ota_8 := Lib.hid (Ota_7.out.below hb)
      have Otb_8 := Lib.hid (Otb_7.out.below hb)
      have Ow_8 := Lib.hid (Ow_7.out.below hb)
      have Ox_8 := Lib.hid (Ox_7.out.below hb)
      clear Kd_7 Kw_7 Kx_7 Ota_7 Otb_7 Ow_7 Ox_7
      have Ry := Lib.hid (hy.rng)
      have Oy_8 := Lib.hid hy
      clear hb hy
      have cx0 := (cells_of_heap Kx_8.out 0 (by simp)).1
      have cx1 := (cells_of_heap Kx_8.out 1 (by simp)).1
      go_wp2_with fail
      refine (HI.out _ _ _ HES.out HB8.out Ox_8.out.rd Oy_8.out.rd).mono ?_
      rw [← HRR.out, ← HBB.out]
      rintro e w9 ⟨ag1, qg1, ag2, qg2, ag3, qg3, fg, rfl, hg, hb⟩
      clear cx0 cx1
      have HB9 := Lib.hid (HB8.out.trans (hb.mono HB8.out.size))
      have HS9 := Lib.hid hb.size
      have Kd_9 := Lib.hid (blk_below Kd_8.out hb)
      have Kw_9 := Lib.hid (blk_below Kw_8.out hb)
      have Kx_9 := Lib.hid (blk_below Kx_8.out hb)
      have Ota_9 := Lib.hid (Ota_8.out.below hb)
      have Otb_9 := Lib.hid (Otb_8.out.below hb)
      have Ow_9 := Lib.hid (Ow_8.out.below hb)
      have Ox_9 := Lib.hid (Ox_8.out.below hb)
      have Oy_9 := Lib.hid (Oy_8.out.below hb)
      clear Kd_8 Kw_8 Kx_8 Ota_8 Otb_8 Ow_8 Ox_8 Oy_8
      have Rg := Lib.hid (hg.rng)
      have Og_9 := Lib.hid hg
      clear hb hg
      go_upto_region 12 with (fail)
      obtain ⟨w10, hw⟩ : ∃ x, x = w9.alloc (.cells #[.int .i64 r.k, .slice ag1 r.L.length qg1, .slice ag2 r.F.length qg2, .int .i64 r.x, .slice ag3 r.H.length qg3, .int .i64 r.o, .bool r.p] 30) := ⟨_, rfl⟩
      have hb : Below w9.heap.size w9 w10 := by rw [hw]; exact below_alloc1 _ _
      have hk : w10.heap[w9.heap.size]? = some (.cells #[.int .i64 r.k, .slice ag1 r.L.length qg1, .slice ag2 r.F.length qg2, .int .i64 r.x, .slice ag3 r.H.length qg3, .int .i64 r.o, .bool r.p] 30 (0, 0)) := by rw [hw]; exact heap_alloc_new _ _
      rw [← hw]
      have HB10 := Lib.hid (HB9.out.trans (hb.mono HB9.out.size))
      have HS10 := Lib.hid (show w9.heap.size < w10.heap.size from (Array.getElem?_eq_some_iff.mp hk).1)
      have Kd_10 := Lib.hid (blk_below Kd_9.out hb)
      have Kw_10 := Lib.hid (blk_below Kw_9.out hb)
      have Kx_10 := Lib.hid (blk_below Kx_9.out hb)
      have Ota_10 := Lib.hid (Ota_9.out.below hb)
      have Otb_10 := Lib.hid (Otb_9.out.below hb)
      have Ow_10 := Lib.hid (Ow_9.out.below hb)
      have Ox_10 := Lib.hid (Ox_9.out.below hb)
      have Oy_10 := Lib.hid (Oy_9.out.below hb)
      have Og_10 := Lib.hid (Og_9.out.below hb)
      clear Kd_9 Kw_9 Kx_9 Ota_9 Otb_9 Ow_9 Ox_9 Oy_9 Og_9
      have Kg_10 := Lib.hid hk
      clear hb hk hw
      have cg0 := (cells_of_heap Kg_10.out 0 (by simp)).1
      have cg1 := (cells_of_heap Kg_10.out 1 (by simp)).1
      have cg2 := (cells_of_heap Kg_10.out 2 (by simp)).1
      have cg3 := (cells_of_heap Kg_10.out 3 (by simp)).1
      have cg4 := (cells_of_heap Kg_10.out 4 (by simp)).1
      have cg5 := (cells_of_heap Kg_10.out 5 (by simp)).1
      have cg6 := (cells_of_heap Kg_10.out 6 (by simp)).1
      have cw0 := (cells_of_heap Kw_10.out 0 (by simp)).1
      have cw1 := (cells_of_heap Kw_10.out 1 (by simp)).1
      have cw2 := (cells_of_heap Kw_10.out 2 (by simp)).1
      have cw3 := (cells_of_heap Kw_10.out 3 (by simp)).1
      have cw4 := (cells_of_heap Kw_10.out 4 (by simp)).1
      have cw5 := (cells_of_heap Kw_10.out 5 (by simp)).1
      have cw6 := (cells_of_heap Kw_10.out 6 (by simp)).1
      go_wp2_with fail
      refine (eqEngine_same r _ _ _ _ _ _ _ HER.out Og_10.out.rd Ow_10.out.rd).mono ?_
      rintro e w11 ⟨rfl, hb⟩
      clear cg0 cg1 cg2 cg3 cg4 cg5 cg6 cw0 cw1 cw2 cw3 cw4 cw5 cw6
      have HB11 := Lib.hid (HB10.out.trans (hb.mono HB10.out.size))
      have HS11 := Lib.hid hb.size
      have Kd_11 := Lib.hid (blk_below Kd_10.out hb)
      have Kw_11 := Lib.hid (blk_below Kw_10.out hb)
      have Kx_11 := Lib.hid (blk_below Kx_10.out hb)
      have Kg_11 := Lib.hid (blk_below Kg_10.out hb)
      have Ota_11 := Lib.hid (Ota_10.out.below hb)
      have Otb_11 := Lib.hid (Otb_10.out.below hb)
      have Ow_11 := Lib.hid (Ow_10.out.below hb)
      have Ox_11 := Lib.hid (Ox_10.out.below hb)
      have Oy_11 := Lib.hid (Oy_10.out.below hb)
      have Og_11 := Lib.hid (Og_10.out.below hb)
      clear Kd_10 Kw_10 Kx_10 Kg_10 Ota_10 Otb_10 Ow_10 Ox_10 Oy_10 Og_10
      clear hb
      go_upto_region 14 with (fail)
      go_cut [58] (fun sd wx => sd = .bool false ∧ Below w11.heap.size w11 wx)
      case first =>
        have cd0 := (cells_of_heap Kd_11.out 0 (by simp)).1
        have cd1 := (cells_of_heap Kd_11.out 1 (by simp)).1
        have cx0 := (cells_of_heap Kx_11.out 0 (by simp)).1
        have cx1 := (cells_of_heap Kx_11.out 1 (by simp)).1
        have ld : w.heap.size < w11.heap.size := (Array.getElem?_eq_some_iff.mp Kd_11.out).1
        have lx : w6.heap.size < w11.heap.size := (Array.getElem?_eq_some_iff.mp Kx_11.out).1
        go_region_held3 (fun w' => w'.cell? ⟨w.heap.size, 0, none⟩ = some (.int .i64 k) ∧ w'.cell? ⟨w.heap.size, 1, none⟩ = some (.slice ad1 L.length qd1) ∧ w'.cell? ⟨w6.heap.size, 0, none⟩ = some (.int .i64 k) ∧ w'.cell? ⟨w6.heap.size, 1, none⟩ = some (.slice ax L.length qx)) (first | go_keep)
          (first | (go_at_call 23; refine (toKeymap_any k _ L _ HES.out.l HES.out.lr (H1.out.below (by first | exact HB11.out | exact HB11.out.drew | exact HB11.out.drew.drew))).mono ?_; rintro e v1 ⟨az, qz, fz, rfl, hy, hb1⟩; have hbr : Below w11.heap.size w11 v1 := (by first | exact hb1 | exact ((Below.refl _ _).drew).trans hb1 | exact ((Below.refl _ _).drew.drew).trans hb1); have kcd0 := (hbr.cell (p := ⟨w.heap.size, 0, none⟩) ld).trans cd0; have kcd1 := (hbr.cell (p := ⟨w.heap.size, 1, none⟩) ld).trans cd1; have kcx0 := (hbr.cell (p := ⟨w6.heap.size, 0, none⟩) lx).trans cx0; have kcx1 := (hbr.cell (p := ⟨w6.heap.size, 1, none⟩) lx).trans cx1; have HBR := Lib.hid hbr; have HY := Lib.hid hy; clear hbr hb1 hy) | (go_at_call 26; refine (eqKeymap_same k _ _ L _ (Nat.le_trans HES.out.l (by decide)) (fun l hl => Nat.le_trans (HES.out.lr l hl) (by decide)) (Ox_11.out.rd.below (by first | exact HBR.out | exact HBR.out.drew | exact HBR.out.drew.drew)) (HY.out.rd.below (by first | exact Below.refl _ _ | exact (Below.refl _ _).drew | exact (Below.refl _ _).drew.drew))).mono ?_; rintro e v2 ⟨rfl, hb2⟩; have hbr : Below w11.heap.size w11 v2 := (by first | exact HBR.out.trans (hb2.mono HBR.out.size) | exact HBR.out.trans (((Below.refl _ _).drew.trans hb2).mono HBR.out.size) | exact HBR.out.trans (((Below.refl _ _).drew.drew.trans hb2).mono HBR.out.size)); have kcd0 := (hbr.cell (p := ⟨w.heap.size, 0, none⟩) ld).trans cd0; have kcd1 := (hbr.cell (p := ⟨w.heap.size, 1, none⟩) ld).trans cd1; have kcx0 := (hbr.cell (p := ⟨w6.heap.size, 0, none⟩) lx).trans cx0; have kcx1 := (hbr.cell (p := ⟨w6.heap.size, 1, none⟩) lx).trans cx1; have HB2 := Lib.hid hbr; clear hbr hb2))
        all_goals
          go_wp2
          go_meet
          exact ⟨rfl, by first | exact HB2.out | exact HB2.out.drew⟩
      case rest =>
        obtain ⟨rfl, hb⟩ := hcut
        obtain ⟨w12, hw⟩ : ∃ x, x = wc := ⟨_, rfl⟩
        rw [← hw] at hb ⊢
        clear hw
        have HB12 := Lib.hid (HB11.out.trans (hb.mono HB11.out.size))
        have HS12 := Lib.hid hb.size
        have Kd_12 := Lib.hid (blk_below Kd_11.out hb)
        have Kw_12 := Lib.hid (blk_below Kw_11.out hb)
        have Kx_12 := Lib.hid (blk_below Kx_11.out hb)
        have Kg_12 := Lib.hid (blk_below Kg_11.out hb)
        have Ota_12 := Lib.hid (Ota_11.out.below hb)
        have Otb_12 := Lib.hid (Otb_11.out.below hb)
        have Ow_12 := Lib.hid (Ow_11.out.below hb)
        have Ox_12 := Lib.hid (Ox_11.out.below hb)
        have Oy_12 := Lib.hid (Oy_11.out.below hb)
        have Og_12 := Lib.hid (Og_11.out.below hb)
        clear Kd_11 Kw_11 Kx_11 Kg_11 Ota_11 Otb_11 Ow_11 Ox_11 Oy_11 Og_11
        clear hb
        go_wp2_with fail
        refine (toStepSS_any _ F _ HES.out.f HES.out.fr (H2.out.below HB12.out)).mono ?_
        rintro e w13 ⟨uzz, fzz, rfl, hzz, hb⟩
        have HB13 := Lib.hid (HB12.out.trans (hb.mono HB12.out.size))
        have HS13 := Lib.hid hb.size
        have Kd_13 := Lib.hid (blk_below Kd_12.out hb)
        have Kw_13 := Lib.hid (blk_below Kw_12.out hb)
        have Kx_13 := Lib.hid (blk_below Kx_12.out hb)
        have Kg_13 := Lib.hid (blk_below Kg_12.out hb)
        have Ota_13 := Lib.hid (Ota_12.out.below hb)
        have Otb_13 := Lib.hid (Otb_12.out.below hb)
        have Ow_13 := Lib.hid (Ow_12.out.below hb)
        have Ox_13 := Lib.hid (Ox_12.out.below hb)
        have Oy_13 := Lib.hid (Oy_12.out.below hb)
        have Og_13 := Lib.hid (Og_12.out.below hb)
        clear Kd_12 Kw_12 Kx_12 Kg_12 Ota_12 Otb_12 Ow_12 Ox_12 Oy_12 Og_12
        have Rz := Lib.hid (hzz.rng)
        have Oz_13 := Lib.hid hzz
        clear hb hzz
        go_wp2_with fail
        refine (eqStepSS_same _ _ F _ (Nat.le_trans HES.out.f (by decide)) (fun l hl => Nat.le_trans (HES.out.fr l hl) (by decide)) Oy_13.out.rd Oz_13.out.rd).mono ?_
        rintro e w14 ⟨rfl, hb⟩
        have HB14 := Lib.hid (HB13.out.trans (hb.mono HB13.out.size))
        have HS14 := Lib.hid hb.size
        have Kd_14 := Lib.hid (blk_below Kd_13.out hb)
        have Kw_14 := Lib.hid (blk_below Kw_13.out hb)
        have Kx_14 := Lib.hid (blk_below Kx_13.out hb)
        have Kg_14 := Lib.hid (blk_below Kg_13.out hb)
        have Ota_14 := Lib.hid (Ota_13.out.below hb)
        have Otb_14 := Lib.hid (Otb_13.out.below hb)
        have Ow_14 := Lib.hid (Ow_13.out.below hb)
        have Ox_14 := Lib.hid (Ox_13.out.below hb)
        have Oy_14 := Lib.hid (Oy_13.out.below hb)
        have Og_14 := Lib.hid (Og_13.out.below hb)
        have Oz_14 := Lib.hid (Oz_13.out.below hb)
        clear Kd_13 Kw_13 Kx_13 Kg_13 Ota_13 Otb_13 Ow_13 Ox_13 Oy_13 Og_13 Oz_13
        clear hb
        have cx0 := (cells_of_heap Kx_14.out 0 (by simp)).1
        have cx1 := (cells_of_heap Kx_14.out 1 (by simp)).1
        go_wp2_with fail
        refine (markKeymap_q _ k _ L _ 1 nx HQX.out _ HES.out.l HES.out.lt (by decide) (by decide) Ox_14.out).mono ?_
        rintro e w15 ⟨rfl, ho, ht⟩
        clear cx0 cx1
        have HB15 := Lib.hid (HB14.out.trans (ht.below (fun b hb => by have := Rx.out b hb; have := HB5.out.size; omega) HB14.out.size))
        have HS15 := Lib.hid ht.size
        have Kd_15 := Lib.hid (blk_turn Kd_14.out ht (fun hm => by have := Rx.out _ hm; have := HS1.out; have := HS2.out; have := HS3.out; have := HS4.out; have := HS5.out; have := SZ0.out; omega))
        have Kw_15 := Lib.hid (blk_turn Kw_14.out ht (fun hm => by have := Rx.out _ hm; have := HS5.out; have := SZ0.out; omega))
        have Kx_15 := Lib.hid (blk_turn Kx_14.out ht (fun hm => by have := Rx.out _ hm; have := SZ0.out; omega))
        have Kg_15 := Lib.hid (blk_turn Kg_14.out ht (fun hm => by have := Rx.out _ hm; have := HS7.out; have := HS8.out; have := HS9.out; have := SZ0.out; omega))
        have Ota_15 := Lib.hid (Ota_14.out.turn ht (fun b hb hb' => by have := Rx.out b hb'; have := Rta.out b hb; have := HS3.out; have := HS4.out; have := HS5.out; have := SZ0.out; omega))
        have Otb_15 := Lib.hid (Otb_14.out.turn ht (fun b hb hb' => by have := Rx.out b hb'; have := Rtb.out b hb; have := HS4.out; have := HS5.out; have := SZ0.out; omega))
        have Ow_15 := Lib.hid (Ow_14.out.turn ht (fun b hb hb' => by have := Rx.out b hb'; have := Rw.out b hb; have := HS5.out; have := SZ0.out; omega))
        have Oy_15 := Lib.hid (Oy_14.out.turn ht (fun b hb hb' => by have := Rx.out b hb'; have := Ry.out b hb; have := HS7.out; have := SZ0.out; omega))
        have Og_15 := Lib.hid (Og_14.out.turn ht (fun b hb hb' => by have := Rx.out b hb'; have := Rg.out b hb; have := HS7.out; have := HS8.out; have := SZ0.out; omega))
        have Oz_15 := Lib.hid (Oz_14.out.turn ht (fun b hb hb' => by have := Rx.out b hb'; have := Rz.out b hb; have := HS7.out; have := HS8.out; have := HS9.out; have := HS10.out; have := HS11.out; have := HS12.out; have := SZ0.out; omega))
        have Ox_15 := Lib.hid ho
        clear ho ht Kd_14 Kw_14 Kx_14 Kg_14 Ota_14 Otb_14 Ow_14 Ox_14 Oy_14 Og_14 Oz_14
        go_wp2_with fail
        refine (markStepSS_q _ _ F _ nx ny HQY.out _ HES.out.f HES.out.ft HQB.out.1 HQB.out.2 Oy_15.out).mono ?_
        rintro e w16 ⟨rfl, ho, ht⟩
        have HB16 := Lib.hid (HB15.out.trans (ht.below (fun b hb => by have := Ry.out b hb; have := HB7.out.size; omega) HB15.out.size))
        have HS16 := Lib.hid ht.size
        have Kd_16 := Lib.hid (blk_turn Kd_15.out ht (fun hm => by have := Ry.out _ hm; have := HS1.out; have := HS2.out; have := HS3.out; have := HS4.out; have := HS5.out; have := HS6.out; have := HS7.out; have := SZ0.out; omega))
        have Kw_16 := Lib.hid (blk_turn Kw_15.out ht (fun hm => by have := Ry.out _ hm; have := HS5.out; have := HS6.out; have := HS7.out; have := SZ0.out; omega))
        have Kx_16 := Lib.hid (blk_turn Kx_15.out ht (fun hm => by have := Ry.out _ hm; have := HS7.out; have := SZ0.out; omega))
        have Kg_16 := Lib.hid (blk_turn Kg_15.out ht (fun hm => by have := Ry.out _ hm; have := HS9.out; have := SZ0.out; omega))
        have Ota_16 := Lib.hid (Ota_15.out.turn ht (fun b hb hb' => by have := Ry.out b hb'; have := Rta.out b hb; have := HS3.out; have := HS4.out; have := HS5.out; have := HS6.out; have := HS7.out; have := SZ0.out; omega))
        have Otb_16 := Lib.hid (Otb_15.out.turn ht (fun b hb hb' => by have := Ry.out b hb'; have := Rtb.out b hb; have := HS4.out; have := HS5.out; have := HS6.out; have := HS7.out; have := SZ0.out; omega))
        have Ow_16 := Lib.hid (Ow_15.out.turn ht (fun b hb hb' => by have := Ry.out b hb'; have := Rw.out b hb; have := HS5.out; have := HS6.out; have := HS7.out; have := SZ0.out; omega))
        have Ox_16 := Lib.hid (Ox_15.out.turn ht (fun b hb hb' => by have := Ry.out b hb'; have := Rx.out b hb; have := HS7.out; have := SZ0.out; omega))
        have Og_16 := Lib.hid (Og_15.out.turn ht (fun b hb hb' => by have := Ry.out b hb'; have := Rg.out b hb; have := SZ0.out; omega))
        have Oz_16 := Lib.hid (Oz_15.out.turn ht (fun b hb hb' => by have := Ry.out b hb'; have := Rz.out b hb; have := HS9.out; have := HS10.out; have := HS11.out; have := HS12.out; have := SZ0.out; omega))
        have Oy_16 := Lib.hid ho
        clear ho ht Kd_15 Kw_15 Kx_15 Kg_15 Ota_15 Otb_15 Ow_15 Ox_15 Oy_15 Og_15 Oz_15
        have cg0 := (cells_of_heap Kg_16.out 0 (by simp)).1
        have cg1 := (cells_of_heap Kg_16.out 1 (by simp)).1
        have cg2 := (cells_of_heap Kg_16.out 2 (by simp)).1
        have cg3 := (cells_of_heap Kg_16.out 3 (by simp)).1
        have cg4 := (cells_of_heap Kg_16.out 4 (by simp)).1
        have cg5 := (cells_of_heap Kg_16.out 5 (by simp)).1
        have cg6 := (cells_of_heap Kg_16.out 6 (by simp)).1
        have cw0 := (cells_of_heap Kw_16.out 0 (by simp)).1
        have cw1 := (cells_of_heap Kw_16.out 1 (by simp)).1
        have cw2 := (cells_of_heap Kw_16.out 2 (by simp)).1
        have cw3 := (cells_of_heap Kw_16.out 3 (by simp)).1
        have cw4 := (cells_of_heap Kw_16.out 4 (by simp)).1
        have cw5 := (cells_of_heap Kw_16.out 5 (by simp)).1
        have cw6 := (cells_of_heap Kw_16.out 6 (by simp)).1
        go_wp2_with fail
        refine (eqEngine_same r _ _ _ _ _ _ _ HER.out Og_16.out.rd Ow_16.out.rd).mono ?_
        rintro e w17 ⟨rfl, hb⟩
        clear cg0 cg1 cg2 cg3 cg4 cg5 cg6 cw0 cw1 cw2 cw3 cw4 cw5 cw6
        have HB17 := Lib.hid (HB16.out.trans (hb.mono HB16.out.size))
        have HS17 := Lib.hid hb.size
        have Kd_17 := Lib.hid (blk_below Kd_16.out hb)
        have Kw_17 := Lib.hid (blk_below Kw_16.out hb)
        have Kx_17 := Lib.hid (blk_below Kx_16.out hb)
        have Kg_17 := Lib.hid (blk_below Kg_16.out hb)
        have Ota_17 := Lib.hid (Ota_16.out.below hb)
        have Otb_17 := Lib.hid (Otb_16.out.below hb)
        have Ow_17 := Lib.hid (Ow_16.out.below hb)
        have Ox_17 := Lib.hid (Ox_16.out.below hb)
        have Oy_17 := Lib.hid (Oy_16.out.below hb)
        have Og_17 := Lib.hid (Og_16.out.below hb)
        have Oz_17 := Lib.hid (Oz_16.out.below hb)
        clear Kd_16 Kw_16 Kx_16 Kg_16 Ota_16 Otb_16 Ow_16 Ox_16 Oy_16 Og_16 Oz_16
        clear hb
        have cg0 := (cells_of_heap Kg_17.out 0 (by simp)).1
        have cg1 := (cells_of_heap Kg_17.out 1 (by simp)).1
        have cg2 := (cells_of_heap Kg_17.out 2 (by simp)).1
        have cg3 := (cells_of_heap Kg_17.out 3 (by simp)).1
        have cg4 := (cells_of_heap Kg_17.out 4 (by simp)).1
        have cg5 := (cells_of_heap Kg_17.out 5 (by simp)).1
        have cg6 := (cells_of_heap Kg_17.out 6 (by simp)).1
        go_wp2_with fail
        refine (markEngine_own _ r _ _ _ _ 1 qr HQR.out _ HER.out (by decide) (by decide) Og_17.out).mono ?_
        rintro e w18 ⟨rfl, ho, ht⟩
        clear cg0 cg1 cg2 cg3 cg4 cg5 cg6
        have HB18 := Lib.hid (HB17.out.trans (ht.below (fun b hb => by have := Rg.out b hb; have := HB8.out.size; omega) HB17.out.size))
        have HS18 := Lib.hid ht.size
        have Kd_18 := Lib.hid (blk_turn Kd_17.out ht (fun hm => by have := Rg.out _ hm; have := HS1.out; have := HS2.out; have := HS3.out; have := HS4.out; have := HS5.out; have := HS6.out; have := HS7.out; have := HS8.out; have := SZ0.out; omega))
        have Kw_18 := Lib.hid (blk_turn Kw_17.out ht (fun hm => by have := Rg.out _ hm; have := HS5.out; have := HS6.out; have := HS7.out; have := HS8.out; have := SZ0.out; omega))
        have Kx_18 := Lib.hid (blk_turn Kx_17.out ht (fun hm => by have := Rg.out _ hm; have := HS7.out; have := HS8.out; have := SZ0.out; omega))
        have Kg_18 := Lib.hid (blk_turn Kg_17.out ht (fun hm => by have := Rg.out _ hm; have := SZ0.out; omega))
        have Ota_18 := Lib.hid (Ota_17.out.turn ht (fun b hb hb' => by have := Rg.out b hb'; have := Rta.out b hb; have := HS3.out; have := HS4.out; have := HS5.out; have := HS6.out; have := HS7.out; have := HS8.out; have := SZ0.out; omega))
        have Otb_18 := Lib.hid (Otb_17.out.turn ht (fun b hb hb' => by have := Rg.out b hb'; have := Rtb.out b hb; have := HS4.out; have := HS5.out; have := HS6.out; have := HS7.out; have := HS8.out; have := SZ0.out; omega))
        have Ow_18 := Lib.hid (Ow_17.out.turn ht (fun b hb hb' => by have := Rg.out b hb'; have := Rw.out b hb; have := HS5.out; have := HS6.out; have := HS7.out; have := HS8.out; have := SZ0.out; omega))
        have Ox_18 := Lib.hid (Ox_17.out.turn ht (fun b hb hb' => by have := Rg.out b hb'; have := Rx.out b hb; have := HS7.out; have := HS8.out; have := SZ0.out; omega))
        have Oy_18 := Lib.hid (Oy_17.out.turn ht (fun b hb hb' => by have := Rg.out b hb'; have := Ry.out b hb; have := SZ0.out; omega))
        have Oz_18 := Lib.hid (Oz_17.out.turn ht (fun b hb hb' => by have := Rg.out b hb'; have := Rz.out b hb; have := HS10.out; have := HS11.out; have := HS12.out; have := SZ0.out; omega))
        have Og_18 := Lib.hid ho
        clear ho ht Kd_17 Kw_17 Kx_17 Kg_17 Ota_17 Otb_17 Ow_17 Ox_17 Oy_17 Og_17 Oz_17
        have cg0 := (cells_of_heap Kg_18.out 0 (by simp)).1
        have cg1 := (cells_of_heap Kg_18.out 1 (by simp)).1
        have cg2 := (cells_of_heap Kg_18.out 2 (by simp)).1
        have cg3 := (cells_of_heap Kg_18.out 3 (by simp)).1
        have cg4 := (cells_of_heap Kg_18.out 4 (by simp)).1
        have cg5 := (cells_of_heap Kg_18.out 5 (by simp)).1
        have cg6 := (cells_of_heap Kg_18.out 6 (by simp)).1
        go_wp2_with fail
        refine (heldEngine_any r _ _ _ 1 qr HQR.out _ HER.out (by decide) (by decide) Og_18.out.rd).mono ?_
        rintro e w19 ⟨rfl, hb⟩
        clear cg0 cg1 cg2 cg3 cg4 cg5 cg6
        have HB19 := Lib.hid (HB18.out.trans (hb.mono HB18.out.size))
        have HS19 := Lib.hid hb.size
        have Kd_19 := Lib.hid (blk_below Kd_18.out hb)
        have Kw_19 := Lib.hid (blk_below Kw_18.out hb)
        have Kx_19 := Lib.hid (blk_below Kx_18.out hb)
        have Kg_19 := Lib.hid (blk_below Kg_18.out hb)
        have Ota_19 := Lib.hid (Ota_18.out.below hb)
        have Otb_19 := Lib.hid (Otb_18.out.below hb)
        have Ow_19 := Lib.hid (Ow_18.out.below hb)
        have Ox_19 := Lib.hid (Ox_18.out.below hb)
        have Oy_19 := Lib.hid (Oy_18.out.below hb)
        have Og_19 := Lib.hid (Og_18.out.below hb)
        have Oz_19 := Lib.hid (Oz_18.out.below hb)
        clear Kd_18 Kw_18 Kx_18 Kg_18 Ota_18 Otb_18 Ow_18 Ox_18 Oy_18 Og_18 Oz_18
        clear hb
        have cd0 := (cells_of_heap Kd_19.out 0 (by simp)).1
        have cd1 := (cells_of_heap Kd_19.out 1 (by simp)).1
        go_wp2_with fail
        refine (toKeymap_any k _ L _ HES.out.l HES.out.lr (H1.out.below HB19.out)).mono ?_
        rintro e w20 ⟨asa, qsa, fsa, rfl, hsa, hb⟩
        clear cd0 cd1
        have HB20 := Lib.hid (HB19.out.trans (hb.mono HB19.out.size))
        have HS20 := Lib.hid hb.size
        have Kd_20 := Lib.hid (blk_below Kd_19.out hb)
        have Kw_20 := Lib.hid (blk_below Kw_19.out hb)
        have Kx_20 := Lib.hid (blk_below Kx_19.out hb)
        have Kg_20 := Lib.hid (blk_below Kg_19.out hb)
        have Ota_20 := Lib.hid (Ota_19.out.below hb)
        have Otb_20 := Lib.hid (Otb_19.out.below hb)
        have Ow_20 := Lib.hid (Ow_19.out.below hb)
        have Ox_20 := Lib.hid (Ox_19.out.below hb)
        have Oy_20 := Lib.hid (Oy_19.out.below hb)
        have Og_20 := Lib.hid (Og_19.out.below hb)
        have Oz_20 := Lib.hid (Oz_19.out.below hb)
        clear Kd_19 Kw_19 Kx_19 Kg_19 Ota_19 Otb_19 Ow_19 Ox_19 Oy_19 Og_19 Oz_19
        have Rsa := Lib.hid (hsa.rng)
        have Osa_20 := Lib.hid hsa
        clear hb hsa
        go_wp2_with fail
        refine (toStepSS_any _ F _ HES.out.f HES.out.fr (H2.out.below HB20.out)).mono ?_
        rintro e w21 ⟨usb, fsb, rfl, hsb, hb⟩
        have HB21 := Lib.hid (HB20.out.trans (hb.mono HB20.out.size))
        have HS21 := Lib.hid hb.size
        have Kd_21 := Lib.hid (blk_below Kd_20.out hb)
        have Kw_21 := Lib.hid (blk_below Kw_20.out hb)
        have Kx_21 := Lib.hid (blk_below Kx_20.out hb)
        have Kg_21 := Lib.hid (blk_below Kg_20.out hb)
        have Ota_21 := Lib.hid (Ota_20.out.below hb)
        have Otb_21 := Lib.hid (Otb_20.out.below hb)
        have Ow_21 := Lib.hid (Ow_20.out.below hb)
        have Ox_21 := Lib.hid (Ox_20.out.below hb)
        have Oy_21 := Lib.hid (Oy_20.out.below hb)
        have Og_21 := Lib.hid (Og_20.out.below hb)
        have Oz_21 := Lib.hid (Oz_20.out.below hb)
        have Osa_21 := Lib.hid (Osa_20.out.below hb)
        clear Kd_20 Kw_20 Kx_20 Kg_20 Ota_20 Otb_20 Ow_20 Ox_20 Oy_20 Og_20 Oz_20 Osa_20
        have Rsb := Lib.hid (hsb.rng)
        have Osb_21 := Lib.hid hsb
        clear hb hsb
        go_wp2_with fail
        refine (HI.out _ _ _ HES.out HB21.out Osa_21.out.rd Osb_21.out.rd).mono ?_
        rw [← HRR.out, ← HBB.out]
        rintro e w22 ⟨ah1, qh1, ah2, qh2, ah3, qh3, fh, rfl, hh, hb⟩
        have HB22 := Lib.hid (HB21.out.trans (hb.mono HB21.out.size))
        have HS22 := Lib.hid hb.size
        have Kd_22 := Lib.hid (blk_below Kd_21.out hb)
        have Kw_22 := Lib.hid (blk_below Kw_21.out hb)
        have Kx_22 := Lib.hid (blk_below Kx_21.out hb)
        have Kg_22 := Lib.hid (blk_below Kg_21.out hb)
        have Ota_22 := Lib.hid (Ota_21.out.below hb)
        have Otb_22 := Lib.hid (Otb_21.out.below hb)
        have Ow_22 := Lib.hid (Ow_21.out.below hb)
        have Ox_22 := Lib.hid (Ox_21.out.below hb)
        have Oy_22 := Lib.hid (Oy_21.out.below hb)
        have Og_22 := Lib.hid (Og_21.out.below hb)
        have Oz_22 := Lib.hid (Oz_21.out.below hb)
        have Osa_22 := Lib.hid (Osa_21.out.below hb)
        have Osb_22 := Lib.hid (Osb_21.out.below hb)
        clear Kd_21 Kw_21 Kx_21 Kg_21 Ota_21 Otb_21 Ow_21 Ox_21 Oy_21 Og_21 Oz_21 Osa_21 Osb_21
        have Rh := Lib.hid (hh.rng)
        have Oh_22 := Lib.hid hh
        clear hb hh
        go_upto_region 32 with (fail)
        obtain ⟨w23, hw⟩ : ∃ x, x = w22.alloc (.cells #[.int .i64 r.k, .slice ah1 r.L.length qh1, .slice ah2 r.F.length qh2, .int .i64 r.x, .slice ah3 r.H.length qh3, .int .i64 r.o, .bool r.p] 30) := ⟨_, rfl⟩
        have hb : Below w22.heap.size w22 w23 := by rw [hw]; exact below_alloc1 _ _
        have hk : w23.heap[w22.heap.size]? = some (.cells #[.int .i64 r.k, .slice ah1 r.L.length qh1, .slice ah2 r.F.length qh2, .int .i64 r.x, .slice ah3 r.H.length qh3, .int .i64 r.o, .bool r.p] 30 (0, 0)) := by rw [hw]; exact heap_alloc_new _ _
        rw [← hw]
        have HB23 := Lib.hid (HB22.out.trans (hb.mono HB22.out.size))
        have HS23 := Lib.hid (show w22.heap.size < w23.heap.size from (Array.getElem?_eq_some_iff.mp hk).1)
        have Kd_23 := Lib.hid (blk_below Kd_22.out hb)
        have Kw_23 := Lib.hid (blk_below Kw_22.out hb)
        have Kx_23 := Lib.hid (blk_below Kx_22.out hb)
        have Kg_23 := Lib.hid (blk_below Kg_22.out hb)
        have Ota_23 := Lib.hid (Ota_22.out.below hb)
        have Otb_23 := Lib.hid (Otb_22.out.below hb)
        have Ow_23 := Lib.hid (Ow_22.out.below hb)
        have Ox_23 := Lib.hid (Ox_22.out.below hb)
        have Oy_23 := Lib.hid (Oy_22.out.below hb)
        have Og_23 := Lib.hid (Og_22.out.below hb)
        have Oz_23 := Lib.hid (Oz_22.out.below hb)
        have Osa_23 := Lib.hid (Osa_22.out.below hb)
        have Osb_23 := Lib.hid (Osb_22.out.below hb)
        have Oh_23 := Lib.hid (Oh_22.out.below hb)
        clear Kd_22 Kw_22 Kx_22 Kg_22 Ota_22 Otb_22 Ow_22 Ox_22 Oy_22 Og_22 Oz_22 Osa_22 Osb_22 Oh_22
        have Kh_23 := Lib.hid hk
        clear hb hk hw
        have ch0 := (cells_of_heap Kh_23.out 0 (by simp)).1
        have ch1 := (cells_of_heap Kh_23.out 1 (by simp)).1
        have ch2 := (cells_of_heap Kh_23.out 2 (by simp)).1
        have ch3 := (cells_of_heap Kh_23.out 3 (by simp)).1
        have ch4 := (cells_of_heap Kh_23.out 4 (by simp)).1
        have ch5 := (cells_of_heap Kh_23.out 5 (by simp)).1
        have ch6 := (cells_of_heap Kh_23.out 6 (by simp)).1
        have cw0 := (cells_of_heap Kw_23.out 0 (by simp)).1
        have cw1 := (cells_of_heap Kw_23.out 1 (by simp)).1
        have cw2 := (cells_of_heap Kw_23.out 2 (by simp)).1
        have cw3 := (cells_of_heap Kw_23.out 3 (by simp)).1
        have cw4 := (cells_of_heap Kw_23.out 4 (by simp)).1
        have cw5 := (cells_of_heap Kw_23.out 5 (by simp)).1
        have cw6 := (cells_of_heap Kw_23.out 6 (by simp)).1
        go_wp2_with fail
        refine (eqEngine_same r _ _ _ _ _ _ _ HER.out Oh_23.out.rd Ow_23.out.rd).mono ?_
        rintro e w24 ⟨rfl, hb⟩
        clear ch0 ch1 ch2 ch3 ch4 ch5 ch6 cw0 cw1 cw2 cw3 cw4 cw5 cw6
        have HB24 := Lib.hid (HB23.out.trans (hb.mono HB23.out.size))
        have HS24 := Lib.hid hb.size
        have Kd_24 := Lib.hid (blk_below Kd_23.out hb)
        have Kw_24 := Lib.hid (blk_below Kw_23.out hb)
        have Kx_24 := Lib.hid (blk_below Kx_23.out hb)
        have Kg_24 := Lib.hid (blk_below Kg_23.out hb)
        have Kh_24 := Lib.hid (blk_below Kh_23.out hb)
        have Ota_24 := Lib.hid (Ota_23.out.below hb)
        have Otb_24 := Lib.hid (Otb_23.out.below hb)
        have Ow_24 := Lib.hid (Ow_23.out.below hb)
        have Ox_24 := Lib.hid (Ox_23.out.below hb)
        have Oy_24 := Lib.hid (Oy_23.out.below hb)
        have Og_24 := Lib.hid (Og_23.out.below hb)
        have Oz_24 := Lib.hid (Oz_23.out.below hb)
        have Osa_24 := Lib.hid (Osa_23.out.below hb)
        have Osb_24 := Lib.hid (Osb_23.out.below hb)
        have Oh_24 := Lib.hid (Oh_23.out.below hb)
        clear Kd_23 Kw_23 Kx_23 Kg_23 Kh_23 Ota_23 Otb_23 Ow_23 Ox_23 Oy_23 Og_23 Oz_23 Osa_23 Osb_23 Oh_23
        clear hb
        have cg0 := (cells_of_heap Kg_24.out 0 (by simp)).1
        have cg1 := (cells_of_heap Kg_24.out 1 (by simp)).1
        have cg2 := (cells_of_heap Kg_24.out 2 (by simp)).1
        have cg3 := (cells_of_heap Kg_24.out 3 (by simp)).1
        have cg4 := (cells_of_heap Kg_24.out 4 (by simp)).1
        have cg5 := (cells_of_heap Kg_24.out 5 (by simp)).1
        have cg6 := (cells_of_heap Kg_24.out 6 (by simp)).1
        go_wp2_with fail
        refine (heldEngine_any r _ _ _ 1 qr HQR.out _ HER.out (by decide) (by decide) Og_24.out.rd).mono ?_
        rintro e w25 ⟨rfl, hb⟩
        clear cg0 cg1 cg2 cg3 cg4 cg5 cg6
        have HB25 := Lib.hid (HB24.out.trans (hb.mono HB24.out.size))
        have HS25 := Lib.hid hb.size
        have Kd_25 := Lib.hid (blk_below Kd_24.out hb)
        have Kw_25 := Lib.hid (blk_below Kw_24.out hb)
        have Kx_25 := Lib.hid (blk_below Kx_24.out hb)
        have Kg_25 := Lib.hid (blk_below Kg_24.out hb)
        have Kh_25 := Lib.hid (blk_below Kh_24.out hb)
        have Ota_25 := Lib.hid (Ota_24.out.below hb)
        have Otb_25 := Lib.hid (Otb_24.out.below hb)
        have Ow_25 := Lib.hid (Ow_24.out.below hb)
        have Ox_25 := Lib.hid (Ox_24.out.below hb)
        have Oy_25 := Lib.hid (Oy_24.out.below hb)
        have Og_25 := Lib.hid (Og_24.out.below hb)
        have Oz_25 := Lib.hid (Oz_24.out.below hb)
        have Osa_25 := Lib.hid (Osa_24.out.below hb)
        have Osb_25 := Lib.hid (Osb_24.out.below hb)
        have Oh_25 := Lib.hid (Oh_24.out.below hb)
        clear Kd_24 Kw_24 Kx_24 Kg_24 Kh_24 Ota_24 Otb_24 Ow_24 Ox_24 Oy_24 Og_24 Oz_24 Osa_24 Osb_24 Oh_24
        clear hb
        go_wp2
        go_ret
        exact ⟨rfl, HB25.out⟩
    · have hs0 : s2 < 0 := by rw [hs2, if_neg hf]; decide
      clear hs2 hl hf
      obtain ⟨w0, hw0⟩ : ∃ x, x = (w.alloc (.cells #[.int .i64 k, .slice ad1 L.length qd1] 48)) := ⟨_, rfl⟩
      have HB0 := Lib.hid (show Below w.heap.size w w0 by rw [hw0]; exact (Below.refl _ _).alloc (Nat.le_refl _) _)
      have Kd_0 := Lib.hid (show w0.heap[w.heap.size]? = some (.cells #[.int .i64 k, .slice ad1 L.length qd1] 48 (0, 0)) by rw [hw0]; exact heap_alloc_new w _)
      have SZ0 := Lib.hid (show w0.heap.size = w.heap.size + 1 by rw [hw0]; simp)
      have HW := Lib.hid hw0
      clear hw0
      go_enter Try.func5, Try.ntmps5
      have cd0 := (cells_of_heap Kd_0.out 0 (by simp)).1
      have cd1 := (cells_of_heap Kd_0.out 1 (by simp)).1
      go_wp2_with fail
      rw [← HW.out]
      refine (szKeymap_any k _ L _ HN1.out.1 HN1.out.2 (H1.out.below HB0.out)).mono ?_
      rw [← HTL.out, ← HSZ.out]
      rintro e w1 ⟨rfl, hb⟩
      clear cd0 cd1
      have HB1 := Lib.hid (HB0.out.trans (hb.mono HB0.out.size))
      have HS1 := Lib.hid hb.size
      have Kd_1 := Lib.hid (blk_below Kd_0.out hb)
      clear Kd_0
      clear hb
      go_wp2_with fail
      refine (szStepSS_any X HX.out _ F _ HN2.out.1 HN2.out.2 (H2.out.below HB1.out)).mono ?_
      rw [← HTF.out, ← HS2.out]
      rintro e v0 ⟨rfl, rfl⟩
      go_wp2
      go_ret
      exact ⟨rfl, HB1.out⟩
  · obtain ⟨s, hs⟩ : ∃ s : Int, s = if tL ≤ 1048576 then 1048576 - (tL : Int) else -1 := ⟨_, rfl⟩
    have hs0 : s < 0 := by rw [hs, if_neg hl]; decide
    have HSZ := Lib.hid hs
    clear hs hl
    obtain ⟨w0, hw0⟩ : ∃ x, x = (w.alloc (.cells #[.int .i64 k, .slice ad1 L.length qd1] 48)) := ⟨_, rfl⟩
    have HB0 := Lib.hid (show Below w.heap.size w w0 by rw [hw0]; exact (Below.refl _ _).alloc (Nat.le_refl _) _)
    have Kd_0 := Lib.hid (show w0.heap[w.heap.size]? = some (.cells #[.int .i64 k, .slice ad1 L.length qd1] 48 (0, 0)) by rw [hw0]; exact heap_alloc_new w _)
    have SZ0 := Lib.hid (show w0.heap.size = w.heap.size + 1 by rw [hw0]; simp)
    have HW := Lib.hid hw0
    clear hw0
    go_enter Try.func5, Try.ntmps5
    have cd0 := (cells_of_heap Kd_0.out 0 (by simp)).1
    have cd1 := (cells_of_heap Kd_0.out 1 (by simp)).1
    go_wp2_with fail
    rw [← HW.out]
    refine (szKeymap_any k _ L _ HN1.out.1 HN1.out.2 (H1.out.below HB0.out)).mono ?_
    rw [← HTL.out, ← HSZ.out]
    rintro e w1 ⟨rfl, hb⟩
    clear cd0 cd1
    have HB1 := Lib.hid (HB0.out.trans (hb.mono HB0.out.size))
    have HS1 := Lib.hid hb.size
    have Kd_1 := Lib.hid (blk_below Kd_0.out hb)
    clear Kd_0
    clear hb
    go_wp2
    go_ret
    exact ⟨rfl, HB1.out⟩

end Go.Proofs.Ytbpopgplpipfeaa
