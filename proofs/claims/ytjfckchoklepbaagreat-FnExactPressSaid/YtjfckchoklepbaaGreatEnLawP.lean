/- DERIVED. The exact law of Press: called with any arguments, it returns true and changes nothing that was there; what the program's function does is a premise. -/
import Derived.Test.YtjfckchoklepbaaGreatEnPrs
import Derived.Test.YtjfckchoklepbaaGreatEnMath
import Derived.Test.YtjfckchoklepbaaGreatEnLaw
import Derived.Deep.RegionHeld3
import Derived.Test.YtjfckchoklepbaaGreatEnPrJ
import Derived.Test.YtjfckchoklepbaaGreatEnOpen
namespace Go.Proofs.YtjfckchoklepbaaGreat
open Go.RowKit

theorem prsV_sz {e : En} (key : Int) (hold : Bool) (h : EnSz e) : TprSz (prsV e key hold) := by
  rw [prsV]
  split
  · rename_i hb
    obtain ⟨h1, h2, h3⟩ := prsB_iff.1 hb
    have hp := prs_ok hold h1 h2 h3
    have hl := hdOk_len hp.hd
    have e1 := setO_1 e (prsA e key hold)
    have e2 : (prsE e key hold).L = e.L := by rw [prsE, e1]
    have e3 : (prsE e key hold).F = e.F := by rw [prsE, e1]
    refine tprSz_of ⟨by rw [e2]; exact h.l, by rw [e2]; exact h.lr, by rw [e2]; exact h.lt, by rw [e3]; exact h.f, by rw [e3]; exact h.fr, by rw [e3]; exact h.ft, by show (prsE e key hold).H.length ≤ _; omega⟩ ?_ ?_
    · show (prsR e key hold).length ≤ _
      rw [prsR]
      refine Nat.le_trans (chg_len _ _) ?_
      rw [List.length_append, List.length_singleton]
      split
      · have := mrP_len_any (prsE e key hold).H (lD e.F (setO e (prsA e key hold)).2.n.toNat); omega
      · simp
    · intro r hr
      have := chg_mem _ _ r hr
      rcases List.mem_append.1 this with h4 | h4
      · split at h4
        · exact mrP_keys _ _ r h4
        · cases h4
      · rw [List.mem_singleton] at h4; subst h4; exact rofK_len _
  · exact tprSz_of enSz_zero (Nat.zero_le _) (fun _ h => by cases h)
set_option maxHeartbeats 1000000 in
set_option maxRecDepth 100000 in
theorem lawPress_walk (e : En) (u1 u2 u3 : Value) (key : Int) (hold : Bool) (w : World) (hn1 : e.L.length ≤ maxLen ∧ ∀ l ∈ e.L, l.length ≤ maxLen) (hn2 : e.F.length ≤ maxLen ∧ ∀ l ∈ e.F, l.length ≤ maxLen) (hn3 : e.H.length ≤ maxLen) (h : RdE w e u1 u2 u3) (hI : ∀ (w' : World) (v1 v2 v3 : Value), EnSz e → Below w.heap.size w w' → RdE w' e v1 v2 v3 → Calls Tryz.prog 20 #[env e.k v1 v2 e.x v3 e.o e.p, .int .i64 key, .bool hold] w' (PrO (prsV e key hold) w')) : Calls Tryz.prog 10 #[env e.k u1 u2 e.x u3 e.o e.p, .int .i64 key, .bool hold] w fun r w' => r = .returned (.bool true) ∧ Below w.heap.size w w' := by
  obtain ⟨ad1, qd1, rfl⟩ := RdS.shape h.map
  obtain ⟨ad2, qd2, rfl⟩ := RdSt.shape h.mac
  obtain ⟨ad3, qd3, rfl⟩ := RdN.shape h.held
  have HR := Lib.hid h
  have HN1 := Lib.hid hn1
  have HN2 := Lib.hid hn2
  have HN3 := Lib.hid hn3
  have HI := Lib.hid hI
  clear h hn1 hn2 hn3 hI
  obtain ⟨s, hs⟩ : ∃ s : Int, s = if totE e ≤ 1048576 then 1048576 - (totE e : Int) else -1 := ⟨_, rfl⟩
  have HSZ := Lib.hid hs
  by_cases hl : totE e ≤ 1048576
  · have hs0 : ¬ s < 0 := by rw [hs, if_pos hl]; omega
    have HE := Lib.hid (enSz_of hl)
    obtain ⟨⟨r, tl, tb⟩, hT⟩ : ∃ x : Tpr, x = prsV e key hold := ⟨_, rfl⟩
    have hfacts := prsV_sz key hold HE.out
    rw [← hT] at hfacts
    obtain ⟨het, htl, htr, htq⟩ := hfacts
    replace het : EnSz r := het
    replace htl : tl.length ≤ 1048576 := htl
    replace htr : ∀ p ∈ tl, p.2.length ≤ 1000000000000 := htr
    replace htq : lenQ tl tl.length ≤ 1048576 := htq
    have HTT := Lib.hid hT
    have HET := Lib.hid het
    have HTL := Lib.hid htl
    have HTR := Lib.hid htr
    have HTQ := Lib.hid htq
    obtain ⟨nx, hnx⟩ : ∃ q : Int, q = 1 + (lenE e : Int) := ⟨_, rfl⟩
    obtain ⟨n1, hn1⟩ : ∃ q : Int, q = 1 + (lenE r : Int) := ⟨_, rfl⟩
    obtain ⟨n2, hn2⟩ : ∃ q : Int, q = n1 + (lenQ tl tl.length : Int) := ⟨_, rfl⟩
    have hnx0 : ¬ nx < 0 := by omega
    have hn10 : ¬ n1 < 0 := by omega
    have hn20 : ¬ n2 < 0 := by omega
    have hn11 : 0 ≤ n1 ∧ n1 ≤ 1000000000 := by have h1 := het.lt; have h2 := het.ft; have h3 := het.h; rw [hn1, lenE]; omega
    have HNX := Lib.hid hnx
    have HM1 := Lib.hid hn1
    have HM2 := Lib.hid hn2
    have HMB := Lib.hid hn11
    clear hnx hn1 hn2 hn11 hT het htl htr htq hs hl
    obtain ⟨w0, hw0⟩ : ∃ x, x = (w.alloc (.cells #[.int .i64 e.k, .slice ad1 e.L.length qd1, .slice ad2 e.F.length qd2, .int .i64 e.x, .slice ad3 e.H.length qd3, .int .i64 e.o, .bool e.p] 91)) := ⟨_, rfl⟩
    have HB0 := Lib.hid (show Below w.heap.size w w0 by rw [hw0]; exact (Below.refl _ _).alloc (Nat.le_refl _) _)
    have Kd_0 := Lib.hid (show w0.heap[w.heap.size]? = some (.cells #[.int .i64 e.k, .slice ad1 e.L.length qd1, .slice ad2 e.F.length qd2, .int .i64 e.x, .slice ad3 e.H.length qd3, .int .i64 e.o, .bool e.p] 91 (0, 0)) by rw [hw0]; exact heap_alloc_new w _)
    have SZ0 := Lib.hid (show w0.heap.size = w.heap.size + 1 by rw [hw0]; simp)
    have HW := Lib.hid hw0
    clear hw0
    go_enter Tryz.func10, Tryz.ntmps10
    have cd0 := (cells_of_heap Kd_0.out 0 (by simp)).1
    have cd1 := (cells_of_heap Kd_0.out 1 (by simp)).1
    have cd2 := (cells_of_heap Kd_0.out 2 (by simp)).1
    have cd3 := (cells_of_heap Kd_0.out 3 (by simp)).1
    have cd4 := (cells_of_heap Kd_0.out 4 (by simp)).1
    have cd5 := (cells_of_heap Kd_0.out 5 (by simp)).1
    have cd6 := (cells_of_heap Kd_0.out 6 (by simp)).1
    go_wp2_with fail
    rw [← HW.out]
    refine (szEngine_any e _ _ _ s HSZ.out _ HN1.out.1 HN1.out.2 HN2.out.1 HN2.out.2 HN3.out (HR.out.below HB0.out)).mono ?_
    rintro e w1 ⟨rfl, hb⟩
    clear cd0 cd1 cd2 cd3 cd4 cd5 cd6
    have HB1 := Lib.hid (HB0.out.trans (hb.mono HB0.out.size))
    have HS1 := Lib.hid hb.size
    have Kd_1 := Lib.hid (blk_below Kd_0.out hb)
    clear Kd_0
    clear hb
    have cd0 := (cells_of_heap Kd_1.out 0 (by simp)).1
    have cd1 := (cells_of_heap Kd_1.out 1 (by simp)).1
    have cd2 := (cells_of_heap Kd_1.out 2 (by simp)).1
    have cd3 := (cells_of_heap Kd_1.out 3 (by simp)).1
    have cd4 := (cells_of_heap Kd_1.out 4 (by simp)).1
    have cd5 := (cells_of_heap Kd_1.out 5 (by simp)).1
    have cd6 := (cells_of_heap Kd_1.out 6 (by simp)).1
    go_wp2_with fail
    refine (toEngine_any e _ _ _ _ HE.out (HR.out.below HB1.out)).mono ?_
    rintro e w2 ⟨at1, qt1, at2, qt2, at3, qt3, ft, rfl, ht, hb⟩
    clear cd0 cd1 cd2 cd3 cd4 cd5 cd6
    have HB2 := Lib.hid (HB1.out.trans (hb.mono HB1.out.size))
    have HS2 := Lib.hid hb.size
    have Kd_2 := Lib.hid (blk_below Kd_1.out hb)
    clear Kd_1
    have Rt := Lib.hid (ht.rng)
    have Ot_2 := Lib.hid ht
    clear hb ht
    go_wp2_with fail
    refine (specPress_any e _ _ _ key hold _ HE.out Ot_2.out.rd).mono ?_
    rw [← HTT.out]
    rintro e w3 ⟨aw1, qw1, aw2, qw2, aw3, qw3, fw, aw4, qw4, fwr, rfl, hw, hwr, hd, hb⟩
    have HB3 := Lib.hid (HB2.out.trans (hb.mono HB2.out.size))
    have HS3 := Lib.hid hb.size
    have Kd_3 := Lib.hid (blk_below Kd_2.out hb)
    have Ot_3 := Lib.hid (Ot_2.out.below hb)
    clear Kd_2 Ot_2
    have Rw := Lib.hid (hw.rng)
    have Ow_3 := Lib.hid hw
    have Rwr := Lib.hid (hwr.rng)
    have Owr_3 := Lib.hid hwr
    have Dw := Lib.hid hd
    clear hb hd hw hwr
    go_upto_region 6 with (fail)
    obtain ⟨w4, hw⟩ : ∃ x, x = w3.alloc (.cells #[.int .i64 r.k, .slice aw1 r.L.length qw1, .slice aw2 r.F.length qw2, .int .i64 r.x, .slice aw3 r.H.length qw3, .int .i64 r.o, .bool r.p] 30) := ⟨_, rfl⟩
    have hb : Below w3.heap.size w3 w4 := by rw [hw]; exact below_alloc1 _ _
    have hk : w4.heap[w3.heap.size]? = some (.cells #[.int .i64 r.k, .slice aw1 r.L.length qw1, .slice aw2 r.F.length qw2, .int .i64 r.x, .slice aw3 r.H.length qw3, .int .i64 r.o, .bool r.p] 30 (0, 0)) := by rw [hw]; exact heap_alloc_new _ _
    rw [← hw]
    have HB4 := Lib.hid (HB3.out.trans (hb.mono HB3.out.size))
    have HS4 := Lib.hid (show w3.heap.size < w4.heap.size from (Array.getElem?_eq_some_iff.mp hk).1)
    have Kd_4 := Lib.hid (blk_below Kd_3.out hb)
    have Ot_4 := Lib.hid (Ot_3.out.below hb)
    have Ow_4 := Lib.hid (Ow_3.out.below hb)
    have Owr_4 := Lib.hid (Owr_3.out.below hb)
    clear Kd_3 Ot_3 Ow_3 Owr_3
    have Kw_4 := Lib.hid hk
    clear hb hk hw
    have cd0 := (cells_of_heap Kd_4.out 0 (by simp)).1
    have cd1 := (cells_of_heap Kd_4.out 1 (by simp)).1
    have cd2 := (cells_of_heap Kd_4.out 2 (by simp)).1
    have cd3 := (cells_of_heap Kd_4.out 3 (by simp)).1
    have cd4 := (cells_of_heap Kd_4.out 4 (by simp)).1
    have cd5 := (cells_of_heap Kd_4.out 5 (by simp)).1
    have cd6 := (cells_of_heap Kd_4.out 6 (by simp)).1
    go_wp2_with fail
    refine (toEngine_any e _ _ _ _ HE.out (HR.out.below HB4.out)).mono ?_
    rintro e w5 ⟨ax1, qx1, ax2, qx2, ax3, qx3, fx, rfl, hx, hb⟩
    clear cd0 cd1 cd2 cd3 cd4 cd5 cd6
    have HB5 := Lib.hid (HB4.out.trans (hb.mono HB4.out.size))
    have HS5 := Lib.hid hb.size
    have Kd_5 := Lib.hid (blk_below Kd_4.out hb)
    have Kw_5 := Lib.hid (blk_below Kw_4.out hb)
    have Ot_5 := Lib.hid (Ot_4.out.below hb)
    have Ow_5 := Lib.hid (Ow_4.out.below hb)
    have Owr_5 := Lib.hid (Owr_4.out.below hb)
    clear Kd_4 Kw_4 Ot_4 Ow_4 Owr_4
    have Rx := Lib.hid (hx.rng)
    have Ox_5 := Lib.hid hx
    clear hb hx
    go_upto_region 7 with (fail)
    obtain ⟨w6, hw⟩ : ∃ x, x = w5.alloc (.cells #[.int .i64 e.k, .slice ax1 e.L.length qx1, .slice ax2 e.F.length qx2, .int .i64 e.x, .slice ax3 e.H.length qx3, .int .i64 e.o, .bool e.p] 30) := ⟨_, rfl⟩
    have hb : Below w5.heap.size w5 w6 := by rw [hw]; exact below_alloc1 _ _
    have hk : w6.heap[w5.heap.size]? = some (.cells #[.int .i64 e.k, .slice ax1 e.L.length qx1, .slice ax2 e.F.length qx2, .int .i64 e.x, .slice ax3 e.H.length qx3, .int .i64 e.o, .bool e.p] 30 (0, 0)) := by rw [hw]; exact heap_alloc_new _ _
    rw [← hw]
    have HB6 := Lib.hid (HB5.out.trans (hb.mono HB5.out.size))
    have HS6 := Lib.hid (show w5.heap.size < w6.heap.size from (Array.getElem?_eq_some_iff.mp hk).1)
    have Kd_6 := Lib.hid (blk_below Kd_5.out hb)
    have Kw_6 := Lib.hid (blk_below Kw_5.out hb)
    have Ot_6 := Lib.hid (Ot_5.out.below hb)
    have Ow_6 := Lib.hid (Ow_5.out.below hb)
    have Owr_6 := Lib.hid (Owr_5.out.below hb)
    have Ox_6 := Lib.hid (Ox_5.out.below hb)
    clear Kd_5 Kw_5 Ot_5 Ow_5 Owr_5 Ox_5
    have Kx_6 := Lib.hid hk
    clear hb hk hw
    have cx0 := (cells_of_heap Kx_6.out 0 (by simp)).1
    have cx1 := (cells_of_heap Kx_6.out 1 (by simp)).1
    have cx2 := (cells_of_heap Kx_6.out 2 (by simp)).1
    have cx3 := (cells_of_heap Kx_6.out 3 (by simp)).1
    have cx4 := (cells_of_heap Kx_6.out 4 (by simp)).1
    have cx5 := (cells_of_heap Kx_6.out 5 (by simp)).1
    have cx6 := (cells_of_heap Kx_6.out 6 (by simp)).1
    go_wp2_with fail
    refine (HI.out _ _ _ _ HE.out HB6.out Ox_6.out.rd).mono ?_
    rw [← HTT.out]
    rintro e w7 ⟨ag1, qg1, ag2, qg2, ag3, qg3, fg, ag4, qg4, fgr, rfl, hg, hgr, hd, hb⟩
    clear cx0 cx1 cx2 cx3 cx4 cx5 cx6
    have HB7 := Lib.hid (HB6.out.trans (hb.mono HB6.out.size))
    have HS7 := Lib.hid hb.size
    have Kd_7 := Lib.hid (blk_below Kd_6.out hb)
    have Kw_7 := Lib.hid (blk_below Kw_6.out hb)
    have Kx_7 := Lib.hid (blk_below Kx_6.out hb)
    have Ot_7 := Lib.hid (Ot_6.out.below hb)
    have Ow_7 := Lib.hid (Ow_6.out.below hb)
    have Owr_7 := Lib.hid (Owr_6.out.below hb)
    have Ox_7 := Lib.hid (Ox_6.out.below hb)
    clear Kd_6 Kw_6 Kx_6 Ot_6 Ow_6 Owr_6 Ox_6
    have Rg := Lib.hid (hg.rng)
    have Og_7 := Lib.hid hg
    have Rgr := Lib.hid (hgr.rng)
    have Ogr_7 := Lib.hid hgr
    have Dg := Lib.hid hd
    clear hb hd hg hgr
    go_upto_region 8 with (fail)
    obtain ⟨w8, hw⟩ : ∃ x, x = w7.alloc (.cells #[.int .i64 r.k, .slice ag1 r.L.length qg1, .slice ag2 r.F.length qg2, .int .i64 r.x, .slice ag3 r.H.length qg3, .int .i64 r.o, .bool r.p] 30) := ⟨_, rfl⟩
    have hb : Below w7.heap.size w7 w8 := by rw [hw]; exact below_alloc1 _ _
    have hk : w8.heap[w7.heap.size]? = some (.cells #[.int .i64 r.k, .slice ag1 r.L.length qg1, .slice ag2 r.F.length qg2, .int .i64 r.x, .slice ag3 r.H.length qg3, .int .i64 r.o, .bool r.p] 30 (0, 0)) := by rw [hw]; exact heap_alloc_new _ _
    rw [← hw]
    have HB8 := Lib.hid (HB7.out.trans (hb.mono HB7.out.size))
    have HS8 := Lib.hid (show w7.heap.size < w8.heap.size from (Array.getElem?_eq_some_iff.mp hk).1)
    have Kd_8 := Lib.hid (blk_below Kd_7.out hb)
    have Kw_8 := Lib.hid (blk_below Kw_7.out hb)
    have Kx_8 := Lib.hid (blk_below Kx_7.out hb)
    have Ot_8 := Lib.hid (Ot_7.out.below hb)
    have Ow_8 := Lib.hid (Ow_7.out.below hb)
    have Owr_8 := Lib.hid (Owr_7.out.below hb)
    have Ox_8 := Lib.hid (Ox_7.out.below hb)
    have Og_8 := Lib.hid (Og_7.out.below hb)
    have Ogr_8 := Lib.hid (Ogr_7.out.below hb)
    clear Kd_7 Kw_7 Kx_7 Ot_7 Ow_7 Owr_7 Ox_7 Og_7 Ogr_7
    have Kg_8 := Lib.hid hk
    clear hb hk hw
    have cg0 := (cells_of_heap Kg_8.out 0 (by simp)).1
    have cg1 := (cells_of_heap Kg_8.out 1 (by simp)).1
    have cg2 := (cells_of_heap Kg_8.out 2 (by simp)).1
    have cg3 := (cells_of_heap Kg_8.out 3 (by simp)).1
    have cg4 := (cells_of_heap Kg_8.out 4 (by simp)).1
    have cg5 := (cells_of_heap Kg_8.out 5 (by simp)).1
    have cg6 := (cells_of_heap Kg_8.out 6 (by simp)).1
    have cw0 := (cells_of_heap Kw_8.out 0 (by simp)).1
    have cw1 := (cells_of_heap Kw_8.out 1 (by simp)).1
    have cw2 := (cells_of_heap Kw_8.out 2 (by simp)).1
    have cw3 := (cells_of_heap Kw_8.out 3 (by simp)).1
    have cw4 := (cells_of_heap Kw_8.out 4 (by simp)).1
    have cw5 := (cells_of_heap Kw_8.out 5 (by simp)).1
    have cw6 := (cells_of_heap Kw_8.out 6 (by simp)).1
    go_wp2_with fail
    refine (eqEngine_same r _ _ _ _ _ _ _ HET.out Og_8.out.rd Ow_8.out.rd).mono ?_
    rintro e w9 ⟨rfl, hb⟩
    clear cg0 cg1 cg2 cg3 cg4 cg5 cg6 cw0 cw1 cw2 cw3 cw4 cw5 cw6
    have HB9 := Lib.hid (HB8.out.trans (hb.mono HB8.out.size))
    have HS9 := Lib.hid hb.size
    have Kd_9 := Lib.hid (blk_below Kd_8.out hb)
    have Kw_9 := Lib.hid (blk_below Kw_8.out hb)
    have Kx_9 := Lib.hid (blk_below Kx_8.out hb)
    have Kg_9 := Lib.hid (blk_below Kg_8.out hb)
    have Ot_9 := Lib.hid (Ot_8.out.below hb)
    have Ow_9 := Lib.hid (Ow_8.out.below hb)
    have Owr_9 := Lib.hid (Owr_8.out.below hb)
    have Ox_9 := Lib.hid (Ox_8.out.below hb)
    have Og_9 := Lib.hid (Og_8.out.below hb)
    have Ogr_9 := Lib.hid (Ogr_8.out.below hb)
    clear Kd_8 Kw_8 Kx_8 Kg_8 Ot_8 Ow_8 Owr_8 Ox_8 Og_8 Ogr_8
    clear hb
    go_wp2_with fail
    refine (eqReportS_same _ _ tl _ (Nat.le_trans HTL.out (by decide)) HTR.out Ogr_9.out.rd Owr_9.out.rd).mono ?_
    rintro e w10 ⟨rfl, hb⟩
    have HB10 := Lib.hid (HB9.out.trans (hb.mono HB9.out.size))
    have HS10 := Lib.hid hb.size
    have Kd_10 := Lib.hid (blk_below Kd_9.out hb)
    have Kw_10 := Lib.hid (blk_below Kw_9.out hb)
    have Kx_10 := Lib.hid (blk_below Kx_9.out hb)
    have Kg_10 := Lib.hid (blk_below Kg_9.out hb)
    have Ot_10 := Lib.hid (Ot_9.out.below hb)
    have Ow_10 := Lib.hid (Ow_9.out.below hb)
    have Owr_10 := Lib.hid (Owr_9.out.below hb)
    have Ox_10 := Lib.hid (Ox_9.out.below hb)
    have Og_10 := Lib.hid (Og_9.out.below hb)
    have Ogr_10 := Lib.hid (Ogr_9.out.below hb)
    clear Kd_9 Kw_9 Kx_9 Kg_9 Ot_9 Ow_9 Owr_9 Ox_9 Og_9 Ogr_9
    clear hb
    go_upto_region 10 with (fail)
    go_cut [64] (fun sd wx => sd = .bool false ∧ Below w10.heap.size w10 wx)
    case first =>
      have cd0 := (cells_of_heap Kd_10.out 0 (by simp)).1
      have cd1 := (cells_of_heap Kd_10.out 1 (by simp)).1
      have cd2 := (cells_of_heap Kd_10.out 2 (by simp)).1
      have cd3 := (cells_of_heap Kd_10.out 3 (by simp)).1
      have cd4 := (cells_of_heap Kd_10.out 4 (by simp)).1
      have cd5 := (cells_of_heap Kd_10.out 5 (by simp)).1
      have cd6 := (cells_of_heap Kd_10.out 6 (by simp)).1
      have cx0 := (cells_of_heap Kx_10.out 0 (by simp)).1
      have cx1 := (cells_of_heap Kx_10.out 1 (by simp)).1
      have cx2 := (cells_of_heap Kx_10.out 2 (by simp)).1
      have cx3 := (cells_of_heap Kx_10.out 3 (by simp)).1
      have cx4 := (cells_of_heap Kx_10.out 4 (by simp)).1
      have cx5 := (cells_of_heap Kx_10.out 5 (by simp)).1
      have cx6 := (cells_of_heap Kx_10.out 6 (by simp)).1
      have ld : w.heap.size < w10.heap.size := (Array.getElem?_eq_some_iff.mp Kd_10.out).1
      have lx : w5.heap.size < w10.heap.size := (Array.getElem?_eq_some_iff.mp Kx_10.out).1
      go_region_held3 (fun w' => w'.cell? ⟨w.heap.size, 0, none⟩ = some (.int .i64 e.k) ∧ w'.cell? ⟨w.heap.size, 1, none⟩ = some (.slice ad1 e.L.length qd1) ∧ w'.cell? ⟨w.heap.size, 2, none⟩ = some (.slice ad2 e.F.length qd2) ∧ w'.cell? ⟨w.heap.size, 3, none⟩ = some (.int .i64 e.x) ∧ w'.cell? ⟨w.heap.size, 4, none⟩ = some (.slice ad3 e.H.length qd3) ∧ w'.cell? ⟨w.heap.size, 5, none⟩ = some (.int .i64 e.o) ∧ w'.cell? ⟨w.heap.size, 6, none⟩ = some (.bool e.p) ∧ w'.cell? ⟨w5.heap.size, 0, none⟩ = some (.int .i64 e.k) ∧ w'.cell? ⟨w5.heap.size, 1, none⟩ = some (.slice ax1 e.L.length qx1) ∧ w'.cell? ⟨w5.heap.size, 2, none⟩ = some (.slice ax2 e.F.length qx2) ∧ w'.cell? ⟨w5.heap.size, 3, none⟩ = some (.int .i64 e.x) ∧ w'.cell? ⟨w5.heap.size, 4, none⟩ = some (.slice ax3 e.H.length qx3) ∧ w'.cell? ⟨w5.heap.size, 5, none⟩ = some (.int .i64 e.o) ∧ w'.cell? ⟨w5.heap.size, 6, none⟩ = some (.bool e.p)) (first | go_keep)
        (first | (go_at_call 48; refine (toEngine_any e _ _ _ _ HE.out (HR.out.below (by first | exact HB10.out | exact HB10.out.drew | exact HB10.out.drew.drew))).mono ?_; rintro e v1 ⟨ay1, qy1, ay2, qy2, ay3, qy3, fy, rfl, hy, hb1⟩; have hbr : Below w10.heap.size w10 v1 := (by first | exact hb1 | exact ((Below.refl _ _).drew).trans hb1 | exact ((Below.refl _ _).drew.drew).trans hb1); have kcd0 := (hbr.cell (p := ⟨w.heap.size, 0, none⟩) ld).trans cd0; have kcd1 := (hbr.cell (p := ⟨w.heap.size, 1, none⟩) ld).trans cd1; have kcd2 := (hbr.cell (p := ⟨w.heap.size, 2, none⟩) ld).trans cd2; have kcd3 := (hbr.cell (p := ⟨w.heap.size, 3, none⟩) ld).trans cd3; have kcd4 := (hbr.cell (p := ⟨w.heap.size, 4, none⟩) ld).trans cd4; have kcd5 := (hbr.cell (p := ⟨w.heap.size, 5, none⟩) ld).trans cd5; have kcd6 := (hbr.cell (p := ⟨w.heap.size, 6, none⟩) ld).trans cd6; have kcx0 := (hbr.cell (p := ⟨w5.heap.size, 0, none⟩) lx).trans cx0; have kcx1 := (hbr.cell (p := ⟨w5.heap.size, 1, none⟩) lx).trans cx1; have kcx2 := (hbr.cell (p := ⟨w5.heap.size, 2, none⟩) lx).trans cx2; have kcx3 := (hbr.cell (p := ⟨w5.heap.size, 3, none⟩) lx).trans cx3; have kcx4 := (hbr.cell (p := ⟨w5.heap.size, 4, none⟩) lx).trans cx4; have kcx5 := (hbr.cell (p := ⟨w5.heap.size, 5, none⟩) lx).trans cx5; have kcx6 := (hbr.cell (p := ⟨w5.heap.size, 6, none⟩) lx).trans cx6; have HBR := Lib.hid hbr; have HY := Lib.hid hy; clear hbr hb1 hy) | (go_at_call 49; refine (eqEngine_same e _ _ _ _ _ _ _ HE.out (Ox_10.out.rd.below (by first | exact HBR.out | exact HBR.out.drew | exact HBR.out.drew.drew)) (HY.out.rd.below (by first | exact Below.refl _ _ | exact (Below.refl _ _).drew | exact (Below.refl _ _).drew.drew))).mono ?_; rintro e v2 ⟨rfl, hb2⟩; have hbr : Below w10.heap.size w10 v2 := (by first | exact HBR.out.trans (hb2.mono HBR.out.size) | exact HBR.out.trans (((Below.refl _ _).drew.trans hb2).mono HBR.out.size) | exact HBR.out.trans (((Below.refl _ _).drew.drew.trans hb2).mono HBR.out.size)); have kcd0 := (hbr.cell (p := ⟨w.heap.size, 0, none⟩) ld).trans cd0; have kcd1 := (hbr.cell (p := ⟨w.heap.size, 1, none⟩) ld).trans cd1; have kcd2 := (hbr.cell (p := ⟨w.heap.size, 2, none⟩) ld).trans cd2; have kcd3 := (hbr.cell (p := ⟨w.heap.size, 3, none⟩) ld).trans cd3; have kcd4 := (hbr.cell (p := ⟨w.heap.size, 4, none⟩) ld).trans cd4; have kcd5 := (hbr.cell (p := ⟨w.heap.size, 5, none⟩) ld).trans cd5; have kcd6 := (hbr.cell (p := ⟨w.heap.size, 6, none⟩) ld).trans cd6; have kcx0 := (hbr.cell (p := ⟨w5.heap.size, 0, none⟩) lx).trans cx0; have kcx1 := (hbr.cell (p := ⟨w5.heap.size, 1, none⟩) lx).trans cx1; have kcx2 := (hbr.cell (p := ⟨w5.heap.size, 2, none⟩) lx).trans cx2; have kcx3 := (hbr.cell (p := ⟨w5.heap.size, 3, none⟩) lx).trans cx3; have kcx4 := (hbr.cell (p := ⟨w5.heap.size, 4, none⟩) lx).trans cx4; have kcx5 := (hbr.cell (p := ⟨w5.heap.size, 5, none⟩) lx).trans cx5; have kcx6 := (hbr.cell (p := ⟨w5.heap.size, 6, none⟩) lx).trans cx6; have HB2 := Lib.hid hbr; clear hbr hb2))
      all_goals
        go_wp2
        go_meet
        exact ⟨rfl, by first | exact HB2.out | exact HB2.out.drew⟩
    case rest =>
      obtain ⟨rfl, hb⟩ := hcut
      obtain ⟨w11, hw⟩ : ∃ x, x = wc := ⟨_, rfl⟩
      rw [← hw] at hb ⊢
      clear hw
      have HB11 := Lib.hid (HB10.out.trans (hb.mono HB10.out.size))
      have HS11 := Lib.hid hb.size
      have Kd_11 := Lib.hid (blk_below Kd_10.out hb)
      have Kw_11 := Lib.hid (blk_below Kw_10.out hb)
      have Kx_11 := Lib.hid (blk_below Kx_10.out hb)
      have Kg_11 := Lib.hid (blk_below Kg_10.out hb)
      have Ot_11 := Lib.hid (Ot_10.out.below hb)
      have Ow_11 := Lib.hid (Ow_10.out.below hb)
      have Owr_11 := Lib.hid (Owr_10.out.below hb)
      have Ox_11 := Lib.hid (Ox_10.out.below hb)
      have Og_11 := Lib.hid (Og_10.out.below hb)
      have Ogr_11 := Lib.hid (Ogr_10.out.below hb)
      clear Kd_10 Kw_10 Kx_10 Kg_10 Ot_10 Ow_10 Owr_10 Ox_10 Og_10 Ogr_10
      clear hb
      have cx0 := (cells_of_heap Kx_11.out 0 (by simp)).1
      have cx1 := (cells_of_heap Kx_11.out 1 (by simp)).1
      have cx2 := (cells_of_heap Kx_11.out 2 (by simp)).1
      have cx3 := (cells_of_heap Kx_11.out 3 (by simp)).1
      have cx4 := (cells_of_heap Kx_11.out 4 (by simp)).1
      have cx5 := (cells_of_heap Kx_11.out 5 (by simp)).1
      have cx6 := (cells_of_heap Kx_11.out 6 (by simp)).1
      go_wp2_with fail
      refine (markEngine_own _ e _ _ _ _ 1 nx HNX.out _ HE.out (by decide) (by decide) Ox_11.out).mono ?_
      rintro e w12 ⟨rfl, ho, ht⟩
      clear cx0 cx1 cx2 cx3 cx4 cx5 cx6
      have HB12 := Lib.hid (HB11.out.trans (ht.below (fun b hb => by have := Rx.out b hb; have := HB4.out.size; omega) HB11.out.size))
      have HS12 := Lib.hid ht.size
      have Kd_12 := Lib.hid (blk_turn Kd_11.out ht (fun hm => by have := Rx.out _ hm; have := HS1.out; have := HS2.out; have := HS3.out; have := HS4.out; have := SZ0.out; omega))
      have Kw_12 := Lib.hid (blk_turn Kw_11.out ht (fun hm => by have := Rx.out _ hm; have := HS4.out; have := SZ0.out; omega))
      have Kx_12 := Lib.hid (blk_turn Kx_11.out ht (fun hm => by have := Rx.out _ hm; have := SZ0.out; omega))
      have Kg_12 := Lib.hid (blk_turn Kg_11.out ht (fun hm => by have := Rx.out _ hm; have := HS6.out; have := HS7.out; have := SZ0.out; omega))
      have Ot_12 := Lib.hid (Ot_11.out.turn ht (fun b hb hb' => by have := Rx.out b hb'; have := Rt.out b hb; have := HS3.out; have := HS4.out; have := SZ0.out; omega))
      have Ow_12 := Lib.hid (Ow_11.out.turn ht (fun b hb hb' => by have := Rx.out b hb'; have := Rw.out b hb; have := HS4.out; have := SZ0.out; omega))
      have Owr_12 := Lib.hid (Owr_11.out.turn ht (fun b hb hb' => by have := Rx.out b hb'; have := Rwr.out b hb; have := HS4.out; have := SZ0.out; omega))
      have Og_12 := Lib.hid (Og_11.out.turn ht (fun b hb hb' => by have := Rx.out b hb'; have := Rg.out b hb; have := HS6.out; have := SZ0.out; omega))
      have Ogr_12 := Lib.hid (Ogr_11.out.turn ht (fun b hb hb' => by have := Rx.out b hb'; have := Rgr.out b hb; have := HS6.out; have := SZ0.out; omega))
      have Ox_12 := Lib.hid ho
      clear ho ht Kd_11 Kw_11 Kx_11 Kg_11 Ot_11 Ow_11 Owr_11 Ox_11 Og_11 Ogr_11
      have cg0 := (cells_of_heap Kg_12.out 0 (by simp)).1
      have cg1 := (cells_of_heap Kg_12.out 1 (by simp)).1
      have cg2 := (cells_of_heap Kg_12.out 2 (by simp)).1
      have cg3 := (cells_of_heap Kg_12.out 3 (by simp)).1
      have cg4 := (cells_of_heap Kg_12.out 4 (by simp)).1
      have cg5 := (cells_of_heap Kg_12.out 5 (by simp)).1
      have cg6 := (cells_of_heap Kg_12.out 6 (by simp)).1
      have cw0 := (cells_of_heap Kw_12.out 0 (by simp)).1
      have cw1 := (cells_of_heap Kw_12.out 1 (by simp)).1
      have cw2 := (cells_of_heap Kw_12.out 2 (by simp)).1
      have cw3 := (cells_of_heap Kw_12.out 3 (by simp)).1
      have cw4 := (cells_of_heap Kw_12.out 4 (by simp)).1
      have cw5 := (cells_of_heap Kw_12.out 5 (by simp)).1
      have cw6 := (cells_of_heap Kw_12.out 6 (by simp)).1
      go_wp2_with fail
      refine (eqEngine_same r _ _ _ _ _ _ _ HET.out Og_12.out.rd Ow_12.out.rd).mono ?_
      rintro e w13 ⟨rfl, hb⟩
      clear cg0 cg1 cg2 cg3 cg4 cg5 cg6 cw0 cw1 cw2 cw3 cw4 cw5 cw6
      have HB13 := Lib.hid (HB12.out.trans (hb.mono HB12.out.size))
      have HS13 := Lib.hid hb.size
      have Kd_13 := Lib.hid (blk_below Kd_12.out hb)
      have Kw_13 := Lib.hid (blk_below Kw_12.out hb)
      have Kx_13 := Lib.hid (blk_below Kx_12.out hb)
      have Kg_13 := Lib.hid (blk_below Kg_12.out hb)
      have Ot_13 := Lib.hid (Ot_12.out.below hb)
      have Ow_13 := Lib.hid (Ow_12.out.below hb)
      have Owr_13 := Lib.hid (Owr_12.out.below hb)
      have Ox_13 := Lib.hid (Ox_12.out.below hb)
      have Og_13 := Lib.hid (Og_12.out.below hb)
      have Ogr_13 := Lib.hid (Ogr_12.out.below hb)
      clear Kd_12 Kw_12 Kx_12 Kg_12 Ot_12 Ow_12 Owr_12 Ox_12 Og_12 Ogr_12
      clear hb
      go_wp2_with fail
      refine (eqReportS_same _ _ tl _ (Nat.le_trans HTL.out (by decide)) HTR.out Ogr_13.out.rd Owr_13.out.rd).mono ?_
      rintro e w14 ⟨rfl, hb⟩
      have HB14 := Lib.hid (HB13.out.trans (hb.mono HB13.out.size))
      have HS14 := Lib.hid hb.size
      have Kd_14 := Lib.hid (blk_below Kd_13.out hb)
      have Kw_14 := Lib.hid (blk_below Kw_13.out hb)
      have Kx_14 := Lib.hid (blk_below Kx_13.out hb)
      have Kg_14 := Lib.hid (blk_below Kg_13.out hb)
      have Ot_14 := Lib.hid (Ot_13.out.below hb)
      have Ow_14 := Lib.hid (Ow_13.out.below hb)
      have Owr_14 := Lib.hid (Owr_13.out.below hb)
      have Ox_14 := Lib.hid (Ox_13.out.below hb)
      have Og_14 := Lib.hid (Og_13.out.below hb)
      have Ogr_14 := Lib.hid (Ogr_13.out.below hb)
      clear Kd_13 Kw_13 Kx_13 Kg_13 Ot_13 Ow_13 Owr_13 Ox_13 Og_13 Ogr_13
      clear hb
      have cg0 := (cells_of_heap Kg_14.out 0 (by simp)).1
      have cg1 := (cells_of_heap Kg_14.out 1 (by simp)).1
      have cg2 := (cells_of_heap Kg_14.out 2 (by simp)).1
      have cg3 := (cells_of_heap Kg_14.out 3 (by simp)).1
      have cg4 := (cells_of_heap Kg_14.out 4 (by simp)).1
      have cg5 := (cells_of_heap Kg_14.out 5 (by simp)).1
      have cg6 := (cells_of_heap Kg_14.out 6 (by simp)).1
      go_wp2_with fail
      refine (markEngine_own _ r _ _ _ _ 1 n1 HM1.out _ HET.out (by decide) (by decide) Og_14.out).mono ?_
      rintro e w15 ⟨rfl, ho, ht⟩
      clear cg0 cg1 cg2 cg3 cg4 cg5 cg6
      have HB15 := Lib.hid (HB14.out.trans (ht.below (fun b hb => by have := Rg.out b hb; have := HB6.out.size; omega) HB14.out.size))
      have HS15 := Lib.hid ht.size
      have Kd_15 := Lib.hid (blk_turn Kd_14.out ht (fun hm => by have := Rg.out _ hm; have := HS1.out; have := HS2.out; have := HS3.out; have := HS4.out; have := HS5.out; have := HS6.out; have := SZ0.out; omega))
      have Kw_15 := Lib.hid (blk_turn Kw_14.out ht (fun hm => by have := Rg.out _ hm; have := HS4.out; have := HS5.out; have := HS6.out; have := SZ0.out; omega))
      have Kx_15 := Lib.hid (blk_turn Kx_14.out ht (fun hm => by have := Rg.out _ hm; have := HS6.out; have := SZ0.out; omega))
      have Kg_15 := Lib.hid (blk_turn Kg_14.out ht (fun hm => by have := Rg.out _ hm; have := SZ0.out; omega))
      have Ot_15 := Lib.hid (Ot_14.out.turn ht (fun b hb hb' => by have := Rg.out b hb'; have := Rt.out b hb; have := HS3.out; have := HS4.out; have := HS5.out; have := HS6.out; have := SZ0.out; omega))
      have Ow_15 := Lib.hid (Ow_14.out.turn ht (fun b hb hb' => by have := Rg.out b hb'; have := Rw.out b hb; have := HS4.out; have := HS5.out; have := HS6.out; have := SZ0.out; omega))
      have Owr_15 := Lib.hid (Owr_14.out.turn ht (fun b hb hb' => by have := Rg.out b hb'; have := Rwr.out b hb; have := HS4.out; have := HS5.out; have := HS6.out; have := SZ0.out; omega))
      have Ox_15 := Lib.hid (Ox_14.out.turn ht (fun b hb hb' => by have := Rg.out b hb'; have := Rx.out b hb; have := HS6.out; have := SZ0.out; omega))
      have Ogr_15 := Lib.hid (Ogr_14.out.turn ht (fun b hb hb' => Dg.out b hb' hb))
      have Og_15 := Lib.hid ho
      clear ho ht Kd_14 Kw_14 Kx_14 Kg_14 Ot_14 Ow_14 Owr_14 Ox_14 Og_14 Ogr_14
      go_wp2_with fail
      refine (markReportS_q _ _ tl _ n1 n2 HM2.out _ HTL.out HTQ.out HMB.out.1 HMB.out.2 Ogr_15.out).mono ?_
      rintro e w16 ⟨rfl, ho, ht⟩
      have HB16 := Lib.hid (HB15.out.trans (ht.below (fun b hb => by have := Rgr.out b hb; have := HB6.out.size; omega) HB15.out.size))
      have HS16 := Lib.hid ht.size
      have Kd_16 := Lib.hid (blk_turn Kd_15.out ht (fun hm => by have := Rgr.out _ hm; have := HS1.out; have := HS2.out; have := HS3.out; have := HS4.out; have := HS5.out; have := HS6.out; have := SZ0.out; omega))
      have Kw_16 := Lib.hid (blk_turn Kw_15.out ht (fun hm => by have := Rgr.out _ hm; have := HS4.out; have := HS5.out; have := HS6.out; have := SZ0.out; omega))
      have Kx_16 := Lib.hid (blk_turn Kx_15.out ht (fun hm => by have := Rgr.out _ hm; have := HS6.out; have := SZ0.out; omega))
      have Kg_16 := Lib.hid (blk_turn Kg_15.out ht (fun hm => by have := Rgr.out _ hm; have := SZ0.out; omega))
      have Ot_16 := Lib.hid (Ot_15.out.turn ht (fun b hb hb' => by have := Rgr.out b hb'; have := Rt.out b hb; have := HS3.out; have := HS4.out; have := HS5.out; have := HS6.out; have := SZ0.out; omega))
      have Ow_16 := Lib.hid (Ow_15.out.turn ht (fun b hb hb' => by have := Rgr.out b hb'; have := Rw.out b hb; have := HS4.out; have := HS5.out; have := HS6.out; have := SZ0.out; omega))
      have Owr_16 := Lib.hid (Owr_15.out.turn ht (fun b hb hb' => by have := Rgr.out b hb'; have := Rwr.out b hb; have := HS4.out; have := HS5.out; have := HS6.out; have := SZ0.out; omega))
      have Ox_16 := Lib.hid (Ox_15.out.turn ht (fun b hb hb' => by have := Rgr.out b hb'; have := Rx.out b hb; have := HS6.out; have := SZ0.out; omega))
      have Og_16 := Lib.hid (Og_15.out.turn ht Dg.out)
      have Ogr_16 := Lib.hid ho
      clear ho ht Kd_15 Kw_15 Kx_15 Kg_15 Ot_15 Ow_15 Owr_15 Ox_15 Og_15 Ogr_15
      have cg0 := (cells_of_heap Kg_16.out 0 (by simp)).1
      have cg1 := (cells_of_heap Kg_16.out 1 (by simp)).1
      have cg2 := (cells_of_heap Kg_16.out 2 (by simp)).1
      have cg3 := (cells_of_heap Kg_16.out 3 (by simp)).1
      have cg4 := (cells_of_heap Kg_16.out 4 (by simp)).1
      have cg5 := (cells_of_heap Kg_16.out 5 (by simp)).1
      have cg6 := (cells_of_heap Kg_16.out 6 (by simp)).1
      go_wp2_with fail
      refine (heldEngine_any r _ _ _ 1 n1 HM1.out _ HET.out (by decide) (by decide) Og_16.out.rd).mono ?_
      rintro e w17 ⟨rfl, hb⟩
      clear cg0 cg1 cg2 cg3 cg4 cg5 cg6
      have HB17 := Lib.hid (HB16.out.trans (hb.mono HB16.out.size))
      have HS17 := Lib.hid hb.size
      have Kd_17 := Lib.hid (blk_below Kd_16.out hb)
      have Kw_17 := Lib.hid (blk_below Kw_16.out hb)
      have Kx_17 := Lib.hid (blk_below Kx_16.out hb)
      have Kg_17 := Lib.hid (blk_below Kg_16.out hb)
      have Ot_17 := Lib.hid (Ot_16.out.below hb)
      have Ow_17 := Lib.hid (Ow_16.out.below hb)
      have Owr_17 := Lib.hid (Owr_16.out.below hb)
      have Ox_17 := Lib.hid (Ox_16.out.below hb)
      have Og_17 := Lib.hid (Og_16.out.below hb)
      have Ogr_17 := Lib.hid (Ogr_16.out.below hb)
      clear Kd_16 Kw_16 Kx_16 Kg_16 Ot_16 Ow_16 Owr_16 Ox_16 Og_16 Ogr_16
      clear hb
      go_wp2_with fail
      refine (heldReportS_q _ tl n1 n2 HM2.out _ HTL.out HTQ.out HMB.out.1 HMB.out.2 Ogr_17.out.rd).mono ?_
      rintro e v0 ⟨rfl, rfl⟩
      have cd0 := (cells_of_heap Kd_17.out 0 (by simp)).1
      have cd1 := (cells_of_heap Kd_17.out 1 (by simp)).1
      have cd2 := (cells_of_heap Kd_17.out 2 (by simp)).1
      have cd3 := (cells_of_heap Kd_17.out 3 (by simp)).1
      have cd4 := (cells_of_heap Kd_17.out 4 (by simp)).1
      have cd5 := (cells_of_heap Kd_17.out 5 (by simp)).1
      have cd6 := (cells_of_heap Kd_17.out 6 (by simp)).1
      go_wp2_with fail
      refine (toEngine_any e _ _ _ _ HE.out (HR.out.below HB17.out)).mono ?_
      rintro e w18 ⟨asa1, qsa1, asa2, qsa2, asa3, qsa3, fsa, rfl, hsa, hb⟩
      clear cd0 cd1 cd2 cd3 cd4 cd5 cd6
      have HB18 := Lib.hid (HB17.out.trans (hb.mono HB17.out.size))
      have HS18 := Lib.hid hb.size
      have Kd_18 := Lib.hid (blk_below Kd_17.out hb)
      have Kw_18 := Lib.hid (blk_below Kw_17.out hb)
      have Kx_18 := Lib.hid (blk_below Kx_17.out hb)
      have Kg_18 := Lib.hid (blk_below Kg_17.out hb)
      have Ot_18 := Lib.hid (Ot_17.out.below hb)
      have Ow_18 := Lib.hid (Ow_17.out.below hb)
      have Owr_18 := Lib.hid (Owr_17.out.below hb)
      have Ox_18 := Lib.hid (Ox_17.out.below hb)
      have Og_18 := Lib.hid (Og_17.out.below hb)
      have Ogr_18 := Lib.hid (Ogr_17.out.below hb)
      clear Kd_17 Kw_17 Kx_17 Kg_17 Ot_17 Ow_17 Owr_17 Ox_17 Og_17 Ogr_17
      have Rsa := Lib.hid (hsa.rng)
      have Osa_18 := Lib.hid hsa
      clear hb hsa
      go_wp2_with fail
      refine (HI.out _ _ _ _ HE.out HB18.out Osa_18.out.rd).mono ?_
      rw [← HTT.out]
      rintro e w19 ⟨ah1, qh1, ah2, qh2, ah3, qh3, fh, ah4, qh4, fhr, rfl, hh, hhr, hd, hb⟩
      have HB19 := Lib.hid (HB18.out.trans (hb.mono HB18.out.size))
      have HS19 := Lib.hid hb.size
      have Kd_19 := Lib.hid (blk_below Kd_18.out hb)
      have Kw_19 := Lib.hid (blk_below Kw_18.out hb)
      have Kx_19 := Lib.hid (blk_below Kx_18.out hb)
      have Kg_19 := Lib.hid (blk_below Kg_18.out hb)
      have Ot_19 := Lib.hid (Ot_18.out.below hb)
      have Ow_19 := Lib.hid (Ow_18.out.below hb)
      have Owr_19 := Lib.hid (Owr_18.out.below hb)
      have Ox_19 := Lib.hid (Ox_18.out.below hb)
      have Og_19 := Lib.hid (Og_18.out.below hb)
      have Ogr_19 := Lib.hid (Ogr_18.out.below hb)
      have Osa_19 := Lib.hid (Osa_18.out.below hb)
      clear Kd_18 Kw_18 Kx_18 Kg_18 Ot_18 Ow_18 Owr_18 Ox_18 Og_18 Ogr_18 Osa_18
      have Rh := Lib.hid (hh.rng)
      have Oh_19 := Lib.hid hh
      have Rhr := Lib.hid (hhr.rng)
      have Ohr_19 := Lib.hid hhr
      have Dh := Lib.hid hd
      clear hb hd hh hhr
      go_upto_region 29 with (fail)
      obtain ⟨w20, hw⟩ : ∃ x, x = w19.alloc (.cells #[.int .i64 r.k, .slice ah1 r.L.length qh1, .slice ah2 r.F.length qh2, .int .i64 r.x, .slice ah3 r.H.length qh3, .int .i64 r.o, .bool r.p] 30) := ⟨_, rfl⟩
      have hb : Below w19.heap.size w19 w20 := by rw [hw]; exact below_alloc1 _ _
      have hk : w20.heap[w19.heap.size]? = some (.cells #[.int .i64 r.k, .slice ah1 r.L.length qh1, .slice ah2 r.F.length qh2, .int .i64 r.x, .slice ah3 r.H.length qh3, .int .i64 r.o, .bool r.p] 30 (0, 0)) := by rw [hw]; exact heap_alloc_new _ _
      rw [← hw]
      have HB20 := Lib.hid (HB19.out.trans (hb.mono HB19.out.size))
      have HS20 := Lib.hid (show w19.heap.size < w20.heap.size from (Array.getElem?_eq_some_iff.mp hk).1)
      have Kd_20 := Lib.hid (blk_below Kd_19.out hb)
      have Kw_20 := Lib.hid (blk_below Kw_19.out hb)
      have Kx_20 := Lib.hid (blk_below Kx_19.out hb)
      have Kg_20 := Lib.hid (blk_below Kg_19.out hb)
      have Ot_20 := Lib.hid (Ot_19.out.below hb)
      have Ow_20 := Lib.hid (Ow_19.out.below hb)
      have Owr_20 := Lib.hid (Owr_19.out.below hb)
      have Ox_20 := Lib.hid (Ox_19.out.below hb)
      have Og_20 := Lib.hid (Og_19.out.below hb)
      have Ogr_20 := Lib.hid (Ogr_19.out.below hb)
      have Osa_20 := Lib.hid (Osa_19.out.below hb)
      have Oh_20 := Lib.hid (Oh_19.out.below hb)
      have Ohr_20 := Lib.hid (Ohr_19.out.below hb)
      clear Kd_19 Kw_19 Kx_19 Kg_19 Ot_19 Ow_19 Owr_19 Ox_19 Og_19 Ogr_19 Osa_19 Oh_19 Ohr_19
      have Kh_20 := Lib.hid hk
      clear hb hk hw
      have ch0 := (cells_of_heap Kh_20.out 0 (by simp)).1
      have ch1 := (cells_of_heap Kh_20.out 1 (by simp)).1
      have ch2 := (cells_of_heap Kh_20.out 2 (by simp)).1
      have ch3 := (cells_of_heap Kh_20.out 3 (by simp)).1
      have ch4 := (cells_of_heap Kh_20.out 4 (by simp)).1
      have ch5 := (cells_of_heap Kh_20.out 5 (by simp)).1
      have ch6 := (cells_of_heap Kh_20.out 6 (by simp)).1
      have cw0 := (cells_of_heap Kw_20.out 0 (by simp)).1
      have cw1 := (cells_of_heap Kw_20.out 1 (by simp)).1
      have cw2 := (cells_of_heap Kw_20.out 2 (by simp)).1
      have cw3 := (cells_of_heap Kw_20.out 3 (by simp)).1
      have cw4 := (cells_of_heap Kw_20.out 4 (by simp)).1
      have cw5 := (cells_of_heap Kw_20.out 5 (by simp)).1
      have cw6 := (cells_of_heap Kw_20.out 6 (by simp)).1
      go_wp2_with fail
      refine (eqEngine_same r _ _ _ _ _ _ _ HET.out Oh_20.out.rd Ow_20.out.rd).mono ?_
      rintro e w21 ⟨rfl, hb⟩
      clear ch0 ch1 ch2 ch3 ch4 ch5 ch6 cw0 cw1 cw2 cw3 cw4 cw5 cw6
      have HB21 := Lib.hid (HB20.out.trans (hb.mono HB20.out.size))
      have HS21 := Lib.hid hb.size
      have Kd_21 := Lib.hid (blk_below Kd_20.out hb)
      have Kw_21 := Lib.hid (blk_below Kw_20.out hb)
      have Kx_21 := Lib.hid (blk_below Kx_20.out hb)
      have Kg_21 := Lib.hid (blk_below Kg_20.out hb)
      have Kh_21 := Lib.hid (blk_below Kh_20.out hb)
      have Ot_21 := Lib.hid (Ot_20.out.below hb)
      have Ow_21 := Lib.hid (Ow_20.out.below hb)
      have Owr_21 := Lib.hid (Owr_20.out.below hb)
      have Ox_21 := Lib.hid (Ox_20.out.below hb)
      have Og_21 := Lib.hid (Og_20.out.below hb)
      have Ogr_21 := Lib.hid (Ogr_20.out.below hb)
      have Osa_21 := Lib.hid (Osa_20.out.below hb)
      have Oh_21 := Lib.hid (Oh_20.out.below hb)
      have Ohr_21 := Lib.hid (Ohr_20.out.below hb)
      clear Kd_20 Kw_20 Kx_20 Kg_20 Kh_20 Ot_20 Ow_20 Owr_20 Ox_20 Og_20 Ogr_20 Osa_20 Oh_20 Ohr_20
      clear hb
      go_wp2_with fail
      refine (eqReportS_same _ _ tl _ (Nat.le_trans HTL.out (by decide)) HTR.out Ohr_21.out.rd Owr_21.out.rd).mono ?_
      rintro e w22 ⟨rfl, hb⟩
      have HB22 := Lib.hid (HB21.out.trans (hb.mono HB21.out.size))
      have HS22 := Lib.hid hb.size
      have Kd_22 := Lib.hid (blk_below Kd_21.out hb)
      have Kw_22 := Lib.hid (blk_below Kw_21.out hb)
      have Kx_22 := Lib.hid (blk_below Kx_21.out hb)
      have Kg_22 := Lib.hid (blk_below Kg_21.out hb)
      have Kh_22 := Lib.hid (blk_below Kh_21.out hb)
      have Ot_22 := Lib.hid (Ot_21.out.below hb)
      have Ow_22 := Lib.hid (Ow_21.out.below hb)
      have Owr_22 := Lib.hid (Owr_21.out.below hb)
      have Ox_22 := Lib.hid (Ox_21.out.below hb)
      have Og_22 := Lib.hid (Og_21.out.below hb)
      have Ogr_22 := Lib.hid (Ogr_21.out.below hb)
      have Osa_22 := Lib.hid (Osa_21.out.below hb)
      have Oh_22 := Lib.hid (Oh_21.out.below hb)
      have Ohr_22 := Lib.hid (Ohr_21.out.below hb)
      clear Kd_21 Kw_21 Kx_21 Kg_21 Kh_21 Ot_21 Ow_21 Owr_21 Ox_21 Og_21 Ogr_21 Osa_21 Oh_21 Ohr_21
      clear hb
      have cg0 := (cells_of_heap Kg_22.out 0 (by simp)).1
      have cg1 := (cells_of_heap Kg_22.out 1 (by simp)).1
      have cg2 := (cells_of_heap Kg_22.out 2 (by simp)).1
      have cg3 := (cells_of_heap Kg_22.out 3 (by simp)).1
      have cg4 := (cells_of_heap Kg_22.out 4 (by simp)).1
      have cg5 := (cells_of_heap Kg_22.out 5 (by simp)).1
      have cg6 := (cells_of_heap Kg_22.out 6 (by simp)).1
      go_wp2_with fail
      refine (heldEngine_any r _ _ _ 1 n1 HM1.out _ HET.out (by decide) (by decide) Og_22.out.rd).mono ?_
      rintro e w23 ⟨rfl, hb⟩
      clear cg0 cg1 cg2 cg3 cg4 cg5 cg6
      have HB23 := Lib.hid (HB22.out.trans (hb.mono HB22.out.size))
      have HS23 := Lib.hid hb.size
      have Kd_23 := Lib.hid (blk_below Kd_22.out hb)
      have Kw_23 := Lib.hid (blk_below Kw_22.out hb)
      have Kx_23 := Lib.hid (blk_below Kx_22.out hb)
      have Kg_23 := Lib.hid (blk_below Kg_22.out hb)
      have Kh_23 := Lib.hid (blk_below Kh_22.out hb)
      have Ot_23 := Lib.hid (Ot_22.out.below hb)
      have Ow_23 := Lib.hid (Ow_22.out.below hb)
      have Owr_23 := Lib.hid (Owr_22.out.below hb)
      have Ox_23 := Lib.hid (Ox_22.out.below hb)
      have Og_23 := Lib.hid (Og_22.out.below hb)
      have Ogr_23 := Lib.hid (Ogr_22.out.below hb)
      have Osa_23 := Lib.hid (Osa_22.out.below hb)
      have Oh_23 := Lib.hid (Oh_22.out.below hb)
      have Ohr_23 := Lib.hid (Ohr_22.out.below hb)
      clear Kd_22 Kw_22 Kx_22 Kg_22 Kh_22 Ot_22 Ow_22 Owr_22 Ox_22 Og_22 Ogr_22 Osa_22 Oh_22 Ohr_22
      clear hb
      go_wp2_with fail
      refine (heldReportS_q _ tl n1 n2 HM2.out _ HTL.out HTQ.out HMB.out.1 HMB.out.2 Ogr_23.out.rd).mono ?_
      rintro e v0 ⟨rfl, rfl⟩
      go_wp2
      go_ret
      exact ⟨rfl, HB23.out⟩
  · have hs1 : s = -1 := by rw [hs, if_neg hl]
    have hs0 : s < 0 := by omega
    clear hs hl hs1
    obtain ⟨w0, hw0⟩ : ∃ x, x = (w.alloc (.cells #[.int .i64 e.k, .slice ad1 e.L.length qd1, .slice ad2 e.F.length qd2, .int .i64 e.x, .slice ad3 e.H.length qd3, .int .i64 e.o, .bool e.p] 91)) := ⟨_, rfl⟩
    have HB0 := Lib.hid (show Below w.heap.size w w0 by rw [hw0]; exact (Below.refl _ _).alloc (Nat.le_refl _) _)
    have Kd_0 := Lib.hid (show w0.heap[w.heap.size]? = some (.cells #[.int .i64 e.k, .slice ad1 e.L.length qd1, .slice ad2 e.F.length qd2, .int .i64 e.x, .slice ad3 e.H.length qd3, .int .i64 e.o, .bool e.p] 91 (0, 0)) by rw [hw0]; exact heap_alloc_new w _)
    have SZ0 := Lib.hid (show w0.heap.size = w.heap.size + 1 by rw [hw0]; simp)
    have HW := Lib.hid hw0
    clear hw0
    go_enter Tryz.func10, Tryz.ntmps10
    have cd0 := (cells_of_heap Kd_0.out 0 (by simp)).1
    have cd1 := (cells_of_heap Kd_0.out 1 (by simp)).1
    have cd2 := (cells_of_heap Kd_0.out 2 (by simp)).1
    have cd3 := (cells_of_heap Kd_0.out 3 (by simp)).1
    have cd4 := (cells_of_heap Kd_0.out 4 (by simp)).1
    have cd5 := (cells_of_heap Kd_0.out 5 (by simp)).1
    have cd6 := (cells_of_heap Kd_0.out 6 (by simp)).1
    go_wp2_with fail
    rw [← HW.out]
    refine (szEngine_any e _ _ _ s HSZ.out _ HN1.out.1 HN1.out.2 HN2.out.1 HN2.out.2 HN3.out (HR.out.below HB0.out)).mono ?_
    rintro e w1 ⟨rfl, hb⟩
    clear cd0 cd1 cd2 cd3 cd4 cd5 cd6
    have HB1 := Lib.hid (HB0.out.trans (hb.mono HB0.out.size))
    have HS1 := Lib.hid hb.size
    have Kd_1 := Lib.hid (blk_below Kd_0.out hb)
    clear Kd_0
    clear hb
    go_wp2
    go_ret
    exact ⟨rfl, HB1.out⟩
theorem lawPress_all (e : En) (u1 u2 u3 : Value) (key : Int) (hold : Bool) (w : World) (hn1 : e.L.length ≤ maxLen ∧ ∀ l ∈ e.L, l.length ≤ maxLen) (hn2 : e.F.length ≤ maxLen ∧ ∀ l ∈ e.F, l.length ≤ maxLen) (hn3 : e.H.length ≤ maxLen) (h : RdE w e u1 u2 u3) :
    Calls Tryz.prog 10 #[env e.k u1 u2 e.x u3 e.o e.p, .int .i64 key, .bool hold] w fun r w' => r = .returned (.bool true) ∧ Below w.heap.size w w' :=
  lawPress_walk e u1 u2 u3 key hold w hn1 hn2 hn3 h (fun w' v1 v2 v3 hz _ hr => implPress_any e v1 v2 v3 key hold w' hz hr)

end Go.Proofs.YtjfckchoklepbaaGreat
