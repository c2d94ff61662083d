/- DERIVED. The exact laws of chapter 6 on keymaps: each, called with any arguments, returns true and changes nothing that was there, where the program's function answers as the plain function. -/
import Derived.Test.YtleheibpgngmiaaKmSpec6
import Derived.Test.YtleheibpgngmiaaIntsLaw
import Derived.Test.YtleheibpgngmiaaHeld
namespace Go.Proofs.Ytleheibpgngmiaa
open Go.RowKit

theorem lenS_mem {L : List (List Ac)} {l : List Ac} (h : l ∈ L) : l.length ≤ lenS L L.length := by
  obtain ⟨i, hi, rfl⟩ := List.getElem_of_mem h
  have h1 := lenS_mono L (show i + 1 ≤ L.length from hi)
  have h2 : lenS L (i + 1) = lenS L i + (lD L i).length := rfl
  have h3 : lD L i = L[i] := by unfold lD; rw [List.getD_eq_getElem?_getD, List.getElem?_eq_getElem hi]; rfl
  rw [h3] at h2
  omega

theorem lenS_le {L : List (List Ac)} {m : Nat} (h : ∀ l ∈ L, l.length ≤ m) : ∀ j, lenS L j ≤ j * m
  | 0 => Nat.zero_le _
  | j + 1 => by
    have h1 := lenS_le h j
    have h2 := lD_le h j
    rw [lenS, Nat.succ_mul]
    omega
theorem setV_len (keys : Int) (L : List (List Ac)) (layer key : Int) (a : Ac) : (setV keys L layer key a).l.length ≤ 4 ∧ ∀ l ∈ (setV keys L layer key a).l, l.length ≤ 32 := by
  unfold setV
  split
  · rename_i h
    unfold setOk at h
    rw [Bool.and_eq_true, Bool.and_eq_true, Bool.and_eq_true] at h
    obtain ⟨⟨_, k32⟩, ⟨_, l4⟩, hall⟩ := okKm_at h.2.2.2
    refine ⟨l4, fun l hl => ?_⟩
    obtain ⟨i, hi, rfl⟩ := List.getElem_of_mem hl
    have h1 := (hall i hi).1
    have h3 : lD (setL L layer.toNat key.toNat a) i = (setL L layer.toNat key.toNat a)[i] := by unfold lD; rw [List.getD_eq_getElem?_getD, List.getElem?_eq_getElem hi]; rfl
    rw [h3] at h1
    show ((setL L layer.toNat key.toNat a)[i]).length ≤ 32
    omega
  · exact ⟨by simp, by simp⟩
theorem specSetAction_law (keys layer key k c m n : Int) (v : Value) (L : List (List Ac)) (rk : Int) (rl : List (List Ac)) (rb : Bool) (hR : setV keys L layer key ⟨k, c, m, n⟩ = ⟨rk, rl, rb⟩) (w : World) (hn : L.length ≤ maxLen) (hm : ∀ l ∈ L, l.length ≤ maxLen) (h : LdS w v L) :
    Calls Try.prog 25 #[kmv keys v, .int .i64 layer, .int .i64 key, acv k c m n] w (KmOut ⟨rk, rl, rb⟩ w) := by
  rw [← hR]; exact specSetAction_any keys layer key k c m n v L w hn hm h
theorem markKeymap_q (B : Nat) (k : Int) (u : Value) (L : List (List Ac)) (fp : List Nat) (q q2 : Int) (hq : q2 = q + ((lenS L L.length * 4 : Nat) : Int)) (w : World) (hn : L.length ≤ 1048576) (ht : lenS L L.length ≤ 1048576) (hk : 0 ≤ q) (hk' : q ≤ 1000000) (h : LoS w B u L fp) :
    Calls Try.prog 28 #[kmv k u, .int .i64 q] w fun e w' => e = .returned (.int .i64 q2) ∧ LoS w' B u (mkS q L) fp ∧ Turn w w' fp := by
  rw [hq]; exact markKeymap_own B k u L fp q w hn ht hk hk' h
theorem heldKeymap_q (k : Int) (u : Value) (L : List (List Ac)) (q q2 : Int) (hq : q2 = q + ((lenS L L.length * 4 : Nat) : Int)) (w : World) (hn : L.length ≤ 1048576) (ht : lenS L L.length ≤ 1048576) (hk : 0 ≤ q) (hk' : q ≤ 1000000) (h : LdS w u (mkS q L)) :
    Calls Try.prog 29 #[kmv k u, .int .i64 q] w fun e w' => e = .returned (.int .i64 q2) ∧ Below w.heap.size w w' := by
  rw [hq]; exact heldKeymap_any k u L q w hn ht hk hk' h

set_option maxHeartbeats 1000000 in
set_option maxRecDepth 100000 in
theorem lawIsKeymap_walk (k : Int) (u : Value) (L : List (List Ac)) (w : World) (hn : L.length ≤ maxLen) (hm : ∀ l ∈ L, l.length ≤ maxLen) (h : LdS w u L) (hI : ∀ (w' : World) (u' : Value), Below w.heap.size w w' → LdS w' u' L → Calls Try.prog 20 #[kmv k u'] w' fun e w'' => e = .returned (.bool (okKm k L)) ∧ Below w'.heap.size w' w'') : Calls Try.prog 4 #[kmv k u] w fun e w' => e = .returned (.bool true) ∧ Below w.heap.size w w' := by
  obtain ⟨a, c, rfl⟩ := RdS.shape h
  have HR := Lib.hid h
  have HN := Lib.hid hn
  have HM := Lib.hid hm
  have HI := Lib.hid hI
  clear h hn hm hI
  obtain ⟨s, hs⟩ : ∃ s, s = (if L.length + lenS L L.length ≤ 1048576 then 1048576 - ((L.length + lenS L L.length : Nat) : Int) else -1) := ⟨_, rfl⟩
  have HSZ := Lib.hid hs
  by_cases hl : L.length + lenS L L.length ≤ 1048576
  · have hs0 : ¬ s < 0 := by rw [hs, if_pos hl]; omega
    have HL1 := Lib.hid (show L.length ≤ 1048576 by omega)
    have HL2 := Lib.hid (show ∀ l ∈ L, l.length ≤ 1048576 from fun l hm => Nat.le_trans (lenS_mem hm) (by omega))
    have HL3 := Lib.hid (show ∀ l ∈ L, l.length ≤ 1000000000000 from fun l hm => Nat.le_trans (HL2.out l hm) (by decide))
    have HL4 := Lib.hid (show L.length ≤ 1000000000000 by omega)
    have HL5 := Lib.hid (show lenS L L.length ≤ 1048576 by omega)
    obtain ⟨r, hr⟩ : ∃ x, x = okKm k L := ⟨_, rfl⟩
    have HRR := Lib.hid hr
    clear hr hs hl
    obtain ⟨w0, hw0⟩ : ∃ x, x = (w.alloc (.cells #[.int .i64 k, .slice a L.length c] 36)) := ⟨_, rfl⟩
    have HB0 := Lib.hid (show Below w.heap.size w w0 by rw [hw0]; exact (Below.refl _ _).alloc (Nat.le_refl _) _)
    have Kd_0 := Lib.hid (show w0.heap[w.heap.size]? = some (.cells #[.int .i64 k, .slice a L.length c] 36 (0, 0)) by rw [hw0]; exact heap_alloc_new w _)
    have SZ0 := Lib.hid (show w0.heap.size = w.heap.size + 1 by rw [hw0]; simp)
    have HW := Lib.hid hw0
    clear hw0
    go_enter Try.func4, Try.ntmps4
    have cd0 := (cells_of_heap Kd_0.out 0 (by simp)).1
    have cd1 := (cells_of_heap Kd_0.out 1 (by simp)).1
    go_wp2_with fail
    rw [← HW.out]
    refine (szKeymap_any k _ L _ HN.out HM.out (HR.out.below HB0.out)).mono ?_
    rw [← HSZ.out]
    rintro e w1 ⟨rfl, hb⟩
    clear cd0 cd1
    have HB1 := Lib.hid (HB0.out.trans (hb.mono HB0.out.size))
    have HS1 := Lib.hid hb.size
    have Kd_1 := Lib.hid (blk_below Kd_0.out hb)
    clear Kd_0
    clear hb
    have cd0 := (cells_of_heap Kd_1.out 0 (by simp)).1
    have cd1 := (cells_of_heap Kd_1.out 1 (by simp)).1
    go_wp2_with fail
    refine (toKeymap_any k _ L _ HL1.out HL2.out (HR.out.below HB1.out)).mono ?_
    rintro e w2 ⟨a1, c1, f1, rfl, h1, hb⟩
    clear cd0 cd1
    have HB2 := Lib.hid (HB1.out.trans (hb.mono HB1.out.size))
    have HS2 := Lib.hid hb.size
    have Kd_2 := Lib.hid (blk_below Kd_1.out hb)
    clear Kd_1
    have Rt := Lib.hid (h1.rng)
    have Ot_2 := Lib.hid h1
    clear hb h1
    go_wp2_with fail
    refine (specIsKeymap_any k _ L _ HN.out HM.out Ot_2.out.rd).mono ?_
    rw [← HRR.out]
    rintro e w3 ⟨rfl, hb⟩
    have HB3 := Lib.hid (HB2.out.trans (hb.mono HB2.out.size))
    have HS3 := Lib.hid hb.size
    have Kd_3 := Lib.hid (blk_below Kd_2.out hb)
    have Ot_3 := Lib.hid (Ot_2.out.below hb)
    clear Kd_2 Ot_2
    clear hb
    have cd0 := (cells_of_heap Kd_3.out 0 (by simp)).1
    have cd1 := (cells_of_heap Kd_3.out 1 (by simp)).1
    go_wp2_with fail
    refine (toKeymap_any k _ L _ HL1.out HL2.out (HR.out.below HB3.out)).mono ?_
    rintro e w4 ⟨a2, c2, f2, rfl, h2, hb⟩
    clear cd0 cd1
    have HB4 := Lib.hid (HB3.out.trans (hb.mono HB3.out.size))
    have HS4 := Lib.hid hb.size
    have Kd_4 := Lib.hid (blk_below Kd_3.out hb)
    have Ot_4 := Lib.hid (Ot_3.out.below hb)
    clear Kd_3 Ot_3
    have Rx := Lib.hid (h2.rng)
    have Ox_4 := Lib.hid h2
    clear hb h2
    go_upto_region 7 with (fail)
    obtain ⟨w5, hw⟩ : ∃ x, x = w4.alloc (.cells #[.int .i64 k, .slice a2 L.length c2] 26) := ⟨_, rfl⟩
    have hb : Below w4.heap.size w4 w5 := by rw [hw]; exact below_alloc1 _ _
    have hk : w5.heap[w4.heap.size]? = some (.cells #[.int .i64 k, .slice a2 L.length c2] 26 (0, 0)) := by rw [hw]; exact heap_alloc_new _ _
    rw [← hw]
    have HB5 := Lib.hid (HB4.out.trans (hb.mono HB4.out.size))
    have HS5 := Lib.hid (show w4.heap.size < w5.heap.size from (Array.getElem?_eq_some_iff.mp hk).1)
    have Kd_5 := Lib.hid (blk_below Kd_4.out hb)
    have Ot_5 := Lib.hid (Ot_4.out.below hb)
    have Ox_5 := Lib.hid (Ox_4.out.below hb)
    clear Kd_4 Ot_4 Ox_4
    have Kx_5 := Lib.hid hk
    clear hb hk hw
    have cx0 := (cells_of_heap Kx_5.out 0 (by simp)).1
    have cx1 := (cells_of_heap Kx_5.out 1 (by simp)).1
    go_wp2_with fail
    refine (HI.out _ _ HB5.out Ox_5.out.rd).mono ?_
    rw [← HRR.out]
    rintro e w6 ⟨rfl, hb⟩
    clear cx0 cx1
    have HB6 := Lib.hid (HB5.out.trans (hb.mono HB5.out.size))
    have HS6 := Lib.hid hb.size
    have Kd_6 := Lib.hid (blk_below Kd_5.out hb)
    have Kx_6 := Lib.hid (blk_below Kx_5.out hb)
    have Ot_6 := Lib.hid (Ot_5.out.below hb)
    have Ox_6 := Lib.hid (Ox_5.out.below hb)
    clear Kd_5 Kx_5 Ot_5 Ox_5
    clear hb
    go_upto_region 10 with (fail)
    go_cut [26] (fun sd wx => sd = .bool false ∧ Below w6.heap.size w6 wx)
    case first =>
      have cd0 := (cells_of_heap Kd_6.out 0 (by simp)).1
      have cd1 := (cells_of_heap Kd_6.out 1 (by simp)).1
      have cx0 := (cells_of_heap Kx_6.out 0 (by simp)).1
      have cx1 := (cells_of_heap Kx_6.out 1 (by simp)).1
      have ld : w.heap.size < w6.heap.size := (Array.getElem?_eq_some_iff.mp Kd_6.out).1
      have lx : w4.heap.size < w6.heap.size := (Array.getElem?_eq_some_iff.mp Kx_6.out).1
      go_region_held3 (fun w' => w'.cell? ⟨w.heap.size, 0, none⟩ = some (.int .i64 k) ∧ w'.cell? ⟨w.heap.size, 1, none⟩ = some (.slice a L.length c) ∧ w'.cell? ⟨w4.heap.size, 0, none⟩ = some (.int .i64 k) ∧ w'.cell? ⟨w4.heap.size, 1, none⟩ = some (.slice a2 L.length c2)) (first | go_keep)
        (first | (go_at_call 19; refine (toKeymap_any k _ L _ HL1.out HL2.out (HR.out.below (by first | exact HB6.out | exact HB6.out.drew | exact HB6.out.drew.drew))).mono ?_; rintro e v1 ⟨a3, c3, f3, rfl, hy, hb1⟩; have hbr : Below w6.heap.size w6 v1 := (by first | exact hb1 | exact ((Below.refl _ _).drew).trans hb1 | exact ((Below.refl _ _).drew.drew).trans hb1); have kcd0 := (hbr.cell (p := ⟨w.heap.size, 0, none⟩) ld).trans cd0; have kcd1 := (hbr.cell (p := ⟨w.heap.size, 1, none⟩) ld).trans cd1; have kcx0 := (hbr.cell (p := ⟨w4.heap.size, 0, none⟩) lx).trans cx0; have kcx1 := (hbr.cell (p := ⟨w4.heap.size, 1, none⟩) lx).trans cx1; have HBR := Lib.hid hbr; have HY := Lib.hid hy; clear hbr hb1 hy) | (go_at_call 21; refine (eqKeymap_same k _ _ L _ HL4.out HL3.out (Ox_6.out.rd.below (by first | exact HBR.out | exact HBR.out.drew | exact HBR.out.drew.drew)) (HY.out.rd.below (by first | exact Below.refl _ _ | exact (Below.refl _ _).drew | exact (Below.refl _ _).drew.drew))).mono ?_; rintro e v2 ⟨rfl, hb2⟩; have hbr : Below w6.heap.size w6 v2 := (by first | exact HBR.out.trans (hb2.mono HBR.out.size) | exact HBR.out.trans (((Below.refl _ _).drew.trans hb2).mono HBR.out.size) | exact HBR.out.trans (((Below.refl _ _).drew.drew.trans hb2).mono HBR.out.size)); have kcd0 := (hbr.cell (p := ⟨w.heap.size, 0, none⟩) ld).trans cd0; have kcd1 := (hbr.cell (p := ⟨w.heap.size, 1, none⟩) ld).trans cd1; have kcx0 := (hbr.cell (p := ⟨w4.heap.size, 0, none⟩) lx).trans cx0; have kcx1 := (hbr.cell (p := ⟨w4.heap.size, 1, none⟩) lx).trans cx1; have HB2 := Lib.hid hbr; clear hbr hb2))
      all_goals
        go_wp2
        go_meet
        exact ⟨rfl, by first | exact HB2.out | exact HB2.out.drew⟩
    case rest =>
      obtain ⟨rfl, hb⟩ := hcut
      obtain ⟨w7, hw⟩ : ∃ x, x = wc := ⟨_, rfl⟩
      rw [← hw] at hb ⊢
      clear hw
      have HB7 := Lib.hid (HB6.out.trans (hb.mono HB6.out.size))
      have HS7 := Lib.hid hb.size
      have Kd_7 := Lib.hid (blk_below Kd_6.out hb)
      have Kx_7 := Lib.hid (blk_below Kx_6.out hb)
      have Ot_7 := Lib.hid (Ot_6.out.below hb)
      have Ox_7 := Lib.hid (Ox_6.out.below hb)
      clear Kd_6 Kx_6 Ot_6 Ox_6
      clear hb
      go_wp2
      go_ret
      exact ⟨rfl, HB7.out⟩
  · have hs1 : s = -1 := by rw [hs, if_neg hl]
    have hs0 : s < 0 := by omega
    clear hs hl hs1
    obtain ⟨w0, hw0⟩ : ∃ x, x = (w.alloc (.cells #[.int .i64 k, .slice a L.length c] 36)) := ⟨_, rfl⟩
    have HB0 := Lib.hid (show Below w.heap.size w w0 by rw [hw0]; exact (Below.refl _ _).alloc (Nat.le_refl _) _)
    have Kd_0 := Lib.hid (show w0.heap[w.heap.size]? = some (.cells #[.int .i64 k, .slice a L.length c] 36 (0, 0)) by rw [hw0]; exact heap_alloc_new w _)
    have SZ0 := Lib.hid (show w0.heap.size = w.heap.size + 1 by rw [hw0]; simp)
    have HW := Lib.hid hw0
    clear hw0
    go_enter Try.func4, Try.ntmps4
    have cd0 := (cells_of_heap Kd_0.out 0 (by simp)).1
    have cd1 := (cells_of_heap Kd_0.out 1 (by simp)).1
    go_wp2_with fail
    rw [← HW.out]
    refine (szKeymap_any k _ L _ HN.out HM.out (HR.out.below HB0.out)).mono ?_
    rw [← HSZ.out]
    rintro e w1 ⟨rfl, hb⟩
    clear cd0 cd1
    have HB1 := Lib.hid (HB0.out.trans (hb.mono HB0.out.size))
    have HS1 := Lib.hid hb.size
    have Kd_1 := Lib.hid (blk_below Kd_0.out hb)
    clear Kd_0
    clear hb
    go_wp2
    go_ret
    exact ⟨rfl, HB1.out⟩

set_option maxHeartbeats 1000000 in
set_option maxRecDepth 100000 in
theorem lawLayerAt_walk (k on key : Int) (u : Value) (L : List (List Ac)) (w : World) (hn : L.length ≤ maxLen) (hm : ∀ l ∈ L, l.length ≤ maxLen) (h : LdS w u L) (hI : ∀ (w' : World) (u' : Value), Below w.heap.size w w' → LdS w' u' L → Calls Try.prog 15 #[kmv k u', .int .i64 on, .int .i64 key] w' fun e w'' => e = .returned (.int .i64 (laV k L on key)) ∧ Below w'.heap.size w' w'') : Calls Try.prog 5 #[kmv k u, .int .i64 on, .int .i64 key] w fun e w' => e = .returned (.bool true) ∧ Below w.heap.size w w' := by
  obtain ⟨a, c, rfl⟩ := RdS.shape h
  have HR := Lib.hid h
  have HN := Lib.hid hn
  have HM := Lib.hid hm
  have HI := Lib.hid hI
  clear h hn hm hI
  obtain ⟨s, hs⟩ : ∃ s, s = (if L.length + lenS L L.length ≤ 1048576 then 1048576 - ((L.length + lenS L L.length : Nat) : Int) else -1) := ⟨_, rfl⟩
  have HSZ := Lib.hid hs
  by_cases hl : L.length + lenS L L.length ≤ 1048576
  · have hs0 : ¬ s < 0 := by rw [hs, if_pos hl]; omega
    have HL1 := Lib.hid (show L.length ≤ 1048576 by omega)
    have HL2 := Lib.hid (show ∀ l ∈ L, l.length ≤ 1048576 from fun l hm => Nat.le_trans (lenS_mem hm) (by omega))
    have HL3 := Lib.hid (show ∀ l ∈ L, l.length ≤ 1000000000000 from fun l hm => Nat.le_trans (HL2.out l hm) (by decide))
    have HL4 := Lib.hid (show L.length ≤ 1000000000000 by omega)
    have HL5 := Lib.hid (show lenS L L.length ≤ 1048576 by omega)
    obtain ⟨r, hr⟩ : ∃ x, x = laV k L on key := ⟨_, rfl⟩
    have HRR := Lib.hid hr
    clear hr hs hl
    obtain ⟨w0, hw0⟩ : ∃ x, x = (w.alloc (.cells #[.int .i64 k, .slice a L.length c] 36)) := ⟨_, rfl⟩
    have HB0 := Lib.hid (show Below w.heap.size w w0 by rw [hw0]; exact (Below.refl _ _).alloc (Nat.le_refl _) _)
    have Kd_0 := Lib.hid (show w0.heap[w.heap.size]? = some (.cells #[.int .i64 k, .slice a L.length c] 36 (0, 0)) by rw [hw0]; exact heap_alloc_new w _)
    have SZ0 := Lib.hid (show w0.heap.size = w.heap.size + 1 by rw [hw0]; simp)
    have HW := Lib.hid hw0
    clear hw0
    go_enter Try.func5, Try.ntmps5
    have cd0 := (cells_of_heap Kd_0.out 0 (by simp)).1
    have cd1 := (cells_of_heap Kd_0.out 1 (by simp)).1
    go_wp2_with fail
    rw [← HW.out]
    refine (szKeymap_any k _ L _ HN.out HM.out (HR.out.below HB0.out)).mono ?_
    rw [← HSZ.out]
    rintro e w1 ⟨rfl, hb⟩
    clear cd0 cd1
    have HB1 := Lib.hid (HB0.out.trans (hb.mono HB0.out.size))
    have HS1 := Lib.hid hb.size
    have Kd_1 := Lib.hid (blk_below Kd_0.out hb)
    clear Kd_0
    clear hb
    have cd0 := (cells_of_heap Kd_1.out 0 (by simp)).1
    have cd1 := (cells_of_heap Kd_1.out 1 (by simp)).1
    go_wp2_with fail
    refine (toKeymap_any k _ L _ HL1.out HL2.out (HR.out.below HB1.out)).mono ?_
    rintro e w2 ⟨a1, c1, f1, rfl, h1, hb⟩
    clear cd0 cd1
    have HB2 := Lib.hid (HB1.out.trans (hb.mono HB1.out.size))
    have HS2 := Lib.hid hb.size
    have Kd_2 := Lib.hid (blk_below Kd_1.out hb)
    clear Kd_1
    have Rt := Lib.hid (h1.rng)
    have Ot_2 := Lib.hid h1
    clear hb h1
    go_wp2_with fail
    refine (specLayerAt_any k on key _ L _ HN.out HM.out Ot_2.out.rd).mono ?_
    rw [← HRR.out]
    rintro e w3 ⟨rfl, hb⟩
    have HB3 := Lib.hid (HB2.out.trans (hb.mono HB2.out.size))
    have HS3 := Lib.hid hb.size
    have Kd_3 := Lib.hid (blk_below Kd_2.out hb)
    have Ot_3 := Lib.hid (Ot_2.out.below hb)
    clear Kd_2 Ot_2
    clear hb
    have cd0 := (cells_of_heap Kd_3.out 0 (by simp)).1
    have cd1 := (cells_of_heap Kd_3.out 1 (by simp)).1
    go_wp2_with fail
    refine (toKeymap_any k _ L _ HL1.out HL2.out (HR.out.below HB3.out)).mono ?_
    rintro e w4 ⟨a2, c2, f2, rfl, h2, hb⟩
    clear cd0 cd1
    have HB4 := Lib.hid (HB3.out.trans (hb.mono HB3.out.size))
    have HS4 := Lib.hid hb.size
    have Kd_4 := Lib.hid (blk_below Kd_3.out hb)
    have Ot_4 := Lib.hid (Ot_3.out.below hb)
    clear Kd_3 Ot_3
    have Rx := Lib.hid (h2.rng)
    have Ox_4 := Lib.hid h2
    clear hb h2
    go_upto_region 7 with (fail)
    obtain ⟨w5, hw⟩ : ∃ x, x = w4.alloc (.cells #[.int .i64 k, .slice a2 L.length c2] 26) := ⟨_, rfl⟩
    have hb : Below w4.heap.size w4 w5 := by rw [hw]; exact below_alloc1 _ _
    have hk : w5.heap[w4.heap.size]? = some (.cells #[.int .i64 k, .slice a2 L.length c2] 26 (0, 0)) := by rw [hw]; exact heap_alloc_new _ _
    rw [← hw]
    have HB5 := Lib.hid (HB4.out.trans (hb.mono HB4.out.size))
    have HS5 := Lib.hid (show w4.heap.size < w5.heap.size from (Array.getElem?_eq_some_iff.mp hk).1)
    have Kd_5 := Lib.hid (blk_below Kd_4.out hb)
    have Ot_5 := Lib.hid (Ot_4.out.below hb)
    have Ox_5 := Lib.hid (Ox_4.out.below hb)
    clear Kd_4 Ot_4 Ox_4
    have Kx_5 := Lib.hid hk
    clear hb hk hw
    have cx0 := (cells_of_heap Kx_5.out 0 (by simp)).1
    have cx1 := (cells_of_heap Kx_5.out 1 (by simp)).1
    go_wp2_with fail
    refine (HI.out _ _ HB5.out Ox_5.out.rd).mono ?_
    rw [← HRR.out]
    rintro e w6 ⟨rfl, hb⟩
    clear cx0 cx1
    have HB6 := Lib.hid (HB5.out.trans (hb.mono HB5.out.size))
    have HS6 := Lib.hid hb.size
    have Kd_6 := Lib.hid (blk_below Kd_5.out hb)
    have Kx_6 := Lib.hid (blk_below Kx_5.out hb)
    have Ot_6 := Lib.hid (Ot_5.out.below hb)
    have Ox_6 := Lib.hid (Ox_5.out.below hb)
    clear Kd_5 Kx_5 Ot_5 Ox_5
    clear hb
    go_upto_region 10 with (fail)
    go_cut [34] (fun sd wx => sd = .bool false ∧ Below w6.heap.size w6 wx)
    case first =>
      have cd0 := (cells_of_heap Kd_6.out 0 (by simp)).1
      have cd1 := (cells_of_heap Kd_6.out 1 (by simp)).1
      have cx0 := (cells_of_heap Kx_6.out 0 (by simp)).1
      have cx1 := (cells_of_heap Kx_6.out 1 (by simp)).1
      have ld : w.heap.size < w6.heap.size := (Array.getElem?_eq_some_iff.mp Kd_6.out).1
      have lx : w4.heap.size < w6.heap.size := (Array.getElem?_eq_some_iff.mp Kx_6.out).1
      go_region_held3 (fun w' => w'.cell? ⟨w.heap.size, 0, none⟩ = some (.int .i64 k) ∧ w'.cell? ⟨w.heap.size, 1, none⟩ = some (.slice a L.length c) ∧ w'.cell? ⟨w4.heap.size, 0, none⟩ = some (.int .i64 k) ∧ w'.cell? ⟨w4.heap.size, 1, none⟩ = some (.slice a2 L.length c2)) (first | go_keep)
        (first | (go_at_call 19; refine (toKeymap_any k _ L _ HL1.out HL2.out (HR.out.below (by first | exact HB6.out | exact HB6.out.drew | exact HB6.out.drew.drew))).mono ?_; rintro e v1 ⟨a3, c3, f3, rfl, hy, hb1⟩; have hbr : Below w6.heap.size w6 v1 := (by first | exact hb1 | exact ((Below.refl _ _).drew).trans hb1 | exact ((Below.refl _ _).drew.drew).trans hb1); have kcd0 := (hbr.cell (p := ⟨w.heap.size, 0, none⟩) ld).trans cd0; have kcd1 := (hbr.cell (p := ⟨w.heap.size, 1, none⟩) ld).trans cd1; have kcx0 := (hbr.cell (p := ⟨w4.heap.size, 0, none⟩) lx).trans cx0; have kcx1 := (hbr.cell (p := ⟨w4.heap.size, 1, none⟩) lx).trans cx1; have HBR := Lib.hid hbr; have HY := Lib.hid hy; clear hbr hb1 hy) | (go_at_call 21; refine (eqKeymap_same k _ _ L _ HL4.out HL3.out (Ox_6.out.rd.below (by first | exact HBR.out | exact HBR.out.drew | exact HBR.out.drew.drew)) (HY.out.rd.below (by first | exact Below.refl _ _ | exact (Below.refl _ _).drew | exact (Below.refl _ _).drew.drew))).mono ?_; rintro e v2 ⟨rfl, hb2⟩; have hbr : Below w6.heap.size w6 v2 := (by first | exact HBR.out.trans (hb2.mono HBR.out.size) | exact HBR.out.trans (((Below.refl _ _).drew.trans hb2).mono HBR.out.size) | exact HBR.out.trans (((Below.refl _ _).drew.drew.trans hb2).mono HBR.out.size)); have kcd0 := (hbr.cell (p := ⟨w.heap.size, 0, none⟩) ld).trans cd0; have kcd1 := (hbr.cell (p := ⟨w.heap.size, 1, none⟩) ld).trans cd1; have kcx0 := (hbr.cell (p := ⟨w4.heap.size, 0, none⟩) lx).trans cx0; have kcx1 := (hbr.cell (p := ⟨w4.heap.size, 1, none⟩) lx).trans cx1; have HB2 := Lib.hid hbr; clear hbr hb2))
      all_goals
        go_wp2
        go_meet
        exact ⟨rfl, by first | exact HB2.out | exact HB2.out.drew⟩
    case rest =>
      obtain ⟨rfl, hb⟩ := hcut
      obtain ⟨w7, hw⟩ : ∃ x, x = wc := ⟨_, rfl⟩
      rw [← hw] at hb ⊢
      clear hw
      have HB7 := Lib.hid (HB6.out.trans (hb.mono HB6.out.size))
      have HS7 := Lib.hid hb.size
      have Kd_7 := Lib.hid (blk_below Kd_6.out hb)
      have Kx_7 := Lib.hid (blk_below Kx_6.out hb)
      have Ot_7 := Lib.hid (Ot_6.out.below hb)
      have Ox_7 := Lib.hid (Ox_6.out.below hb)
      clear Kd_6 Kx_6 Ot_6 Ox_6
      clear hb
      go_wp2
      go_ret
      exact ⟨rfl, HB7.out⟩
  · have hs1 : s = -1 := by rw [hs, if_neg hl]
    have hs0 : s < 0 := by omega
    clear hs hl hs1
    obtain ⟨w0, hw0⟩ : ∃ x, x = (w.alloc (.cells #[.int .i64 k, .slice a L.length c] 36)) := ⟨_, rfl⟩
    have HB0 := Lib.hid (show Below w.heap.size w w0 by rw [hw0]; exact (Below.refl _ _).alloc (Nat.le_refl _) _)
    have Kd_0 := Lib.hid (show w0.heap[w.heap.size]? = some (.cells #[.int .i64 k, .slice a L.length c] 36 (0, 0)) by rw [hw0]; exact heap_alloc_new w _)
    have SZ0 := Lib.hid (show w0.heap.size = w.heap.size + 1 by rw [hw0]; simp)
    have HW := Lib.hid hw0
    clear hw0
    go_enter Try.func5, Try.ntmps5
    have cd0 := (cells_of_heap Kd_0.out 0 (by simp)).1
    have cd1 := (cells_of_heap Kd_0.out 1 (by simp)).1
    go_wp2_with fail
    rw [← HW.out]
    refine (szKeymap_any k _ L _ HN.out HM.out (HR.out.below HB0.out)).mono ?_
    rw [← HSZ.out]
    rintro e w1 ⟨rfl, hb⟩
    clear cd0 cd1
    have HB1 := Lib.hid (HB0.out.trans (hb.mono HB0.out.size))
    have HS1 := Lib.hid hb.size
    have Kd_1 := Lib.hid (blk_below Kd_0.out hb)
    clear Kd_0
    clear hb
    go_wp2
    go_ret
    exact ⟨rfl, HB1.out⟩

set_option maxHeartbeats 1000000 in
set_option maxRecDepth 100000 in
theorem lawActionAt_walk (k on key : Int) (u : Value) (L : List (List Ac)) (w : World) (hn : L.length ≤ maxLen) (hm : ∀ l ∈ L, l.length ≤ maxLen) (h : LdS w u L) (hI : ∀ (w' : World) (u' : Value), Below w.heap.size w w' → LdS w' u' L → Calls Try.prog 16 #[kmv k u', .int .i64 on, .int .i64 key] w' fun e w'' => e = .returned (acv (atV k L on key).k (atV k L on key).c (atV k L on key).m (atV k L on key).n) ∧ Below w'.heap.size w' w'') : Calls Try.prog 6 #[kmv k u, .int .i64 on, .int .i64 key] w fun e w' => e = .returned (.bool true) ∧ Below w.heap.size w w' := by
  obtain ⟨a, c, rfl⟩ := RdS.shape h
  have HR := Lib.hid h
  have HN := Lib.hid hn
  have HM := Lib.hid hm
  have HI := Lib.hid hI
  clear h hn hm hI
  obtain ⟨s, hs⟩ : ∃ s, s = (if L.length + lenS L L.length ≤ 1048576 then 1048576 - ((L.length + lenS L L.length : Nat) : Int) else -1) := ⟨_, rfl⟩
  have HSZ := Lib.hid hs
  by_cases hl : L.length + lenS L L.length ≤ 1048576
  · have hs0 : ¬ s < 0 := by rw [hs, if_pos hl]; omega
    have HL1 := Lib.hid (show L.length ≤ 1048576 by omega)
    have HL2 := Lib.hid (show ∀ l ∈ L, l.length ≤ 1048576 from fun l hm => Nat.le_trans (lenS_mem hm) (by omega))
    have HL3 := Lib.hid (show ∀ l ∈ L, l.length ≤ 1000000000000 from fun l hm => Nat.le_trans (HL2.out l hm) (by decide))
    have HL4 := Lib.hid (show L.length ≤ 1000000000000 by omega)
    have HL5 := Lib.hid (show lenS L L.length ≤ 1048576 by omega)
    obtain ⟨r, hr⟩ : ∃ x, x = atV k L on key := ⟨_, rfl⟩
    have HRR := Lib.hid hr
    clear hr hs hl
    obtain ⟨w0, hw0⟩ : ∃ x, x = (w.alloc (.cells #[.int .i64 k, .slice a L.length c] 36)) := ⟨_, rfl⟩
    have HB0 := Lib.hid (show Below w.heap.size w w0 by rw [hw0]; exact (Below.refl _ _).alloc (Nat.le_refl _) _)
    have Kd_0 := Lib.hid (show w0.heap[w.heap.size]? = some (.cells #[.int .i64 k, .slice a L.length c] 36 (0, 0)) by rw [hw0]; exact heap_alloc_new w _)
    have SZ0 := Lib.hid (show w0.heap.size = w.heap.size + 1 by rw [hw0]; simp)
    have HW := Lib.hid hw0
    clear hw0
    go_enter Try.func6, Try.ntmps6
    have cd0 := (cells_of_heap Kd_0.out 0 (by simp)).1
    have cd1 := (cells_of_heap Kd_0.out 1 (by simp)).1
    go_wp2_with fail
    rw [← HW.out]
    refine (szKeymap_any k _ L _ HN.out HM.out (HR.out.below HB0.out)).mono ?_
    rw [← HSZ.out]
    rintro e w1 ⟨rfl, hb⟩
    clear cd0 cd1
    have HB1 := Lib.hid (HB0.out.trans (hb.mono HB0.out.size))
    have HS1 := Lib.hid hb.size
    have Kd_1 := Lib.hid (blk_below Kd_0.out hb)
    clear Kd_0
    clear hb
    have cd0 := (cells_of_heap Kd_1.out 0 (by simp)).1
    have cd1 := (cells_of_heap Kd_1.out 1 (by simp)).1
    go_wp2_with fail
    refine (toKeymap_any k _ L _ HL1.out HL2.out (HR.out.below HB1.out)).mono ?_
    rintro e w2 ⟨a1, c1, f1, rfl, h1, hb⟩
    clear cd0 cd1
    have HB2 := Lib.hid (HB1.out.trans (hb.mono HB1.out.size))
    have HS2 := Lib.hid hb.size
    have Kd_2 := Lib.hid (blk_below Kd_1.out hb)
    clear Kd_1
    have Rt := Lib.hid (h1.rng)
    have Ot_2 := Lib.hid h1
    clear hb h1
    go_wp2_with fail
    refine (specActionAt_any k on key _ L _ HN.out HM.out Ot_2.out.rd).mono ?_
    rw [← HRR.out]
    rintro e w3 ⟨rfl, hb⟩
    have HB3 := Lib.hid (HB2.out.trans (hb.mono HB2.out.size))
    have HS3 := Lib.hid hb.size
    have Kd_3 := Lib.hid (blk_below Kd_2.out hb)
    have Ot_3 := Lib.hid (Ot_2.out.below hb)
    clear Kd_2 Ot_2
    clear hb
    go_upto_region 6 with (fail)
    obtain ⟨w4, hw⟩ : ∃ x, x = w3.alloc (.cells #[.int .i64 r.k, .int .i64 r.c, .int .i64 r.m, .int .i64 r.n] 31) := ⟨_, rfl⟩
    have hb : Below w3.heap.size w3 w4 := by rw [hw]; exact below_alloc1 _ _
    have hk : w4.heap[w3.heap.size]? = some (.cells #[.int .i64 r.k, .int .i64 r.c, .int .i64 r.m, .int .i64 r.n] 31 (0, 0)) := by rw [hw]; exact heap_alloc_new _ _
    rw [← hw]
    have HB4 := Lib.hid (HB3.out.trans (hb.mono HB3.out.size))
    have HS4 := Lib.hid (show w3.heap.size < w4.heap.size from (Array.getElem?_eq_some_iff.mp hk).1)
    have Kd_4 := Lib.hid (blk_below Kd_3.out hb)
    have Ot_4 := Lib.hid (Ot_3.out.below hb)
    clear Kd_3 Ot_3
    have Kw_4 := Lib.hid hk
    clear hb hk hw
    have cd0 := (cells_of_heap Kd_4.out 0 (by simp)).1
    have cd1 := (cells_of_heap Kd_4.out 1 (by simp)).1
    go_wp2_with fail
    refine (toKeymap_any k _ L _ HL1.out HL2.out (HR.out.below HB4.out)).mono ?_
    rintro e w5 ⟨a2, c2, f2, rfl, h2, hb⟩
    clear cd0 cd1
    have HB5 := Lib.hid (HB4.out.trans (hb.mono HB4.out.size))
    have HS5 := Lib.hid hb.size
    have Kd_5 := Lib.hid (blk_below Kd_4.out hb)
    have Kw_5 := Lib.hid (blk_below Kw_4.out hb)
    have Ot_5 := Lib.hid (Ot_4.out.below hb)
    clear Kd_4 Kw_4 Ot_4
    have Rx := Lib.hid (h2.rng)
    have Ox_5 := Lib.hid h2
    clear hb h2
    go_upto_region 7 with (fail)
    obtain ⟨w6, hw⟩ : ∃ x, x = w5.alloc (.cells #[.int .i64 k, .slice a2 L.length c2] 26) := ⟨_, rfl⟩
    have hb : Below w5.heap.size w5 w6 := by rw [hw]; exact below_alloc1 _ _
    have hk : w6.heap[w5.heap.size]? = some (.cells #[.int .i64 k, .slice a2 L.length c2] 26 (0, 0)) := by rw [hw]; exact heap_alloc_new _ _
    rw [← hw]
    have HB6 := Lib.hid (HB5.out.trans (hb.mono HB5.out.size))
    have HS6 := Lib.hid (show w5.heap.size < w6.heap.size from (Array.getElem?_eq_some_iff.mp hk).1)
    have Kd_6 := Lib.hid (blk_below Kd_5.out hb)
    have Kw_6 := Lib.hid (blk_below Kw_5.out hb)
    have Ot_6 := Lib.hid (Ot_5.out.below hb)
    have Ox_6 := Lib.hid (Ox_5.out.below hb)
    clear Kd_5 Kw_5 Ot_5 Ox_5
    have Kx_6 := Lib.hid hk
    clear hb hk hw
    have cx0 := (cells_of_heap Kx_6.out 0 (by simp)).1
    have cx1 := (cells_of_heap Kx_6.out 1 (by simp)).1
    go_wp2_with fail
    refine (HI.out _ _ HB6.out Ox_6.out.rd).mono ?_
    rw [← HRR.out]
    rintro e w7 ⟨rfl, hb⟩
    clear cx0 cx1
    have HB7 := Lib.hid (HB6.out.trans (hb.mono HB6.out.size))
    have HS7 := Lib.hid hb.size
    have Kd_7 := Lib.hid (blk_below Kd_6.out hb)
    have Kw_7 := Lib.hid (blk_below Kw_6.out hb)
    have Kx_7 := Lib.hid (blk_below Kx_6.out hb)
    have Ot_7 := Lib.hid (Ot_6.out.below hb)
    have Ox_7 := Lib.hid (Ox_6.out.below hb)
    clear Kd_6 Kw_6 Kx_6 Ot_6 Ox_6
    clear hb
    go_upto_region 8 with (fail)
    obtain ⟨w8, hw⟩ : ∃ x, x = w7.alloc (.cells #[.int .i64 r.k, .int .i64 r.c, .int .i64 r.m, .int .i64 r.n] 31) := ⟨_, rfl⟩
    have hb : Below w7.heap.size w7 w8 := by rw [hw]; exact below_alloc1 _ _
    have hk : w8.heap[w7.heap.size]? = some (.cells #[.int .i64 r.k, .int .i64 r.c, .int .i64 r.m, .int .i64 r.n] 31 (0, 0)) := by rw [hw]; exact heap_alloc_new _ _
    rw [← hw]
    have HB8 := Lib.hid (HB7.out.trans (hb.mono HB7.out.size))
    have HS8 := Lib.hid (show w7.heap.size < w8.heap.size from (Array.getElem?_eq_some_iff.mp hk).1)
    have Kd_8 := Lib.hid (blk_below Kd_7.out hb)
    have Kw_8 := Lib.hid (blk_below Kw_7.out hb)
    have Kx_8 := Lib.hid (blk_below Kx_7.out hb)
    have Ot_8 := Lib.hid (Ot_7.out.below hb)
    have Ox_8 := Lib.hid (Ox_7.out.below hb)
    clear Kd_7 Kw_7 Kx_7 Ot_7 Ox_7
    have Kg_8 := Lib.hid hk
    clear hb hk hw
    have cg0 := (cells_of_heap Kg_8.out 0 (by simp)).1
    have cg1 := (cells_of_heap Kg_8.out 1 (by simp)).1
    have cg2 := (cells_of_heap Kg_8.out 2 (by simp)).1
    have cg3 := (cells_of_heap Kg_8.out 3 (by simp)).1
    have cw0 := (cells_of_heap Kw_8.out 0 (by simp)).1
    have cw1 := (cells_of_heap Kw_8.out 1 (by simp)).1
    have cw2 := (cells_of_heap Kw_8.out 2 (by simp)).1
    have cw3 := (cells_of_heap Kw_8.out 3 (by simp)).1
    go_wp2_with fail
    refine (eqAction_same r.k r.c r.m r.n _).mono ?_
    rintro e w9 ⟨rfl, hb⟩
    clear cg0 cg1 cg2 cg3 cw0 cw1 cw2 cw3
    have HB9 := Lib.hid (HB8.out.trans (hb.mono HB8.out.size))
    have HS9 := Lib.hid hb.size
    have Kd_9 := Lib.hid (blk_below Kd_8.out hb)
    have Kw_9 := Lib.hid (blk_below Kw_8.out hb)
    have Kx_9 := Lib.hid (blk_below Kx_8.out hb)
    have Kg_9 := Lib.hid (blk_below Kg_8.out hb)
    have Ot_9 := Lib.hid (Ot_8.out.below hb)
    have Ox_9 := Lib.hid (Ox_8.out.below hb)
    clear Kd_8 Kw_8 Kx_8 Kg_8 Ot_8 Ox_8
    clear hb
    go_upto_region 10 with (fail)
    go_cut [35] (fun sd wx => sd = .bool false ∧ Below w9.heap.size w9 wx)
    case first =>
      have cd0 := (cells_of_heap Kd_9.out 0 (by simp)).1
      have cd1 := (cells_of_heap Kd_9.out 1 (by simp)).1
      have cx0 := (cells_of_heap Kx_9.out 0 (by simp)).1
      have cx1 := (cells_of_heap Kx_9.out 1 (by simp)).1
      have ld : w.heap.size < w9.heap.size := (Array.getElem?_eq_some_iff.mp Kd_9.out).1
      have lx : w5.heap.size < w9.heap.size := (Array.getElem?_eq_some_iff.mp Kx_9.out).1
      go_region_held3 (fun w' => w'.cell? ⟨w.heap.size, 0, none⟩ = some (.int .i64 k) ∧ w'.cell? ⟨w.heap.size, 1, none⟩ = some (.slice a L.length c) ∧ w'.cell? ⟨w5.heap.size, 0, none⟩ = some (.int .i64 k) ∧ w'.cell? ⟨w5.heap.size, 1, none⟩ = some (.slice a2 L.length c2)) (first | go_keep)
        (first | (go_at_call 19; refine (toKeymap_any k _ L _ HL1.out HL2.out (HR.out.below (by first | exact HB9.out | exact HB9.out.drew | exact HB9.out.drew.drew))).mono ?_; rintro e v1 ⟨a3, c3, f3, rfl, hy, hb1⟩; have hbr : Below w9.heap.size w9 v1 := (by first | exact hb1 | exact ((Below.refl _ _).drew).trans hb1 | exact ((Below.refl _ _).drew.drew).trans hb1); have kcd0 := (hbr.cell (p := ⟨w.heap.size, 0, none⟩) ld).trans cd0; have kcd1 := (hbr.cell (p := ⟨w.heap.size, 1, none⟩) ld).trans cd1; have kcx0 := (hbr.cell (p := ⟨w5.heap.size, 0, none⟩) lx).trans cx0; have kcx1 := (hbr.cell (p := ⟨w5.heap.size, 1, none⟩) lx).trans cx1; have HBR := Lib.hid hbr; have HY := Lib.hid hy; clear hbr hb1 hy) | (go_at_call 21; refine (eqKeymap_same k _ _ L _ HL4.out HL3.out (Ox_9.out.rd.below (by first | exact HBR.out | exact HBR.out.drew | exact HBR.out.drew.drew)) (HY.out.rd.below (by first | exact Below.refl _ _ | exact (Below.refl _ _).drew | exact (Below.refl _ _).drew.drew))).mono ?_; rintro e v2 ⟨rfl, hb2⟩; have hbr : Below w9.heap.size w9 v2 := (by first | exact HBR.out.trans (hb2.mono HBR.out.size) | exact HBR.out.trans (((Below.refl _ _).drew.trans hb2).mono HBR.out.size) | exact HBR.out.trans (((Below.refl _ _).drew.drew.trans hb2).mono HBR.out.size)); have kcd0 := (hbr.cell (p := ⟨w.heap.size, 0, none⟩) ld).trans cd0; have kcd1 := (hbr.cell (p := ⟨w.heap.size, 1, none⟩) ld).trans cd1; have kcx0 := (hbr.cell (p := ⟨w5.heap.size, 0, none⟩) lx).trans cx0; have kcx1 := (hbr.cell (p := ⟨w5.heap.size, 1, none⟩) lx).trans cx1; have HB2 := Lib.hid hbr; clear hbr hb2))
      all_goals
        go_wp2
        go_meet
        exact ⟨rfl, by first | exact HB2.out | exact HB2.out.drew⟩
    case rest =>
      obtain ⟨rfl, hb⟩ := hcut
      obtain ⟨w10, hw⟩ : ∃ x, x = wc := ⟨_, rfl⟩
      rw [← hw] at hb ⊢
      clear hw
      have HB10 := Lib.hid (HB9.out.trans (hb.mono HB9.out.size))
      have HS10 := Lib.hid hb.size
      have Kd_10 := Lib.hid (blk_below Kd_9.out hb)
      have Kw_10 := Lib.hid (blk_below Kw_9.out hb)
      have Kx_10 := Lib.hid (blk_below Kx_9.out hb)
      have Kg_10 := Lib.hid (blk_below Kg_9.out hb)
      have Ot_10 := Lib.hid (Ot_9.out.below hb)
      have Ox_10 := Lib.hid (Ox_9.out.below hb)
      clear Kd_9 Kw_9 Kx_9 Kg_9 Ot_9 Ox_9
      clear hb
      go_wp2
      go_ret
      exact ⟨rfl, HB10.out⟩
  · have hs1 : s = -1 := by rw [hs, if_neg hl]
    have hs0 : s < 0 := by omega
    clear hs hl hs1
    obtain ⟨w0, hw0⟩ : ∃ x, x = (w.alloc (.cells #[.int .i64 k, .slice a L.length c] 36)) := ⟨_, rfl⟩
    have HB0 := Lib.hid (show Below w.heap.size w w0 by rw [hw0]; exact (Below.refl _ _).alloc (Nat.le_refl _) _)
    have Kd_0 := Lib.hid (show w0.heap[w.heap.size]? = some (.cells #[.int .i64 k, .slice a L.length c] 36 (0, 0)) by rw [hw0]; exact heap_alloc_new w _)
    have SZ0 := Lib.hid (show w0.heap.size = w.heap.size + 1 by rw [hw0]; simp)
    have HW := Lib.hid hw0
    clear hw0
    go_enter Try.func6, Try.ntmps6
    have cd0 := (cells_of_heap Kd_0.out 0 (by simp)).1
    have cd1 := (cells_of_heap Kd_0.out 1 (by simp)).1
    go_wp2_with fail
    rw [← HW.out]
    refine (szKeymap_any k _ L _ HN.out HM.out (HR.out.below HB0.out)).mono ?_
    rw [← HSZ.out]
    rintro e w1 ⟨rfl, hb⟩
    clear cd0 cd1
    have HB1 := Lib.hid (HB0.out.trans (hb.mono HB0.out.size))
    have HS1 := Lib.hid hb.size
    have Kd_1 := Lib.hid (blk_below Kd_0.out hb)
    clear Kd_0
    clear hb
    go_wp2
    go_ret
    exact ⟨rfl, HB1.out⟩

set_option maxHeartbeats 1000000 in
set_option maxRecDepth 100000 in
theorem lawSetAction_walk (k layer key ek ec em en : Int) (u : Value) (L : List (List Ac)) (w : World) (hn : L.length ≤ maxLen) (hm : ∀ l ∈ L, l.length ≤ maxLen) (h : LdS w u L) (hI : ∀ (w' : World) (u' : Value), Below w.heap.size w w' → LdS w' u' L → Calls Try.prog 27 #[kmv k u', .int .i64 layer, .int .i64 key, acv ek ec em en] w' (KmOut (setV k L layer key ⟨ek, ec, em, en⟩) w')) : Calls Try.prog 7 #[kmv k u, .int .i64 layer, .int .i64 key, acv ek ec em en] w fun e w' => e = .returned (.bool true) ∧ Below w.heap.size w w' := by
  obtain ⟨a, c, rfl⟩ := RdS.shape h
  have HR := Lib.hid h
  have HN := Lib.hid hn
  have HM := Lib.hid hm
  obtain ⟨s, hs⟩ : ∃ s, s = (if L.length + lenS L L.length ≤ 1048576 then 1048576 - ((L.length + lenS L L.length : Nat) : Int) else -1) := ⟨_, rfl⟩
  have HSZ := Lib.hid hs
  have hlen := setV_len k L layer key ⟨ek, ec, em, en⟩
  obtain ⟨⟨rk, rl, rb⟩, hR⟩ : ∃ x, setV k L layer key ⟨ek, ec, em, en⟩ = x := ⟨_, rfl⟩
  rw [hR] at hlen hI
  obtain ⟨hrl1, hrl2⟩ := hlen
  replace hrl1 : rl.length ≤ 4 := hrl1
  replace hrl2 : ∀ l ∈ rl, l.length ≤ 32 := hrl2
  have hrl3 := lenS_le hrl2 rl.length
  have HE1 := Lib.hid (show rl.length ≤ 1048576 by omega)
  have HE2 := Lib.hid (show lenS rl rl.length ≤ 1048576 by omega)
  have HE3 := Lib.hid (show rl.length ≤ 1000000000000 by omega)
  have HE4 := Lib.hid (show ∀ l ∈ rl, l.length ≤ 1000000000000 from fun l hm => Nat.le_trans (hrl2 l hm) (by decide))
  have HI := Lib.hid hI
  have HRR := Lib.hid hR
  clear h hn hm hI hR hrl1 hrl2 hrl3
  obtain ⟨qx, hqx⟩ : ∃ q : Int, q = 1 + ((lenS L L.length * 4 : Nat) : Int) := ⟨_, rfl⟩
  obtain ⟨qr, hqr⟩ : ∃ q : Int, q = 1 + ((lenS rl rl.length * 4 : Nat) : Int) := ⟨_, rfl⟩
  have hqx0 : ¬ qx < 0 := by omega
  have hqr0 : ¬ qr < 0 := by omega
  have HQX := Lib.hid hqx
  have HQR := Lib.hid hqr
  clear hqx hqr
  by_cases hl : L.length + lenS L L.length ≤ 1048576
  · have hs0 : ¬ s < 0 := by rw [hs, if_pos hl]; omega
    have HL1 := Lib.hid (show L.length ≤ 1048576 by omega)
    have HL2 := Lib.hid (show ∀ l ∈ L, l.length ≤ 1048576 from fun l hm => Nat.le_trans (lenS_mem hm) (by omega))
    have HL3 := Lib.hid (show ∀ l ∈ L, l.length ≤ 1000000000000 from fun l hm => Nat.le_trans (HL2.out l hm) (by decide))
    have HL4 := Lib.hid (show L.length ≤ 1000000000000 by omega)
    have HL5 := Lib.hid (show lenS L L.length ≤ 1048576 by omega)
    clear hs hl
    obtain ⟨w0, hw0⟩ : ∃ x, x = ((w.alloc (.cells #[.int .i64 k, .slice a L.length c] 36)).alloc (.cells #[.int .i64 ek, .int .i64 ec, .int .i64 em, .int .i64 en] 44)) := ⟨_, rfl⟩
    have HB0 := Lib.hid (show Below w.heap.size w w0 by rw [hw0]; exact ((Below.refl _ _).alloc (Nat.le_refl _) _).alloc (by simp) _)
    have Kd_0 := Lib.hid (show w0.heap[w.heap.size]? = some (.cells #[.int .i64 k, .slice a L.length c] 36 (0, 0)) by rw [hw0]; rw [Below.heap_alloc _ _ _ (by simp <;> omega)]; exact heap_alloc_new w _)
    have Ke_0 := Lib.hid (show w0.heap[w.heap.size + 1]? = some (.cells #[.int .i64 ek, .int .i64 ec, .int .i64 em, .int .i64 en] 44 (0, 0)) by rw [hw0]; simpa using heap_alloc_new (w.alloc (.cells #[.int .i64 k, .slice a L.length c] 36)) _)
    have SZ0 := Lib.hid (show w0.heap.size = w.heap.size + 1 + 1 by rw [hw0]; simp)
    have HW := Lib.hid hw0
    clear hw0
    go_enter Try.func7, Try.ntmps7
    have cd0 := (cells_of_heap Kd_0.out 0 (by simp)).1
    have cd1 := (cells_of_heap Kd_0.out 1 (by simp)).1
    go_wp2_with fail
    rw [← HW.out]
    refine (szKeymap_any k _ L _ HN.out HM.out (HR.out.below HB0.out)).mono ?_
    rw [← HSZ.out]
    rintro e w1 ⟨rfl, hb⟩
    clear cd0 cd1
    have HB1 := Lib.hid (HB0.out.trans (hb.mono HB0.out.size))
    have HS1 := Lib.hid hb.size
    have Kd_1 := Lib.hid (blk_below Kd_0.out hb)
    have Ke_1 := Lib.hid (blk_below Ke_0.out hb)
    clear Kd_0 Ke_0
    clear hb
    go_upto_region 5 with (fail)
    go_cut [10, 11] (fun sp sq wx => ∃ (y9 : Nat) (a9 : Option Addr) (c9 : Nat) (f9 : List Nat), sp = .pointer (some ⟨y9, 0, none⟩) ∧ sq = .bool rb ∧ w1.heap.size ≤ y9 ∧ y9 ∉ f9 ∧ wx.heap[y9]? = some (.cells #[.int .i64 rk, .slice a9 rl.length c9] 26 (0, 0)) ∧ LoS wx w1.heap.size (.slice a9 rl.length c9) rl f9 ∧ Below w1.heap.size w1 wx)
    case first =>
      have cd0 := (cells_of_heap Kd_1.out 0 (by simp)).1
      have cd1 := (cells_of_heap Kd_1.out 1 (by simp)).1
      have ce0 := (cells_of_heap Ke_1.out 0 (by simp)).1
      have ce1 := (cells_of_heap Ke_1.out 1 (by simp)).1
      have ce2 := (cells_of_heap Ke_1.out 2 (by simp)).1
      have ce3 := (cells_of_heap Ke_1.out 3 (by simp)).1
      have ld : w.heap.size < w1.heap.size := (Array.getElem?_eq_some_iff.mp Kd_1.out).1
      have nd0 : ¬ w.heap.size = w1.heap.size := by omega
      have md0 : ¬ w1.heap.size = w.heap.size := by omega
      have le : w.heap.size + 1 < w1.heap.size := (Array.getElem?_eq_some_iff.mp Ke_1.out).1
      have ne0 : ¬ w.heap.size + 1 = w1.heap.size := by omega
      have me0 : ¬ w1.heap.size = w.heap.size + 1 := by omega
      have X0 := Lib.hid (Below.refl w1.heap.size w1)
      go_region_held3 (fun w' => w'.cell? ⟨w.heap.size, 0, none⟩ = some (.int .i64 k) ∧ w'.cell? ⟨w.heap.size, 1, none⟩ = some (.slice a L.length c) ∧ w'.cell? ⟨w.heap.size + 1, 0, none⟩ = some (.int .i64 ek) ∧ w'.cell? ⟨w.heap.size + 1, 1, none⟩ = some (.int .i64 ec) ∧ w'.cell? ⟨w.heap.size + 1, 2, none⟩ = some (.int .i64 em) ∧ w'.cell? ⟨w.heap.size + 1, 3, none⟩ = some (.int .i64 en)) (first | go_keep | simp [go_sem, *])
        (first | (go_at_call 19; refine (toKeymap_any k _ L _ HL1.out HL2.out (HR.out.below (HB1.out.trans (Below.mono (by first | exact X0.out | exact X0.out.drew | exact X0.out.drew.drew | exact X0.out.alloc X0.out.size _ | exact (X0.out.alloc X0.out.size _).drew | exact (X0.out.alloc X0.out.size _).drew.drew) HB1.out.size)))).mono ?_; rintro e v1 ⟨a8, c8, f8, rfl, hy, hb⟩; have hbr : Below w1.heap.size w1 v1 := below_via (by first | exact X0.out | exact X0.out.drew | exact X0.out.drew.drew | exact X0.out.alloc X0.out.size _ | exact (X0.out.alloc X0.out.size _).drew | exact (X0.out.alloc X0.out.size _).drew.drew) hb; have kcd0 := (hbr.cell (p := ⟨w.heap.size, 0, none⟩) ld).trans cd0; have kcd1 := (hbr.cell (p := ⟨w.heap.size, 1, none⟩) ld).trans cd1; have kce0 := (hbr.cell (p := ⟨w.heap.size + 1, 0, none⟩) le).trans ce0; have kce1 := (hbr.cell (p := ⟨w.heap.size + 1, 1, none⟩) le).trans ce1; have kce2 := (hbr.cell (p := ⟨w.heap.size + 1, 2, none⟩) le).trans ce2; have kce3 := (hbr.cell (p := ⟨w.heap.size + 1, 3, none⟩) le).trans ce3; have nd1 : ¬ w.heap.size = v1.heap.size := (by have := hbr.size; omega); have md1 : ¬ v1.heap.size = w.heap.size := (by have := hbr.size; omega); have ne1 : ¬ w.heap.size + 1 = v1.heap.size := (by have := hbr.size; omega); have me1 : ¬ v1.heap.size = w.heap.size + 1 := (by have := hbr.size; omega); (first | (have KY := Lib.hid (ky_new X0.out.size hb)) | (have KY := Lib.hid (ky_drew X0.out.size hb)) | (have KY := Lib.hid (ky_old KY.out hb rfl)) | skip); have HY := Lib.hid (hy); have X1 := Lib.hid hbr; clear hbr hb) | (go_at_call 26; refine (toAction_any ek ec em en _).mono ?_; rintro e v2 ⟨rfl, hb⟩; have hbr : Below w1.heap.size w1 v2 := below_via (by first | exact X1.out | exact X1.out.drew | exact X1.out.drew.drew | exact X1.out.alloc X1.out.size _ | exact (X1.out.alloc X1.out.size _).drew | exact (X1.out.alloc X1.out.size _).drew.drew) hb; have kcd0 := (hbr.cell (p := ⟨w.heap.size, 0, none⟩) ld).trans cd0; have kcd1 := (hbr.cell (p := ⟨w.heap.size, 1, none⟩) ld).trans cd1; have kce0 := (hbr.cell (p := ⟨w.heap.size + 1, 0, none⟩) le).trans ce0; have kce1 := (hbr.cell (p := ⟨w.heap.size + 1, 1, none⟩) le).trans ce1; have kce2 := (hbr.cell (p := ⟨w.heap.size + 1, 2, none⟩) le).trans ce2; have kce3 := (hbr.cell (p := ⟨w.heap.size + 1, 3, none⟩) le).trans ce3; have nd2 : ¬ w.heap.size = v2.heap.size := (by have := hbr.size; omega); have md2 : ¬ v2.heap.size = w.heap.size := (by have := hbr.size; omega); have ne2 : ¬ w.heap.size + 1 = v2.heap.size := (by have := hbr.size; omega); have me2 : ¬ v2.heap.size = w.heap.size + 1 := (by have := hbr.size; omega); (first | (have KY := Lib.hid (ky_new X1.out.size hb)) | (have KY := Lib.hid (ky_drew X1.out.size hb)) | (have KY := Lib.hid (ky_old KY.out hb rfl)) | skip); have HST2 := Lib.hid (show Below v1.heap.size v1 v2 from below_via (by first | exact Below.refl _ _ | exact (Below.refl _ _).drew | exact (Below.refl _ _).drew.drew | exact (Below.refl _ _).alloc (Nat.le_refl _) _ | exact ((Below.refl _ _).alloc (Nat.le_refl _) _).drew) hb); have X2 := Lib.hid hbr; clear hbr hb) | (go_at_call 25; refine (specSetAction_law k layer key ek ec em en _ L rk rl rb HRR.out _ HN.out HM.out (HY.out.rd.below (by first | exact HST2.out | exact HST2.out.drew | exact HST2.out.drew.drew | exact HST2.out.alloc HST2.out.size _ | exact (HST2.out.alloc HST2.out.size _).drew | exact (HST2.out.alloc HST2.out.size _).drew.drew))).mono ?_; rintro e v3 ⟨a9, c9, f9, rfl, h9, hb⟩; have hbr : Below w1.heap.size w1 v3 := below_via (by first | exact X2.out | exact X2.out.drew | exact X2.out.drew.drew | exact X2.out.alloc X2.out.size _ | exact (X2.out.alloc X2.out.size _).drew | exact (X2.out.alloc X2.out.size _).drew.drew) hb; have kcd0 := (hbr.cell (p := ⟨w.heap.size, 0, none⟩) ld).trans cd0; have kcd1 := (hbr.cell (p := ⟨w.heap.size, 1, none⟩) ld).trans cd1; have kce0 := (hbr.cell (p := ⟨w.heap.size + 1, 0, none⟩) le).trans ce0; have kce1 := (hbr.cell (p := ⟨w.heap.size + 1, 1, none⟩) le).trans ce1; have kce2 := (hbr.cell (p := ⟨w.heap.size + 1, 2, none⟩) le).trans ce2; have kce3 := (hbr.cell (p := ⟨w.heap.size + 1, 3, none⟩) le).trans ce3; have nd3 : ¬ w.heap.size = v3.heap.size := (by have := hbr.size; omega); have md3 : ¬ v3.heap.size = w.heap.size := (by have := hbr.size; omega); have ne3 : ¬ w.heap.size + 1 = v3.heap.size := (by have := hbr.size; omega); have me3 : ¬ v3.heap.size = w.heap.size + 1 := (by have := hbr.size; omega); (first | (have KY := Lib.hid (ky_new X2.out.size hb)) | (have KY := Lib.hid (ky_drew X2.out.size hb)) | (have KY := Lib.hid (ky_old KY.out hb rfl)) | skip); have H9R := Lib.hid (h9.rng); have H9 := Lib.hid (h9.base (B := w1.heap.size) (Below.size (B := w1.heap.size) (w := w1) (by first | exact X2.out | exact X2.out.drew | exact X2.out.drew.drew | exact X2.out.alloc X2.out.size _ | exact (X2.out.alloc X2.out.size _).drew | exact (X2.out.alloc X2.out.size _).drew.drew))); have X3 := Lib.hid hbr; clear hbr hb; (try (have e0 := cells_of_heap KY.out.1 0 (by simp); have g0 := e0.2; replace e0 := e0.1; have e1 := cells_of_heap KY.out.1 1 (by simp); have g1 := e1.2; replace e1 := e1.1))))
      all_goals
        go_wp2
        go_meet
        first | exact ⟨v3.heap.size, _, _, _, rfl, rfl, X3.out.size, fun hm => Nat.lt_irrefl _ (H9R.out _ hm).2, heap_alloc_new _ _, H9.out.below ((Below.refl _ _).alloc (Nat.le_refl _) _), X3.out.alloc X3.out.size _⟩ | exact ⟨v3.heap.size, _, _, _, rfl, rfl, X3.out.size, fun hm => Nat.lt_irrefl _ (H9R.out _ hm).2, heap_alloc_new _ _, H9.out.below ((Below.refl _ _).alloc (Nat.le_refl _) _).drew, (X3.out.alloc X3.out.size _).drew⟩ | exact ⟨_, _, _, _, rfl, rfl, KY.out.2.2, (fun hm => Nat.lt_irrefl _ (Nat.lt_of_lt_of_le KY.out.2.1 (H9R.out _ hm).1)), putW_all [.int .i64 rk, .slice _ rl.length _] KY.out.1 rfl, H9.out.putAt [.int .i64 rk, .slice _ rl.length _] (fun hm => Nat.lt_irrefl _ (Nat.lt_of_lt_of_le KY.out.2.1 (H9R.out _ hm).1)) 0, putW_below KY.out.2.2 [.int .i64 rk, .slice _ rl.length _] 0 _ X3.out⟩ | exact ⟨_, _, _, _, rfl, rfl, KY.out.2.2, (fun hm => Nat.lt_irrefl _ (Nat.lt_of_lt_of_le KY.out.2.1 (H9R.out _ hm).1)), putW_all [.int .i64 rk, .slice _ rl.length _] KY.out.1 rfl, (H9.out.putAt [.int .i64 rk, .slice _ rl.length _] (fun hm => Nat.lt_irrefl _ (Nat.lt_of_lt_of_le KY.out.2.1 (H9R.out _ hm).1)) 0).below (Below.refl _ _).drew, (putW_below KY.out.2.2 [.int .i64 rk, .slice _ rl.length _] 0 _ X3.out).drew⟩
    case rest =>
      obtain ⟨yw, aw, cw, fw, rfl, rfl, hlw, hni, hk, hw, hb⟩ := hcut
      obtain ⟨w2, hEq⟩ : ∃ x, x = wc := ⟨_, rfl⟩
      rw [← hEq] at hk hw hb ⊢
      clear hEq
      have huw : yw < w2.heap.size := (Array.getElem?_eq_some_iff.mp hk).1
      have HB2 := Lib.hid (HB1.out.trans (hb.mono HB1.out.size))
      have HS2 := Lib.hid hb.size
      have Kd_2 := Lib.hid (blk_below Kd_1.out hb)
      have Ke_2 := Lib.hid (blk_below Ke_1.out hb)
      clear Kd_1 Ke_1
      have Rw := Lib.hid hw.rng
      have Ow_2 := Lib.hid hw
      have Kw_2 := Lib.hid hk
      have NIw := Lib.hid hni
      clear hb hk hni hw
      have cd0 := (cells_of_heap Kd_2.out 0 (by simp)).1
      have cd1 := (cells_of_heap Kd_2.out 1 (by simp)).1
      go_wp2_with fail
      refine (toKeymap_any k _ L _ HL1.out HL2.out (HR.out.below HB2.out)).mono ?_
      rintro e w3 ⟨a2, c2, f2, rfl, h2, hb⟩
      clear cd0 cd1
      have HB3 := Lib.hid (HB2.out.trans (hb.mono HB2.out.size))
      have HS3 := Lib.hid hb.size
      have Kd_3 := Lib.hid (blk_below Kd_2.out hb)
      have Ke_3 := Lib.hid (blk_below Ke_2.out hb)
      have Kw_3 := Lib.hid (blk_below Kw_2.out hb)
      have Ow_3 := Lib.hid (Ow_2.out.below hb)
      clear Kd_2 Ke_2 Kw_2 Ow_2
      have Rx := Lib.hid (h2.rng)
      have Ox_3 := Lib.hid h2
      clear hb h2
      go_upto_region 7 with (fail)
      obtain ⟨w4, hw⟩ : ∃ x, x = w3.alloc (.cells #[.int .i64 k, .slice a2 L.length c2] 26) := ⟨_, rfl⟩
      have hb : Below w3.heap.size w3 w4 := by rw [hw]; exact below_alloc1 _ _
      have hk : w4.heap[w3.heap.size]? = some (.cells #[.int .i64 k, .slice a2 L.length c2] 26 (0, 0)) := by rw [hw]; exact heap_alloc_new _ _
      rw [← hw]
      have HB4 := Lib.hid (HB3.out.trans (hb.mono HB3.out.size))
      have HS4 := Lib.hid (show w3.heap.size < w4.heap.size from (Array.getElem?_eq_some_iff.mp hk).1)
      have Kd_4 := Lib.hid (blk_below Kd_3.out hb)
      have Ke_4 := Lib.hid (blk_below Ke_3.out hb)
      have Kw_4 := Lib.hid (blk_below Kw_3.out hb)
      have Ow_4 := Lib.hid (Ow_3.out.below hb)
      have Ox_4 := Lib.hid (Ox_3.out.below hb)
      clear Kd_3 Ke_3 Kw_3 Ow_3 Ox_3
      have Kx_4 := Lib.hid hk
      clear hb hk hw
      go_upto_region 7 with (fail)
      go_cut [13, 14] (fun sp sq wx => ∃ (y9 : Nat) (a9 : Option Addr) (c9 : Nat) (f9 : List Nat), sp = .pointer (some ⟨y9, 0, none⟩) ∧ sq = .bool rb ∧ w4.heap.size ≤ y9 ∧ y9 ∉ f9 ∧ wx.heap[y9]? = some (.cells #[.int .i64 rk, .slice a9 rl.length c9] 26 (0, 0)) ∧ LoS wx w4.heap.size (.slice a9 rl.length c9) rl f9 ∧ Below w4.heap.size w4 wx)
      case first =>
        have cx0 := (cells_of_heap Kx_4.out 0 (by simp)).1
        have cx1 := (cells_of_heap Kx_4.out 1 (by simp)).1
        have ce0 := (cells_of_heap Ke_4.out 0 (by simp)).1
        have ce1 := (cells_of_heap Ke_4.out 1 (by simp)).1
        have ce2 := (cells_of_heap Ke_4.out 2 (by simp)).1
        have ce3 := (cells_of_heap Ke_4.out 3 (by simp)).1
        have lx : w3.heap.size < w4.heap.size := (Array.getElem?_eq_some_iff.mp Kx_4.out).1
        have nx0 : ¬ w3.heap.size = w4.heap.size := by omega
        have mx0 : ¬ w4.heap.size = w3.heap.size := by omega
        have le : w.heap.size + 1 < w4.heap.size := (Array.getElem?_eq_some_iff.mp Ke_4.out).1
        have ne0 : ¬ w.heap.size + 1 = w4.heap.size := by omega
        have me0 : ¬ w4.heap.size = w.heap.size + 1 := by omega
        have X0 := Lib.hid (Below.refl w4.heap.size w4)
        go_region_held3 (fun w' => w'.cell? ⟨w3.heap.size, 0, none⟩ = some (.int .i64 k) ∧ w'.cell? ⟨w3.heap.size, 1, none⟩ = some (.slice a2 L.length c2) ∧ w'.cell? ⟨w.heap.size + 1, 0, none⟩ = some (.int .i64 ek) ∧ w'.cell? ⟨w.heap.size + 1, 1, none⟩ = some (.int .i64 ec) ∧ w'.cell? ⟨w.heap.size + 1, 2, none⟩ = some (.int .i64 em) ∧ w'.cell? ⟨w.heap.size + 1, 3, none⟩ = some (.int .i64 en)) (first | go_keep | simp [go_sem, *])
          (first | (go_at_call 26; refine (toAction_any ek ec em en _).mono ?_; rintro e v1 ⟨rfl, hb⟩; have hbr : Below w4.heap.size w4 v1 := below_via (by first | exact X0.out | exact X0.out.drew | exact X0.out.drew.drew | exact X0.out.alloc X0.out.size _ | exact (X0.out.alloc X0.out.size _).drew | exact (X0.out.alloc X0.out.size _).drew.drew) hb; have kcx0 := (hbr.cell (p := ⟨w3.heap.size, 0, none⟩) lx).trans cx0; have kcx1 := (hbr.cell (p := ⟨w3.heap.size, 1, none⟩) lx).trans cx1; have kce0 := (hbr.cell (p := ⟨w.heap.size + 1, 0, none⟩) le).trans ce0; have kce1 := (hbr.cell (p := ⟨w.heap.size + 1, 1, none⟩) le).trans ce1; have kce2 := (hbr.cell (p := ⟨w.heap.size + 1, 2, none⟩) le).trans ce2; have kce3 := (hbr.cell (p := ⟨w.heap.size + 1, 3, none⟩) le).trans ce3; have nx1 : ¬ w3.heap.size = v1.heap.size := (by have := hbr.size; omega); have mx1 : ¬ v1.heap.size = w3.heap.size := (by have := hbr.size; omega); have ne1 : ¬ w.heap.size + 1 = v1.heap.size := (by have := hbr.size; omega); have me1 : ¬ v1.heap.size = w.heap.size + 1 := (by have := hbr.size; omega); (first | (have KY := Lib.hid (ky_new X0.out.size hb)) | (have KY := Lib.hid (ky_drew X0.out.size hb)) | (have KY := Lib.hid (ky_old KY.out hb rfl)) | skip); have X1 := Lib.hid hbr; clear hbr hb) | (go_at_call 27; refine (HI.out _ _ (HB4.out.trans (Below.mono (by first | exact X1.out | exact X1.out.drew | exact X1.out.drew.drew | exact X1.out.alloc X1.out.size _ | exact (X1.out.alloc X1.out.size _).drew | exact (X1.out.alloc X1.out.size _).drew.drew) HB4.out.size)) (Ox_4.out.rd.below (by first | exact X1.out | exact X1.out.drew | exact X1.out.drew.drew | exact X1.out.alloc X1.out.size _ | exact (X1.out.alloc X1.out.size _).drew | exact (X1.out.alloc X1.out.size _).drew.drew))).mono ?_; rintro e v2 ⟨a9, c9, f9, rfl, h9, hb⟩; have hbr : Below w4.heap.size w4 v2 := below_via (by first | exact X1.out | exact X1.out.drew | exact X1.out.drew.drew | exact X1.out.alloc X1.out.size _ | exact (X1.out.alloc X1.out.size _).drew | exact (X1.out.alloc X1.out.size _).drew.drew) hb; have kcx0 := (hbr.cell (p := ⟨w3.heap.size, 0, none⟩) lx).trans cx0; have kcx1 := (hbr.cell (p := ⟨w3.heap.size, 1, none⟩) lx).trans cx1; have kce0 := (hbr.cell (p := ⟨w.heap.size + 1, 0, none⟩) le).trans ce0; have kce1 := (hbr.cell (p := ⟨w.heap.size + 1, 1, none⟩) le).trans ce1; have kce2 := (hbr.cell (p := ⟨w.heap.size + 1, 2, none⟩) le).trans ce2; have kce3 := (hbr.cell (p := ⟨w.heap.size + 1, 3, none⟩) le).trans ce3; have nx2 : ¬ w3.heap.size = v2.heap.size := (by have := hbr.size; omega); have mx2 : ¬ v2.heap.size = w3.heap.size := (by have := hbr.size; omega); have ne2 : ¬ w.heap.size + 1 = v2.heap.size := (by have := hbr.size; omega); have me2 : ¬ v2.heap.size = w.heap.size + 1 := (by have := hbr.size; omega); (first | (have KY := Lib.hid (ky_new X1.out.size hb)) | (have KY := Lib.hid (ky_drew X1.out.size hb)) | (have KY := Lib.hid (ky_old KY.out hb rfl)) | skip); have H9R := Lib.hid (h9.rng); have H9 := Lib.hid (h9.base (B := w4.heap.size) (Below.size (B := w4.heap.size) (w := w4) (by first | exact X1.out | exact X1.out.drew | exact X1.out.drew.drew | exact X1.out.alloc X1.out.size _ | exact (X1.out.alloc X1.out.size _).drew | exact (X1.out.alloc X1.out.size _).drew.drew))); have X2 := Lib.hid hbr; clear hbr hb; (try (have e0 := cells_of_heap KY.out.1 0 (by simp); have g0 := e0.2; replace e0 := e0.1; have e1 := cells_of_heap KY.out.1 1 (by simp); have g1 := e1.2; replace e1 := e1.1))))
        all_goals
          go_wp2
          go_meet
          first | exact ⟨v2.heap.size, _, _, _, rfl, rfl, X2.out.size, fun hm => Nat.lt_irrefl _ (H9R.out _ hm).2, heap_alloc_new _ _, H9.out.below ((Below.refl _ _).alloc (Nat.le_refl _) _), X2.out.alloc X2.out.size _⟩ | exact ⟨v2.heap.size, _, _, _, rfl, rfl, X2.out.size, fun hm => Nat.lt_irrefl _ (H9R.out _ hm).2, heap_alloc_new _ _, H9.out.below ((Below.refl _ _).alloc (Nat.le_refl _) _).drew, (X2.out.alloc X2.out.size _).drew⟩ | exact ⟨_, _, _, _, rfl, rfl, KY.out.2.2, (fun hm => Nat.lt_irrefl _ (Nat.lt_of_lt_of_le KY.out.2.1 (H9R.out _ hm).1)), putW_all [.int .i64 rk, .slice _ rl.length _] KY.out.1 rfl, H9.out.putAt [.int .i64 rk, .slice _ rl.length _] (fun hm => Nat.lt_irrefl _ (Nat.lt_of_lt_of_le KY.out.2.1 (H9R.out _ hm).1)) 0, putW_below KY.out.2.2 [.int .i64 rk, .slice _ rl.length _] 0 _ X2.out⟩ | exact ⟨_, _, _, _, rfl, rfl, KY.out.2.2, (fun hm => Nat.lt_irrefl _ (Nat.lt_of_lt_of_le KY.out.2.1 (H9R.out _ hm).1)), putW_all [.int .i64 rk, .slice _ rl.length _] KY.out.1 rfl, (H9.out.putAt [.int .i64 rk, .slice _ rl.length _] (fun hm => Nat.lt_irrefl _ (Nat.lt_of_lt_of_le KY.out.2.1 (H9R.out _ hm).1)) 0).below (Below.refl _ _).drew, (putW_below KY.out.2.2 [.int .i64 rk, .slice _ rl.length _] 0 _ X2.out).drew⟩
      case rest =>
        obtain ⟨yg, ag, cg, fg, rfl, rfl, hlg, hni, hk, hg, hb⟩ := hcut
        obtain ⟨w5, hEq⟩ : ∃ x, x = wc := ⟨_, rfl⟩
        rw [← hEq] at hk hg hb ⊢
        clear hEq
        have hug : yg < w5.heap.size := (Array.getElem?_eq_some_iff.mp hk).1
        have HB5 := Lib.hid (HB4.out.trans (hb.mono HB4.out.size))
        have HS5 := Lib.hid hb.size
        have Kd_5 := Lib.hid (blk_below Kd_4.out hb)
        have Ke_5 := Lib.hid (blk_below Ke_4.out hb)
        have Kw_5 := Lib.hid (blk_below Kw_4.out hb)
        have Kx_5 := Lib.hid (blk_below Kx_4.out hb)
        have Ow_5 := Lib.hid (Ow_4.out.below hb)
        have Ox_5 := Lib.hid (Ox_4.out.below hb)
        clear Kd_4 Ke_4 Kw_4 Kx_4 Ow_4 Ox_4
        have Rg := Lib.hid hg.rng
        have Og_5 := Lib.hid hg
        have Kg_5 := Lib.hid hk
        have NIg := Lib.hid hni
        clear hb hk hni hg
        have cg0 := (cells_of_heap Kg_5.out 0 (by simp)).1
        have cg1 := (cells_of_heap Kg_5.out 1 (by simp)).1
        have cw0 := (cells_of_heap Kw_5.out 0 (by simp)).1
        have cw1 := (cells_of_heap Kw_5.out 1 (by simp)).1
        go_wp2_with fail
        refine (eqKeymap_same rk _ _ rl _ HE3.out HE4.out Og_5.out.rd Ow_5.out.rd).mono ?_
        rintro e w6 ⟨rfl, hb⟩
        clear cg0 cg1 cw0 cw1
        have HB6 := Lib.hid (HB5.out.trans (hb.mono HB5.out.size))
        have HS6 := Lib.hid hb.size
        have Kd_6 := Lib.hid (blk_below Kd_5.out hb)
        have Ke_6 := Lib.hid (blk_below Ke_5.out hb)
        have Kw_6 := Lib.hid (blk_below Kw_5.out hb)
        have Kx_6 := Lib.hid (blk_below Kx_5.out hb)
        have Kg_6 := Lib.hid (blk_below Kg_5.out hb)
        have Ow_6 := Lib.hid (Ow_5.out.below hb)
        have Ox_6 := Lib.hid (Ox_5.out.below hb)
        have Og_6 := Lib.hid (Og_5.out.below hb)
        clear Kd_5 Ke_5 Kw_5 Kx_5 Kg_5 Ow_5 Ox_5 Og_5
        clear hb
        go_upto_region 10 with (fail)
        go_cut [59] (fun sd wx => sd = .bool false ∧ Below w6.heap.size w6 wx)
        case first =>
          have cd0 := (cells_of_heap Kd_6.out 0 (by simp)).1
          have cd1 := (cells_of_heap Kd_6.out 1 (by simp)).1
          have cx0 := (cells_of_heap Kx_6.out 0 (by simp)).1
          have cx1 := (cells_of_heap Kx_6.out 1 (by simp)).1
          have ld : w.heap.size < w6.heap.size := (Array.getElem?_eq_some_iff.mp Kd_6.out).1
          have lx : w3.heap.size < w6.heap.size := (Array.getElem?_eq_some_iff.mp Kx_6.out).1
          go_region_held3 (fun w' => w'.cell? ⟨w.heap.size, 0, none⟩ = some (.int .i64 k) ∧ w'.cell? ⟨w.heap.size, 1, none⟩ = some (.slice a L.length c) ∧ w'.cell? ⟨w3.heap.size, 0, none⟩ = some (.int .i64 k) ∧ w'.cell? ⟨w3.heap.size, 1, none⟩ = some (.slice a2 L.length c2)) (first | go_keep)
            (first | (go_at_call 19; refine (toKeymap_any k _ L _ HL1.out HL2.out (HR.out.below (by first | exact HB6.out | exact HB6.out.drew | exact HB6.out.drew.drew))).mono ?_; rintro e v1 ⟨a3, c3, f3, rfl, hy, hb1⟩; have hbr : Below w6.heap.size w6 v1 := (by first | exact hb1 | exact ((Below.refl _ _).drew).trans hb1 | exact ((Below.refl _ _).drew.drew).trans hb1); have kcd0 := (hbr.cell (p := ⟨w.heap.size, 0, none⟩) ld).trans cd0; have kcd1 := (hbr.cell (p := ⟨w.heap.size, 1, none⟩) ld).trans cd1; have kcx0 := (hbr.cell (p := ⟨w3.heap.size, 0, none⟩) lx).trans cx0; have kcx1 := (hbr.cell (p := ⟨w3.heap.size, 1, none⟩) lx).trans cx1; have HBR := Lib.hid hbr; have HY := Lib.hid hy; clear hbr hb1 hy) | (go_at_call 21; refine (eqKeymap_same k _ _ L _ HL4.out HL3.out (Ox_6.out.rd.below (by first | exact HBR.out | exact HBR.out.drew | exact HBR.out.drew.drew)) (HY.out.rd.below (by first | exact Below.refl _ _ | exact (Below.refl _ _).drew | exact (Below.refl _ _).drew.drew))).mono ?_; rintro e v2 ⟨rfl, hb2⟩; have hbr : Below w6.heap.size w6 v2 := (by first | exact HBR.out.trans (hb2.mono HBR.out.size) | exact HBR.out.trans (((Below.refl _ _).drew.trans hb2).mono HBR.out.size) | exact HBR.out.trans (((Below.refl _ _).drew.drew.trans hb2).mono HBR.out.size)); have kcd0 := (hbr.cell (p := ⟨w.heap.size, 0, none⟩) ld).trans cd0; have kcd1 := (hbr.cell (p := ⟨w.heap.size, 1, none⟩) ld).trans cd1; have kcx0 := (hbr.cell (p := ⟨w3.heap.size, 0, none⟩) lx).trans cx0; have kcx1 := (hbr.cell (p := ⟨w3.heap.size, 1, none⟩) lx).trans cx1; have HB2 := Lib.hid hbr; clear hbr hb2))
          all_goals
            go_wp2
            go_meet
            exact ⟨rfl, by first | exact HB2.out | exact HB2.out.drew⟩
        case rest =>
          obtain ⟨rfl, hb⟩ := hcut
          obtain ⟨w7, hw⟩ : ∃ x, x = wc := ⟨_, rfl⟩
          rw [← hw] at hb ⊢
          clear hw
          have HB7 := Lib.hid (HB6.out.trans (hb.mono HB6.out.size))
          have HS7 := Lib.hid hb.size
          have Kd_7 := Lib.hid (blk_below Kd_6.out hb)
          have Ke_7 := Lib.hid (blk_below Ke_6.out hb)
          have Kw_7 := Lib.hid (blk_below Kw_6.out hb)
          have Kx_7 := Lib.hid (blk_below Kx_6.out hb)
          have Kg_7 := Lib.hid (blk_below Kg_6.out hb)
          have Ow_7 := Lib.hid (Ow_6.out.below hb)
          have Ox_7 := Lib.hid (Ox_6.out.below hb)
          have Og_7 := Lib.hid (Og_6.out.below hb)
          clear Kd_6 Ke_6 Kw_6 Kx_6 Kg_6 Ow_6 Ox_6 Og_6
          clear hb
          have cx0 := (cells_of_heap Kx_7.out 0 (by simp)).1
          have cx1 := (cells_of_heap Kx_7.out 1 (by simp)).1
          go_wp2_with fail
          refine (markKeymap_q _ k _ L _ 1 qx HQX.out _ HL1.out HL5.out (by decide) (by decide) Ox_7.out).mono ?_
          rintro e w8 ⟨rfl, ho, ht⟩
          clear cx0 cx1
          have HB8 := Lib.hid (HB7.out.trans (ht.below (fun b hb => by have := Rx.out b hb; have := HB2.out.size; omega) HB7.out.size))
          have HS8 := Lib.hid ht.size
          have Kd_8 := Lib.hid (blk_turn Kd_7.out ht (fun hm => by have := Rx.out _ hm; have := HS1.out; have := HS2.out; have := SZ0.out; omega))
          have Ke_8 := Lib.hid (blk_turn Ke_7.out ht (fun hm => by have := Rx.out _ hm; have := HS1.out; have := HS2.out; have := SZ0.out; omega))
          have Kw_8 := Lib.hid (blk_turn Kw_7.out ht (fun hm => by have := Rx.out _ hm; have := HS2.out; have := SZ0.out; omega))
          have Kx_8 := Lib.hid (blk_turn Kx_7.out ht (fun hm => by have := Rx.out _ hm; have := SZ0.out; omega))
          have Kg_8 := Lib.hid (blk_turn Kg_7.out ht (fun hm => by have := Rx.out _ hm; have := HS4.out; have := SZ0.out; omega))
          have Ow_8 := Lib.hid (Ow_7.out.turn ht (fun b hb hb' => by have := Rx.out b hb'; have := Rw.out b hb; have := SZ0.out; omega))
          have Og_8 := Lib.hid (Og_7.out.turn ht (fun b hb hb' => by have := Rx.out b hb'; have := Rg.out b hb; have := HS4.out; have := SZ0.out; omega))
          have Ox_8 := Lib.hid ho
          clear ho ht Kd_7 Ke_7 Kw_7 Kx_7 Kg_7 Ow_7 Ox_7 Og_7
          have cg0 := (cells_of_heap Kg_8.out 0 (by simp)).1
          have cg1 := (cells_of_heap Kg_8.out 1 (by simp)).1
          have cw0 := (cells_of_heap Kw_8.out 0 (by simp)).1
          have cw1 := (cells_of_heap Kw_8.out 1 (by simp)).1
          go_wp2_with fail
          refine (eqKeymap_same rk _ _ rl _ HE3.out HE4.out Og_8.out.rd Ow_8.out.rd).mono ?_
          rintro e w9 ⟨rfl, hb⟩
          clear cg0 cg1 cw0 cw1
          have HB9 := Lib.hid (HB8.out.trans (hb.mono HB8.out.size))
          have HS9 := Lib.hid hb.size
          have Kd_9 := Lib.hid (blk_below Kd_8.out hb)
          have Ke_9 := Lib.hid (blk_below Ke_8.out hb)
          have Kw_9 := Lib.hid (blk_below Kw_8.out hb)
          have Kx_9 := Lib.hid (blk_below Kx_8.out hb)
          have Kg_9 := Lib.hid (blk_below Kg_8.out hb)
          have Ow_9 := Lib.hid (Ow_8.out.below hb)
          have Ox_9 := Lib.hid (Ox_8.out.below hb)
          have Og_9 := Lib.hid (Og_8.out.below hb)
          clear Kd_8 Ke_8 Kw_8 Kx_8 Kg_8 Ow_8 Ox_8 Og_8
          clear hb
          have cg0 := (cells_of_heap Kg_9.out 0 (by simp)).1
          have cg1 := (cells_of_heap Kg_9.out 1 (by simp)).1
          go_wp2_with fail
          refine (markKeymap_q _ rk _ rl _ 1 qr HQR.out _ HE1.out HE2.out (by decide) (by decide) Og_9.out).mono ?_
          rintro e w10 ⟨rfl, ho, ht⟩
          clear cg0 cg1
          have HB10 := Lib.hid (HB9.out.trans (ht.below (fun b hb => by have := Rg.out b hb; have := HB4.out.size; omega) HB9.out.size))
          have HS10 := Lib.hid ht.size
          have Kd_10 := Lib.hid (blk_turn Kd_9.out ht (fun hm => by have := Rg.out _ hm; have := HS1.out; have := HS2.out; have := HS3.out; have := HS4.out; have := SZ0.out; omega))
          have Ke_10 := Lib.hid (blk_turn Ke_9.out ht (fun hm => by have := Rg.out _ hm; have := HS1.out; have := HS2.out; have := HS3.out; have := HS4.out; have := SZ0.out; omega))
          have Kw_10 := Lib.hid (blk_turn Kw_9.out ht (fun hm => by have := Rg.out _ hm; have := HS2.out; have := HS3.out; have := HS4.out; have := SZ0.out; omega))
          have Kx_10 := Lib.hid (blk_turn Kx_9.out ht (fun hm => by have := Rg.out _ hm; have := HS4.out; have := SZ0.out; omega))
          have Kg_10 := Lib.hid (blk_turn Kg_9.out ht NIg.out)
          have Ow_10 := Lib.hid (Ow_9.out.turn ht (fun b hb hb' => by have := Rg.out b hb'; have := Rw.out b hb; have := HS3.out; have := HS4.out; have := SZ0.out; omega))
          have Ox_10 := Lib.hid (Ox_9.out.turn ht (fun b hb hb' => by have := Rg.out b hb'; have := Rx.out b hb; have := HS4.out; have := SZ0.out; omega))
          have Og_10 := Lib.hid ho
          clear ho ht Kd_9 Ke_9 Kw_9 Kx_9 Kg_9 Ow_9 Ox_9 Og_9
          have cg0 := (cells_of_heap Kg_10.out 0 (by simp)).1
          have cg1 := (cells_of_heap Kg_10.out 1 (by simp)).1
          go_wp2_with fail
          refine (heldKeymap_q rk _ rl 1 qr HQR.out _ HE1.out HE2.out (by decide) (by decide) Og_10.out.rd).mono ?_
          rintro e w11 ⟨rfl, hb⟩
          clear cg0 cg1
          have HB11 := Lib.hid (HB10.out.trans (hb.mono HB10.out.size))
          have HS11 := Lib.hid hb.size
          have Kd_11 := Lib.hid (blk_below Kd_10.out hb)
          have Ke_11 := Lib.hid (blk_below Ke_10.out hb)
          have Kw_11 := Lib.hid (blk_below Kw_10.out hb)
          have Kx_11 := Lib.hid (blk_below Kx_10.out hb)
          have Kg_11 := Lib.hid (blk_below Kg_10.out hb)
          have Ow_11 := Lib.hid (Ow_10.out.below hb)
          have Ox_11 := Lib.hid (Ox_10.out.below hb)
          have Og_11 := Lib.hid (Og_10.out.below hb)
          clear Kd_10 Ke_10 Kw_10 Kx_10 Kg_10 Ow_10 Ox_10 Og_10
          clear hb
          go_upto_region 24 with (fail)
          go_cut [18, 19] (fun sp sq wx => ∃ (y9 : Nat) (a9 : Option Addr) (c9 : Nat) (f9 : List Nat), sp = .pointer (some ⟨y9, 0, none⟩) ∧ sq = .bool rb ∧ w11.heap.size ≤ y9 ∧ y9 ∉ f9 ∧ wx.heap[y9]? = some (.cells #[.int .i64 rk, .slice a9 rl.length c9] 26 (0, 0)) ∧ LoS wx w11.heap.size (.slice a9 rl.length c9) rl f9 ∧ Below w11.heap.size w11 wx)
          case first =>
            have cd0 := (cells_of_heap Kd_11.out 0 (by simp)).1
            have cd1 := (cells_of_heap Kd_11.out 1 (by simp)).1
            have ce0 := (cells_of_heap Ke_11.out 0 (by simp)).1
            have ce1 := (cells_of_heap Ke_11.out 1 (by simp)).1
            have ce2 := (cells_of_heap Ke_11.out 2 (by simp)).1
            have ce3 := (cells_of_heap Ke_11.out 3 (by simp)).1
            have ld : w.heap.size < w11.heap.size := (Array.getElem?_eq_some_iff.mp Kd_11.out).1
            have nd0 : ¬ w.heap.size = w11.heap.size := by omega
            have md0 : ¬ w11.heap.size = w.heap.size := by omega
            have le : w.heap.size + 1 < w11.heap.size := (Array.getElem?_eq_some_iff.mp Ke_11.out).1
            have ne0 : ¬ w.heap.size + 1 = w11.heap.size := by omega
            have me0 : ¬ w11.heap.size = w.heap.size + 1 := by omega
            have X0 := Lib.hid (Below.refl w11.heap.size w11)
            go_region_held3 (fun w' => w'.cell? ⟨w.heap.size, 0, none⟩ = some (.int .i64 k) ∧ w'.cell? ⟨w.heap.size, 1, none⟩ = some (.slice a L.length c) ∧ w'.cell? ⟨w.heap.size + 1, 0, none⟩ = some (.int .i64 ek) ∧ w'.cell? ⟨w.heap.size + 1, 1, none⟩ = some (.int .i64 ec) ∧ w'.cell? ⟨w.heap.size + 1, 2, none⟩ = some (.int .i64 em) ∧ w'.cell? ⟨w.heap.size + 1, 3, none⟩ = some (.int .i64 en)) (first | go_keep | simp [go_sem, *])
              (first | (go_at_call 19; refine (toKeymap_any k _ L _ HL1.out HL2.out (HR.out.below (HB11.out.trans (Below.mono (by first | exact X0.out | exact X0.out.drew | exact X0.out.drew.drew | exact X0.out.alloc X0.out.size _ | exact (X0.out.alloc X0.out.size _).drew | exact (X0.out.alloc X0.out.size _).drew.drew) HB11.out.size)))).mono ?_; rintro e v1 ⟨a8, c8, f8, rfl, hy, hb⟩; have hbr : Below w11.heap.size w11 v1 := below_via (by first | exact X0.out | exact X0.out.drew | exact X0.out.drew.drew | exact X0.out.alloc X0.out.size _ | exact (X0.out.alloc X0.out.size _).drew | exact (X0.out.alloc X0.out.size _).drew.drew) hb; have kcd0 := (hbr.cell (p := ⟨w.heap.size, 0, none⟩) ld).trans cd0; have kcd1 := (hbr.cell (p := ⟨w.heap.size, 1, none⟩) ld).trans cd1; have kce0 := (hbr.cell (p := ⟨w.heap.size + 1, 0, none⟩) le).trans ce0; have kce1 := (hbr.cell (p := ⟨w.heap.size + 1, 1, none⟩) le).trans ce1; have kce2 := (hbr.cell (p := ⟨w.heap.size + 1, 2, none⟩) le).trans ce2; have kce3 := (hbr.cell (p := ⟨w.heap.size + 1, 3, none⟩) le).trans ce3; have nd1 : ¬ w.heap.size = v1.heap.size := (by have := hbr.size; omega); have md1 : ¬ v1.heap.size = w.heap.size := (by have := hbr.size; omega); have ne1 : ¬ w.heap.size + 1 = v1.heap.size := (by have := hbr.size; omega); have me1 : ¬ v1.heap.size = w.heap.size + 1 := (by have := hbr.size; omega); (first | (have KY := Lib.hid (ky_new X0.out.size hb)) | (have KY := Lib.hid (ky_drew X0.out.size hb)) | (have KY := Lib.hid (ky_old KY.out hb rfl)) | skip); have HY := Lib.hid (hy); have X1 := Lib.hid hbr; clear hbr hb) | (go_at_call 26; refine (toAction_any ek ec em en _).mono ?_; rintro e v2 ⟨rfl, hb⟩; have hbr : Below w11.heap.size w11 v2 := below_via (by first | exact X1.out | exact X1.out.drew | exact X1.out.drew.drew | exact X1.out.alloc X1.out.size _ | exact (X1.out.alloc X1.out.size _).drew | exact (X1.out.alloc X1.out.size _).drew.drew) hb; have kcd0 := (hbr.cell (p := ⟨w.heap.size, 0, none⟩) ld).trans cd0; have kcd1 := (hbr.cell (p := ⟨w.heap.size, 1, none⟩) ld).trans cd1; have kce0 := (hbr.cell (p := ⟨w.heap.size + 1, 0, none⟩) le).trans ce0; have kce1 := (hbr.cell (p := ⟨w.heap.size + 1, 1, none⟩) le).trans ce1; have kce2 := (hbr.cell (p := ⟨w.heap.size + 1, 2, none⟩) le).trans ce2; have kce3 := (hbr.cell (p := ⟨w.heap.size + 1, 3, none⟩) le).trans ce3; have nd2 : ¬ w.heap.size = v2.heap.size := (by have := hbr.size; omega); have md2 : ¬ v2.heap.size = w.heap.size := (by have := hbr.size; omega); have ne2 : ¬ w.heap.size + 1 = v2.heap.size := (by have := hbr.size; omega); have me2 : ¬ v2.heap.size = w.heap.size + 1 := (by have := hbr.size; omega); (first | (have KY := Lib.hid (ky_new X1.out.size hb)) | (have KY := Lib.hid (ky_drew X1.out.size hb)) | (have KY := Lib.hid (ky_old KY.out hb rfl)) | skip); have HST2 := Lib.hid (show Below v1.heap.size v1 v2 from below_via (by first | exact Below.refl _ _ | exact (Below.refl _ _).drew | exact (Below.refl _ _).drew.drew | exact (Below.refl _ _).alloc (Nat.le_refl _) _ | exact ((Below.refl _ _).alloc (Nat.le_refl _) _).drew) hb); have X2 := Lib.hid hbr; clear hbr hb) | (go_at_call 27; refine (HI.out _ _ (HB11.out.trans (Below.mono (by first | exact X2.out | exact X2.out.drew | exact X2.out.drew.drew | exact X2.out.alloc X2.out.size _ | exact (X2.out.alloc X2.out.size _).drew | exact (X2.out.alloc X2.out.size _).drew.drew) HB11.out.size)) (HY.out.rd.below (by first | exact HST2.out | exact HST2.out.drew | exact HST2.out.drew.drew | exact HST2.out.alloc HST2.out.size _ | exact (HST2.out.alloc HST2.out.size _).drew | exact (HST2.out.alloc HST2.out.size _).drew.drew))).mono ?_; rintro e v3 ⟨a9, c9, f9, rfl, h9, hb⟩; have hbr : Below w11.heap.size w11 v3 := below_via (by first | exact X2.out | exact X2.out.drew | exact X2.out.drew.drew | exact X2.out.alloc X2.out.size _ | exact (X2.out.alloc X2.out.size _).drew | exact (X2.out.alloc X2.out.size _).drew.drew) hb; have kcd0 := (hbr.cell (p := ⟨w.heap.size, 0, none⟩) ld).trans cd0; have kcd1 := (hbr.cell (p := ⟨w.heap.size, 1, none⟩) ld).trans cd1; have kce0 := (hbr.cell (p := ⟨w.heap.size + 1, 0, none⟩) le).trans ce0; have kce1 := (hbr.cell (p := ⟨w.heap.size + 1, 1, none⟩) le).trans ce1; have kce2 := (hbr.cell (p := ⟨w.heap.size + 1, 2, none⟩) le).trans ce2; have kce3 := (hbr.cell (p := ⟨w.heap.size + 1, 3, none⟩) le).trans ce3; have nd3 : ¬ w.heap.size = v3.heap.size := (by have := hbr.size; omega); have md3 : ¬ v3.heap.size = w.heap.size := (by have := hbr.size; omega); have ne3 : ¬ w.heap.size + 1 = v3.heap.size := (by have := hbr.size; omega); have me3 : ¬ v3.heap.size = w.heap.size + 1 := (by have := hbr.size; omega); (first | (have KY := Lib.hid (ky_new X2.out.size hb)) | (have KY := Lib.hid (ky_drew X2.out.size hb)) | (have KY := Lib.hid (ky_old KY.out hb rfl)) | skip); have H9R := Lib.hid (h9.rng); have H9 := Lib.hid (h9.base (B := w11.heap.size) (Below.size (B := w11.heap.size) (w := w11) (by first | exact X2.out | exact X2.out.drew | exact X2.out.drew.drew | exact X2.out.alloc X2.out.size _ | exact (X2.out.alloc X2.out.size _).drew | exact (X2.out.alloc X2.out.size _).drew.drew))); have X3 := Lib.hid hbr; clear hbr hb; (try (have e0 := cells_of_heap KY.out.1 0 (by simp); have g0 := e0.2; replace e0 := e0.1; have e1 := cells_of_heap KY.out.1 1 (by simp); have g1 := e1.2; replace e1 := e1.1))))
            all_goals
              go_wp2
              go_meet
              first | exact ⟨v3.heap.size, _, _, _, rfl, rfl, X3.out.size, fun hm => Nat.lt_irrefl _ (H9R.out _ hm).2, heap_alloc_new _ _, H9.out.below ((Below.refl _ _).alloc (Nat.le_refl _) _), X3.out.alloc X3.out.size _⟩ | exact ⟨v3.heap.size, _, _, _, rfl, rfl, X3.out.size, fun hm => Nat.lt_irrefl _ (H9R.out _ hm).2, heap_alloc_new _ _, H9.out.below ((Below.refl _ _).alloc (Nat.le_refl _) _).drew, (X3.out.alloc X3.out.size _).drew⟩ | exact ⟨_, _, _, _, rfl, rfl, KY.out.2.2, (fun hm => Nat.lt_irrefl _ (Nat.lt_of_lt_of_le KY.out.2.1 (H9R.out _ hm).1)), putW_all [.int .i64 rk, .slice _ rl.length _] KY.out.1 rfl, H9.out.putAt [.int .i64 rk, .slice _ rl.length _] (fun hm => Nat.lt_irrefl _ (Nat.lt_of_lt_of_le KY.out.2.1 (H9R.out _ hm).1)) 0, putW_below KY.out.2.2 [.int .i64 rk, .slice _ rl.length _] 0 _ X3.out⟩ | exact ⟨_, _, _, _, rfl, rfl, KY.out.2.2, (fun hm => Nat.lt_irrefl _ (Nat.lt_of_lt_of_le KY.out.2.1 (H9R.out _ hm).1)), putW_all [.int .i64 rk, .slice _ rl.length _] KY.out.1 rfl, (H9.out.putAt [.int .i64 rk, .slice _ rl.length _] (fun hm => Nat.lt_irrefl _ (Nat.lt_of_lt_of_le KY.out.2.1 (H9R.out _ hm).1)) 0).below (Below.refl _ _).drew, (putW_below KY.out.2.2 [.int .i64 rk, .slice _ rl.length _] 0 _ X3.out).drew⟩
          case rest =>
            obtain ⟨yh, ah, ch, fh, rfl, rfl, hlh, hni, hk, hh, hb⟩ := hcut
            obtain ⟨w12, hEq⟩ : ∃ x, x = wc := ⟨_, rfl⟩
            rw [← hEq] at hk hh hb ⊢
            clear hEq
            have huh : yh < w12.heap.size := (Array.getElem?_eq_some_iff.mp hk).1
            have HB12 := Lib.hid (HB11.out.trans (hb.mono HB11.out.size))
            have HS12 := Lib.hid hb.size
            have Kd_12 := Lib.hid (blk_below Kd_11.out hb)
            have Ke_12 := Lib.hid (blk_below Ke_11.out hb)
            have Kw_12 := Lib.hid (blk_below Kw_11.out hb)
            have Kx_12 := Lib.hid (blk_below Kx_11.out hb)
            have Kg_12 := Lib.hid (blk_below Kg_11.out hb)
            have Ow_12 := Lib.hid (Ow_11.out.below hb)
            have Ox_12 := Lib.hid (Ox_11.out.below hb)
            have Og_12 := Lib.hid (Og_11.out.below hb)
            clear Kd_11 Ke_11 Kw_11 Kx_11 Kg_11 Ow_11 Ox_11 Og_11
            have Rh := Lib.hid hh.rng
            have Oh_12 := Lib.hid hh
            have Kh_12 := Lib.hid hk
            have NIh := Lib.hid hni
            clear hb hk hni hh
            have ch0 := (cells_of_heap Kh_12.out 0 (by simp)).1
            have ch1 := (cells_of_heap Kh_12.out 1 (by simp)).1
            have cw0 := (cells_of_heap Kw_12.out 0 (by simp)).1
            have cw1 := (cells_of_heap Kw_12.out 1 (by simp)).1
            go_wp2_with fail
            refine (eqKeymap_same rk _ _ rl _ HE3.out HE4.out Oh_12.out.rd Ow_12.out.rd).mono ?_
            rintro e w13 ⟨rfl, hb⟩
            clear ch0 ch1 cw0 cw1
            have HB13 := Lib.hid (HB12.out.trans (hb.mono HB12.out.size))
            have HS13 := Lib.hid hb.size
            have Kd_13 := Lib.hid (blk_below Kd_12.out hb)
            have Ke_13 := Lib.hid (blk_below Ke_12.out hb)
            have Kw_13 := Lib.hid (blk_below Kw_12.out hb)
            have Kx_13 := Lib.hid (blk_below Kx_12.out hb)
            have Kg_13 := Lib.hid (blk_below Kg_12.out hb)
            have Kh_13 := Lib.hid (blk_below Kh_12.out hb)
            have Ow_13 := Lib.hid (Ow_12.out.below hb)
            have Ox_13 := Lib.hid (Ox_12.out.below hb)
            have Og_13 := Lib.hid (Og_12.out.below hb)
            have Oh_13 := Lib.hid (Oh_12.out.below hb)
            clear Kd_12 Ke_12 Kw_12 Kx_12 Kg_12 Kh_12 Ow_12 Ox_12 Og_12 Oh_12
            clear hb
            have cg0 := (cells_of_heap Kg_13.out 0 (by simp)).1
            have cg1 := (cells_of_heap Kg_13.out 1 (by simp)).1
            go_wp2_with fail
            refine (heldKeymap_q rk _ rl 1 qr HQR.out _ HE1.out HE2.out (by decide) (by decide) Og_13.out.rd).mono ?_
            rintro e w14 ⟨rfl, hb⟩
            clear cg0 cg1
            have HB14 := Lib.hid (HB13.out.trans (hb.mono HB13.out.size))
            have HS14 := Lib.hid hb.size
            have Kd_14 := Lib.hid (blk_below Kd_13.out hb)
            have Ke_14 := Lib.hid (blk_below Ke_13.out hb)
            have Kw_14 := Lib.hid (blk_below Kw_13.out hb)
            have Kx_14 := Lib.hid (blk_below Kx_13.out hb)
            have Kg_14 := Lib.hid (blk_below Kg_13.out hb)
            have Kh_14 := Lib.hid (blk_below Kh_13.out hb)
            have Ow_14 := Lib.hid (Ow_13.out.below hb)
            have Ox_14 := Lib.hid (Ox_13.out.below hb)
            have Og_14 := Lib.hid (Og_13.out.below hb)
            have Oh_14 := Lib.hid (Oh_13.out.below hb)
            clear Kd_13 Ke_13 Kw_13 Kx_13 Kg_13 Kh_13 Ow_13 Ox_13 Og_13 Oh_13
            clear hb
            go_wp2
            go_ret
            exact ⟨rfl, HB14.out⟩
  · have hs1 : s = -1 := by rw [hs, if_neg hl]
    have hs0 : s < 0 := by omega
    clear hs hl hs1
    obtain ⟨w0, hw0⟩ : ∃ x, x = ((w.alloc (.cells #[.int .i64 k, .slice a L.length c] 36)).alloc (.cells #[.int .i64 ek, .int .i64 ec, .int .i64 em, .int .i64 en] 44)) := ⟨_, rfl⟩
    have HB0 := Lib.hid (show Below w.heap.size w w0 by rw [hw0]; exact ((Below.refl _ _).alloc (Nat.le_refl _) _).alloc (by simp) _)
    have Kd_0 := Lib.hid (show w0.heap[w.heap.size]? = some (.cells #[.int .i64 k, .slice a L.length c] 36 (0, 0)) by rw [hw0]; rw [Below.heap_alloc _ _ _ (by simp <;> omega)]; exact heap_alloc_new w _)
    have Ke_0 := Lib.hid (show w0.heap[w.heap.size + 1]? = some (.cells #[.int .i64 ek, .int .i64 ec, .int .i64 em, .int .i64 en] 44 (0, 0)) by rw [hw0]; simpa using heap_alloc_new (w.alloc (.cells #[.int .i64 k, .slice a L.length c] 36)) _)
    have SZ0 := Lib.hid (show w0.heap.size = w.heap.size + 1 + 1 by rw [hw0]; simp)
    have HW := Lib.hid hw0
    clear hw0
    go_enter Try.func7, Try.ntmps7
    have cd0 := (cells_of_heap Kd_0.out 0 (by simp)).1
    have cd1 := (cells_of_heap Kd_0.out 1 (by simp)).1
    go_wp2_with fail
    rw [← HW.out]
    refine (szKeymap_any k _ L _ HN.out HM.out (HR.out.below HB0.out)).mono ?_
    rw [← HSZ.out]
    rintro e w1 ⟨rfl, hb⟩
    clear cd0 cd1
    have HB1 := Lib.hid (HB0.out.trans (hb.mono HB0.out.size))
    have HS1 := Lib.hid hb.size
    have Kd_1 := Lib.hid (blk_below Kd_0.out hb)
    have Ke_1 := Lib.hid (blk_below Ke_0.out hb)
    clear Kd_0 Ke_0
    clear hb
    go_wp2
    go_ret
    exact ⟨rfl, HB1.out⟩

end Go.Proofs.Ytleheibpgngmiaa
