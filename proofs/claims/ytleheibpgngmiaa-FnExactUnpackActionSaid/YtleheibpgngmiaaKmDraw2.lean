/- DERIVED. Drawing a valid keymap with more ways between its layers by the reference's cursor. -/
import Derived.Test.YtleheibpgngmiaaKmDraw
import Derived.Test.YtleheibpgngmiaaKmSpec6
import Derived.Deep.RegionLaw
namespace Go.Proofs.Ytleheibpgngmiaa
open Go.RowKit

theorem okKm_set {K : Nat} {L : List (List Ac)} {i q : Nat} {a : Ac} (h : okKm (K : Int) L = true) (hi : i < L.length) (hq : q < K) (ha : okA L.length i a = true) : okKm (K : Int) (setL L i q a) = true := by
  obtain ⟨⟨k1, k32⟩, ⟨l1, l4⟩, hall⟩ := okKm_at h
  have hlen : (setL L i q a).length = L.length := by simp [setL]
  have hlr : (lD L i).length = K := by have := (hall i hi).1; omega
  refine okKm_of (N := L.length) ?_ hlen l1 l4 (by omega) (by omega)
  intro j hj
  rw [hlen] at hj
  have hjr := hall j hj
  rw [setL, lD_set hi]
  by_cases e : j = i
  · subst e
    rw [if_pos rfl]
    refine ⟨by simp [hlr], fun k hk => ?_⟩
    have hk' : k < K := by simpa [hlr] using hk
    unfold acD
    rw [List.getD_eq_getElem?_getD, List.getElem?_set]
    by_cases e2 : q = k
    · subst e2
      rw [if_pos rfl, if_pos (by omega)]; exact ha
    · rw [if_neg e2, ← List.getD_eq_getElem?_getD]
      exact hjr.2 k (by omega)
  · rw [if_neg e]
    exact ⟨by omega, fun k hk => hjr.2 k hk⟩
theorem okA_way {N i : Nat} {k n : Int} (hk : k = 4 ∨ k = 5 ∨ k = 3) (hn : 1 ≤ n ∧ n ≤ 3) (hN : n < N) : okA N i ⟨k, 0, 0, n⟩ = true := by
  unfold okA okAc inB
  rcases hk with rfl | rfl | rfl <;> simp <;> omega

theorem grown_cell {wx wy : World} {b : Nat} (x o : Nat) (hg : wx.grownBy wy (some b)) (hx : x < wx.heap.size) (hne : x ≠ b) : wy.cell? ⟨x, o, none⟩ = wx.cell? ⟨x, o, none⟩ := World.cell?_of_block (hg.block x hx (by simpa using hne))
/-- The places of an action in a row. -/
theorem row_places {w : World} {B : Nat} {T1 T2 : TypeId} {v : Value} {n : Nat} {us : List Value} {L : List (List Ac)} {fps : List (List Nat)} {i q R cR : Nat} (h : OwB Ac.cells w B T1 T2 4 v n us L fps) (hi : i < L.length) (hq : q < (lD L i).length) (hR : uD us i = .slice (some ⟨R, 0, none⟩) (lD L i).length cR) :
    (∃ y, w.cell? ⟨R, q * 4, none⟩ = some y) ∧ (∃ y, w.cell? ⟨R, q * 4 + 1, none⟩ = some y) ∧ (∃ y, w.cell? ⟨R, q * 4 + 2, none⟩ = some y) ∧ (∃ y, w.cell? ⟨R, q * 4 + 3, none⟩ = some y) ∧ w.frozen? ⟨R, q * 4, none⟩ = false ∧ w.frozen? ⟨R, q * 4 + 1, none⟩ = false ∧ w.frozen? ⟨R, q * 4 + 2, none⟩ = false ∧ w.frozen? ⟨R, q * 4 + 3, none⟩ = false := by
  have hrow := (h.row i hi).1
  rw [hR] at hrow
  have hfl : (flatAc (lD L i)).length = (lD L i).length * 4 := flatAc_len _
  have hc : ∀ o, o < (flatAc (lD L i)).length → ∃ y, w.cell? ⟨R, o, none⟩ = some y := fun o ho => ⟨(flatAc (lD L i))[o], by rw [hrow.cellAt o (by rw [flatAc_len] at ho; exact ho)]; exact List.getElem?_eq_getElem ho⟩
  exact ⟨hc _ (by omega), hc _ (by omega), hc _ (by omega), hc _ (by omega), hrow.frozenAt _, hrow.frozenAt _, hrow.frozenAt _, hrow.frozenAt _⟩

set_option maxHeartbeats 8000000 in
set_option maxRecDepth 100000 in
theorem l18Draw_draw {B b n : Nat} {v : Value} {zs : List Int} {w : World} (K : Nat) (h : Draws B b v n zs w) (k1 : 1 ≤ K) (k32 : K ≤ 32) :
    Calls Try.prog 42 #[.pointer (some ⟨b, 0, none⟩), .int .i64 K] w (KmDrawn B b v n zs K w) := by
  have HLT := Lib.hid h.lt
  have HBL := Lib.hid h.low
  obtain ⟨V, hV⟩ : ∃ V, V = w.alloc (.cells #[.int .i64 0, .slice none 0 0] 26) := ⟨_, rfl⟩
  have HG0 := Lib.hid (show V.heap[w.heap.size]? = some (.cells #[.int .i64 0, .slice none 0 0] 26 (0, 0)) by rw [hV]; exact heap_alloc_new w _)
  have HS0 := Lib.hid (show w.heap.size < V.heap.size by rw [hV]; simp)
  have HD0 := Lib.hid (show Draws B b v n zs V by rw [hV]; exact h.alloc _)
  have HR0 := Lib.hid (show w.grownBy V (some b) by rw [hV]; exact grown_alloc _ _ _)
  have HV2 := Lib.hid hV
  clear hV h
  go_enter Try.func42, Try.ntmps42
  have hVs : w.heap.size < V.heap.size := HS0.out
  go_wp2_with fail
  rw [← HV2.out]
  refine (l6Draw_draw K HD0.out k1 k32).mono ?_
  rintro e w1 ⟨L, a, cap, fp, rfl, hok, hos, hd, hg⟩
  have HD1 := Lib.hid hd
  have HR1 := Lib.hid (grown_trans HR0.out hg)
  have HG1 := Lib.hid ((hg.block _ HS0.out (by have := HLT.out; simp; omega)).trans HG0.out)
  have HS1 := Lib.hid (Nat.lt_of_lt_of_le HS0.out hg.size)
  clear hd hg
  have HVS := Lib.hid hVs
  clear hVs
  obtain ⟨N, hN⟩ : ∃ N, N = L.length := ⟨_, rfl⟩
  have hlim := okKm_at hok
  have n1 : 1 ≤ N := by omega
  have n4 : N ≤ 4 := by omega
  rw [← hN] at hos ⊢
  have HOK1 := Lib.hid hok
  have HOS1 := Lib.hid hos
  have HN1 := Lib.hid hN
  clear hok hos hN hlim
  go_upto_region 2 with (fail)
  obtain ⟨gm, hgm⟩ : ∃ g, g = w1.heap.size := ⟨_, rfl⟩
  obtain ⟨U, hU⟩ : ∃ U, U = w1.alloc (.cells #[.int .i64 K, .slice a N cap] 26) := ⟨_, rfl⟩
  have hgU : w1.grownBy U none := by rw [hU]; exact grown_alloc _ _ _
  have HGm := Lib.hid (show U.heap[gm]? = some (.cells #[.int .i64 K, .slice a N cap] 26 (0, 0)) by rw [hU, hgm]; exact heap_alloc_new _ _)
  have HDU := Lib.hid (show Draws B b v n zs U by rw [hU]; exact HD1.out.alloc _)
  have HRU := Lib.hid (grown_high HR1.out hgU (fun q e => by cases e))
  have HGU := Lib.hid ((hgU.block _ HS1.out (by simp)).trans HG1.out)
  have HGW := Lib.hid (show w.heap.size < gm by rw [hgm]; exact HS1.out)
  have HOSU := Lib.hid (HOS1.out.below (w' := U) (by rw [hU]; exact (Below.refl _ _).alloc (Nat.le_refl _) _))
  have HFG := Lib.hid (show ∀ x ∈ fp, V.heap.size ≤ x ∧ x < gm from fun x hx => by have := HOS1.out.rng x hx; rw [hgm]; exact this)
  rw [← hU, ← hgm]
  clear hU hgU hgm
  go_wp2_with fail
  refine (l1Below_draw 6 HDU.out (by omega) (by omega)).mono ?_
  rintro e w2 ⟨x, rfl, x0, x1, hd, hg⟩
  obtain ⟨X, rfl⟩ := Int.eq_ofNat_of_zero_le x0
  have hgms : gm < U.heap.size := (Array.getElem?_eq_some_iff.mp HGm.out).1
  have HD2 := Lib.hid hd
  have HR2 := Lib.hid (grown_trans HRU.out hg)
  have HGm2 := Lib.hid ((hg.block gm hgms (by have := HGW.out; have := HLT.out; simp; omega)).trans HGm.out)
  have HG2 := Lib.hid ((hg.block w.heap.size (Nat.lt_trans HGW.out hgms) (by have := HLT.out; simp; omega)).trans HGU.out)
  have HOS2 := Lib.hid (HOSU.out.turn (Turn.of_grown hg) (fun x hx hm => by rw [List.mem_singleton] at hm; have := (HFG.out x hx).1; have := HVS.out; have := HLT.out; omega))
  have hX5 : X ≤ 5 := by omega
  clear hd hg hgms x0 x1
  go_wp2
  go_loopw [6] (fun i wr => ∃ (j : Nat) (L : List (List Ac)), j ≤ 5 ∧ i = .int .i64 j ∧ L.length = N ∧ okKm (K : Int) L = true ∧ wr.heap[gm]? = some (.cells #[.int .i64 K, .slice a N cap] 26 (0, 0)) ∧ LoS wr V.heap.size (.slice a N cap) L fp ∧ Draws B b v n zs wr ∧ w.grownBy wr (some b) ∧ wr.heap[w.heap.size]? = some (.cells #[.int .i64 0, .slice none 0 0] 26 (0, 0))) (fun i _ => (intOf i).toNat)
  case atStart => exact ⟨X, L, hX5, rfl, HN1.out.symm, HOK1.out, HGm2.out, HOS2.out, HD2.out, HR2.out, HG2.out⟩
  case round =>
    obtain ⟨j, L, hj5, rfl, hL, hok, hgm, hos, hd, hr, hg0⟩ := hrel
    obtain ⟨W1, hW1⟩ : ∃ x, x = wr := ⟨_, rfl⟩
    subst hW1
    have HLL := Lib.hid hL
    have HOK := Lib.hid hok
    have HGmW := Lib.hid hgm
    have HOS := Lib.hid hos
    have HDW := Lib.hid hd
    have HRW := Lib.hid hr
    have HGW1 := Lib.hid hg0
    clear hL hok hgm hos hd hr hg0
    have bV : b < V.heap.size := Nat.lt_trans HLT.out HVS.out
    by_cases hlt : 0 < j
    · have m1 := (cells_of_heap HGmW.out 1 (by simp)).1
      have hgms : gm < W1.heap.size := (Array.getElem?_eq_some_iff.mp HGmW.out).1
      have hgb : gm ≠ b := by have := HGW.out; have := HLT.out; omega
      have hwb : w.heap.size ≠ b := by have := HLT.out; omega
      go_wp2_with fail
      refine (l1Below_draw (N : Int) HDW.out (by omega) (by omega)).mono ?_
      rintro e w3 ⟨i, rfl, i0, i1, hd, hg⟩
      obtain ⟨i, rfl⟩ := Int.eq_ofNat_of_zero_le i0
      have HD3 := Lib.hid hd
      have HR3 := Lib.hid (grown_trans HRW.out hg)
      have HGm3 := Lib.hid ((hg.block gm hgms (by simpa using hgb)).trans HGmW.out)
      have HG3 := Lib.hid ((hg.block w.heap.size (Nat.lt_trans HGW.out hgms) (by simpa using hwb)).trans HGW1.out)
      have HOS3 := Lib.hid (HOS.out.turn (Turn.of_grown hg) (fun x hx hm => by rw [List.mem_singleton] at hm; have := (HFG.out x hx).1; omega))
      have hgms3 := Nat.lt_of_lt_of_le hgms hg.size
      clear hd hg m1 hgms i0
      go_wp2_with fail
      refine (l1Below_draw (K : Int) HD3.out (by omega) (by omega)).mono ?_
      rintro e w4 ⟨q, rfl, q0, q1, hd, hg⟩
      obtain ⟨q, rfl⟩ := Int.eq_ofNat_of_zero_le q0
      have HD4 := Lib.hid hd
      have HR4 := Lib.hid (grown_trans HR3.out hg)
      have HGm4 := Lib.hid ((hg.block gm hgms3 (by simpa using hgb)).trans HGm3.out)
      have HG4 := Lib.hid ((hg.block w.heap.size (Nat.lt_trans HGW.out hgms3) (by simpa using hwb)).trans HG3.out)
      have HOS4 := Lib.hid (HOS3.out.turn (Turn.of_grown hg) (fun x hx hm => by rw [List.mem_singleton] at hm; have := (HFG.out x hx).1; omega))
      have hgms4 := Nat.lt_of_lt_of_le hgms3 hg.size
      clear hd hg hgms3 q0
      have m1 := (cells_of_heap HGm4.out 1 (by simp)).1
      simp only [List.getElem_toArray, List.getElem_cons_zero, List.getElem_cons_succ] at m1
      by_cases hN1 : 1 < N
      · have hN1' : (1 : Int) < (N : Int) := by omega
        obtain ⟨us, fps, hob, hfp⟩ := HOS4.out
        rw [HLL.out] at hob
        obtain ⟨G, cG, hGv, hGB, hGlt⟩ := hob.own.form (by omega)
        obtain ⟨rfl, rfl⟩ := by simpa using hGv
        have hiN : i < N := by omega
        have hqK : q < K := by omega
        have hlenN : (lD L i).length = K := by have := ((okKm_at HOK.out).2.2 i (by rw [HLL.out]; exact hiN)).1; omega
        have hrow := hob.row i (by rw [HLL.out]; exact hiN)
        obtain ⟨R, cR, hRv, hRB, hRlt⟩ := hrow.1.form (by rw [hlenN]; omega)
        have husl : us.length = N := by have := hob.own.1; omega
        have gi : w4.cell? ⟨G, i, none⟩ = some (.slice (some ⟨R, 0, none⟩) K cR) := by
          rw [hob.own.cellAt i (by omega), List.getElem?_eq_getElem (by rw [husl]; omega), ← hlenN, ← hRv, uD, List.getD_eq_getElem?_getD, List.getElem?_eq_getElem (by rw [husl]; omega)]
          rfl
        have hGlt' : G < w4.heap.size := hGlt
        have HOB := Lib.hid hob
        have HFPE := Lib.hid hfp
        have HRV := Lib.hid hRv
        have HRB := Lib.hid hRB
        have HRL := Lib.hid hRlt
        have HLen := Lib.hid hlenN
        have HIN := Lib.hid hiN
        have HQK := Lib.hid hqK
        have hGb : G ≠ b := by omega
        clear hob hfp hGv hrow hRv hlenN husl hGlt
        have hRfp : R ∈ fps.flatten := mem_fD (j := i) (by rw [(HOB.out.row i (by rw [HLL.out]; exact hiN)).2, HRV.out]; simp [ownFp, Value.ownBlock])
        have hGR : G ≠ R := fun e => (List.nodup_append.1 HOB.out.nd).2.2 G (by simp [ownFp, Value.ownBlock]) R hRfp e
        have hRG : R ≠ G := fun e => hGR e.symm
        have hRg : R ≠ gm := by have := (HFG.out R (by rw [HFPE.out]; exact List.mem_append_right _ hRfp)).2; omega
        have hgR : gm ≠ R := fun e => hRg e.symm
        clear hRfp
        have hiL : i < L.length := by rw [HLL.out]; exact hiN
        have hgl : gm < w4.heap.size := hgms4
        have hwN : IntKind.i64.wrap ((N : Int) - 1) = (N : Int) - 1 := IntWalk.i64_in _ ⟨by omega, by omega⟩
        obtain ⟨Wa, hWa⟩ : ∃ x, x = (w4.alloc (.cells #[.int .i64 4, .int .i64 5, .int .i64 3] 3)).drew := ⟨_, rfl⟩
        have hKa : Wa.heap[w4.heap.size]? = some (.cells #[.int .i64 4, .int .i64 5, .int .i64 3] 3 (0, 0)) := by rw [hWa]; exact heap_alloc_new w4 _
        have HCa := Lib.hid (show ∀ z, z < ([4, 5, 3] : List Int).length → Wa.cell? ⟨w4.heap.size, z, none⟩ = some (.int .i64 (([4, 5, 3] : List Int).getD z 0)) from fun z hz => by
          simp only [List.length_cons, List.length_nil] at hz
          have : z = 0 ∨ z = 1 ∨ z = 2 := by omega
          rcases this with rfl | rfl | rfl <;> exact (cells_of_heap hKa _ (by simp)).1)
        have hga : w4.grownBy Wa (some b) := by rw [hWa]; exact grown_trans (grown_alloc w4 _ (some b)) (grown_drewN _ 1 _)
        have HDa := Lib.hid (show Draws B b v n zs Wa by rw [hWa]; exact (HD4.out.alloc _).below (Below.refl _ _).drew)
        have HGa := Lib.hid hga
        have HNb := Lib.hid (show w4.heap.size ≠ b by have := HD4.out.lt; omega)
        have HWa := Lib.hid hWa
        clear hWa hKa hga
        go_wp2_with fail
        go_region_held3 (fun w' => w'.cell? ⟨gm, 1, none⟩ = some (.slice (some ⟨G, 0, none⟩) N cap) ∧ w'.cell? ⟨G, i, none⟩ = some (.slice (some ⟨R, 0, none⟩) K cR)) (first | go_keep | simp [go_sem, *])
          (first
            | (go_at_call 61; rw [← HWa.out]; refine (l1PickInt_draw w4.heap.size [4, 5, 3] HDa.out (by simp) (by simp) HNb.out HCa.out).mono ?_; rintro e w5 ⟨s, rfl, hs, hd5, hg5⟩; have hr5 := grown_trans HGa.out hg5; have k1 := (grown_cell gm 1 hr5 hgl hgb).trans m1; have k2 := (grown_cell G i hr5 hGlt' hGb).trans gi; have HD5 := Lib.hid hd5; have HR5 := Lib.hid hr5; have HS5 := Lib.hid hs; clear hd5 hg5 hr5 hs)
            | (go_at_call 44; refine (l1Below_draw ((N : Int) - 1) HD5.out (by omega) (by omega)).mono ?_; rintro e w6 ⟨y, rfl, y0, y1, hd6, hg6⟩; have hr6 := grown_trans HR5.out hg6; have l1 := (grown_cell gm 1 hr6 hgl hgb).trans m1; have l2 := (grown_cell G i hr6 hGlt' hGb).trans gi; have hwy : IntKind.i64.wrap (1 + y) = 1 + y := IntWalk.i64_in _ ⟨by omega, by omega⟩; have HD6 := Lib.hid hd6; have HR6 := Lib.hid hr6; obtain ⟨⟨x0, s0⟩, ⟨x1, s1⟩, ⟨x2, s2⟩, ⟨x3, s3⟩, z0, z1, z2, z3⟩ := row_places (HOB.out.grown hr6 bV) hiL (q := q) (by rw [HLen.out]; exact HQK.out) HRV.out; clear hd6 hg6 hr6))
        all_goals
          obtain ⟨W4, e4⟩ : ∃ x, x = putW w6 R (q * 4) [.int .i64 s, .int .i64 0, .int .i64 0, .int .i64 (1 + y)] := ⟨_, rfl⟩
          have c4 := e4.symm
          simp only [putW, Nat.add_assoc, Nat.reduceAdd] at c4
          rw [c4]
          clear c4 s0 s1 s2 s3 z0 z1 z2 z3 k1 k2 l1 l2 gi m1
          have hob6 := HOB.out.grown HR6.out bV
          have hlq : q < (lD L i).length := by rw [HLen.out]; exact HQK.out
          have hrow6 := (hob6.row i hiL).1
          rw [HRV.out] at hrow6
          have hfl : (flatAc (lD L i)).length = (lD L i).length * 4 := flatAc_len _
          have hput := owns_put hrow6 (q * 4) [.int .i64 s, .int .i64 0, .int .i64 0, .int .i64 (1 + y)] (by show q * 4 + 4 ≤ (flatAc (lD L i)).length; omega)
          have hset := flatAc_set (lD L i) q ⟨s, 0, 0, 1 + y⟩ hlq
          have hsl : ((lD L i).set q ⟨s, 0, 0, 1 + y⟩).length = (lD L i).length := by simp
          have hRfp : fD fps i = [R] := by rw [(HOB.out.row i hiL).2, HRV.out]; simp [ownFp, Value.ownBlock]
          have hof : OwF (putW w6 R (q * 4) [.int .i64 s, .int .i64 0, .int .i64 0, .int .i64 (1 + y)]) V.heap.size 31 4 (uD us i) ((lD L i).set q ⟨s, 0, 0, 1 + y⟩).length (((lD L i).set q ⟨s, 0, 0, 1 + y⟩).flatMap Ac.cells) (fD fps i) := by
            rw [hsl, hRfp, HRV.out]
            refine ⟨?_, by simp [ownFp, Value.ownBlock]⟩
            show World.ownsRow _ _ _ _ _ _ (flatAc ((lD L i).set q ⟨s, 0, 0, 1 + y⟩))
            rw [hset]; exact hput
          have htn : Turn w6 (putW w6 R (q * 4) [.int .i64 s, .int .i64 0, .int .i64 0, .int .i64 (1 + y)]) (fD fps i) := by rw [hRfp]; exact Turn.of_grown (putW_grown _ _ _)
          have hnew := OwS.turned hob6 hiL hof htn
          have hsn : (setL L i q ⟨s, 0, 0, 1 + y⟩).length = N := by simp [setL, HLL.out]
          have hos : LoS W4 V.heap.size (.slice (some ⟨G, 0, none⟩) N cap) (setL L i q ⟨s, 0, 0, 1 + y⟩) fp := by
            rw [HFPE.out, e4]
            exact OwB.done hnew hsn.symm
          have hok : okKm (K : Int) (setL L i q ⟨s, 0, 0, 1 + y⟩) = true := okKm_set HOK.out hiL HQK.out (okA_way (by have := HS5.out; simpa using this) ⟨by omega, by omega⟩ (by rw [HLL.out]; omega))
          have hRb : R ≠ b := by have := HRB.out; omega
          have hgm4 : W4.heap[gm]? = some (.cells #[.int .i64 K, .slice (some ⟨G, 0, none⟩) N cap] 26 (0, 0)) := by rw [e4]; exact (putW_other hgR _ _ _).trans ((HR6.out.block gm hgl (by simpa using hgb)).trans HGm4.out)
          have hg4 : W4.heap[w.heap.size]? = some (.cells #[.int .i64 0, .slice none 0 0] 26 (0, 0)) := by rw [e4]; exact (putW_other (by have := HRB.out; have := HVS.out; omega) _ _ _).trans ((HR6.out.block w.heap.size (Nat.lt_trans HGW.out hgl) (by simpa using hwb)).trans HG4.out)
          have hd4 : Draws B b v n zs W4 := by rw [e4]; exact HD6.out.putW hRb (by have := HRB.out; have := HBL.out; omega) _ _
          have hr4 : w.grownBy W4 (some b) := by rw [e4]; exact grown_putW (by have := HRB.out; have := HVS.out; omega) _ _ (grown_trans HR4.out HR6.out)
          have HF1 := Lib.hid hos
          have HF2 := Lib.hid hok
          have HF3 := Lib.hid hgm4
          have HF4 := Lib.hid hg4
          have HF5 := Lib.hid hd4
          have HF6 := Lib.hid hr4
          have HF7 := Lib.hid hsn
          clear hob6 hlq hrow6 hfl hput hset hsl hRfp hof htn hnew hsn hos hok hRb hgm4 hg4 hd4 hr4 e4
          go_wp2
          go_roundw
          case rel => exact ⟨j - 1, _, by omega, by rw [show ((j - 1 : Nat) : Int) = (j : Int) - 1 by omega], HF7.out, HF2.out, HF3.out, HF1.out, HF5.out, HF6.out, HF4.out⟩
          case measure => simp [intOf]; omega
      · have hN1' : ¬ (1 : Int) < (N : Int) := by omega
        go_wp2
        go_roundw
        case rel => exact ⟨j - 1, L, by omega, by rw [show ((j - 1 : Nat) : Int) = (j : Int) - 1 by omega], HLL.out, HOK.out, HGm4.out, HOS4.out, HD4.out, HR4.out, HG4.out⟩
        case measure => simp [intOf]; omega
    · obtain rfl : j = 0 := by omega
      have m0 := (cells_of_heap HGmW.out 0 (by simp)).1
      have m1 := (cells_of_heap HGmW.out 1 (by simp)).1
      obtain ⟨y0, q0⟩ := cells_of_heap HGW1.out 0 (by simp)
      obtain ⟨y1, q1⟩ := cells_of_heap HGW1.out 1 (by simp)
      go_wp2
      clear y0 q0 y1 q1 m0 m1
      obtain ⟨wf, hwf⟩ : ∃ wz, wz = putW W1 w.heap.size 0 [.int .i64 K, .slice a N cap] := ⟨_, rfl⟩
      have kf := putW_all [.int .i64 K, .slice a N cap] HGW1.out rfl
      have hdf := HDW.out.putW (x := w.heap.size) (by have := HLT.out; omega) (by have := HLT.out; have := HBL.out; omega) [.int .i64 K, .slice a N cap] 0
      have hrf := grown_putW (Nat.le_refl w.heap.size) [.int .i64 K, .slice a N cap] 0 HRW.out
      have hof := (OwS.put (b := w.heap.size) [.int .i64 K, .slice a N cap] 0 HOS.out HVS.out).base (Nat.le_of_lt HVS.out)
      rw [← hwf] at kf hdf hrf hof
      have cf := hwf.symm
      simp only [putW, Nat.reduceAdd] at cf
      rw [cf]
      clear cf hwf
      have f0 := (cells_of_heap kf 0 (by simp)).1
      have f1 := (cells_of_heap kf 1 (by simp)).1
      simp only [List.getElem_toArray, List.getElem_cons_zero, List.getElem_cons_succ] at f0 f1
      exact bodyPost_ret (v := kmv K (.slice a N cap)) (by simp [results, Try.results42, go_sem, f0, f1]) rfl ⟨L, a, cap, fp, by rw [HLL.out], HOK.out, by rw [HLL.out]; exact hof, hdf, hrf⟩

end Go.Proofs.Ytleheibpgngmiaa
