/- DERIVED. The reference's draw of a report. · MakeReport of the reference: a valid report. -/
import Derived.Test.YtghijkpcmamebaaDoorRpSpec
import Derived.Test.YtghijkpcmamebaaDoorDraw
import Derived.Test.YtghijkpcmamebaaDoorAcDraw
import Derived.Deep.DeepCutAuto
namespace Go.Proofs.YtghijkpcmamebaaDoor
open Go.RowKit

theorem owns_keep7 {w w' : World} {B c n : Nat} {e : TypeId} {v : Value} {xs : List Value} (h : w.ownsRow B e c v n xs) (hk : ∀ q, v.ownBlock = some q → w'.heap[q]? = w.heap[q]?) : w'.ownsRow B e c v n xs := by
  obtain ⟨h1, h2⟩ := h
  refine ⟨h1, ?_⟩
  rcases h2 with h2 | ⟨g, cap, cur, rfl, hg, hh, r⟩
  · exact .inl h2
  · exact .inr ⟨g, cap, cur, rfl, hg, (hk g rfl).trans hh, r⟩
theorem okRp_of {r : Int} {zs : List Int} (h0 : 0 ≤ r ∧ r ≤ 15) (ha : zs.Pairwise (· < ·)) (hm : ∀ z ∈ zs, 1 ≤ z ∧ z ≤ 56) : okRp r zs = true := by
  have key : ∀ m, m ≤ zs.length → rpN zs m = true := by
    intro m
    induction m with
    | zero => intro _; rfl
    | succ m ih =>
      intro h
      rw [rpN, ih (by omega), Bool.true_and, rpAt, Bool.and_eq_true, Bool.or_eq_true]
      have e : zs.getD m 0 = zs[m] := by rw [List.getD_eq_getElem?_getD, List.getElem?_eq_getElem (by omega)]; rfl
      refine ⟨by rw [e]; exact decide_eq_true (hm _ (List.getElem_mem _)), ?_⟩
      rcases Nat.eq_zero_or_pos m with rfl | hp
      · exact .inl (by decide)
      · right
        have e2 : zs.getD (m - 1) 0 = zs[m - 1] := by rw [List.getD_eq_getElem?_getD, List.getElem?_eq_getElem (by omega)]; rfl
        rw [e, e2]
        exact decide_eq_true ((List.pairwise_iff_getElem.1 ha) (m - 1) m (by omega) (by omega) (by omega))
  rw [okRp, key zs.length (Nat.le_refl _), Bool.true_and]
  exact decide_eq_true h0
/-- What is known of a report that is drawn. -/
def RpDrawn (B b : Nat) (v : Value) (n : Nat) (zs : List Int) (w : World) (e : Ending) (w' : World) : Prop :=
  ∃ (M : Int) (Z : List Int) (ga cap : Nat), e = .returned (rpv M (.slice (some ⟨ga, 0, none⟩) Z.length cap)) ∧ okRp M Z = true ∧ w'.ownsRow w.heap.size 3 1 (.slice (some ⟨ga, 0, none⟩) Z.length cap) Z.length (Z.map (.int .i64)) ∧ Draws B b v n zs w' ∧ w.grownBy w' (some b)

set_option maxHeartbeats 8000000 in
set_option maxRecDepth 100000 in
theorem l7Report_draw {B b n : Nat} {v : Value} {zs : List Int} {w : World} (h : Draws B b v n zs w) :
    Calls Tryd.prog 30 #[.pointer (some ⟨b, 0, none⟩)] w (RpDrawn B b v n zs w) := by
  obtain ⟨i0, hi, hz0, hz1, hz2⟩ := info_parts info_int
  have HLT := Lib.hid h.lt
  have HBL := Lib.hid h.low
  obtain ⟨V, hV⟩ : ∃ V, V = w.alloc (.cells #[.int .i64 0, .slice none 0 0] 26) := ⟨_, rfl⟩
  have HG0 := Lib.hid (show V.heap[w.heap.size]? = some (.cells #[.int .i64 0, .slice none 0 0] 26 (0, 0)) by rw [hV]; exact heap_alloc_new w _)
  have HS0 := Lib.hid (show w.heap.size < V.heap.size by rw [hV]; simp)
  have HD0 := Lib.hid (show Draws B b v n zs V by rw [hV]; exact h.alloc _)
  have HR0 := Lib.hid (show w.grownBy V (some b) by rw [hV]; exact grown_alloc _ _ _)
  have HV2 := Lib.hid hV
  clear hV h
  go_enter Tryd.func30, Tryd.ntmps30
  obtain ⟨gp, hgp⟩ : ∃ g, g = w.heap.size + 1 := ⟨_, rfl⟩
  have hVs : V.heap.size = gp := by rw [HV2.out, hgp]; simp
  obtain ⟨V1, hV1⟩ : ∃ x, x = V.alloc (.cells #[.int .i64 0, .int .i64 0, .int .i64 2, .int .i64 1, .int .i64 15] 3) := ⟨_, rfl⟩
  have hk1 : V1.heap[gp]? = some (.cells #[.int .i64 0, .int .i64 0, .int .i64 2, .int .i64 1, .int .i64 15] 3 (0, 0)) := by rw [hV1, ← hVs]; exact heap_alloc_new _ _
  have hcell : ∀ j, j < ([0, 0, 2, 1, 15] : List Int).length → V1.cell? ⟨gp, j, none⟩ = some (.int .i64 (([0, 0, 2, 1, 15] : List Int).getD j 0)) := by
    intro j hj
    simp only [List.length_cons, List.length_nil] at hj
    have : j = 0 ∨ j = 1 ∨ j = 2 ∨ j = 3 ∨ j = 4 := by omega
    rcases this with rfl | rfl | rfl | rfl | rfl <;> exact (cells_of_heap hk1 _ (by simp)).1
  have HC := Lib.hid hcell
  have hgV : V.grownBy V1 none := by rw [hV1]; exact grown_alloc _ _ _
  have HDV := Lib.hid (show Draws B b v n zs V1 by rw [hV1]; exact HD0.out.alloc _)
  have HRV := Lib.hid (grown_high HR0.out hgV (fun q e => by cases e))
  have HGV := Lib.hid ((hgV.block _ HS0.out (by simp)).trans HG0.out)
  have HSV := Lib.hid (Nat.lt_of_lt_of_le HS0.out hgV.size)
  have HNb := Lib.hid (show gp ≠ b by have := HLT.out; omega)
  have HV1 := Lib.hid hV1
  have HGP := Lib.hid hgp
  clear hk1 hcell hgV hV1 hgp hVs
  go_wp2_with fail
  rw [← HV2.out, ← HV1.out, ← HGP.out]
  refine (l1PickInt_draw gp [0, 0, 2, 1, 15] HDV.out (by simp) (by simp) HNb.out HC.out).mono ?_
  rintro e w1 ⟨M, rfl, hM, hd, hg⟩
  have hM2 : 0 ≤ M ∧ M ≤ 15 := by
    simp only [List.mem_cons, List.not_mem_nil, or_false] at hM
    omega
  have HM := Lib.hid hM2
  have HD1 := Lib.hid hd
  have HR1 := Lib.hid (grown_trans HRV.out hg)
  have HG1 := Lib.hid ((hg.block _ HSV.out (by have := HLT.out; simp; omega)).trans HGV.out)
  have HS1 := Lib.hid (Nat.lt_of_lt_of_le HSV.out hg.size)
  clear hd hg hM hM2
  go_upto_region 2 with (fail)
  obtain ⟨ge, hge⟩ : ∃ x, x = w1.heap.size := ⟨_, rfl⟩
  obtain ⟨gm, hgm⟩ : ∃ x, x = w1.heap.size + 1 := ⟨_, rfl⟩
  obtain ⟨U, hU⟩ : ∃ U, U = (w1.alloc (.cells #[] 3)).alloc (.cells #[.int .i64 M, .slice (some ⟨ge, 0, none⟩) 0 0] 26) := ⟨_, rfl⟩
  have hgU : w1.grownBy U none := by rw [hU]; exact grown_trans (grown_alloc _ _ _) (grown_alloc _ _ _)
  have HGm := Lib.hid (show U.heap[gm]? = some (.cells #[.int .i64 M, .slice (some ⟨ge, 0, none⟩) ([] : List Int).length 0] 26 (0, 0)) by rw [hU, hgm]; simpa using heap_alloc_new (w1.alloc (.cells #[] 3)) _)
  have HOw := Lib.hid (show U.ownsRow (w.heap.size + 1) 3 1 (.slice (some ⟨ge, 0, none⟩) ([] : List Int).length 0) ([] : List Int).length (([] : List Int).map (.int .i64)) by
    rw [hU, hge]
    have := World.ownsRow_lit (e := 3) (size := 1) (base := w.heap.size + 1) w1 #[] 0 HS1.out (by simp [maxLen]) rfl
    exact this.alloc _)
  have HDU := Lib.hid (show Draws B b v n zs U by rw [hU]; exact (HD1.out.alloc _).alloc _)
  have HRU := Lib.hid (grown_high HR1.out hgU (fun q e => by cases e))
  have HGU := Lib.hid ((hgU.block _ HS1.out (by simp)).trans HG1.out)
  have hem : ¬ ge = gm := by omega
  have hwm : w.heap.size < gm := by have := HS1.out; omega
  rw [← hgm, ← hge, ← hU]
  clear hU hgU hgm hge
  go_wp2_with fail
  refine (l1Below_draw 9 HDU.out (by omega) (by omega)).mono ?_
  rintro e w2 ⟨x, rfl, x0, x1, hd, hg⟩
  obtain ⟨Q, rfl⟩ := Int.eq_ofNat_of_zero_le x0
  have hQ : Q ≤ 8 := by omega
  have HD2 := Lib.hid hd
  have HR2 := Lib.hid (grown_trans HRU.out hg)
  have HGm2 := Lib.hid ((hg.block gm (Array.getElem?_eq_some_iff.mp HGm.out).1 (by have := HLT.out; simp; omega)).trans HGm.out)
  have HOw2 := Lib.hid (owns_grown HOw.out hg (by have := HLT.out; omega))
  have HG2 := Lib.hid ((hg.block _ (Array.getElem?_eq_some_iff.mp HGU.out).1 (by have := HLT.out; simp; omega)).trans HGU.out)
  clear hd hg x0 x1
  go_wp2
  go_loopw [4, 5] (fun k nn wr => ∃ (K N ga cap : Nat) (Z : List Int), k = .int .i64 K ∧ nn = .int .i64 N ∧ K ≤ 63 ∧ N ≤ 8 ∧ Z.length + N ≤ 8 ∧ Z.Pairwise (· < ·) ∧ (∀ z ∈ Z, 1 ≤ z ∧ z ≤ (K : Int) ∧ z ≤ 56) ∧ wr.heap[gm]? = some (.cells #[.int .i64 M, .slice (some ⟨ga, 0, none⟩) Z.length cap] 26 (0, 0)) ∧ wr.ownsRow (w.heap.size + 1) 3 1 (.slice (some ⟨ga, 0, none⟩) Z.length cap) Z.length (Z.map (.int .i64)) ∧ ¬ ga = gm ∧ Draws B b v n zs wr ∧ w.grownBy wr (some b) ∧ wr.heap[w.heap.size]? = some (.cells #[.int .i64 0, .slice none 0 0] 26 (0, 0))) (fun _ nn _ => (intOf nn).toNat)
  case atStart => exact ⟨0, Q, ge, 0, [], rfl, rfl, by omega, hQ, by simpa using hQ, List.Pairwise.nil, fun z hz => absurd hz (List.not_mem_nil), HGm2.out, HOw2.out, hem, HD2.out, HR2.out, HG2.out⟩
  case round =>
    obtain ⟨K, N, ga, cap, Z, rfl, rfl, hK, hN, hZN, hP, hZ, hgm, ho, hga, hd, hr, hg0⟩ := hrel
    have HP := Lib.hid hP
    have HZ := Lib.hid hZ
    have HGm3 := Lib.hid hgm
    have HO3 := Lib.hid ho
    have HD3 := Lib.hid hd
    have HR3 := Lib.hid hr
    have HG3 := Lib.hid hg0
    have hgs : gm < wr.heap.size := (Array.getElem?_eq_some_iff.mp hgm).1
    clear hP hZ hgm ho hd hr hg0
    by_cases hlt : 0 < N
    · by_cases hk : K < 56
      · go_wp2_with fail
        refine (l1Below_draw 7 HD3.out (by omega) (by omega)).mono ?_
        rintro e w3 ⟨x, rfl, x0, x1, hd, hg⟩
        obtain ⟨X, rfl⟩ := Int.eq_ofNat_of_zero_le x0
        have hX : X ≤ 6 := by omega
        have HD4 := Lib.hid hd
        have HR4 := Lib.hid (grown_trans HR3.out hg)
        have HGm4 := Lib.hid ((hg.block gm hgs (by have := HLT.out; simp; omega)).trans HGm3.out)
        have HO4 := Lib.hid (owns_grown HO3.out hg (by have := HLT.out; omega))
        have HG4 := Lib.hid ((hg.block _ (by omega) (by have := HLT.out; simp; omega)).trans HG3.out)
        have hgs4 : gm < w3.heap.size := Nat.lt_of_lt_of_le hgs hg.size
        obtain ⟨K2, hK2⟩ : ∃ K2, K2 = K + 1 + X := ⟨_, rfl⟩
        have hs2 : (K : Int) + 1 + (X : Int) = (K2 : Int) := by omega
        have HS2 := Lib.hid hs2
        clear hd hg x0 x1 hs2
        by_cases h56 : K2 ≤ 56
        · obtain ⟨m1, p1⟩ := cells_of_heap HGm4.out 1 (by simp)
          have c63 : Z.length + 1 ≤ maxLen := by unfold maxLen; omega
          have c47 : (Z.length + 1) * 8 ≤ 140737488355328 := by omega
          have h56' : (K : Int) + 1 + (X : Int) ≤ 56 := by omega
          go_wp2_with (at_builtin; refine wpList_append_lies _ rfl _ _ 24 rfl (w.heap.size + 1) 3 i0 (.int .i64 0) 1 8 Tryd.underlying24 hi hz0 hz1 hz2 rfl (by decide) (.slice (some ⟨ga, 0, none⟩) Z.length cap) Z.length (Z.map (.int .i64)) rfl (HO4.out.alloc _) ⟨w3.heap.size, 0, none⟩ 1 1 [.int .i64 ((K : Int) + 1 + (X : Int))] rfl rfl (World.news_of_block (cs := #[.int .i64 ((K : Int) + 1 + (X : Int))]) (t := 3) (fr := (0, 0)) (heap_alloc_new w3 _)) (by simp [Value.oneCell']) (by decide) c63 c47 (by simp; omega) (w3.heap.size + 1) (by simp) ?_)
          intro g2 cap2 w4 hown2 hgrow2 hat2 hlt4
          have hlen : (Z ++ [(K : Int) + 1 + (X : Int)]).length = Z.length + 1 := by simp
          have hga4 : w.heap.size + 1 ≤ ga := (HO4.out.lt ga rfl).1
          have hg2b : w.heap.size + 1 ≤ g2 ∧ ¬ g2 = gm := by
            rcases hat2 with h1 | h1
            · have h2 : some ga = some g2 := h1
              have h3 := Option.some.inj h2
              omega
            · omega
          have hgr1 : w.grownBy (w3.alloc (.cells #[.int .i64 ((K : Int) + 1 + (X : Int))] 3)) (some b) := grown_high HR4.out (grown_alloc w3 _ none) (fun q e => by cases e)
          have hgr4 := grown_high hgr1 hgrow2 (fun q e => by have h2 : some ga = some q := e; have h3 := Option.some.inj h2; omega)
          have hgr5 := grown_high hgr4 (grown_set w4 gm 1 (.slice (some ⟨g2, 0, none⟩) (Z.length + 1) cap2)) (fun q e => by have h3 := Option.some.inj e; omega)
          have hd5 := (HD4.out.alloc (.cells #[.int .i64 ((K : Int) + 1 + (X : Int))] 3)).high hgrow2 (H := w.heap.size) (fun q e => by have h2 : some ga = some q := e; have h3 := Option.some.inj h2; omega) HLT.out
          have hd6 := hd5.high (grown_set w4 gm 1 (.slice (some ⟨g2, 0, none⟩) (Z.length + 1) cap2)) (H := w.heap.size) (fun q e => by have h3 := Option.some.inj e; omega) HLT.out
          have hblk : ∀ q, q < w3.heap.size → ¬ ga = q → w4.heap[q]? = w3.heap[q]? := fun q hq hqa => by
            rw [hgrow2.block q (by simp; omega) (fun e => by have h2 : some ga = some q := e.symm ▸ rfl; exact hqa (Option.some.inj h2))]
            exact ((Below.refl w3.heap.size w3).alloc (Nat.le_refl _) _).block q hq
          have hgm4 := (hblk gm hgs4 hga).trans HGm4.out
          obtain ⟨o14, p14⟩ := cells_of_heap hgm4 1 (by simp)
          have hgm5 := heap_setCell_same w4 gm 1 _ _ (.slice (some ⟨g2, 0, none⟩) (Z.length + 1) cap2) hgm4
          have ho5 : (w4.setCell ⟨gm, 1, none⟩ (.slice (some ⟨g2, 0, none⟩) (Z.length + 1) cap2)).ownsRow (w.heap.size + 1) 3 1 (.slice (some ⟨g2, 0, none⟩) (Z.length + 1) cap2) (Z.length + 1) ((Z ++ [(K : Int) + 1 + (X : Int)]).map (.int .i64)) :=
            owns_keep7 (by simpa using hown2) (fun q hq => heap_setCell_other w4 ⟨gm, 1, none⟩ q _ (by have h2 : some g2 = some q := hq; have h3 := Option.some.inj h2; show ¬ q = gm; omega))
          have hg05 : (w4.setCell ⟨gm, 1, none⟩ (.slice (some ⟨g2, 0, none⟩) (Z.length + 1) cap2)).heap[w.heap.size]? = some (.cells #[.int .i64 0, .slice none 0 0] 26 (0, 0)) := by
            rw [heap_setCell_other w4 ⟨gm, 1, none⟩ w.heap.size _ (by show ¬ w.heap.size = gm; omega)]
            exact (hblk w.heap.size (by omega) (by omega)).trans HG4.out
          have HGR5 := Lib.hid hgr5
          have HD6 := Lib.hid hd6
          have HGm5 := Lib.hid hgm5
          have HO5 := Lib.hid ho5
          have HG5 := Lib.hid hg05
          have HP5 := Lib.hid (show (Z ++ [(K : Int) + 1 + (X : Int)]).Pairwise (· < ·) by
            rw [List.pairwise_append]
            refine ⟨HP.out, List.pairwise_singleton _ _, fun x hx y hy => ?_⟩
            have := (HZ.out x hx).2.1
            rw [List.mem_singleton.1 hy]; omega)
          have HZ5 := Lib.hid (show ∀ z ∈ Z ++ [(K : Int) + 1 + (X : Int)], 1 ≤ z ∧ z ≤ (K2 : Int) ∧ z ≤ 56 from fun z hz => by
            rcases List.mem_append.1 hz with h1 | h1
            · have := HZ.out z h1; omega
            · rw [List.mem_singleton.1 h1]; omega)
          have HLEN := Lib.hid hlen
          clear hgr1 hgr4 hgr5 hd5 hd6 hblk hgm4 hgm5 ho5 hg05 hown2 hgrow2 hat2 hlt4 hlen m1 p1 c63 c47
          go_wp2
          go_roundw
          case rel => exact ⟨K2, N - 1, g2, cap2, Z ++ [(K : Int) + 1 + (X : Int)], by rw [HS2.out], by go_num, by omega, by omega, by rw [HLEN.out]; omega, HP5.out, HZ5.out, by rw [HLEN.out]; exact HGm5.out, by rw [HLEN.out]; exact HO5.out, hg2b.2, HD6.out, HGR5.out, HG5.out⟩
          case measure => simp [intOf]; omega
        · have h56' : ¬ (K : Int) + 1 + (X : Int) ≤ 56 := by omega
          go_wp2
          go_roundw
          case rel => exact ⟨K2, N - 1, ga, cap, Z, by rw [HS2.out], by go_num, by omega, by omega, by omega, HP.out, fun z hz => by have := HZ.out z hz; omega, HGm4.out, HO4.out, hga, HD4.out, HR4.out, HG4.out⟩
          case measure => simp [intOf]; omega
      · have m0 := (cells_of_heap HGm3.out 0 (by simp)).1
        have m1 := (cells_of_heap HGm3.out 1 (by simp)).1
        have HF := Lib.hid (okRp_of HM.out HP.out (fun z hz => ⟨(HZ.out z hz).1, (HZ.out z hz).2.2⟩))
        obtain ⟨y0, q0⟩ := cells_of_heap HG3.out 0 (by simp)
        obtain ⟨y1, q1⟩ := cells_of_heap HG3.out 1 (by simp)
        go_wp2
        clear y0 q0 y1 q1 m0 m1
        obtain ⟨wf, hwf⟩ : ∃ wz, wz = putW wr (w.heap.size) 0 [.int .i64 M, .slice (some ⟨ga, 0, none⟩) Z.length cap] := ⟨_, rfl⟩
        have kf := putW_all [.int .i64 M, .slice (some ⟨ga, 0, none⟩) Z.length cap] HG3.out rfl
        have hdf := HD3.out.putW (x := w.heap.size) (by have := HLT.out; omega) (by have := HLT.out; have := HBL.out; omega) [.int .i64 M, .slice (some ⟨ga, 0, none⟩) Z.length cap] 0
        have hgf := grown_putW (Nat.le_refl w.heap.size) [.int .i64 M, .slice (some ⟨ga, 0, none⟩) Z.length cap] 0 HR3.out
        have hof := putW_own (b := w.heap.size) (Nat.lt_succ_self _) [.int .i64 M, .slice (some ⟨ga, 0, none⟩) Z.length cap] 0 wr HO3.out
        rw [← hwf] at kf hdf hgf hof
        have cf := hwf.symm
        simp only [putW, Nat.reduceAdd] at cf
        rw [cf]
        clear cf hwf
        have f0 := (cells_of_heap kf 0 (by simp)).1
        have f1 := (cells_of_heap kf 1 (by simp)).1
        simp only [List.getElem_toArray, List.getElem_cons_zero, List.getElem_cons_succ] at f0 f1
        refine bodyPost_ret (v := rpv M (.slice (some ⟨ga, 0, none⟩) Z.length cap)) (by simp [results, Tryd.results30, go_sem, f0, f1]) rfl ⟨M, Z, ga, cap, rfl, HF.out, owns_base hof (Nat.le_succ _), hdf, hgf⟩
    · obtain rfl : N = 0 := by omega
      have m0 := (cells_of_heap HGm3.out 0 (by simp)).1
      have m1 := (cells_of_heap HGm3.out 1 (by simp)).1
      have HF := Lib.hid (okRp_of HM.out HP.out (fun z hz => ⟨(HZ.out z hz).1, (HZ.out z hz).2.2⟩))
      obtain ⟨y0, q0⟩ := cells_of_heap HG3.out 0 (by simp)
      obtain ⟨y1, q1⟩ := cells_of_heap HG3.out 1 (by simp)
      go_wp2
      clear y0 q0 y1 q1 m0 m1
      obtain ⟨wf, hwf⟩ : ∃ wz, wz = putW wr (w.heap.size) 0 [.int .i64 M, .slice (some ⟨ga, 0, none⟩) Z.length cap] := ⟨_, rfl⟩
      have kf := putW_all [.int .i64 M, .slice (some ⟨ga, 0, none⟩) Z.length cap] HG3.out rfl
      have hdf := HD3.out.putW (x := w.heap.size) (by have := HLT.out; omega) (by have := HLT.out; have := HBL.out; omega) [.int .i64 M, .slice (some ⟨ga, 0, none⟩) Z.length cap] 0
      have hgf := grown_putW (Nat.le_refl w.heap.size) [.int .i64 M, .slice (some ⟨ga, 0, none⟩) Z.length cap] 0 HR3.out
      have hof := putW_own (b := w.heap.size) (Nat.lt_succ_self _) [.int .i64 M, .slice (some ⟨ga, 0, none⟩) Z.length cap] 0 wr HO3.out
      rw [← hwf] at kf hdf hgf hof
      have cf := hwf.symm
      simp only [putW, Nat.reduceAdd] at cf
      rw [cf]
      clear cf hwf
      have f0 := (cells_of_heap kf 0 (by simp)).1
      have f1 := (cells_of_heap kf 1 (by simp)).1
      simp only [List.getElem_toArray, List.getElem_cons_zero, List.getElem_cons_succ] at f0 f1
      refine bodyPost_ret (v := rpv M (.slice (some ⟨ga, 0, none⟩) Z.length cap)) (by simp [results, Tryd.results30, go_sem, f0, f1]) rfl ⟨M, Z, ga, cap, rfl, HF.out, owns_base hof (Nat.le_succ _), hdf, hgf⟩
end Go.Proofs.YtghijkpcmamebaaDoor

namespace Go.Proofs.YtghijkpcmamebaaDoor
open Go.RowKit

/-- A valid report, in memory of its own. -/
def RpMade (w : World) (e : Ending) (w' : World) : Prop :=
  ∃ (M : Int) (Z : List Int) (ga cap : Nat), e = .returned (rpv M (.slice (some ⟨ga, 0, none⟩) Z.length cap)) ∧ okRp M Z = true ∧ w'.ownsRow w.heap.size 3 1 (.slice (some ⟨ga, 0, none⟩) Z.length cap) Z.length (Z.map (.int .i64)) ∧ Below w.heap.size w w'
set_option maxHeartbeats 2000000 in
theorem MakeReport_draw (v : Value) (zs : List Int) (k : Int) (w : World) (hl : zs.length ≤ 1099511627776) (hz : ∀ z ∈ zs, 0 ≤ z ∧ z < 256) (h : Rd w v (zs.map (.int .u8))) :
    Calls Tryd.prog 9 #[v, .int .i64 k] w (RpMade w) := by
  have HZ := Lib.hid hz
  have HL := Lib.hid hl
  have HR := Lib.hid h
  clear hz hl h
  obtain ⟨V, hV⟩ : ∃ V, V = w.alloc (.cells #[.int .i64 0, .slice none 0 0] 26) := ⟨_, rfl⟩
  have HG0 := Lib.hid (show V.heap[w.heap.size]? = some (.cells #[.int .i64 0, .slice none 0 0] 26 (0, 0)) by rw [hV]; exact heap_alloc_new w _)
  have HB0 := Lib.hid (show Below w.heap.size w V by rw [hV]; exact (Below.refl _ _).alloc (Nat.le_refl _) _)
  have HS0 := Lib.hid (show w.heap.size < V.heap.size by rw [hV]; simp)
  have HV2 := Lib.hid hV
  clear hV
  go_enter Tryd.func9, Tryd.ntmps9
  go_wp2_with fail
  rw [← HV2.out]
  refine (l24New_draw v zs k _ HL.out HZ.out (HR.out.below HB0.out)).mono ?_
  rintro e w1 ⟨rfl, hd, hb, hlt⟩
  have HD := Lib.hid hd
  have HB1 := Lib.hid (HB0.out.trans (hb.mono HB0.out.size))
  have HG1 := Lib.hid ((hb.block _ HS0.out).trans HG0.out)
  have HS1 := Lib.hid (Nat.lt_of_lt_of_le HS0.out hb.size)
  have HVl := Lib.hid hb.size
  clear hd hb hlt
  go_wp2_with fail
  refine (l7Report_draw HD.out).mono ?_
  rintro e w2 ⟨M, Z, ga, cap, rfl, hok, hos, hd, hg⟩
  have hb := low_of_grown (B := V.heap.size) hg (Nat.le_refl _) HVl.out
  have HB2 := Lib.hid (HB1.out.trans (hb.mono HB0.out.size))
  have HG2 := Lib.hid ((hb.block _ HS0.out).trans HG1.out)
  have HOS := Lib.hid hos
  have HOK := Lib.hid hok
  obtain ⟨N, hN⟩ : ∃ N, N = Z.length := ⟨_, rfl⟩
  rw [← hN]
  have HN := Lib.hid hN
  clear hd hg hb hos hok hN
  obtain ⟨y0, q0⟩ := cells_of_heap HG2.out 0 (by simp)
  obtain ⟨y1, q1⟩ := cells_of_heap HG2.out 1 (by simp)
  go_wp2
  clear y0 q0 y1 q1
  obtain ⟨wf, hwf⟩ : ∃ wz, wz = putW w2 w.heap.size 0 [.int .i64 M, .slice (some ⟨ga, 0, none⟩) N cap] := ⟨_, rfl⟩
  have kf := putW_all [.int .i64 M, .slice (some ⟨ga, 0, none⟩) N cap] HG2.out rfl
  have hbf := putW_below (b := w.heap.size) (Nat.le_refl _) [.int .i64 M, .slice (some ⟨ga, 0, none⟩) N cap] 0 _ HB2.out
  have hof := owns_base (putW_own (b := w.heap.size) HS1.out [.int .i64 M, .slice (some ⟨ga, 0, none⟩) N cap] 0 _ HOS.out) (Nat.le_of_lt HS1.out)
  rw [← hwf] at kf hbf hof
  have cf := hwf.symm
  simp only [putW, Nat.reduceAdd] at cf
  rw [cf]
  clear cf hwf
  have f0 := (cells_of_heap kf 0 (by simp)).1
  have f1 := (cells_of_heap kf 1 (by simp)).1
  simp only [List.getElem_toArray, List.getElem_cons_zero, List.getElem_cons_succ] at f0 f1
  refine bodyPost_ret (v := rpv M (.slice (some ⟨ga, 0, none⟩) N cap)) (by simp [results, Tryd.results9, go_sem, f0, f1]) rfl ⟨M, Z, ga, cap, by rw [HN.out], HOK.out, ?_, hbf⟩
  exact hof

end Go.Proofs.YtghijkpcmamebaaDoor
