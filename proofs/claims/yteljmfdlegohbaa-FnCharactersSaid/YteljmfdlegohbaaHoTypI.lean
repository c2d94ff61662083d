/- DERIVED. The program's TypedText: what reports type behind one. -/
import Derived.Test.YteljmfdlegohbaaHoTyp
import Derived.Test.YteljmfdlegohbaaHoNewI
import Derived.Test.YteljmfdlegohbaaHoImpl
import Derived.Test.YteljmfdlegohbaaHoBld
namespace Go.Proofs.Yteljmfdlegohbaa
open Go.RowKit

set_option maxRecDepth 100000 in
set_option maxHeartbeats 8000000 in
theorem implTypedText_any (m0 : Int) (u0 : Value) (z0 : List Int) (v : Value) (L : List Rv) (w : World) (hl0 : z0.length ≤ 1048576) (hl : L.length ≤ 1048576) (hrl : ∀ r ∈ L, r.2.length ≤ 1048576) (h0 : Rd w u0 (z0.map (.int .i64))) (h : RdQ rpF w v L) :
    Calls Try.prog 37 #[rpv m0 u0, v] w fun e w' => e = .returned (.string (tyV (m0, z0) L)) ∧ Below w.heap.size w w' := by
  obtain ⟨p, hp⟩ : ∃ p : Rv, p = (m0, z0) := ⟨_, rfl⟩
  rw [← hp]
  obtain ⟨X, hX⟩ : ∃ X, X = tyV p L := ⟨_, rfl⟩
  rw [← hX]
  have HX := Lib.hid hX
  have HP := Lib.hid hp
  have H0 := Lib.hid h0
  have HTL := Lib.hid (fun j => tyJ_le (p := p) hrl j)
  have HPL := Lib.hid (fun j => prD_len (p := p) (show p.2.length ≤ 1048576 by rw [hp]; exact hl0) hrl j)
  have HQL := Lib.hid (fun j => qD_le hrl j)
  obtain ⟨N, hN⟩ : ∃ N, N = L.length := ⟨_, rfl⟩
  obtain ⟨a0, k0, rfl⟩ := ints_shape h0
  have hc : ∃ va vc, v = .slice va N vc ∧ ∀ j, j < N → ∃ b off, va = some ⟨b, off, none⟩ ∧ b < w.heap.size ∧ ∃ a c, w.cell? ⟨b, off + j * 2, none⟩ = some (.int .i64 (qD L j).1) ∧ w.cell? ⟨b, off + j * 2 + 1, none⟩ = some (.slice a (qD L j).2.length c) ∧ Rd w (.slice a (qD L j).2.length c) ((qD L j).2.map (.int .i64)) := by
    rcases RdQ.at h with ⟨hn, a, cap, hv⟩ | ⟨b, off, cap, _, hv, hlt, hc⟩
    · exact ⟨a, cap, by rw [hN, hn]; exact hv, fun j hj => by rw [hN, hn] at hj; exact absurd hj (Nat.not_lt_zero _)⟩
    · exact ⟨_, cap, by rw [hN]; exact hv, fun j hj => ⟨b, off, rfl, hlt, hc j (by rw [← hN]; exact hj)⟩⟩
  obtain ⟨va, vc, rfl, hc⟩ := hc
  have HC := Lib.hid hc
  rw [← hN] at hl
  have HN := Lib.hid hN
  clear hX hp h0 hrl hN h hc
  obtain ⟨U, hU⟩ : ∃ U, U = (w.alloc (.cells #[.int .i64 m0, .slice a0 z0.length k0] 62)).alloc (.cells #[.pointer none, .slice none 0 0] 147) := ⟨_, rfl⟩
  have HG0 := Lib.hid (show U.heap[w.heap.size]? = some (.cells #[.int .i64 m0, .slice a0 z0.length k0] 62 (0, 0)) by rw [hU, Below.heap_alloc _ _ _ (by simp)]; exact heap_alloc_new w _)
  have HB0 := Lib.hid (show Below w.heap.size w U by rw [hU]; exact ((Below.refl _ _).alloc (Nat.le_refl _) _).alloc (by simp) _)
  have HD0 := Lib.hid (show Bld U (w.heap.size + 1) [] (.slice none 0 0) by rw [hU]; have := Bld.new (w.alloc (.cells #[.int .i64 m0, .slice a0 z0.length k0] 62)); simpa using this)
  have HU := Lib.hid hU
  clear hU
  obtain ⟨g, hg⟩ : ∃ g, g = w.heap.size := ⟨_, rfl⟩
  have HGe := Lib.hid hg
  rw [← hg] at HG0 HB0 HD0 ⊢
  go_enter Try.func37, Try.ntmps37
  go_upto_region 2 with (fail)
  rw [← HU.out, ← hg]
  clear hg
  go_wp2
  go_loopw [12] (fun i wr => ∃ (j : Nat) (mp : Int) (zp : List Int) (a : Option Addr) (c : Nat) (V : Value), j ≤ N ∧ i = .int .i64 j ∧ prD p L j = (mp, zp) ∧ wr.heap[g]? = some (.cells #[.int .i64 mp, .slice a zp.length c] 62 (0, 0)) ∧ Rd w (.slice a zp.length c) (zp.map (.int .i64)) ∧ Bld wr (g + 1) (tyJ p L j) V ∧ Below g w wr) (fun i _ => N - (intOf i).toNat)
  case atStart => exact ⟨0, m0, z0, a0, k0, _, Nat.zero_le _, rfl, HP.out, HG0.out, H0.out, HD0.out, HB0.out⟩
  case round =>
    obtain ⟨j, mp, zp, pa, pc, V, hj, rfl, hpr, hgb, hrd, hbl, hb⟩ := hrel
    have HPr := Lib.hid hpr
    have HGb := Lib.hid hgb
    have HRp := Lib.hid hrd
    have HB := Lib.hid hb
    have HD := Lib.hid hbl
    have hgs : g < wr.heap.size := (Array.getElem?_eq_some_iff.mp hgb).1
    obtain ⟨Y, hY⟩ : ∃ Y, Y = tyJ p L j := ⟨_, rfl⟩
    have HYL := Lib.hid (show Y.length ≤ j * 1048576 by rw [hY]; exact HTL.out j)
    rw [← hY] at HD
    have HY := Lib.hid hY
    clear hpr hgb hrd hb hY hbl
    by_cases hlt' : j < N
    · have hjN : (j : Int) < (N : Int) := by omega
      obtain ⟨b, off, rfl, hlt, qa, qc, c0, c1, hrow⟩ := HC.out j hlt'
      have hql := HQL.out j
      have hpl := HPL.out j
      have hnx : tyJ p L (j + 1) = tyJ p L j ++ tyK (qD L j).1 (nkV (prD p L j) (qD L j)) := rfl
      have hnp : prD p L (j + 1) = qD L j := rfl
      obtain ⟨q, hq⟩ : ∃ q, q = qD L j := ⟨_, rfl⟩
      rw [HPr.out] at hpl hnx
      rw [← HY.out] at hnx
      rw [← hq] at c0 c1 hrow hql hnx hnp
      obtain ⟨m, z⟩ := q
      simp only at c0 c1 hrow hql hnx hpl
      obtain ⟨R, hR⟩ : ∃ R, R = nkV (mp, zp) (m, z) := ⟨_, rfl⟩
      rw [← hR] at hnx
      have HR := Lib.hid hR
      have HRl := Lib.hid (show R.length ≤ 1048576 by rw [hR]; exact Nat.le_trans (nkV_len _ _) hql)
      have HNX := Lib.hid hnx
      have HNP := Lib.hid hnp
      have HRow := Lib.hid hrow
      have r0 := (HB.out.cell (p := ⟨b, off + j * 2, none⟩) (by rw [HGe.out]; exact hlt)).trans c0
      have r1 := (HB.out.cell (p := ⟨b, off + j * 2 + 1, none⟩) (by rw [HGe.out]; exact hlt)).trans c1
      have hbw : b < wr.heap.size := Nat.lt_of_lt_of_le hlt (HGe.out ▸ HB.out.size)
      have HZ1 := Lib.hid (show z.length ≤ 1048576 from hql)
      have HZ2 := Lib.hid (show zp.length ≤ maxLen by unfold maxLen; omega)
      have hj0 : (0 : Int) ≤ (j : Int) := by omega
      clear hq hR hnx hnp hrow c0 c1 hql hpl
      go_upto_region 5 with (fail)
      obtain ⟨wA, hA⟩ : ∃ x, x = wr.alloc (.cells #[.int .i64 m, .slice qa z.length qc] 62) := ⟨_, rfl⟩
      obtain ⟨h, hh⟩ : ∃ h, h = wr.heap.size := ⟨_, rfl⟩
      have hbA : Below wr.heap.size wr wA := by rw [hA]; exact (Below.refl _ _).alloc (Nat.le_refl _) _
      have HHA := Lib.hid (show wA.heap[h]? = some (.cells #[.int .i64 m, .slice qa z.length qc] 62 (0, 0)) by rw [hA, hh]; exact heap_alloc_new wr _)
      have HGA := Lib.hid ((hbA.block _ hgs).trans HGb.out)
      have HDA := Lib.hid (HD.out.below hbA)
      have HBA := Lib.hid (HB.out.trans (hbA.mono (HGe.out ▸ HB.out.size)))
      have hgh : g < h := by omega
      rw [← hA, ← hh]
      clear hA hbA r0 r1 HGb HD HB hh hbw hgs
      obtain ⟨x0, -⟩ := cells_of_heap HGA.out 0 (by simp)
      obtain ⟨x1, -⟩ := cells_of_heap HGA.out 1 (by simp)
      obtain ⟨y0, -⟩ := cells_of_heap HHA.out 0 (by simp)
      obtain ⟨y1, -⟩ := cells_of_heap HHA.out 1 (by simp)
      simp only [List.getElem_toArray, List.getElem_cons_zero, List.getElem_cons_succ] at x0 x1 y0 y1
      go_wp2_with fail
      refine (implNewKeys_any mp m (.slice pa zp.length pc) (.slice qa z.length qc) zp z _ HZ2.out HZ1.out (HRp.out.below (by rw [← HGe.out]; exact HBA.out)) (HRow.out.below (by rw [← HGe.out]; exact HBA.out))).mono ?_
      rw [← HR.out]
      rintro e w1 ⟨ka, kc, rfl, ho, hb1⟩
      have HO := Lib.hid ho
      have HH1 := Lib.hid ((hb1.block _ (Array.getElem?_eq_some_iff.mp HHA.out).1).trans HHA.out)
      have HG1 := Lib.hid ((hb1.block _ (Array.getElem?_eq_some_iff.mp HGA.out).1).trans HGA.out)
      have HD1 := Lib.hid (HDA.out.below hb1)
      have HB1 := Lib.hid (HBA.out.trans (hb1.mono (HGe.out ▸ HBA.out.size)))
      obtain ⟨B, hB⟩ : ∃ B, B = wA.heap.size := ⟨_, rfl⟩
      rw [← hB] at HO
      obtain ⟨M, hM⟩ : ∃ M, M = R.length := ⟨_, rfl⟩
      have HM := Lib.hid hM
      have hM6 : M ≤ 1048576 := by rw [hM]; exact HRl.out
      rw [← hM] at HO ⊢
      clear ho hb1 hB hM x0 x1 y0 y1 HHA HGA HDA HBA
      go_wp2
      go_loopw [20] (fun i wk => ∃ (q : Nat) (V : Value), q ≤ M ∧ i = .int .i64 q ∧ Bld wk (g + 1) (Y ++ tyK m (R.take q)) V ∧ wk.ownsRow B 3 1 (.slice ka M kc) M (R.map (.int .i64)) ∧ wk.heap[g]? = some (.cells #[.int .i64 mp, .slice pa zp.length pc] 62 (0, 0)) ∧ wk.heap[h]? = some (.cells #[.int .i64 m, .slice qa z.length qc] 62 (0, 0)) ∧ Below g w wk) (fun i _ => M - (intOf i).toNat)
      case atStart => exact ⟨0, V, Nat.zero_le _, rfl, by rw [tyK_zero, List.append_nil]; exact HD1.out, HO.out, HG1.out, HH1.out, HB1.out⟩
      case round =>
        obtain ⟨q, V2, hq, rfl, hd, ho, hg1, hh1, hb⟩ := hrel
        have HD2 := Lib.hid hd
        have HO2 := Lib.hid ho
        have HG2 := Lib.hid hg1
        have HH2 := Lib.hid hh1
        have HB2 := Lib.hid hb
        clear hd ho hg1 hh1 hb HD1 HO HG1 HH1 HB1
        by_cases hlq : q < M
        · have hqR : q < R.length := by rw [← HM.out]; exact hlq
          obtain ⟨kb, cap, he, hkB, hkb⟩ := HO2.out.form (by omega)
          simp only [Value.slice.injEq, true_and] at he
          obtain ⟨rfl, rfl⟩ := he
          have k0 := HO2.out.cellAt q (by omega)
          rw [List.getElem?_eq_getElem (by rw [List.length_map]; exact hqR), List.getElem_map] at k0
          obtain ⟨t, ht⟩ : ∃ t, t = R[q] := ⟨_, rfl⟩
          rw [← ht] at k0
          have htg : R.getD q 0 = t := by rw [ht, List.getD_eq_getElem?_getD, List.getElem?_eq_getElem hqR]; rfl
          have HTG := Lib.hid htg
          have hqM : (q : Int) < (M : Int) := by omega
          have hq0 : (0 : Int) ≤ (q : Int) := by omega
          obtain ⟨y0, -⟩ := cells_of_heap HH2.out 0 (by simp)
          simp only [List.getElem_toArray, List.getElem_cons_zero] at y0
          obtain ⟨T, hT⟩ : ∃ T, T = hoV t m := ⟨_, rfl⟩
          have HT := Lib.hid hT
          have hls : (Y ++ tyK m (R.take q)).length + T.size ≤ 140737488355328 := by
            have h1 := HYL.out
            have h2 := tyK_len m (R.take q)
            have h3 : T.size ≤ 1 := by rw [hT]; exact hoV_size t m
            rw [List.length_take] at h2
            rw [List.length_append]
            omega
          have HLS := Lib.hid hls
          have HNX2 := Lib.hid (show (Y ++ tyK m (R.take q)) ++ T.data.toList = Y ++ tyK m (R.take (q + 1)) by rw [tyK_snoc m R hqR, htg, hT, List.append_assoc]; rfl)
          clear ht htg hT hls hqR
          go_wp2_with fail
          refine (implCharOf_any t m _).mono ?_
          rw [← HT.out]
          rintro e w0 ⟨rfl, rfl⟩
          go_wp2_with fail
          refine (bWrite_t (g + 1) _ V2 T _ HD2.out HLS.out).mono ?_
          rintro e w3 ⟨rfl, V3, hd3, ht3⟩
          rw [HNX2.out] at hd3
          have HD3 := Lib.hid hd3
          have HO3 := Lib.hid (own_turn HD2.out HO2.out ht3)
          have HG3 := Lib.hid ((ht3.block _ (Array.getElem?_eq_some_iff.mp HG2.out).1 (HD2.out.far HG2.out (by decide) (by decide))).trans HG2.out)
          have HH3 := Lib.hid ((ht3.block _ (Array.getElem?_eq_some_iff.mp HH2.out).1 (HD2.out.far HH2.out (by decide) (by decide))).trans HH2.out)
          have HB3 := Lib.hid (HB2.out.trans (ht3.below (B := g) (fun x hx => by have := (HD2.out.rng x hx).1; omega) (HGe.out ▸ HB2.out.size)))
          clear hd3 ht3 k0 y0 HD2 HO2 HG2 HH2 HB2
          go_wp2
          go_roundw
          case rel => exact ⟨q + 1, V3, by omega, by go_num, HD3.out, HO3.out, HG3.out, HH3.out, HB3.out⟩
          case measure => simp [intOf]; omega
        · obtain rfl : q = M := by omega
          have HE := Lib.hid (show Y ++ tyK m (R.take q) = tyJ p L (j + 1) by rw [HNX.out, List.take_of_length_le (by rw [HM.out]; exact Nat.le_refl _), HY.out])
          obtain ⟨x0, f0⟩ := cells_of_heap HG2.out 0 (by simp)
          obtain ⟨x1, f1⟩ := cells_of_heap HG2.out 1 (by simp)
          obtain ⟨y0, -⟩ := cells_of_heap HH2.out 0 (by simp)
          obtain ⟨y1, -⟩ := cells_of_heap HH2.out 1 (by simp)
          simp only [List.getElem_toArray, List.getElem_cons_zero, List.getElem_cons_succ] at x0 x1 y0 y1
          have hne : h ≠ g := by omega
          have HDk := Lib.hid (HD2.out.rng)
          go_wp2
          go_roundw
          case rel =>
            refine ⟨j + 1, m, z, qa, qc, V2, by omega, by go_num, HNP.out, by have := block_set (block_set HG2.out 0 (.int .i64 m)) 1 (.slice qa z.length qc); simpa using this, HRow.out, ?_, (HB2.out.setCell (p := ⟨g, 0, none⟩) (Nat.le_refl _) _).setCell (p := ⟨g, 1, none⟩) (Nat.le_refl _) _⟩
            rw [← HE.out]
            refine HD2.out.keep fun x hx => ?_
            have := (HDk.out x hx).1
            rw [Below.heap_setCell _ _ _ _ (fun e => by have : x = g := e; omega), Below.heap_setCell _ _ _ _ (fun e => by have : x = g := e; omega)]
          case measure => simp [intOf]; omega
    · obtain rfl : j = N := by omega
      have HE := Lib.hid (show X = ⟨Y.toArray⟩ by rw [HX.out, tyV, HY.out, HN.out])
      go_wp2_with fail
      refine (bString_any (g + 1) (g + 1) Y _ HD.out.is (Nat.le_of_lt HD.out.lt)).mono ?_
      rintro e w1 ⟨rfl, hb1⟩
      have HB1 := Lib.hid (HB.out.trans (hb1.mono (Nat.le_succ g)))
      clear hb1
      go_wp2
      go_ret
      exact ⟨by rw [HE.out]; rfl, HGe.out ▸ HB1.out⟩

end Go.Proofs.Yteljmfdlegohbaa
