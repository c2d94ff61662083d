/- DERIVED. The reference's TypedText: what reports type behind one. -/
import Derived.Test.YteljmfdlegohbaaHoNew
import Derived.Test.YteljmfdlegohbaaRpsLaw
import Derived.Deep.RegionLaw
import Derived.Deep.DeepCutAuto
namespace Go.Proofs.Yteljmfdlegohbaa
open Go.RowKit

theorem ba_app (l l' : List UInt8) : (⟨l.toArray⟩ : ByteArray) ++ ⟨l'.toArray⟩ = ⟨(l ++ l').toArray⟩ := by
  refine ByteArray.ext ?_
  rw [ByteArray.data_append]
  simp
theorem ba_size (l : List UInt8) : (⟨l.toArray⟩ : ByteArray).size = l.length := rfl
theorem tyK_zero (m : Int) (ks : List Int) : tyK m (ks.take 0) = [] := by simp [tyK]
theorem prD_len {p : Rv} {L : List Rv} {n : Nat} (hp : p.2.length ≤ n) (h : ∀ r ∈ L, r.2.length ≤ n) : ∀ j, (prD p L j).2.length ≤ n
  | 0 => hp
  | j + 1 => qD_le h j

set_option maxRecDepth 100000 in
set_option maxHeartbeats 8000000 in
theorem specTypedText_any (m0 : Int) (u0 : Value) (z0 : List Int) (v : Value) (L : List Rv) (w : World) (hl0 : z0.length ≤ 1048576) (hl : L.length ≤ 1048576) (hrl : ∀ r ∈ L, r.2.length ≤ 1048576) (h0 : Rd w u0 (z0.map (.int .i64))) (h : RdQ rpF w v L) :
    Calls Try.prog 73 #[rpv m0 u0, v] w fun e w' => e = .returned (.string (tyV (m0, z0) L)) ∧ Below w.heap.size w w' := by
  obtain ⟨p, hp⟩ : ∃ p : Rv, p = (m0, z0) := ⟨_, rfl⟩
  rw [← hp]
  obtain ⟨X, hX⟩ : ∃ X, X = tyV p L := ⟨_, rfl⟩
  rw [← hX]
  have HX := Lib.hid hX
  have HP := Lib.hid hp
  have H0 := Lib.hid h0
  have HTL := Lib.hid (fun j => tyJ_le (p := p) hrl j)
  have HPL := Lib.hid (fun j => prD_len (p := p) (show p.2.length ≤ 1048576 by rw [hp]; exact hl0) hrl j)
  have HQL := Lib.hid (fun j => qD_le hrl j)
  obtain ⟨N, hN⟩ : ∃ N, N = L.length := ⟨_, rfl⟩
  obtain ⟨a0, k0, rfl⟩ := ints_shape h0
  have hc : ∃ va vc, v = .slice va N vc ∧ ∀ j, j < N → ∃ b off, va = some ⟨b, off, none⟩ ∧ b < w.heap.size ∧ ∃ a c, w.cell? ⟨b, off + j * 2, none⟩ = some (.int .i64 (qD L j).1) ∧ w.cell? ⟨b, off + j * 2 + 1, none⟩ = some (.slice a (qD L j).2.length c) ∧ Rd w (.slice a (qD L j).2.length c) ((qD L j).2.map (.int .i64)) := by
    rcases RdQ.at h with ⟨hn, a, cap, hv⟩ | ⟨b, off, cap, _, hv, hlt, hc⟩
    · exact ⟨a, cap, by rw [hN, hn]; exact hv, fun j hj => by rw [hN, hn] at hj; exact absurd hj (Nat.not_lt_zero _)⟩
    · exact ⟨_, cap, by rw [hN]; exact hv, fun j hj => ⟨b, off, rfl, hlt, hc j (by rw [← hN]; exact hj)⟩⟩
  obtain ⟨va, vc, rfl, hc⟩ := hc
  have HC := Lib.hid hc
  rw [← hN] at hl
  have HN := Lib.hid hN
  clear hX hp h0 hrl hN h hc
  obtain ⟨U, hU⟩ : ∃ U, U = w.alloc (.cells #[.int .i64 m0, .slice a0 z0.length k0] 62) := ⟨_, rfl⟩
  have HG0 := Lib.hid (show U.heap[w.heap.size]? = some (.cells #[.int .i64 m0, .slice a0 z0.length k0] 62 (0, 0)) by rw [hU]; exact heap_alloc_new w _)
  have HB0 := Lib.hid (show Below w.heap.size w U by rw [hU]; exact (Below.refl _ _).alloc (Nat.le_refl _) _)
  have HU := Lib.hid hU
  clear hU
  obtain ⟨g, hg⟩ : ∃ g, g = w.heap.size := ⟨_, rfl⟩
  have HGe := Lib.hid hg
  rw [← hg] at HG0 HB0 ⊢
  go_enter Try.func73, Try.ntmps73
  go_upto_region 1 with (fail)
  rw [← HU.out, ← hg]
  clear hg
  go_wp2
  go_loopw [6, 5, 7, 8] (fun i s _ _ wr => ∃ (j : Nat) (mp : Int) (zp : List Int) (a : Option Addr) (c : Nat), j ≤ N ∧ i = .int .i64 j ∧ s = .string ⟨(tyJ p L j).toArray⟩ ∧ prD p L j = (mp, zp) ∧ wr.heap[g]? = some (.cells #[.int .i64 mp, .slice a zp.length c] 62 (0, 0)) ∧ Rd w (.slice a zp.length c) (zp.map (.int .i64)) ∧ Below g w wr) (fun i _ _ _ _ => N - (intOf i).toNat)
  case atStart => exact ⟨0, m0, z0, a0, k0, Nat.zero_le _, rfl, rfl, HP.out, HG0.out, H0.out, HB0.out⟩
  case round =>
    obtain ⟨j, mp, zp, pa, pc, hj, rfl, rfl, hpr, hgb, hrd, hb⟩ := hrel
    have HPr := Lib.hid hpr
    have HGb := Lib.hid hgb
    have HRp := Lib.hid hrd
    have HB := Lib.hid hb
    have hgs : g < wr.heap.size := (Array.getElem?_eq_some_iff.mp hgb).1
    obtain ⟨Y, hY⟩ : ∃ Y, Y = tyJ p L j := ⟨_, rfl⟩
    have HYL := Lib.hid (show Y.length ≤ j * 1048576 by rw [hY]; exact HTL.out j)
    rw [← hY]
    have HY := Lib.hid hY
    clear hpr hgb hrd hb hY
    by_cases hlt' : j < N
    · have hjN : (j : Int) < (N : Int) := by omega
      obtain ⟨b, off, rfl, hlt, qa, qc, c0, c1, hrow⟩ := HC.out j hlt'
      have hql := HQL.out j
      have hpl := HPL.out j
      have hnx : tyJ p L (j + 1) = tyJ p L j ++ tyK (qD L j).1 (nkV (prD p L j) (qD L j)) := rfl
      have hnp : prD p L (j + 1) = qD L j := rfl
      obtain ⟨q, hq⟩ : ∃ q, q = qD L j := ⟨_, rfl⟩
      rw [HPr.out] at hpl hnx
      rw [← HY.out] at hnx
      rw [← hq] at c0 c1 hrow hql hnx hnp
      obtain ⟨m, z⟩ := q
      simp only at c0 c1 hrow hql hnx hpl
      obtain ⟨R, hR⟩ : ∃ R, R = nkV (mp, zp) (m, z) := ⟨_, rfl⟩
      rw [← hR] at hnx
      have HR := Lib.hid hR
      have HRl := Lib.hid (show R.length ≤ 1048576 by rw [hR]; exact Nat.le_trans (nkV_len _ _) hql)
      have HNX := Lib.hid hnx
      have HNP := Lib.hid hnp
      have HRow := Lib.hid hrow
      have hbw := Lib.hid (show b < wr.heap.size from Nat.lt_of_lt_of_le hlt (HGe.out ▸ HB.out.size))
      have bcell : ∀ (x : World), Below g w x → ∀ o, x.cell? ⟨b, o, none⟩ = w.cell? ⟨b, o, none⟩ := fun x hx o => hx.cell (p := ⟨b, o, none⟩) (by rw [HGe.out]; exact hlt)
      have BC := Lib.hid bcell
      have r0 := (BC.out _ HB.out (off + j * 2)).trans c0
      have r1 := (BC.out _ HB.out (off + j * 2 + 1)).trans c1
      have C0 := Lib.hid c0
      have C1 := Lib.hid c1
      obtain ⟨x0, -⟩ := cells_of_heap HGb.out 0 (by simp)
      obtain ⟨x1, -⟩ := cells_of_heap HGb.out 1 (by simp)
      simp only [List.getElem_toArray, List.getElem_cons_zero, List.getElem_cons_succ] at x0 x1
      have hz1 : z.length ≤ 1048576 := hql
      have hz2 : zp.length ≤ maxLen := by unfold maxLen; omega
      have HZ1 := Lib.hid hz1
      have HZ2 := Lib.hid hz2
      have hR1 := Lib.hid (show Rd wr (.slice pa zp.length pc) (zp.map (.int .i64)) from HRp.out.below (by rw [← HGe.out]; exact HB.out))
      have hR2 := Lib.hid (show Rd wr (.slice qa z.length qc) (z.map (.int .i64)) from HRow.out.below (by rw [← HGe.out]; exact HB.out))
      clear hq hR hnx hnp hrow bcell c0 c1 hql hpl hz1 hz2
      go_upto_region 5 with (fail)
      go_cut [7] (fun kv wx => ∃ ka kc, kv = .slice ka R.length kc ∧ wx.ownsRow wr.heap.size 3 1 (.slice ka R.length kc) R.length (R.map (.int .i64)) ∧ Below wr.heap.size wr wx)
      case first =>
        go_region_law (first
          | (go_simp; go_at_call 64; refine (specNewKeys_any mp m (.slice pa zp.length pc) (.slice qa z.length qc) zp z _ HZ2.out HZ1.out (hR1.out.below (by first | exact Below.refl _ _ | exact (Below.refl _ _).drew | exact (Below.refl _ _).drew.drew)) (hR2.out.below (by first | exact Below.refl _ _ | exact (Below.refl _ _).drew | exact (Below.refl _ _).drew.drew))).mono ?_; rw [← HR.out]; rintro e w1 ⟨ka, kc, rfl, ho1, hb1⟩; have HO1 := Lib.hid ho1; have HBc := Lib.hid (show Below wr.heap.size wr w1 from (by first | exact (Below.refl _ _).drew.trans hb1 | exact hb1)); clear ho1 hb1))
        all_goals
          go_wp2
          go_meet
          exact ⟨ka, kc, rfl, HO1.out, HBc.out⟩
      case rest =>
        obtain ⟨ka, kc, rfl, ho, hbx⟩ := hcut
        have HBx := Lib.hid (HB.out.trans (hbx.mono (HGe.out ▸ HB.out.size)))
        have HGx := Lib.hid ((hbx.block _ hgs).trans HGb.out)
        have HO := Lib.hid ho
        clear ho hbx r0 r1 x0 x1 hR1 hR2
        have hkc : ∀ q, q < R.length → ∃ kb, ka = some ⟨kb, 0, none⟩ ∧ kb < wc.heap.size ∧ wc.cell? ⟨kb, q, none⟩ = some (.int .i64 (R.getD q 0)) := fun q hq => by
          obtain ⟨kb, cap, he, hb1, hb2⟩ := HO.out.form (by omega)
          simp only [Value.slice.injEq] at he
          refine ⟨kb, he.1, hb2, ?_⟩
          have h3 := HO.out
          rw [he.1] at h3
          rw [h3.cellAt q (by omega), List.getElem?_eq_getElem (by rw [List.length_map]; exact hq), List.getElem_map, List.getD_eq_getElem?_getD, List.getElem?_eq_getElem hq]
          rfl
        have HKC := Lib.hid hkc
        obtain ⟨M, hM⟩ : ∃ M, M = R.length := ⟨_, rfl⟩
        have HM := Lib.hid hM
        have hM6 : M ≤ 1048576 := by rw [hM]; exact HRl.out
        rw [← hM]
        clear hM hkc
        go_wp2
        go_loopw [8, 5] (fun i s wk => ∃ (q : Nat), q ≤ M ∧ i = .int .i64 q ∧ s = .string ⟨(Y ++ tyK m (R.take q)).toArray⟩ ∧ Below wc.heap.size wc wk) (fun i _ _ => M - (intOf i).toNat)
        case atStart => exact ⟨0, Nat.zero_le _, rfl, by rw [tyK_zero, List.append_nil], Below.refl _ _⟩
        case round =>
          obtain ⟨q, hq, rfl, rfl, hbk⟩ := hrel
          have HBk := Lib.hid hbk
          have HBw := Lib.hid (HBx.out.trans (hbk.mono (HGe.out ▸ HBx.out.size)))
          clear hbk
          obtain ⟨Z, hZ⟩ : ∃ Z, Z = Y ++ tyK m (R.take q) := ⟨_, rfl⟩
          have HZL := Lib.hid (show Z.length ≤ j * 1048576 + q by rw [hZ, List.length_append]; have h1 := HYL.out; have h2 := tyK_len m (R.take q); rw [List.length_take] at h2; omega)
          rw [← hZ]
          have HZ := Lib.hid hZ
          clear hZ
          have r0 := (BC.out _ HBw.out (off + j * 2)).trans C0.out
          have r1 := (BC.out _ HBw.out (off + j * 2 + 1)).trans C1.out
          by_cases hlq : q < M
          · obtain ⟨kb, rfl, hkb, ck⟩ := HKC.out q (by rw [← HM.out]; exact hlq)
            obtain ⟨t, ht⟩ : ∃ t, t = R.getD q 0 := ⟨_, rfl⟩
            rw [← ht] at ck
            have k0 := (HBk.out.cell (p := ⟨kb, q, none⟩) hkb).trans ck
            have hqM : (q : Int) < (M : Int) := by omega
            have hq0 : (0 : Int) ≤ (q : Int) := by omega
            have hj0 : (0 : Int) ≤ (j : Int) := by omega
            obtain ⟨T, hT⟩ : ∃ T, T = hoV t m := ⟨_, rfl⟩
            obtain ⟨S, hS⟩ : ∃ S : ByteArray, S = ⟨Z.toArray⟩ := ⟨_, rfl⟩
            have hts : T.size ≤ 1 := by rw [hT]; exact hoV_size t m
            have hss : S.size = Z.length := by rw [hS]; rfl
            have hadd := fun (w : World) => run_string_add_sum (P := Try.prog) w S T (by have := HZL.out; have := HRl.out; have := HM.out; omega)
            obtain ⟨S2, hS2⟩ : ∃ S2, S2 = S ++ T := ⟨_, rfl⟩
            rw [← hS2] at hadd
            have HS2 := Lib.hid (show S2 = ⟨(Y ++ tyK m (R.take (q + 1))).toArray⟩ by
              rw [hS2, hS, hT, hoV, ba_app, HZ.out, List.append_assoc, tyK_snoc m R (by rw [← HM.out]; exact hlq), ht])
            rw [← hS]
            have HT := Lib.hid hT
            clear ht ck hT hS hts hss hS2
            go_upto_region 9 with (fail)
            go_region_law (first
              | (go_simp; go_at_call 61; refine (specCharOf_any t m _).mono ?_; rw [← HT.out]; rintro e w1 ⟨rfl, hb1⟩; have HBc := Lib.hid (HBk.out.trans (show Below wc.heap.size wr w1 from (by first | exact (Below.refl _ _).drew.trans (hb1.mono HBk.out.size) | exact hb1.mono HBk.out.size))); clear hb1))
            all_goals
              clear r0 r1 k0
              go_wp2
              go_roundw
              case rel => exact ⟨q + 1, by omega, by go_num, by rw [HS2.out], HBc.out⟩
              case measure => simp [intOf]; omega
          · obtain rfl : q = M := by omega
            have HE := Lib.hid (show Z = tyJ p L (j + 1) by rw [HZ.out, HNX.out, List.take_of_length_le (by rw [HM.out]; exact Nat.le_refl _), HY.out])
            have hgw := (HBk.out.block _ (Array.getElem?_eq_some_iff.mp HGx.out).1).trans HGx.out
            obtain ⟨x0, f0⟩ := cells_of_heap hgw 0 (by simp)
            obtain ⟨x1, f1⟩ := cells_of_heap hgw 1 (by simp)
            have HGw := Lib.hid hgw
            have hj0 : (0 : Int) ≤ (j : Int) := by omega
            have hne : b ≠ g := by rw [HGe.out]; omega
            clear hgw
            simp only [List.getElem_toArray, List.getElem_cons_zero, List.getElem_cons_succ] at x0 x1
            go_wp2
            go_roundw
            case rel => exact ⟨j + 1, m, z, qa, qc, by omega, by go_num, by rw [HE.out], HNP.out, by have := block_set (block_set HGw.out 0 (.int .i64 m)) 1 (.slice qa z.length qc); simpa using this, HRow.out, (HBw.out.setCell (p := ⟨g, 0, none⟩) (Nat.le_refl _) _).setCell (p := ⟨g, 1, none⟩) (Nat.le_refl _) _⟩
            case measure => simp [intOf]; omega
    · obtain rfl : j = N := by omega
      have HE := Lib.hid (show X = ⟨Y.toArray⟩ by rw [HX.out, tyV, HY.out, HN.out])
      go_wp2
      go_ret
      exact ⟨by rw [HE.out]; rfl, HGe.out ▸ HB.out⟩

end Go.Proofs.Yteljmfdlegohbaa
