/- DERIVED. FnHeldReports over the program's own contracts: called with any bytes, it returns true and changes nothing that was there. No condition. -/
import Derived.Test.YtghijkpcmamebaaHdDraw
import Derived.Test.YtghijkpcmamebaaRpImpl
import Derived.Test.YtghijkpcmamebaaRpLaw2
import Derived.Deep.RegionHeld3
namespace Go.Proofs.Ytghijkpcmamebaa
open Go.RowKit

theorem implSameReport_t (r1 : Int) (u1 : Value) (z1 : List Int) (r2 : Int) (u2 : Value) (z2 : List Int) (o : Bool) (ho : o = sameRp r1 z1 r2 z2) (w : World) (hl1 : z1.length ≤ maxLen) (h1 : Rd w u1 (z1.map (.int .i64))) (h2 : Rd w u2 (z2.map (.int .i64))) :
    Calls Try.prog 17 #[rpv r1 u1, rpv r2 u2] w fun e w' => e = .returned (.bool o) ∧ Below w.heap.size w w' := by
  rw [ho]; exact implSameReport_any r1 u1 z1 r2 u2 z2 w hl1 h1 h2
set_option maxRecDepth 100000 in
set_option maxHeartbeats 4000000 in
theorem has_any (u : Value) (zs : List Int) (z : Int) (o : Bool) (ho : o = decide (z ∈ zs)) (w : World) (hl : zs.length ≤ maxLen) (h : Rd w u (zs.map (.int .i64))) :
    Calls Try.prog 14 #[u, .int .i64 z] w fun e w' => e = .returned (.bool o) ∧ w = w' := by
  obtain ⟨a, cap, rfl⟩ := ints_shape h
  obtain ⟨n, hnl⟩ : ∃ n, n = zs.length := ⟨_, rfl⟩
  have HNL := Lib.hid hnl
  have H := Lib.hid h
  have HO := Lib.hid ho
  have hnm : n ≤ maxLen := by rw [hnl]; exact hl
  unfold maxLen at hnm
  rw [← hnl]
  clear hl h hnl ho
  go_enter Try.func14, Try.ntmps14
  go_wp2
  go_loopw [5] (fun i wr => ∃ j : Nat, j ≤ n ∧ i = .int .i64 j ∧ (∀ q, q < j → zs.getD q 0 ≠ z) ∧ wr = w) (fun i _ => n - (intOf i).toNat)
  case atStart => exact ⟨0, Nat.zero_le _, rfl, fun q hq => absurd hq (Nat.not_lt_zero _), rfl⟩
  case round =>
    obtain ⟨j, hj, rfl, hno, rfl⟩ := hrel
    have HNo := Lib.hid hno
    clear hno
    by_cases hlt' : j < n
    · have hjz : j < zs.length := by rw [← HNL.out]; exact hlt'
      obtain ⟨b, off, rfl, hlt, d0⟩ := ints_at H.out hjz
      obtain ⟨x, hx⟩ : ∃ x, x = zs.getD j 0 := ⟨_, rfl⟩
      rw [← hx] at d0
      have HX := Lib.hid hx
      clear hx
      by_cases he : x = z
      · have HR := Lib.hid (show o = true by
          rw [HO.out]
          refine decide_eq_true ?_
          rw [← he, HX.out, List.getD_eq_getElem?_getD, List.getElem?_eq_getElem hjz]
          exact List.getElem_mem hjz)
        subst he
        go_wp2
        go_ret
        exact ⟨ret_bool HR.out.symm, rfl⟩
      · have b0 : (x == z) = false := by simp [he]
        have HN2 := Lib.hid (show ∀ q, q < j + 1 → zs.getD q 0 ≠ z from fun q hq => by
          rcases Nat.lt_or_ge q j with h3 | h3
          · exact HNo.out q h3
          · obtain rfl : q = j := by omega
            rw [← HX.out]; exact he)
        go_wp2
        go_roundw
        case rel => exact ⟨j + 1, by omega, by go_num, HN2.out, by first | rfl | trivial⟩
        case measure => simp [intOf]; omega
    · obtain rfl : j = n := by omega
      have HR := Lib.hid (show o = false by
        rw [HO.out]
        refine decide_eq_false (fun hm => ?_)
        obtain ⟨q, hq, e⟩ := List.getElem_of_mem hm
        exact HNo.out q (by rw [HNL.out]; exact hq) (by rw [List.getD_eq_getElem?_getD, List.getElem?_eq_getElem hq]; exact e))
      go_wp2
      go_ret
      exact ⟨ret_bool HR.out.symm, rfl⟩

set_option maxHeartbeats 8000000 in
set_option maxRecDepth 100000 in
theorem lawHeldReports_walk (a0 : Option Addr) (len cap0 : Nat) (bs : List Int) (w : World) (hlen : bs.length = len) (hz : ∀ z ∈ bs, 0 ≤ z ∧ z < 256) (h : Rd w (.slice a0 len cap0) (bs.map (.int .u8))) : Calls Try.prog 3 #[.slice a0 len cap0] w fun e w' => e = .returned (.bool true) ∧ Below w.heap.size w w' := by
  obtain ⟨i0, hi, hz0, hz1, hz2⟩ := info_parts info_hd
  subst hlen
  have HR := Lib.hid h
  have HZ := Lib.hid hz
  clear h hz
  by_cases hb : (1048576 : Int) < (bs.length : Int)
  · have hd : decide ((1048576 : Int) < (bs.length : Int)) = true := decide_eq_true hb
    have HD := Lib.hid hd
    clear hb hd
    have HB0 := Lib.hid (Below.refl w.heap.size w)
    go_enter Try.func3, Try.ntmps3
    go_wp2_with fail
    refine (big_any a0 bs.length cap0 _).mono ?_
    rw [HD.out]
    rintro e v0 ⟨rfl, rfl⟩
    go_wp2
    go_ret
    exact ⟨rfl, HB0.out⟩
  · have hd : decide ((1048576 : Int) < (bs.length : Int)) = false := decide_eq_false hb
    have HD := Lib.hid hd
    have HLb := Lib.hid (show bs.length ≤ 1099511627776 by omega)
    clear hb hd
    have HB0 := Lib.hid (Below.refl w.heap.size w)
    go_enter Try.func3, Try.ntmps3
    go_wp2_with fail
    refine (big_any a0 bs.length cap0 _).mono ?_
    rw [HD.out]
    rintro e v0 ⟨rfl, rfl⟩
    go_wp2_with fail
    refine (MakeHeld_draw _ bs _ HLb.out HZ.out (HR.out.below HB0.out)).mono ?_
    rintro e w1 ⟨l, a1, c1, f1, rfl, hok, hl6, h1, hb⟩
    have HB1 := Lib.hid (HB0.out.trans (hb.mono HB0.out.size))
    have HS1 := Lib.hid hb.size
    have Rl := Lib.hid (h1.rng)
    have Ol_1 := Lib.hid h1
    clear hb h1
    have HOk := Lib.hid hok
    have HL6 := Lib.hid hl6
    have HLM := Lib.hid (show l.length ≤ maxLen by unfold maxLen; omega)
    have hMl := mdOf_lt hok l.length (Nat.le_refl _)
    obtain ⟨M, hM⟩ : ∃ x : Nat, x = rofM l := ⟨_, rfl⟩
    obtain ⟨Z, hZ⟩ : ∃ x, x = rofK l := ⟨_, rfl⟩
    obtain ⟨K, hK⟩ : ∃ x : Nat, x = onV 0 l := ⟨_, rfl⟩
    have HMv := Lib.hid (show mdOf l l.length = M by rw [hM, rofM, if_pos hok])
    have HRO := Lib.hid (show ∀ (v : Value) (w : World), RdN w v l.length (flatHd l) → Calls Try.prog 13 #[v] w (RpvO (M : Nat) Z w) from fun v w hr => by rw [hM, hZ]; exact implReportOf_any v l w HLM.out hr)
    have HRT := Lib.hid (show ∀ (v : Value) (w : World), RdN w v l.length (flatHd l.reverse) → Calls Try.prog 13 #[v] w (RpvO (M : Nat) Z w) from fun v w hr => by rw [hM, hZ, ← rofM_rev hok, ← rofK_rev hok]; exact implReportOf_any v l.reverse w (by rw [List.length_reverse]; exact HLM.out) (by rw [List.length_reverse]; exact hr))
    have HLO := Lib.hid (show ∀ (v : Value) (w : World), RdN w v l.length (flatHd l) → Calls Try.prog 18 #[.int .i64 0, v] w fun e w' => e = .returned (.int .i64 (K : Nat)) ∧ Below w.heap.size w w' from fun v w hr => by rw [hK]; exact implLayersOn_any 0 v l w HLM.out hr)
    have HLT := Lib.hid (show ∀ (v : Value) (w : World), RdN w v l.length (flatHd l.reverse) → Calls Try.prog 18 #[.int .i64 0, v] w fun e w' => e = .returned (.int .i64 (K : Nat)) ∧ Below w.heap.size w w' from fun v w hr => by rw [hK, ← onV_rev hok 0]; exact implLayersOn_any 0 v l.reverse w (by rw [List.length_reverse]; exact HLM.out) (by rw [List.length_reverse]; exact hr))
    have HRok := Lib.hid (show true = okRp (M : Nat) Z by rw [hM, hZ]; exact (rof_ok hok).symm)
    have HSame := Lib.hid (show true = sameRp (M : Nat) Z (M : Nat) Z by rw [sameRp]; exact (decide_eq_true ⟨rfl, rfl⟩).symm)
    have HZl := Lib.hid (show Z.length ≤ 56 by rw [hZ]; exact rofK_len l)
    have HIn := Lib.hid (show ∀ i, i < l.length → 0 < (hdD l i).c → (hdD l i).c ∈ Z from fun i hi hp => by rw [hZ]; exact rof_code hok hi hp (okOne_code (hdN_at hok i hi).1).1.2)
    have HHas := Lib.hid (show ∀ q, q < Z.length → hasC l (Z.getD q 0) l.length = true from fun q hq => by rw [hZ] at hq ⊢; exact rof_has hok hq)
    clear hok hl6 hM hZ hK hMl
    go_wp2_with fail
    refine (HRO.out _ _ Ol_1.out.rd).mono ?_
    rintro e w2 ⟨a2, c2, f2, rfl, h2, hb⟩
    have HB2 := Lib.hid (HB1.out.trans (hb.mono HB1.out.size))
    have HS2 := Lib.hid hb.size
    have Ol_2 := Lib.hid (Ol_1.out.below hb)
    clear Ol_1
    have Rr := Lib.hid (h2.rng)
    have Or_2 := Lib.hid h2
    clear hb h2
    go_upto_region 5 with (fail)
    obtain ⟨w3, hw⟩ : ∃ x, x = w2.alloc (.cells #[.int .i64 (M : Nat), .slice a2 Z.length c2] 28) := ⟨_, rfl⟩
    have hb : Below w2.heap.size w2 w3 := by rw [hw]; exact below_alloc1 _ _
    have hk : w3.heap[w2.heap.size]? = some (.cells #[.int .i64 (M : Nat), .slice a2 Z.length c2] 28 (0, 0)) := by rw [hw]; exact heap_alloc_new _ _
    rw [← hw]
    have HB3 := Lib.hid (HB2.out.trans (hb.mono HB2.out.size))
    have HS3 := Lib.hid (show w2.heap.size < w3.heap.size from (Array.getElem?_eq_some_iff.mp hk).1)
    have Ol_3 := Lib.hid (Ol_2.out.below hb)
    have Or_3 := Lib.hid (Or_2.out.below hb)
    clear Ol_2 Or_2
    have Kr_3 := Lib.hid hk
    clear hb hk hw
    have HRb := Lib.hid (show w2.heap.size < w3.heap.size from (Array.getElem?_eq_some_iff.mp Kr_3.out).1)
    obtain ⟨yr, hyr⟩ : ∃ y, y = w2.heap.size := ⟨_, rfl⟩
    rw [← hyr] at Kr_3 HRb ⊢
    clear hyr
    have cr1 : w3.cell? ⟨yr, 1, none⟩ = some (.slice a2 Z.length c2) := (cells_of_heap Kr_3.out 1 (by simp)).1
    have HCr := Lib.hid cr1
    clear cr1
    go_wp2
    go_loopw [5, 6, 7] (fun m i _ wr => ∃ j : Nat, j ≤ l.length ∧ i = .int .i64 j ∧ m = .int .i64 (mdOf l j : Nat) ∧ Below w3.heap.size w3 wr) (fun _ i _ _ => l.length - (intOf i).toNat)
    case atStart => exact ⟨0, Nat.zero_le _, rfl, rfl, Below.refl _ _⟩
    case round =>
      obtain ⟨j, hj, rfl, rfl, hb⟩ := hrel
      have hL6 := HL6.out
      by_cases hlt' : j < l.length
      · obtain ⟨b, off, ha1, hltb, c0, c1, c2', c3, c4⟩ := hd_at7 Ol_3.out.rd hlt'
        have hok1 := (hdN_at HOk.out j hlt').1
        have hmods := okOne_mods hok1
        have hlo := mdOf_lt HOk.out j (by omega)
        have hin := HIn.out j hlt'
        have hnx : mdOf l (j + 1) = if (hdD l j).k = 2 ∨ (hdD l j).k = 8 then mdOf l j ||| (hdD l j).m.toNat else mdOf l j := rfl
        obtain ⟨e, he⟩ : ∃ e, e = hdD l j := ⟨_, rfl⟩
        rw [← he] at c0 c1 c2' c3 c4 hmods hnx hin
        obtain ⟨k0, kk, ca, ma, na⟩ := e
        simp only at c0 c1 c2' c3 c4 hmods hnx hin
        obtain ⟨Q, rfl⟩ : ∃ Q : Nat, ma = Q := ⟨ma.toNat, by omega⟩
        rw [Int.toNat_natCast] at hnx
        obtain ⟨q, hq⟩ : ∃ q, q = mdOf l j := ⟨_, rfl⟩
        rw [← hq] at hlo hnx ⊢
        have hor := or_nat q Q (by omega) (by omega)
        have e1 := (hb.cell (p := ⟨b, off + j * 5 + 1, none⟩) hltb).trans c1
        have e2 := (hb.cell (p := ⟨b, off + j * 5 + 2, none⟩) hltb).trans c2'
        have e3 := (hb.cell (p := ⟨b, off + j * 5 + 3, none⟩) hltb).trans c3
        have e4 := (hb.cell (p := ⟨b, off + j * 5 + 4, none⟩) hltb).trans c4
        have HNX := Lib.hid hnx
        have HOR := Lib.hid hor
        have HB := Lib.hid hb
        have hIN := Lib.hid hin
        have HA1 := Lib.hid ha1
        clear c0 c1 c2' c3 c4 hmods hnx hor hin he hq hb hok1 hlo
        rw [HA1.out]
        clear ha1
        go_upto_region 10 with (fail)
        obtain ⟨U, hU⟩ : ∃ U, U = wr.alloc (.cells #[.int .i64 kk, .int .i64 ca, .int .i64 Q, .int .i64 na] 31) := ⟨_, rfl⟩
        obtain ⟨g, hg⟩ : ∃ g, g = wr.heap.size := ⟨_, rfl⟩
        have hbx : Bxd U g [.int .i64 kk, .int .i64 ca, .int .i64 Q, .int .i64 na] := by rw [hU, hg]; exact Bxd.new _ _ _
        have HBU := Lib.hid (show Below w3.heap.size w3 U by rw [hU]; exact HB.out.alloc HB.out.size _)
        rw [← hU, ← hg]
        have HXU := Lib.hid hbx
        clear hU hg hbx e1 e2 e3 e4
        have x0 := HXU.out.at 0 _ rfl
        have x1 := HXU.out.at 1 _ rfl
        have x2 := HXU.out.at 2 _ rfl
        have cr1 := (HBU.out.cell (p := ⟨yr, 1, none⟩) HRb.out).trans HCr.out
        by_cases hk : kk = 2 ∨ kk = 8
        · have hnx := HNX.out
          rw [if_pos hk] at hnx
          have HQ2 := Lib.hid hnx
          clear hnx
          rcases hk with rfl | rfl
          · skip
            by_cases hc0 : 0 < ca
            · go_wp2_with fail
              refine (has_any _ Z ca true (decide_eq_true (hIN.out hc0)).symm _ (by have := HZl.out; unfold maxLen; omega) ((owC_rd Or_3.out).below HBU.out)).mono ?_
              rintro e w9 ⟨rfl, rfl⟩
              go_wp2
              go_roundw
              case rel => exact ⟨j + 1, by omega, by go_num, by rw [HQ2.out, ← HOR.out], HBU.out⟩
              case measure => simp [intOf]; omega
            · have hc0' : decide ((0 : Int) < ca) = false := decide_eq_false hc0
              go_wp2
              go_roundw
              case rel => exact ⟨j + 1, by omega, by go_num, by rw [HQ2.out, ← HOR.out], HBU.out⟩
              case measure => simp [intOf]; omega
          · skip
            by_cases hc0 : 0 < ca
            · go_wp2_with fail
              refine (has_any _ Z ca true (decide_eq_true (hIN.out hc0)).symm _ (by have := HZl.out; unfold maxLen; omega) ((owC_rd Or_3.out).below HBU.out)).mono ?_
              rintro e w9 ⟨rfl, rfl⟩
              go_wp2
              go_roundw
              case rel => exact ⟨j + 1, by omega, by go_num, by rw [HQ2.out, ← HOR.out], HBU.out⟩
              case measure => simp [intOf]; omega
            · have hc0' : decide ((0 : Int) < ca) = false := decide_eq_false hc0
              go_wp2
              go_roundw
              case rel => exact ⟨j + 1, by omega, by go_num, by rw [HQ2.out, ← HOR.out], HBU.out⟩
              case measure => simp [intOf]; omega
        · have hnx := HNX.out
          rw [if_neg hk] at hnx
          have HQ2 := Lib.hid hnx
          have hk2 : ¬ kk = 2 := fun e => hk (.inl e)
          have hk8 : ¬ kk = 8 := fun e => hk (.inr e)
          have b2 : (kk == 2) = false := by simp [hk2]
          have b8 : (kk == 8) = false := by simp [hk8]
          clear hnx hk
          by_cases hc0 : 0 < ca
          · go_wp2_with fail
            refine (has_any _ Z ca true (decide_eq_true (hIN.out hc0)).symm _ (by have := HZl.out; unfold maxLen; omega) ((owC_rd Or_3.out).below HBU.out)).mono ?_
            rintro e w9 ⟨rfl, rfl⟩
            go_wp2
            go_roundw
            case rel => exact ⟨j + 1, by omega, by go_num, by rw [HQ2.out], HBU.out⟩
            case measure => simp [intOf]; omega
          · have hc0' : decide ((0 : Int) < ca) = false := decide_eq_false hc0
            go_wp2
            go_roundw
            case rel => exact ⟨j + 1, by omega, by go_num, by rw [HQ2.out], HBU.out⟩
            case measure => simp [intOf]; omega
      · obtain rfl : j = l.length := by omega
        rw [HMv.out]
        obtain ⟨w4, hw⟩ : ∃ x, x = wr := ⟨_, rfl⟩
        rw [← hw] at hb ⊢
        clear hw
        have HRb2 := Lib.hid (Nat.lt_of_lt_of_le HRb.out hb.size)
        have HCr2 := Lib.hid ((hb.cell (p := ⟨yr, 1, none⟩) HRb.out).trans HCr.out)
        have HB4 := Lib.hid (HB3.out.trans (hb.mono HB3.out.size))
        have HS4 := Lib.hid hb.size
        have Kr_4 := Lib.hid (blk_below Kr_3.out hb)
        have Ol_4 := Lib.hid (Ol_3.out.below hb)
        have Or_4 := Lib.hid (Or_3.out.below hb)
        clear Kr_3 Ol_3 Or_3
        clear hb
        go_wp2
        go_loopw [8, 9, 10] (fun t _ _ wr => ∃ q : Nat, q ≤ Z.length ∧ t = .int .i64 q ∧ Below w4.heap.size w4 wr) (fun t _ _ _ => Z.length - (intOf t).toNat)
        case atStart => exact ⟨0, Nat.zero_le _, rfl, Below.refl _ _⟩
        case round =>
          obtain ⟨q, hq, rfl, hb⟩ := hrel
          have HB := Lib.hid hb
          have cr1 := (hb.cell (p := ⟨yr, 1, none⟩) HRb2.out).trans HCr2.out
          by_cases hlt' : q < Z.length
          · obtain ⟨zb, zoff, hza, hzlt, hzc⟩ := ints_at (owC_rd Or_4.out) hlt'
            have HZA := Lib.hid hza
            have HZC := Lib.hid hzc
            have hhas := HHas.out q hlt'
            obtain ⟨z, hz⟩ : ∃ z, z = Z.getD q 0 := ⟨_, rfl⟩
            rw [← hz] at HZC hhas
            have HHz := Lib.hid hhas
            clear hz hza hzc hhas hb
            go_wp2
            clear cr1
            go_loopw [9, 10] (fun f t wi => ∃ k : Nat, k ≤ l.length ∧ t = .int .i64 k ∧ f = .bool (hasC l z k) ∧ Below w4.heap.size w4 wi) (fun _ t _ => l.length - (intOf t).toNat)
            case atStart => exact ⟨0, Nat.zero_le _, rfl, rfl, HB.out⟩
            case round =>
              obtain ⟨k, hk, rfl, rfl, hb⟩ := hrel
              have hL6 := HL6.out
              have hZ6 := HZl.out
              have HB2 := Lib.hid hb
              by_cases hkl : k < l.length
              · obtain ⟨b, off, ha1, hltb, c0, c1, c2', c3, c4⟩ := hd_at7 Ol_4.out.rd hkl
                have hnx : hasC l z (k + 1) = (hasC l z k || decide ((hdD l k).c = z)) := rfl
                obtain ⟨F, hF⟩ : ∃ F, F = hasC l z k := ⟨_, rfl⟩
                rw [← hF] at hnx ⊢
                obtain ⟨x, hx⟩ : ∃ x, x = (hdD l k).c := ⟨_, rfl⟩
                rw [← hx] at c2' hnx
                have e2 := (hb.cell (p := ⟨b, off + k * 5 + 2, none⟩) hltb).trans c2'
                have cr1 := (hb.cell (p := ⟨yr, 1, none⟩) HRb2.out).trans HCr2.out
                have d1 := (hb.cell (p := ⟨zb, zoff + q, none⟩) hzlt).trans HZC.out
                have HNX := Lib.hid hnx
                have HA1 := Lib.hid ha1
                clear c0 c1 c2' c3 c4 hnx hF hx hb ha1
                rw [HA1.out]
                rw [HZA.out] at cr1
                have hql' : (q : Int) < (Z.length : Int) := by omega
                have hkl' : (k : Int) < (l.length : Int) := by omega
                go_upto_region 21 with (fail)
                cases F
                · go_quiet (fail)
                  go_wp2
                  go_roundw
                  case rel => exact ⟨k + 1, by omega, by go_num, by rw [HNX.out]; first | (simp; done) | (simp; rfl), below_drewN HB2.out _⟩
                  case measure => simp [intOf]; omega
                · go_quiet (fail)
                  go_wp2
                  go_roundw
                  case rel => exact ⟨k + 1, by omega, by go_num, by rw [HNX.out]; first | (simp; done) | (simp; rfl), below_drewN HB2.out _⟩
                  case measure => simp [intOf]; omega
              · obtain rfl : k = l.length := by omega
                rw [HHz.out]
                clear hb
                go_wp2
                go_roundw
                case rel => exact ⟨q + 1, by omega, by go_num, HB2.out⟩
                case measure => simp [intOf]; omega
          · obtain rfl : q = Z.length := by omega
            go_upto_region 25 with (fail)
            clear cr1 HB
            obtain ⟨w5, hw⟩ : ∃ x, x = wr.alloc (.cells #[] 33) := ⟨_, rfl⟩
            obtain ⟨gt, hgt⟩ : ∃ x, x = wr.heap.size := ⟨_, rfl⟩
            have hb2 : Below w4.heap.size w4 w5 := by rw [hw]; exact hb.alloc hb.size _
            have HO0 := Lib.hid (show w5.ownsRow wr.heap.size 33 5 (.slice (some ⟨gt, 0, none⟩) (l.reverse.take 0).length 0) (l.reverse.take 0).length (flatHd (l.reverse.take 0)) by rw [hw, hgt]; exact World.ownsRow_lit (e := 33) (size := 5) wr #[] 0 (Nat.le_refl _) (by simp [maxLen]) rfl)
            have HWr := Lib.hid hb.size
            obtain ⟨Bw, hBw⟩ : ∃ x, x = wr.heap.size := ⟨_, rfl⟩
            have HBw := Lib.hid (show Bw ≤ w5.heap.size by rw [hw, hBw]; simp)
            have HWB := Lib.hid (show w4.heap.size ≤ Bw by rw [hBw]; exact HWr.out)
            rw [← hBw] at HO0
            rw [← hw, ← hgt]
            clear hw hb hgt hBw
            have HBb2 := Lib.hid hb2
            clear hb2
            go_wp2
            go_loopw [11, 12] (fun u t wr => ∃ (j : Nat) (a : Option Addr) (c : Nat), j ≤ l.length ∧ t = .int .i64 ((l.length : Int) - 1 - j) ∧ u = .slice a (l.reverse.take j).length c ∧ wr.ownsRow Bw 33 5 (.slice a (l.reverse.take j).length c) (l.reverse.take j).length (flatHd (l.reverse.take j)) ∧ Below Bw w5 wr) (fun _ t _ => (intOf t + 1).toNat)
            case atStart => exact ⟨0, _, _, Nat.zero_le _, by first | rfl | simp, rfl, HO0.out, Below.refl _ _⟩
            case round =>
              obtain ⟨j, a, c, hj, rfl, rfl, ho, hb⟩ := hrel
              have HO := Lib.hid ho
              have HB := Lib.hid hb
              by_cases hlt' : j < l.length
              · obtain ⟨p, hp⟩ : ∃ p, p = l.length - 1 - j := ⟨_, rfl⟩
                have hpl : p < l.length := by omega
                have hpi : (l.length : Int) - 1 - (j : Int) = (p : Int) := by omega
                have hpj : (l.length : Int) - 1 - ((j + 1 : Nat) : Int) = (p : Int) - 1 := by omega
                have hst : l.reverse.take (j + 1) = l.reverse.take j ++ [hdD l p] := by rw [hdD_take l.reverse j (by rw [List.length_reverse]; exact hlt'), hdD_rev hlt', ← hp]
                have hlj : (l.reverse.take j).length = j := by rw [List.length_take, List.length_reverse]; omega
                obtain ⟨X, hX⟩ : ∃ X, X = l.reverse.take j := ⟨_, rfl⟩
                rw [← hX] at HO hst hlj ⊢
                obtain ⟨b, off, ha1, hltb, c0, c1, c2', c3, c4⟩ := hd_at7 Ol_4.out.rd hpl
                obtain ⟨e, he⟩ : ∃ e, e = hdD l p := ⟨_, rfl⟩
                rw [← he] at c0 c1 c2' c3 c4 hst
                obtain ⟨k0, kk, ca, ma, na⟩ := e
                simp only at c0 c1 c2' c3 c4
                have hblt : b < Bw := Nat.lt_of_lt_of_le hltb HWB.out
                have e0 := (hb.cell (p := ⟨b, off + p * 5, none⟩) hblt).trans ((HBb2.out.cell (p := ⟨b, off + p * 5, none⟩) hltb).trans c0)
                have e1 := (hb.cell (p := ⟨b, off + p * 5 + 1, none⟩) hblt).trans ((HBb2.out.cell (p := ⟨b, off + p * 5 + 1, none⟩) hltb).trans c1)
                have e2 := (hb.cell (p := ⟨b, off + p * 5 + 2, none⟩) hblt).trans ((HBb2.out.cell (p := ⟨b, off + p * 5 + 2, none⟩) hltb).trans c2')
                have e3 := (hb.cell (p := ⟨b, off + p * 5 + 3, none⟩) hblt).trans ((HBb2.out.cell (p := ⟨b, off + p * 5 + 3, none⟩) hltb).trans c3)
                have e4 := (hb.cell (p := ⟨b, off + p * 5 + 4, none⟩) hblt).trans ((HBb2.out.cell (p := ⟨b, off + p * 5 + 4, none⟩) hltb).trans c4)
                have HST := Lib.hid hst
                have HA1 := Lib.hid ha1
                have HLj := Lib.hid hlj
                have HPI := Lib.hid hpi
                have HPJ := Lib.hid hpj
                have b63 : X.length + 1 ≤ maxLen := by have := HL6.out; unfold maxLen; omega
                have b47 : (X.length + 1) * 40 ≤ 140737488355328 := by have := HL6.out; omega
                have hws : Bw ≤ wr.heap.size := Nat.le_trans HBw.out hb.size
                have hpl' : (p : Int) < (l.length : Int) := by omega
                have hp0 : (0 : Int) ≤ (p : Int) := by omega
                clear c0 c1 c2' c3 c4 ho hb hX hst hlj he hp ha1 hpj hpi
                rw [HA1.out, HPI.out]
                go_wp2_with (at_builtin; refine wpList_append_own _ rfl _ _ 24 rfl Bw 33 i0 (.agg #[.int .i64 0, .int .i64 0, .int .i64 0, .int .i64 0, .int .i64 0]) 5 40 Try.underlying24 hi hz0 hz1 hz2 rfl (by decide) _ _ _ rfl (HO.out.alloc _) ⟨wr.heap.size, 0, none⟩ 1 1 [.int .i64 k0, .int .i64 kk, .int .i64 ca, .int .i64 ma, .int .i64 na] rfl rfl ?c1 ?c2 b63 b47 ?c5 ?_)
                case c1 => exact World.news_of_block (cs := #[.int .i64 k0, .int .i64 kk, .int .i64 ca, .int .i64 ma, .int .i64 na]) (t := 33) (fr := (0, 0)) (heap_alloc_new wr _)
                case c2 => intro u hu; simp at hu; rcases hu with rfl | rfl | rfl | rfl | rfl <;> rfl
                case c5 => simp; omega
                · intro v' w7 hown1 hgrow _
                  obtain ⟨a', c', rfl⟩ := owns_shape hown1
                  have HB7 := Lib.hid ((HB.out.alloc hws (.cells #[.int .i64 k0, .int .i64 kk, .int .i64 ca, .int .i64 ma, .int .i64 na] 33)).grown hgrow (by simp; omega) (fun q hq => (HO.out.lt q hq).1))
                  have hlen : (X ++ [(⟨k0, kk, ca, ma, na⟩ : Hd)]).length = X.length + 1 := by simp
                  have HO7 := Lib.hid (show w7.ownsRow Bw 33 5 (.slice a' (X.length + 1) c') (X.length + 1) (flatHd (X ++ [(⟨k0, kk, ca, ma, na⟩ : Hd)])) by rw [flatHd_snoc]; exact hown1)
                  have HLen := Lib.hid hlen
                  clear hown1 hgrow hlen b63 b47 e0 e1 e2 e3 e4
                  go_wp2
                  go_roundw
                  case rel => exact ⟨j + 1, a', c', by omega, by rw [HPJ.out], by rw [HST.out, HLen.out], by rw [HST.out, HLen.out]; exact HO7.out, HB7.out⟩
                  case measure => have := HPI.out; simp [intOf]; try omega
              · obtain rfl : j = l.length := by omega
                have htk : l.reverse.take l.length = l.reverse := List.take_of_length_le (by rw [List.length_reverse]; exact Nat.le_refl _)
                rw [htk, List.length_reverse] at HO
                rw [htk, List.length_reverse]
                have hneg : ¬ (0 : Int) ≤ (l.length : Int) - 1 - (l.length : Int) := by omega
                obtain ⟨v8, hw⟩ : ∃ x, x = wr := ⟨_, rfl⟩
                rw [← hw] at hb HO ⊢
                clear hw
                obtain ⟨w105, hw8⟩ : ∃ x, x = v8 := ⟨_, rfl⟩
                rw [← hw8] at hb HO ⊢
                clear hw8
                have hb8 : Below w4.heap.size w4 w105 := HBb2.out.trans (hb.mono HWB.out)
                have HTR := Lib.hid (show RdN w105 (.slice a l.length c) l.length (flatHd l.reverse) from (OwF.mk' HO.out).rd)
                clear hb ho
                have Kr_105 := Lib.hid (blk_below Kr_4.out hb8)
                have Ol_105 := Lib.hid (Ol_4.out.below hb8)
                have Or_105 := Lib.hid (Or_4.out.below hb8)
                have HB105 := Lib.hid (HB4.out.trans (hb8.mono HB4.out.size))
                clear hb8
                go_upto_region 29 with (fail)
                go_cut [2] (fun sd wx => sd = .bool true ∧ Below w105.heap.size w105 wx)
                case first =>
                  have cr0 := (cells_of_heap Kr_105.out 0 (by simp)).1
                  have cr1 := (cells_of_heap Kr_105.out 1 (by simp)).1
                  have lr : yr < w105.heap.size := (Array.getElem?_eq_some_iff.mp Kr_105.out).1
                  have X0 := Lib.hid (Below.refl w105.heap.size w105)
                  go_region_held3 (fun w' => w'.cell? ⟨yr, 0, none⟩ = some (.int .i64 (M : Nat)) ∧ w'.cell? ⟨yr, 1, none⟩ = some (.slice a2 Z.length c2)) (first | go_keep)
                    (first | (go_at_call 15; have z9 := X0; clear z9; refine (implIsHeld_q _ l true HOk.out.symm _ HLM.out (Ol_105.out.rd.below (by first | exact X0.out | exact X0.out.drew | exact X0.out.drew.drew))).mono ?_; rintro e v1 ⟨rfl, hb⟩; have hbr : Below w105.heap.size w105 v1 := below_via (by first | exact X0.out | exact X0.out.drew | exact X0.out.drew.drew) hb; have kcr0 := (hbr.cell (p := ⟨yr, 0, none⟩) lr).trans cr0; have kcr1 := (hbr.cell (p := ⟨yr, 1, none⟩) lr).trans cr1; have X1 := Lib.hid hbr; clear hbr hb X0) | (go_at_call 16; have z9 := X1; clear z9; refine (implIsReport_q (M : Nat) _ Z true HRok.out _ (by have := HZl.out; unfold maxLen; omega) ((owC_rd Or_105.out).below (by first | exact X1.out | exact X1.out.drew | exact X1.out.drew.drew))).mono ?_; rintro e v2 ⟨rfl, hb⟩; have hbr : Below w105.heap.size w105 v2 := below_via (by first | exact X1.out | exact X1.out.drew | exact X1.out.drew.drew) hb; have kcr0 := (hbr.cell (p := ⟨yr, 0, none⟩) lr).trans cr0; have kcr1 := (hbr.cell (p := ⟨yr, 1, none⟩) lr).trans cr1; have X2 := Lib.hid hbr; clear hbr hb X1) | (go_at_call 13; have z9 := X2; clear z9; refine (HRT.out _ _ (HTR.out.below (by first | exact X2.out | exact X2.out.drew | exact X2.out.drew.drew))).mono ?_; rintro e v3 ⟨a9, c9, f9, rfl, h9, hb⟩; have hbr : Below w105.heap.size w105 v3 := below_via (by first | exact X2.out | exact X2.out.drew | exact X2.out.drew.drew) hb; have kcr0 := (hbr.cell (p := ⟨yr, 0, none⟩) lr).trans cr0; have kcr1 := (hbr.cell (p := ⟨yr, 1, none⟩) lr).trans cr1; have H9 := Lib.hid (h9); have X3 := Lib.hid hbr; clear hbr hb X2) | (go_at_call 17; have z9 := X3; clear z9; refine (implSameReport_t (M : Nat) _ Z (M : Nat) _ Z true HSame.out _ (by have := HZl.out; unfold maxLen; omega) ((owC_rd H9.out).below (by first | exact (Below.refl _ _) | exact (Below.refl _ _).drew | exact (Below.refl _ _).drew.drew)) ((owC_rd Or_105.out).below (by first | exact X3.out | exact X3.out.drew | exact X3.out.drew.drew))).mono ?_; rintro e v4 ⟨rfl, hb⟩; have hbr : Below w105.heap.size w105 v4 := below_via (by first | exact X3.out | exact X3.out.drew | exact X3.out.drew.drew) hb; have kcr0 := (hbr.cell (p := ⟨yr, 0, none⟩) lr).trans cr0; have kcr1 := (hbr.cell (p := ⟨yr, 1, none⟩) lr).trans cr1; have X4 := Lib.hid hbr; clear hbr hb X3) | (go_at_call 18; have z9 := X4; clear z9; refine (HLT.out _ _ (HTR.out.below (by first | exact X4.out | exact X4.out.drew | exact X4.out.drew.drew))).mono ?_; rintro e v5 ⟨rfl, hb⟩; have hbr : Below w105.heap.size w105 v5 := below_via (by first | exact X4.out | exact X4.out.drew | exact X4.out.drew.drew) hb; have kcr0 := (hbr.cell (p := ⟨yr, 0, none⟩) lr).trans cr0; have kcr1 := (hbr.cell (p := ⟨yr, 1, none⟩) lr).trans cr1; have X5 := Lib.hid hbr; clear hbr hb X4) | (go_at_call 18; have z9 := X5; clear z9; refine (HLO.out _ _ (Ol_105.out.rd.below (by first | exact X5.out | exact X5.out.drew | exact X5.out.drew.drew))).mono ?_; rintro e v6 ⟨rfl, hb⟩; have hbr : Below w105.heap.size w105 v6 := below_via (by first | exact X5.out | exact X5.out.drew | exact X5.out.drew.drew) hb; have kcr0 := (hbr.cell (p := ⟨yr, 0, none⟩) lr).trans cr0; have kcr1 := (hbr.cell (p := ⟨yr, 1, none⟩) lr).trans cr1; have X6 := Lib.hid hbr; clear hbr hb X5))
                  all_goals
                    go_wp2
                    go_meet
                    exact ⟨rfl, by first | exact X6.out | exact X6.out.drew | exact X6.out.drew.drew⟩
                case rest =>
                  obtain ⟨rfl, hb⟩ := hcut
                  obtain ⟨w106, hw⟩ : ∃ x, x = wc := ⟨_, rfl⟩
                  rw [← hw] at hb ⊢
                  clear hw
                  have HB106 := Lib.hid (HB105.out.trans (hb.mono HB105.out.size))
                  have HS106 := Lib.hid hb.size
                  have Kr_106 := Lib.hid (blk_below Kr_105.out hb)
                  have Ol_106 := Lib.hid (Ol_105.out.below hb)
                  have Or_106 := Lib.hid (Or_105.out.below hb)
                  clear Kr_105 Ol_105 Or_105
                  clear hb
                  go_wp2
                  go_ret
                  exact ⟨rfl, HB106.out⟩

end Go.Proofs.Ytghijkpcmamebaa
