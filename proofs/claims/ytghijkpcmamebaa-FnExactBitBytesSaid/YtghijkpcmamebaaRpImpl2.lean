/- DERIVED. The program's ReportOf: the report of held keys, in memory of its own. -/
import Derived.Test.YtghijkpcmamebaaCodeSet
import Derived.Test.YtghijkpcmamebaaHdImpl
import Derived.Test.YtghijkpcmamebaaRpLaw3
namespace Go.Proofs.Ytghijkpcmamebaa
open Go.RowKit

theorem okOne_code {e : Hd} (h : okOne e = true) : (0 ≤ e.c ∧ e.c ≤ 56) ∧ (¬ (e.k = 2 ∨ e.k = 8) → e.m = 0) := by
  obtain ⟨_, h1, _, h2⟩ := okOne_at h
  have h3 : ¬ (e.k = 6 ∨ e.k = 7) := fun hk => by rw [holdAc, h1, decide_eq_true hk] at h2; exact absurd h2 (by decide)
  unfold okAc inB at h1
  split at h1
  · simp only [Bool.and_eq_true, decide_eq_true_eq] at h1; omega
  split at h1
  · simp only [Bool.and_eq_true, Bool.or_eq_true, decide_eq_true_eq] at h1; omega
  split at h1
  · simp only [Bool.and_eq_true, decide_eq_true_eq] at h1; omega
  split at h1
  · simp only [Bool.and_eq_true, decide_eq_true_eq] at h1; omega
  split at h1
  · omega
  split at h1
  · omega
  split at h1
  · simp only [Bool.and_eq_true, decide_eq_true_eq] at h1; omega
  · exact absurd h1 (by decide)
theorem SetH.congr {w : World} {g : Nat} {P Q : Nat → Bool} (h : SetH w g P) (e : ∀ j, j < 57 → P j = Q j) : SetH w g Q := by
  obtain ⟨cs, hh, hs, hP⟩ := h
  exact ⟨cs, hh, hs, fun j hj => by rw [hP j hj, e j hj]⟩
theorem tySet : Try.prog.underlying 62 = some (.array 57 4) := by kernel_rfl
theorem iSet : (Try.prog.info? 62).map (·.size) = some 57 := by kernel_rfl

set_option maxRecDepth 100000 in
set_option maxHeartbeats 8000000 in
theorem implReportOf_any (v : Value) (l : List Hd) (w : World) (hn : l.length ≤ maxLen) (h : RdN w v l.length (flatHd l)) :
    Calls Try.prog 13 #[v] w (RpvO (rofM l : Nat) (rofK l) w) := by
  obtain ⟨R, hR⟩ : ∃ R, R = okHd l := ⟨_, rfl⟩
  obtain ⟨rm, hrm⟩ : ∃ x, x = rofM l := ⟨_, rfl⟩
  obtain ⟨rk, hrk⟩ : ∃ x, x = rofK l := ⟨_, rfl⟩
  rw [← hrm, ← hrk]
  have HRm := Lib.hid hrm
  have HRk := Lib.hid hrk
  clear hrm hrk
  obtain ⟨xa, xc, rfl⟩ := RdN.shape h
  obtain ⟨n, hnl⟩ : ∃ n, n = l.length := ⟨_, rfl⟩
  have HNL := Lib.hid hnl
  have HR := Lib.hid hR
  have H := Lib.hid h
  have HN := Lib.hid hn
  have hnr : n ≤ maxLen := by rw [hnl]; exact hn
  unfold maxLen at hnr
  rw [← hnl]
  clear hR h hn hnl
  obtain ⟨gw, hgw⟩ : ∃ g, g = w.heap.size := ⟨_, rfl⟩
  obtain ⟨V, hV⟩ : ∃ V, V = w.alloc (.cells #[.int .i64 0, .slice none 0 0] 28) := ⟨_, rfl⟩
  have HG0 := Lib.hid (show V.heap[gw]? = some (.cells #[.int .i64 0, .slice none 0 0] 28 (0, 0)) by rw [hV, hgw]; exact heap_alloc_new w _)
  have HB0 := Lib.hid (show Below gw w V by rw [hV, hgw]; exact (Below.refl _ _).alloc (Nat.le_refl _) _)
  have HS0 := Lib.hid (show V.heap.size = gw + 1 by rw [hV, hgw]; simp)
  have HV := Lib.hid hV
  have HGW := Lib.hid hgw
  clear hV
  go_enter Try.func13, Try.ntmps13
  go_upto_region 1 with (fail)
  rw [← HV.out, ← hgw]
  clear hgw
  go_wp2_with fail
  refine (implIsHeld_q _ l R HR.out _ HN.out (by rw [HNL.out]; have := H.out.below (show Below w.heap.size w V by rw [← HGW.out]; exact HB0.out); rw [← HNL.out] at this ⊢; exact this)).mono ?_
  rintro e w1 ⟨rfl, hb⟩
  have HB1 := Lib.hid (show Below gw w w1 from HB0.out.trans (hb.mono (by rw [HS0.out]; omega)))
  have HG1 := Lib.hid ((hb.block gw (by rw [HS0.out]; omega)).trans HG0.out)
  have HS1 := Lib.hid (show gw < w1.heap.size from Nat.lt_of_lt_of_le (by rw [HS0.out]; omega) hb.size)
  clear hb
  obtain ⟨y0, q0⟩ := cells_of_heap HG1.out 0 (by simp)
  obtain ⟨y1, q1⟩ := cells_of_heap HG1.out 1 (by simp)
  cases R
  · obtain rfl : rm = 0 := by rw [HRm.out, rofM, ← HR.out]; rfl
    obtain rfl : rk = [] := by rw [HRk.out, rofK, ← HR.out]; rfl
    go_wp2
    clear y0 q0 y1 q1
    obtain ⟨wf, hwf⟩ : ∃ x, x = putW (w1) (gw) 0 [.int .i64 0, .slice none 0 0] := ⟨_, rfl⟩
    have kf := putW_all [.int .i64 0, .slice none 0 0] HG1.out rfl
    have bf := putW_below (b := gw) (by first | omega | simp) [.int .i64 0, .slice none 0 0] 0 _ HB1.out
    have of := (show OwC (putW w1 gw 0 [.int .i64 0, .slice none 0 0]) gw (.row [.int .i64]) (.slice none 0 0) (.row (ones [])) [] from OwC.rowNil)
    rw [← hwf] at kf bf of
    have cf := hwf.symm
    simp only [putW, Nat.reduceAdd] at cf
    rw [cf]
    clear cf hwf
    have f0 := (cells_of_heap kf 0 (by simp)).1
    have f1 := (cells_of_heap kf 1 (by simp)).1
    simp only [List.getElem_toArray, List.getElem_cons_zero, List.getElem_cons_succ] at f0 f1
    refine bodyPost_ret (v := rpv 0 (.slice none 0 0)) (by simp [results, Try.results13, go_sem, f0, f1]) rfl ⟨none, 0, [], rfl, by rw [← HGW.out]; exact of, by rw [← HGW.out]; exact bf⟩
  · have HM := Lib.hid (show rm = mdOf l n by rw [HRm.out, rofM, ← HR.out, HNL.out]; rfl)
    have HK := Lib.hid (show rk = codesN l 56 by rw [HRk.out, rofK, ← HR.out]; rfl)
    have HOk := Lib.hid (show okHd l = true from HR.out.symm)
    go_upto_region 5 with (fail)
    rw [none57]
    obtain ⟨gp, hgp⟩ : ∃ x, x = w1.heap.size := ⟨_, rfl⟩
    obtain ⟨U, hU⟩ : ∃ x, x = w1.alloc (.cells (Array.replicate 57 (.bool false)) 62) := ⟨_, rfl⟩
    have HP0 := Lib.hid (show SetH U gp (fun c => hasC l (c : Int) 0) by
      rw [hU, hgp]
      exact ⟨_, heap_alloc_new w1 _, by simp, fun j hj => by simp [hj, hasC]⟩)
    have HGU := Lib.hid (show U.heap[gw]? = some (.cells #[.int .i64 0, .slice none 0 0] 28 (0, 0)) by rw [hU, heap_alloc_old w1 _ HS1.out]; exact HG1.out)
    have HBU := Lib.hid (show Below gw w U by rw [hU]; exact HB1.out.alloc (by have := HS1.out; omega) _)
    have hgwp : gw < gp := by rw [hgp]; exact HS1.out
    rw [← hU, ← hgp]
    clear hU hgp y0 q0 y1 q1
    have hgn : ¬ gw = gp := by omega
    have hle : gw ≤ gp := by omega
    go_wp2
    go_loopw [3, 6, 13] (fun m _ i wr => ∃ j : Nat, j ≤ n ∧ i = .int .i64 j ∧ m = .int .i64 (mdOf l j : Nat) ∧ SetH wr gp (fun c => hasC l (c : Int) j) ∧ wr.heap[gw]? = some (.cells #[.int .i64 0, .slice none 0 0] 28 (0, 0)) ∧ Below gw w wr) (fun _ _ i _ => n - (intOf i).toNat)
    case atStart => exact ⟨0, Nat.zero_le _, rfl, rfl, HP0.out, HGU.out, HBU.out⟩
    case round =>
      obtain ⟨j, hj, rfl, rfl, hp, hgw, hb⟩ := hrel
      have HP := Lib.hid hp
      have HG2 := Lib.hid hgw
      have HB2 := Lib.hid hb
      by_cases hlt' : j < n
      · obtain ⟨b, off, rfl, hlt, c0, c1, c2, c3, c4⟩ := hd_at7 H.out (k := j) (by rw [← HNL.out]; exact hlt')
        have hjl : j < l.length := by rw [← HNL.out]; exact hlt'
        have hok1 := (hdN_at HOk.out j hjl).1
        have hmods := okOne_mods hok1
        obtain ⟨hcode, hm0⟩ := okOne_code hok1
        have hlo := mdOf_lt HOk.out j (by omega)
        have hnx : mdOf l (j + 1) = if (hdD l j).k = 2 ∨ (hdD l j).k = 8 then mdOf l j ||| (hdD l j).m.toNat else mdOf l j := rfl
        have hnc : ∀ c : Nat, hasC l (c : Int) (j + 1) = (hasC l (c : Int) j || decide ((hdD l j).c = (c : Int))) := fun c => rfl
        obtain ⟨e, he⟩ : ∃ e, e = hdD l j := ⟨_, rfl⟩
        rw [← he] at c0 c1 c2 c3 c4 hmods hcode hm0 hnx hnc
        obtain ⟨k0, kk, ca, ma, nn⟩ := e
        simp only at c0 c1 c2 c3 c4 hmods hcode hm0 hnx hnc
        obtain ⟨M, rfl⟩ : ∃ M : Nat, ma = M := ⟨ma.toNat, by omega⟩
        obtain ⟨C, rfl⟩ : ∃ C : Nat, ca = C := ⟨ca.toNat, by omega⟩
        rw [Int.toNat_natCast] at hnx
        obtain ⟨q, hq⟩ : ∃ q, q = mdOf l j := ⟨_, rfl⟩
        rw [← hq] at hlo hnx ⊢
        have hor := or_nat q M (by omega) (by omega)
        have hqm : mdOf l (j + 1) = q ||| M := by
          rw [hnx]
          split
          · rfl
          · rename_i hk
            have : M = 0 := by have := hm0 hk; omega
            rw [this]; simp
        have HQM := Lib.hid hqm
        have HOR := Lib.hid hor
        have HNC := Lib.hid hnc
        have f0 := (hb.cell (p := ⟨b, off + j * 5, none⟩) (by have := HGW.out; show b < gw; omega)).trans c0
        have f1 := (hb.cell (p := ⟨b, off + j * 5 + 1, none⟩) (by have := HGW.out; show b < gw; omega)).trans c1
        have f2 := (hb.cell (p := ⟨b, off + j * 5 + 2, none⟩) (by have := HGW.out; show b < gw; omega)).trans c2
        have f3 := (hb.cell (p := ⟨b, off + j * 5 + 3, none⟩) (by have := HGW.out; show b < gw; omega)).trans c3
        have f4 := (hb.cell (p := ⟨b, off + j * 5 + 4, none⟩) (by have := HGW.out; show b < gw; omega)).trans c4
        have hC57 : (C : Int) < 57 := by omega
        have hC57n : C < 57 := by omega
        clear c0 c1 c2 c3 c4 hq hnx hor hqm hnc hmods hcode hm0 hlo hok1 hjl he hp hgw hb
        go_upto_region 8 with (fail)
        obtain ⟨U2, hU2⟩ : ∃ U, U = wr.alloc (.cells #[.int .i64 k0, .int .i64 kk, .int .i64 C, .int .i64 M, .int .i64 nn] 33) := ⟨_, rfl⟩
        obtain ⟨g, hg⟩ : ∃ g, g = wr.heap.size := ⟨_, rfl⟩
        have hbx : Bxd U2 g [.int .i64 k0, .int .i64 kk, .int .i64 C, .int .i64 M, .int .i64 nn] := by rw [hU2, hg]; exact Bxd.new _ _ _
        have hgpl : gp < wr.heap.size := HP.out.lt
        have HP3 := Lib.hid (show SetH U2 gp (fun c => hasC l (c : Int) j) from HP.out.block (by rw [hU2]; exact heap_alloc_old wr _ hgpl))
        have HG3 := Lib.hid (show U2.heap[gw]? = some (.cells #[.int .i64 0, .slice none 0 0] 28 (0, 0)) by rw [hU2, heap_alloc_old wr _ (by omega)]; exact HG2.out)
        have HB3 := Lib.hid (show Below gw w U2 by rw [hU2]; exact HB2.out.alloc (by omega) _)
        have hggp : ¬ g = gp := by rw [hg]; omega
        rw [← hU2, ← hg]
        have HXU := Lib.hid hbx
        clear hU2 hg hbx hgpl f0 f1 f2 f3 f4
        have a2 := HXU.out.at 2 _ rfl
        have a3 := HXU.out.at 3 _ rfl
        obtain ⟨s0, s1⟩ := HP3.out.cell hC57n
        have HP4 := Lib.hid (show SetH (U2.setCell ⟨gp, C, none⟩ (.bool true)) gp (fun c => hasC l (c : Int) (j + 1)) from (HP3.out.set (j := C) true).congr (fun c _ => by
          rw [HNC.out]
          by_cases hc : c = C
          · subst hc; simp
          · rw [if_neg hc, decide_eq_false (by omega), Bool.or_false]))
        have HG4 := Lib.hid (show (U2.setCell ⟨gp, C, none⟩ (.bool true)).heap[gw]? = some (.cells #[.int .i64 0, .slice none 0 0] 28 (0, 0)) by rw [heap_setCell_other U2 _ _ _ hgn]; exact HG3.out)
        have HB4 := Lib.hid (show Below gw w (U2.setCell ⟨gp, C, none⟩ (.bool true)) from HB3.out.setCell hle _)
        go_wp2
        go_roundw
        case rel => exact ⟨j + 1, by omega, by go_num, by rw [HQM.out, ← HOR.out], HP4.out, HG4.out, HB4.out⟩
        case measure => simp [intOf]; omega
      · obtain rfl : j = n := by omega
        obtain ⟨M, hMv⟩ : ∃ M, M = mdOf l j := ⟨_, rfl⟩
        rw [← hMv]
        have HM2 := Lib.hid (show rm = M by rw [HM.out, hMv])
        obtain ⟨CS, hh, hsz, hcs⟩ := hp
        have hi : (Try.prog.info? 62).map (·.size) = some CS.size := by rw [hsz]; exact iSet
        have HCS := Lib.hid hcs
        have HSZ := Lib.hid hsz
        have hgs : gw < wr.heap.size := (Array.getElem?_eq_some_iff.mp hgw).1
        have HGS := Lib.hid hgs
        clear hMv hcs hsz hgw hb hgs
        go_wp2_with (refine wpList_load_row rfl 62 _ rfl gp rfl 62 CS (0, 0) _ hh tySet rfl hi ?_)
        clear hi hh
        go_wp2_with fail
        refine (ascending_any (fun c => hasC l (c : Int) j) CS HSZ.out HCS.out _).mono ?_
        rintro e w2 ⟨a, c, fp, rfl, ho, hb⟩
        have hK2 : ascN (fun c => hasC l (c : Int) j) 56 = rk := by rw [HK.out, ← ascN_codes l 56, HNL.out]
        rw [hK2] at ho ⊢
        have HO := Lib.hid ho
        have HG5 := Lib.hid ((hb.block gw HGS.out).trans HG2.out)
        have HB5 := Lib.hid (HB2.out.trans (hb.mono (by have := HGS.out; omega)))
        have hrng := ho.rng
        have HFP := Lib.hid (show gw ∉ fp from fun hm => by have := (hrng gw hm).1; have := HGS.out; omega)
        clear ho hb hK2 hrng
        obtain ⟨N, hN⟩ : ∃ N, N = rk.length := ⟨_, rfl⟩
        rw [← hN]
        have HNk := Lib.hid hN
        clear hN
        obtain ⟨y0, q0⟩ := cells_of_heap HG5.out 0 (by simp)
        obtain ⟨y1, q1⟩ := cells_of_heap HG5.out 1 (by simp)
        go_wp2
        clear y0 q0 y1 q1
        obtain ⟨wf, hwf⟩ : ∃ x, x = putW (w2) (gw) 0 [.int .i64 M, .slice a N c] := ⟨_, rfl⟩
        have kf := putW_all [.int .i64 M, .slice a N c] HG5.out rfl
        have bf := putW_below (b := gw) (by first | omega | simp) [.int .i64 M, .slice a N c] 0 _ HB5.out
        have of := (show OwC (putW w2 gw 0 [.int .i64 M, .slice a N c]) gw (.row [.int .i64]) (.slice a N c) (.row (ones rk)) fp from OwC.putAt (OwC.base _ _ _ _ (by rw [HNk.out]; exact HO.out) (by have := HGS.out; omega)) _ HFP.out 0)
        rw [← hwf] at kf bf of
        have cf := hwf.symm
        simp only [putW, Nat.reduceAdd] at cf
        rw [cf]
        clear cf hwf
        have f0 := (cells_of_heap kf 0 (by simp)).1
        have f1 := (cells_of_heap kf 1 (by simp)).1
        simp only [List.getElem_toArray, List.getElem_cons_zero, List.getElem_cons_succ] at f0 f1
        refine bodyPost_ret (v := rpv M (.slice a N c)) (by simp [results, Try.results13, go_sem, f0, f1]) rfl ⟨a, c, fp, by rw [HM2.out, HNk.out], by rw [← HGW.out, ← HNk.out]; exact of, by rw [← HGW.out]; exact bf⟩

end Go.Proofs.Ytghijkpcmamebaa
