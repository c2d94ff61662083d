/- DERIVED. The program's withPresses: the report of held keys with what a macro has down. Called with a report whose codes are codes, and with presses that are valid. -/
import Derived.Test.YtnfnhbldphiohaaMcStk3
import Derived.Test.YtnfnhbldphiohaaRpImpl
namespace Go.Proofs.Ytnfnhbldphiohaa
open Go.RowKit

theorem ascN_mrK (z : List Int) (d : List Hd) : ∀ k, ascN (fun c => decide ((c : Int) ∈ z) || hasC d (c : Int) d.length) k = mrK z d k
  | 0 => rfl
  | k + 1 => by rw [ascN, mrK, ascN_mrK z d k]; rfl

set_option maxRecDepth 100000 in
set_option maxHeartbeats 8000000 in
theorem withPresses_any (M : Nat) (u vd : Value) (z : List Int) (d : List Hd) (w : World) (hM : M < 2 ^ 4) (hzl : z.length ≤ 56) (hz : ∀ x ∈ z, 1 ≤ x ∧ x ≤ 56) (hu : Rd w u (z.map (.int .i64))) (hdl : d.length ≤ 16) (hd : DwOk d) (h : RdN w vd d.length (flatAc (dA d))) :
    Calls Try.prog 33 #[rpv M u, vd] w (RpvO (mrM M d d.length : Nat) (mrK z d 56) w) := by
  obtain ⟨rm, hrm⟩ : ∃ x, x = mrM M d d.length := ⟨_, rfl⟩
  obtain ⟨rk, hrk⟩ : ∃ x, x = mrK z d 56 := ⟨_, rfl⟩
  rw [← hrm, ← hrk]
  have HRm := Lib.hid hrm
  have HRk := Lib.hid hrk
  obtain ⟨da, dc, rfl⟩ := RdN.shape h
  obtain ⟨ua, uc, rfl⟩ : ∃ a cap, u = .slice a z.length cap := by obtain ⟨a, cap, hu, _⟩ := hu; exact ⟨a, cap, by simpa using hu⟩
  obtain ⟨n, hn⟩ : ∃ n, n = d.length := ⟨_, rfl⟩
  obtain ⟨N, hN⟩ : ∃ N, N = z.length := ⟨_, rfl⟩
  have HN := Lib.hid hn
  have HNZ := Lib.hid hN
  have HU := Lib.hid hu
  have HD := Lib.hid h
  have HZ := Lib.hid hz
  have HDO := Lib.hid hd
  have HMm := Lib.hid hM
  rw [← hN] at hzl ⊢
  rw [← hn] at hdl ⊢
  clear hrm hrk hu h hz hd hM hn hN
  obtain ⟨gw, hgw⟩ : ∃ g, g = w.heap.size := ⟨_, rfl⟩
  obtain ⟨V, hV⟩ : ∃ V, V = (w.alloc (.cells #[.int .i64 M, .slice ua N uc] 61)).alloc (.cells #[.int .i64 0, .slice none 0 0] 61) := ⟨_, rfl⟩
  have hX0 : V.heap[gw]? = some (.cells #[.int .i64 M, .slice ua N uc] 61 (0, 0)) := by rw [hV, hgw, heap_alloc_old _ _ (by simp)]; exact heap_alloc_new w _
  have HG0 := Lib.hid (show V.heap[gw + 1]? = some (.cells #[.int .i64 0, .slice none 0 0] 61 (0, 0)) by rw [hV, hgw]; simpa using heap_alloc_new (w.alloc (.cells #[.int .i64 M, .slice ua N uc] 61)) _)
  have HB0 := Lib.hid (show Below gw w V by rw [hV, hgw]; exact ((Below.refl _ _).alloc (Nat.le_refl _) _).alloc (by simp) _)
  have HS0 := Lib.hid (show V.heap.size = gw + 2 by rw [hV, hgw]; simp)
  have HV := Lib.hid hV
  have HGW := Lib.hid hgw
  have HX0 := Lib.hid hX0
  clear hV hX0
  go_enter Try.func33, Try.ntmps33
  go_upto_region 1 with (fail)
  rw [← HV.out, ← hgw]
  clear hgw
  have c0 := (cells_of_heap HX0.out 0 (by simp)).1
  have c1 := (cells_of_heap HX0.out 1 (by simp)).1
  simp only [List.getElem_toArray, List.getElem_cons_zero, List.getElem_cons_succ] at c0 c1
  go_upto_region 3 with (fail)
  rw [none57]
  obtain ⟨gp, hgp⟩ : ∃ x, x = V.heap.size := ⟨_, rfl⟩
  obtain ⟨U, hU⟩ : ∃ x, x = V.alloc (.cells (Array.replicate 57 (.bool false)) 82) := ⟨_, rfl⟩
  have hgp2 : gp = gw + 2 := by rw [hgp, HS0.out]
  have HP0 := Lib.hid (show SetH U gp (fun c => decide ((c : Int) ∈ z.take 0)) by
    rw [hU, hgp]
    exact ⟨_, heap_alloc_new V _, by simp, fun j hj => by simp [hj]⟩)
  have HGU := Lib.hid (show U.heap[gw + 1]? = some (.cells #[.int .i64 0, .slice none 0 0] 61 (0, 0)) by rw [hU, heap_alloc_old V _ (by rw [HS0.out]; omega)]; exact HG0.out)
  have HXU := Lib.hid (show U.heap[gw]? = some (.cells #[.int .i64 M, .slice ua N uc] 61 (0, 0)) by rw [hU, heap_alloc_old V _ (by rw [HS0.out]; omega)]; exact HX0.out)
  have HBU := Lib.hid (show Below gw w U by rw [hU]; exact HB0.out.alloc (by rw [HS0.out]; omega) _)
  rw [← hU, ← hgp]
  clear hU hgp c0 c1
  have hgn : ¬ gw + 1 = gp := by omega
  have hgn2 : ¬ gw = gp := by omega
  have hle : gw ≤ gp := by omega
  have HGP2 := Lib.hid hgp2
  clear hgp2
  have c0 := (cells_of_heap HXU.out 0 (by simp)).1
  have c1 := (cells_of_heap HXU.out 1 (by simp)).1
  simp only [List.getElem_toArray, List.getElem_cons_zero, List.getElem_cons_succ] at c0 c1
  go_wp2
  clear c0 c1
  go_loopw [8, 16] (fun _ i wr => ∃ j : Nat, j ≤ N ∧ i = .int .i64 j ∧ SetH wr gp (fun c => decide ((c : Int) ∈ z.take j)) ∧ wr.heap[gw + 1]? = some (.cells #[.int .i64 0, .slice none 0 0] 61 (0, 0)) ∧ Below gw w wr) (fun _ i _ => N - (intOf i).toNat)
  case atStart => exact ⟨0, Nat.zero_le _, rfl, HP0.out, HGU.out, HBU.out⟩
  case round =>
    obtain ⟨j, hj, rfl, hp, hgw, hb⟩ := hrel
    have HP := Lib.hid hp
    have HG2 := Lib.hid hgw
    have HB2 := Lib.hid hb
    by_cases hlt' : j < N
    · rcases rd_ints HU.out with ⟨hz0, _⟩ | ⟨b, off, cap, _, hs, hlt, hc⟩
      · exfalso; rw [HNZ.out, hz0] at hlt'; simp at hlt'
      · obtain ⟨hs1, _, _⟩ := by simpa using hs
        subst hs1
        have hjz : j < z.length := by rw [← HNZ.out]; exact hlt'
        have e0 := hc j hjz
        have hin := HZ.out (z.getD j 0) (by rw [List.getD_eq_getElem?_getD, List.getElem?_eq_getElem hjz]; exact List.getElem_mem hjz)
        have htk : z.take (j + 1) = z.take j ++ [z.getD j 0] := by rw [List.take_succ_eq_append_getElem hjz, List.getD_eq_getElem?_getD, List.getElem?_eq_getElem hjz]; rfl
        obtain ⟨y, hy⟩ : ∃ y, y = z.getD j 0 := ⟨_, rfl⟩
        rw [← hy] at e0 hin htk
        obtain ⟨C, rfl⟩ : ∃ C : Nat, y = C := ⟨y.toNat, by omega⟩
        have f0 := (hb.cell (p := ⟨b, off + j, none⟩) (by have := HGW.out; show b < gw; omega)).trans e0
        have hC57 : (C : Int) < 57 := by omega
        have hC57n : C < 57 := by omega
        obtain ⟨ov, s0, s1⟩ : ∃ ov, wr.cell? ⟨gp, C, none⟩ = some (.bool ov) ∧ wr.frozen? ⟨gp, C, none⟩ = false := ⟨_, hp.cell hC57n⟩
        have HP4 := Lib.hid (show SetH (wr.setCell ⟨gp, C, none⟩ (.bool true)) gp (fun c => decide ((c : Int) ∈ z.take (j + 1))) from (HP.out.set (j := C) true).congr (fun c _ => by
          rw [htk]
          by_cases hc : c = C
          · subst hc; simp
          · rw [if_neg hc]
            have : ¬ (c : Int) = (C : Int) := by omega
            simp [this]))
        have HG4 := Lib.hid (show (wr.setCell ⟨gp, C, none⟩ (.bool true)).heap[gw + 1]? = some (.cells #[.int .i64 0, .slice none 0 0] 61 (0, 0)) by rw [heap_setCell_other wr _ _ _ hgn]; exact HG2.out)
        have HB4 := Lib.hid (show Below gw w (wr.setCell ⟨gp, C, none⟩ (.bool true)) from HB2.out.setCell hle _)
        clear hs hc e0 hin htk hy hjz hp hgw hb
        go_wp2
        go_roundw
        case rel => exact ⟨j + 1, by omega, by go_num, HP4.out, HG4.out, HB4.out⟩
        case measure => simp [intOf]; omega
    · obtain rfl : j = N := by omega
      have HP3 := Lib.hid (show SetH wr gp (fun c => decide ((c : Int) ∈ z) || hasC d (c : Int) 0) from HP.out.congr (fun c _ => by rw [HNZ.out, List.take_length]; exact (Bool.or_false _).symm))
      clear hp hgw hb
      go_wp2
      go_loopw [5, 10, 25] (fun m _ i wr => ∃ j : Nat, j ≤ n ∧ i = .int .i64 j ∧ m = .int .i64 (mrM M d j : Nat) ∧ SetH wr gp (fun c => decide ((c : Int) ∈ z) || hasC d (c : Int) j) ∧ wr.heap[gw + 1]? = some (.cells #[.int .i64 0, .slice none 0 0] 61 (0, 0)) ∧ Below gw w wr) (fun _ _ i _ => n - (intOf i).toNat)
      case atStart => exact ⟨0, Nat.zero_le _, rfl, rfl, HP3.out, HG2.out, HB2.out⟩
      case round =>
        obtain ⟨j, hj, rfl, rfl, hp, hgw, hb⟩ := hrel
        have HP := Lib.hid hp
        have HG2 := Lib.hid hgw
        have HB2 := Lib.hid hb
        by_cases hlt' : j < n
        · rcases rd_acs (l := dA d) (by rw [dA_len]; exact HD.out) with ⟨hz0, _⟩ | ⟨b, off, cap, _, hs, hlt, hc⟩
          · exfalso; have h1 := congrArg List.length hz0; rw [dA_len] at h1; rw [HN.out, h1] at hlt'; simp at hlt'
          · obtain ⟨hs1, _, _⟩ := by simpa using hs
            subst hs1
            have hjd : j < d.length := by rw [← HN.out]; exact hlt'
            obtain ⟨e0, e1, e2, e3⟩ := hc j (by rw [dA_len]; exact hjd)
            rw [acD_dA d j hjd] at e0 e1 e2 e3
            have hbd := dwOk_at HDO.out hjd
            have hlo := mrM_lt HMm.out HDO.out j (by omega)
            have hnx : mrM M d (j + 1) = mrM M d j ||| (hdD d j).m.toNat := rfl
            have hnc : ∀ c : Nat, hasC d (c : Int) (j + 1) = (hasC d (c : Int) j || decide ((hdD d j).c = (c : Int))) := fun c => rfl
            obtain ⟨e, he⟩ : ∃ e, e = hdD d j := ⟨_, rfl⟩
            rw [← he] at e0 e1 e2 e3 hbd hnx hnc
            obtain ⟨k0, kk, ca, ma, nn⟩ := e
            simp only [hA] at e0 e1 e2 e3 hbd hnx hnc
            obtain ⟨Mm, rfl⟩ : ∃ M : Nat, ma = M := ⟨ma.toNat, by omega⟩
            obtain ⟨C, rfl⟩ : ∃ C : Nat, ca = C := ⟨ca.toNat, by omega⟩
            rw [Int.toNat_natCast] at hnx
            obtain ⟨q, hq⟩ : ∃ q, q = mrM M d j := ⟨_, rfl⟩
            rw [← hq] at hlo hnx ⊢
            have hor := or_nat q Mm (by omega) (by omega)
            have HQM := Lib.hid hnx
            have HOR := Lib.hid hor
            have HNC := Lib.hid hnc
            have hbg : b < gw := by have := HGW.out; omega
            have f0 := (hb.cell (p := ⟨b, off + j * 4, none⟩) hbg).trans e0
            have f1 := (hb.cell (p := ⟨b, off + j * 4 + 1, none⟩) hbg).trans e1
            have f2 := (hb.cell (p := ⟨b, off + j * 4 + 2, none⟩) hbg).trans e2
            have f3 := (hb.cell (p := ⟨b, off + j * 4 + 3, none⟩) hbg).trans e3
            have hC57 : (C : Int) < 57 := by omega
            have hC57n : C < 57 := by omega
            clear e0 e1 e2 e3 hs hc hq hnx hor hnc hbd hlo hjd he hp hgw hb
            go_upto_region 11 with (fail)
            obtain ⟨U2, hU2⟩ : ∃ U, U = wr.alloc (.cells #[.int .i64 2, .int .i64 C, .int .i64 Mm, .int .i64 0] 47) := ⟨_, rfl⟩
            obtain ⟨g, hg⟩ : ∃ g, g = wr.heap.size := ⟨_, rfl⟩
            have hbx : Bxd U2 g [.int .i64 2, .int .i64 C, .int .i64 Mm, .int .i64 0] := by rw [hU2, hg]; exact Bxd.new _ _ _
            have hgpl : gp < wr.heap.size := HP.out.lt
            have HP3 := Lib.hid (show SetH U2 gp (fun c => decide ((c : Int) ∈ z) || hasC d (c : Int) j) from HP.out.block (by rw [hU2]; exact heap_alloc_old wr _ hgpl))
            have HG3 := Lib.hid (show U2.heap[gw + 1]? = some (.cells #[.int .i64 0, .slice none 0 0] 61 (0, 0)) by rw [hU2, heap_alloc_old wr _ (by omega)]; exact HG2.out)
            have HB3 := Lib.hid (show Below gw w U2 by rw [hU2]; exact HB2.out.alloc (by omega) _)
            have hggp : ¬ g = gp := by rw [hg]; omega
            rw [← hU2, ← hg]
            have HXU2 := Lib.hid hbx
            clear hU2 hg hbx hgpl f0 f1 f2 f3
            have a1 := HXU2.out.at 1 _ rfl
            have a2 := HXU2.out.at 2 _ rfl
            obtain ⟨ov, s0, s1⟩ : ∃ ov, U2.cell? ⟨gp, C, none⟩ = some (.bool ov) ∧ U2.frozen? ⟨gp, C, none⟩ = false := ⟨_, HP3.out.cell hC57n⟩
            have HP4 := Lib.hid (show SetH (U2.setCell ⟨gp, C, none⟩ (.bool true)) gp (fun c => decide ((c : Int) ∈ z) || hasC d (c : Int) (j + 1)) from (HP3.out.set (j := C) true).congr (fun c _ => by
              rw [HNC.out]
              by_cases hc : c = C
              · subst hc; simp
              · have h9 : decide ((C : Int) = (c : Int)) = false := decide_eq_false (by omega)
                rw [if_neg hc, h9, Bool.or_false]))
            have HG4 := Lib.hid (show (U2.setCell ⟨gp, C, none⟩ (.bool true)).heap[gw + 1]? = some (.cells #[.int .i64 0, .slice none 0 0] 61 (0, 0)) by rw [heap_setCell_other U2 _ _ _ hgn]; exact HG3.out)
            have HB4 := Lib.hid (show Below gw w (U2.setCell ⟨gp, C, none⟩ (.bool true)) from HB3.out.setCell hle _)
            go_wp2
            go_roundw
            case rel => exact ⟨j + 1, by omega, by go_num, by rw [HQM.out, ← HOR.out], HP4.out, HG4.out, HB4.out⟩
            case measure => simp [intOf]; omega
        · obtain rfl : j = n := by omega
          obtain ⟨Q, hQ⟩ : ∃ Q, Q = mrM M d j := ⟨_, rfl⟩
          rw [← hQ]
          have HQ2 := Lib.hid (show rm = Q by rw [HRm.out, ← HN.out, hQ])
          obtain ⟨CS, hh, hsz, hcs⟩ := hp
          have hi : (Try.prog.info? 82).map (·.size) = some CS.size := by rw [hsz]; exact iSet
          have HCS := Lib.hid hcs
          have HSZ := Lib.hid hsz
          have hgs : gw + 1 < wr.heap.size := (Array.getElem?_eq_some_iff.mp hgw).1
          have HGS := Lib.hid hgs
          clear hQ hcs hsz hgw hb hgs
          go_wp2_with (refine wpList_load_row rfl 82 _ rfl gp rfl 82 CS (0, 0) _ hh tySet rfl hi ?_)
          clear hi hh
          go_wp2_with fail
          refine (ascending_any (fun c => decide ((c : Int) ∈ z) || hasC d (c : Int) j) CS HSZ.out HCS.out _).mono ?_
          rintro e w2 ⟨a, c, fp, rfl, ho, hb⟩
          have hK2 : ascN (fun c => decide ((c : Int) ∈ z) || hasC d (c : Int) j) 56 = rk := by rw [HRk.out, ← ascN_mrK z d 56, ← HN.out]
          rw [hK2] at ho ⊢
          have HO := Lib.hid ho
          have HG5 := Lib.hid ((hb.block (gw + 1) HGS.out).trans HG2.out)
          have HB5 := Lib.hid (HB2.out.trans (hb.mono (by have := HGS.out; omega)))
          have hrng := ho.rng
          have HFP := Lib.hid (show gw + 1 ∉ fp from fun hm => by have := (hrng (gw + 1) hm).1; have := HGS.out; omega)
          clear ho hb hK2 hrng
          obtain ⟨NK, hNK⟩ : ∃ N, N = rk.length := ⟨_, rfl⟩
          rw [← hNK]
          have HNk := Lib.hid hNK
          clear hNK
          obtain ⟨y0, q0⟩ := cells_of_heap HG5.out 0 (by simp)
          obtain ⟨y1, q1⟩ := cells_of_heap HG5.out 1 (by simp)
          go_wp2
          clear y0 q0 y1 q1
          obtain ⟨wf, hwf⟩ : ∃ x, x = putW (w2) (gw + 1) 0 [.int .i64 Q, .slice a NK c] := ⟨_, rfl⟩
          have kf := putW_all [.int .i64 Q, .slice a NK c] HG5.out rfl
          have bf := putW_below (b := gw + 1) (by first | omega | simp) [.int .i64 Q, .slice a NK c] 0 _ HB5.out
          have of := (show OwC (putW w2 (gw + 1) 0 [.int .i64 Q, .slice a NK c]) gw (.row [.int .i64]) (.slice a NK c) (.row (ones rk)) fp from OwC.putAt (OwC.base _ _ _ _ (by rw [HNk.out]; exact HO.out) (by have := HGS.out; omega)) _ HFP.out 0)
          rw [← hwf] at kf bf of
          have cf := hwf.symm
          simp only [putW, Nat.reduceAdd] at cf
          rw [cf]
          clear cf hwf
          have f0 := (cells_of_heap kf 0 (by simp)).1
          have f1 := (cells_of_heap kf 1 (by simp)).1
          simp only [List.getElem_toArray, List.getElem_cons_zero, List.getElem_cons_succ] at f0 f1
          refine bodyPost_ret (v := rpv Q (.slice a NK c)) (by simp [results, Try.results33, go_sem, f0, f1]) rfl ⟨a, c, fp, by rw [HQ2.out, HNk.out], by rw [← HGW.out, ← HNk.out]; exact of, by rw [← HGW.out]; exact bf⟩

end Go.Proofs.Ytnfnhbldphiohaa
