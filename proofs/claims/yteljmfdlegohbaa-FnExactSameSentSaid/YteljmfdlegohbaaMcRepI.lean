/- DERIVED. The program's withPresses: the report of held keys with what a macro has down. Called with a report whose codes are codes, and with presses that are valid. · The program's MacroReports: the reports of a macro while keys are held, in memory of the caller's own. Called with any arguments. -/
import Derived.Test.YteljmfdlegohbaaMcImpl
import Derived.Test.YteljmfdlegohbaaRpImpl
import Derived.Test.YteljmfdlegohbaaMcRep
namespace Go.Proofs.Yteljmfdlegohbaa
open Go.RowKit

theorem ascN_mrK (z : List Int) (d : List Hd) : ∀ k, ascN (fun c => decide ((c : Int) ∈ z) || hasC d (c : Int) d.length) k = mrK z d k
  | 0 => rfl
  | k + 1 => by rw [ascN, mrK, ascN_mrK z d k]; rfl

set_option maxRecDepth 100000 in
set_option maxHeartbeats 8000000 in
theorem withPresses_any (M : Nat) (u vd : Value) (z : List Int) (d : List Hd) (w : World) (hM : M < 2 ^ 4) (hzl : z.length ≤ 56) (hz : ∀ x ∈ z, 1 ≤ x ∧ x ≤ 56) (hu : Rd w u (z.map (.int .i64))) (hdl : d.length ≤ 16) (hd : DwOk d) (h : RdN w vd d.length (flatAc (dA d))) :
    Calls Try.prog 106 #[rpv M u, vd] w (RpvO (mrM M d d.length : Nat) (mrK z d 56) w) := by
  obtain ⟨rm, hrm⟩ : ∃ x, x = mrM M d d.length := ⟨_, rfl⟩
  obtain ⟨rk, hrk⟩ : ∃ x, x = mrK z d 56 := ⟨_, rfl⟩
  rw [← hrm, ← hrk]
  have HRm := Lib.hid hrm
  have HRk := Lib.hid hrk
  obtain ⟨da, dc, rfl⟩ := RdN.shape h
  obtain ⟨ua, uc, rfl⟩ : ∃ a cap, u = .slice a z.length cap := by obtain ⟨a, cap, hu, _⟩ := hu; exact ⟨a, cap, by simpa using hu⟩
  obtain ⟨n, hn⟩ : ∃ n, n = d.length := ⟨_, rfl⟩
  obtain ⟨N, hN⟩ : ∃ N, N = z.length := ⟨_, rfl⟩
  have HN := Lib.hid hn
  have HNZ := Lib.hid hN
  have HU := Lib.hid hu
  have HD := Lib.hid h
  have HZ := Lib.hid hz
  have HDO := Lib.hid hd
  have HMm := Lib.hid hM
  rw [← hN] at hzl ⊢
  rw [← hn] at hdl ⊢
  clear hrm hrk hu h hz hd hM hn hN
  obtain ⟨gw, hgw⟩ : ∃ g, g = w.heap.size := ⟨_, rfl⟩
  obtain ⟨V, hV⟩ : ∃ V, V = (w.alloc (.cells #[.int .i64 M, .slice ua N uc] 62)).alloc (.cells #[.int .i64 0, .slice none 0 0] 62) := ⟨_, rfl⟩
  have hX0 : V.heap[gw]? = some (.cells #[.int .i64 M, .slice ua N uc] 62 (0, 0)) := by rw [hV, hgw, heap_alloc_old _ _ (by simp)]; exact heap_alloc_new w _
  have HG0 := Lib.hid (show V.heap[gw + 1]? = some (.cells #[.int .i64 0, .slice none 0 0] 62 (0, 0)) by rw [hV, hgw]; simpa using heap_alloc_new (w.alloc (.cells #[.int .i64 M, .slice ua N uc] 62)) _)
  have HB0 := Lib.hid (show Below gw w V by rw [hV, hgw]; exact ((Below.refl _ _).alloc (Nat.le_refl _) _).alloc (by simp) _)
  have HS0 := Lib.hid (show V.heap.size = gw + 2 by rw [hV, hgw]; simp)
  have HV := Lib.hid hV
  have HGW := Lib.hid hgw
  have HX0 := Lib.hid hX0
  clear hV hX0
  go_enter Try.func106, Try.ntmps106
  go_upto_region 1 with (fail)
  rw [← HV.out, ← hgw]
  clear hgw
  have c0 := (cells_of_heap HX0.out 0 (by simp)).1
  have c1 := (cells_of_heap HX0.out 1 (by simp)).1
  simp only [List.getElem_toArray, List.getElem_cons_zero, List.getElem_cons_succ] at c0 c1
  go_upto_region 3 with (fail)
  rw [none57]
  obtain ⟨gp, hgp⟩ : ∃ x, x = V.heap.size := ⟨_, rfl⟩
  obtain ⟨U, hU⟩ : ∃ x, x = V.alloc (.cells (Array.replicate 57 (.bool false)) 214) := ⟨_, rfl⟩
  have hgp2 : gp = gw + 2 := by rw [hgp, HS0.out]
  have HP0 := Lib.hid (show SetH U gp (fun c => decide ((c : Int) ∈ z.take 0)) by
    rw [hU, hgp]
    exact ⟨_, heap_alloc_new V _, by simp, fun j hj => by simp [hj]⟩)
  have HGU := Lib.hid (show U.heap[gw + 1]? = some (.cells #[.int .i64 0, .slice none 0 0] 62 (0, 0)) by rw [hU, heap_alloc_old V _ (by rw [HS0.out]; omega)]; exact HG0.out)
  have HXU := Lib.hid (show U.heap[gw]? = some (.cells #[.int .i64 M, .slice ua N uc] 62 (0, 0)) by rw [hU, heap_alloc_old V _ (by rw [HS0.out]; omega)]; exact HX0.out)
  have HBU := Lib.hid (show Below gw w U by rw [hU]; exact HB0.out.alloc (by rw [HS0.out]; omega) _)
  rw [← hU, ← hgp]
  clear hU hgp c0 c1
  have hgn : ¬ gw + 1 = gp := by omega
  have hgn2 : ¬ gw = gp := by omega
  have hle : gw ≤ gp := by omega
  have HGP2 := Lib.hid hgp2
  clear hgp2
  have c0 := (cells_of_heap HXU.out 0 (by simp)).1
  have c1 := (cells_of_heap HXU.out 1 (by simp)).1
  simp only [List.getElem_toArray, List.getElem_cons_zero, List.getElem_cons_succ] at c0 c1
  go_wp2
  clear c0 c1
  go_loopw [8, 16] (fun _ i wr => ∃ j : Nat, j ≤ N ∧ i = .int .i64 j ∧ SetH wr gp (fun c => decide ((c : Int) ∈ z.take j)) ∧ wr.heap[gw + 1]? = some (.cells #[.int .i64 0, .slice none 0 0] 62 (0, 0)) ∧ Below gw w wr) (fun _ i _ => N - (intOf i).toNat)
  case atStart => exact ⟨0, Nat.zero_le _, rfl, HP0.out, HGU.out, HBU.out⟩
  case round =>
    obtain ⟨j, hj, rfl, hp, hgw, hb⟩ := hrel
    have HP := Lib.hid hp
    have HG2 := Lib.hid hgw
    have HB2 := Lib.hid hb
    by_cases hlt' : j < N
    · rcases rd_ints HU.out with ⟨hz0, _⟩ | ⟨b, off, cap, _, hs, hlt, hc⟩
      · exfalso; rw [HNZ.out, hz0] at hlt'; simp at hlt'
      · obtain ⟨hs1, _, _⟩ := by simpa using hs
        subst hs1
        have hjz : j < z.length := by rw [← HNZ.out]; exact hlt'
        have e0 := hc j hjz
        have hin := HZ.out (z.getD j 0) (by rw [List.getD_eq_getElem?_getD, List.getElem?_eq_getElem hjz]; exact List.getElem_mem hjz)
        have htk : z.take (j + 1) = z.take j ++ [z.getD j 0] := by rw [List.take_succ_eq_append_getElem hjz, List.getD_eq_getElem?_getD, List.getElem?_eq_getElem hjz]; rfl
        obtain ⟨y, hy⟩ : ∃ y, y = z.getD j 0 := ⟨_, rfl⟩
        rw [← hy] at e0 hin htk
        obtain ⟨C, rfl⟩ : ∃ C : Nat, y = C := ⟨y.toNat, by omega⟩
        have f0 := (hb.cell (p := ⟨b, off + j, none⟩) (by have := HGW.out; show b < gw; omega)).trans e0
        have hC57 : (C : Int) < 57 := by omega
        have hC57n : C < 57 := by omega
        obtain ⟨ov, s0, s1⟩ : ∃ ov, wr.cell? ⟨gp, C, none⟩ = some (.bool ov) ∧ wr.frozen? ⟨gp, C, none⟩ = false := ⟨_, hp.cell hC57n⟩
        have HP4 := Lib.hid (show SetH (wr.setCell ⟨gp, C, none⟩ (.bool true)) gp (fun c => decide ((c : Int) ∈ z.take (j + 1))) from (HP.out.set (j := C) true).congr (fun c _ => by
          rw [htk]
          by_cases hc : c = C
          · subst hc; simp
          · rw [if_neg hc]
            have : ¬ (c : Int) = (C : Int) := by omega
            simp [this]))
        have HG4 := Lib.hid (show (wr.setCell ⟨gp, C, none⟩ (.bool true)).heap[gw + 1]? = some (.cells #[.int .i64 0, .slice none 0 0] 62 (0, 0)) by rw [heap_setCell_other wr _ _ _ hgn]; exact HG2.out)
        have HB4 := Lib.hid (show Below gw w (wr.setCell ⟨gp, C, none⟩ (.bool true)) from HB2.out.setCell hle _)
        clear hs hc e0 hin htk hy hjz hp hgw hb
        go_wp2
        go_roundw
        case rel => exact ⟨j + 1, by omega, by go_num, HP4.out, HG4.out, HB4.out⟩
        case measure => simp [intOf]; omega
    · obtain rfl : j = N := by omega
      have HP3 := Lib.hid (show SetH wr gp (fun c => decide ((c : Int) ∈ z) || hasC d (c : Int) 0) from HP.out.congr (fun c _ => by rw [HNZ.out, List.take_length]; exact (Bool.or_false _).symm))
      clear hp hgw hb
      go_wp2
      go_loopw [5, 10, 25] (fun m _ i wr => ∃ j : Nat, j ≤ n ∧ i = .int .i64 j ∧ m = .int .i64 (mrM M d j : Nat) ∧ SetH wr gp (fun c => decide ((c : Int) ∈ z) || hasC d (c : Int) j) ∧ wr.heap[gw + 1]? = some (.cells #[.int .i64 0, .slice none 0 0] 62 (0, 0)) ∧ Below gw w wr) (fun _ _ i _ => n - (intOf i).toNat)
      case atStart => exact ⟨0, Nat.zero_le _, rfl, rfl, HP3.out, HG2.out, HB2.out⟩
      case round =>
        obtain ⟨j, hj, rfl, rfl, hp, hgw, hb⟩ := hrel
        have HP := Lib.hid hp
        have HG2 := Lib.hid hgw
        have HB2 := Lib.hid hb
        by_cases hlt' : j < n
        · rcases rd_acs (l := dA d) (by rw [dA_len]; exact HD.out) with ⟨hz0, _⟩ | ⟨b, off, cap, _, hs, hlt, hc⟩
          · exfalso; have h1 := congrArg List.length hz0; rw [dA_len] at h1; rw [HN.out, h1] at hlt'; simp at hlt'
          · obtain ⟨hs1, _, _⟩ := by simpa using hs
            subst hs1
            have hjd : j < d.length := by rw [← HN.out]; exact hlt'
            obtain ⟨e0, e1, e2, e3⟩ := hc j (by rw [dA_len]; exact hjd)
            rw [acD_dA d j hjd] at e0 e1 e2 e3
            have hbd := dwOk_at HDO.out hjd
            have hlo := mrM_lt HMm.out HDO.out j (by omega)
            have hnx : mrM M d (j + 1) = mrM M d j ||| (hdD d j).m.toNat := rfl
            have hnc : ∀ c : Nat, hasC d (c : Int) (j + 1) = (hasC d (c : Int) j || decide ((hdD d j).c = (c : Int))) := fun c => rfl
            obtain ⟨e, he⟩ : ∃ e, e = hdD d j := ⟨_, rfl⟩
            rw [← he] at e0 e1 e2 e3 hbd hnx hnc
            obtain ⟨k0, kk, ca, ma, nn⟩ := e
            simp only [hA] at e0 e1 e2 e3 hbd hnx hnc
            obtain ⟨Mm, rfl⟩ : ∃ M : Nat, ma = M := ⟨ma.toNat, by omega⟩
            obtain ⟨C, rfl⟩ : ∃ C : Nat, ca = C := ⟨ca.toNat, by omega⟩
            rw [Int.toNat_natCast] at hnx
            obtain ⟨q, hq⟩ : ∃ q, q = mrM M d j := ⟨_, rfl⟩
            rw [← hq] at hlo hnx ⊢
            have hor := or_nat q Mm (by omega) (by omega)
            have HQM := Lib.hid hnx
            have HOR := Lib.hid hor
            have HNC := Lib.hid hnc
            have hbg : b < gw := by have := HGW.out; omega
            have f0 := (hb.cell (p := ⟨b, off + j * 4, none⟩) hbg).trans e0
            have f1 := (hb.cell (p := ⟨b, off + j * 4 + 1, none⟩) hbg).trans e1
            have f2 := (hb.cell (p := ⟨b, off + j * 4 + 2, none⟩) hbg).trans e2
            have f3 := (hb.cell (p := ⟨b, off + j * 4 + 3, none⟩) hbg).trans e3
            have hC57 : (C : Int) < 57 := by omega
            have hC57n : C < 57 := by omega
            clear e0 e1 e2 e3 hs hc hq hnx hor hnc hbd hlo hjd he hp hgw hb
            go_upto_region 11 with (fail)
            obtain ⟨U2, hU2⟩ : ∃ U, U = wr.alloc (.cells #[.int .i64 2, .int .i64 C, .int .i64 Mm, .int .i64 0] 203) := ⟨_, rfl⟩
            obtain ⟨g, hg⟩ : ∃ g, g = wr.heap.size := ⟨_, rfl⟩
            have hbx : Bxd U2 g [.int .i64 2, .int .i64 C, .int .i64 Mm, .int .i64 0] := by rw [hU2, hg]; exact Bxd.new _ _ _
            have hgpl : gp < wr.heap.size := HP.out.lt
            have HP3 := Lib.hid (show SetH U2 gp (fun c => decide ((c : Int) ∈ z) || hasC d (c : Int) j) from HP.out.block (by rw [hU2]; exact heap_alloc_old wr _ hgpl))
            have HG3 := Lib.hid (show U2.heap[gw + 1]? = some (.cells #[.int .i64 0, .slice none 0 0] 62 (0, 0)) by rw [hU2, heap_alloc_old wr _ (by omega)]; exact HG2.out)
            have HB3 := Lib.hid (show Below gw w U2 by rw [hU2]; exact HB2.out.alloc (by omega) _)
            have hggp : ¬ g = gp := by rw [hg]; omega
            rw [← hU2, ← hg]
            have HXU2 := Lib.hid hbx
            clear hU2 hg hbx hgpl f0 f1 f2 f3
            have a1 := HXU2.out.at 1 _ rfl
            have a2 := HXU2.out.at 2 _ rfl
            obtain ⟨ov, s0, s1⟩ : ∃ ov, U2.cell? ⟨gp, C, none⟩ = some (.bool ov) ∧ U2.frozen? ⟨gp, C, none⟩ = false := ⟨_, HP3.out.cell hC57n⟩
            have HP4 := Lib.hid (show SetH (U2.setCell ⟨gp, C, none⟩ (.bool true)) gp (fun c => decide ((c : Int) ∈ z) || hasC d (c : Int) (j + 1)) from (HP3.out.set (j := C) true).congr (fun c _ => by
              rw [HNC.out]
              by_cases hc : c = C
              · subst hc; simp
              · have h9 : decide ((C : Int) = (c : Int)) = false := decide_eq_false (by omega)
                rw [if_neg hc, h9, Bool.or_false]))
            have HG4 := Lib.hid (show (U2.setCell ⟨gp, C, none⟩ (.bool true)).heap[gw + 1]? = some (.cells #[.int .i64 0, .slice none 0 0] 62 (0, 0)) by rw [heap_setCell_other U2 _ _ _ hgn]; exact HG3.out)
            have HB4 := Lib.hid (show Below gw w (U2.setCell ⟨gp, C, none⟩ (.bool true)) from HB3.out.setCell hle _)
            go_wp2
            go_roundw
            case rel => exact ⟨j + 1, by omega, by go_num, by rw [HQM.out, ← HOR.out], HP4.out, HG4.out, HB4.out⟩
            case measure => simp [intOf]; omega
        · obtain rfl : j = n := by omega
          obtain ⟨Q, hQ⟩ : ∃ Q, Q = mrM M d j := ⟨_, rfl⟩
          rw [← hQ]
          have HQ2 := Lib.hid (show rm = Q by rw [HRm.out, ← HN.out, hQ])
          obtain ⟨CS, hh, hsz, hcs⟩ := hp
          have hi : (Try.prog.info? 214).map (·.size) = some CS.size := by rw [hsz]; exact iSet
          have HCS := Lib.hid hcs
          have HSZ := Lib.hid hsz
          have hgs : gw + 1 < wr.heap.size := (Array.getElem?_eq_some_iff.mp hgw).1
          have HGS := Lib.hid hgs
          clear hQ hcs hsz hgw hb hgs
          go_wp2_with (refine wpList_load_row rfl 214 _ rfl gp rfl 214 CS (0, 0) _ hh tySet rfl hi ?_)
          clear hi hh
          go_wp2_with fail
          refine (ascending_any (fun c => decide ((c : Int) ∈ z) || hasC d (c : Int) j) CS HSZ.out HCS.out _).mono ?_
          rintro e w2 ⟨a, c, fp, rfl, ho, hb⟩
          have hK2 : ascN (fun c => decide ((c : Int) ∈ z) || hasC d (c : Int) j) 56 = rk := by rw [HRk.out, ← ascN_mrK z d 56, ← HN.out]
          rw [hK2] at ho ⊢
          have HO := Lib.hid ho
          have HG5 := Lib.hid ((hb.block (gw + 1) HGS.out).trans HG2.out)
          have HB5 := Lib.hid (HB2.out.trans (hb.mono (by have := HGS.out; omega)))
          have hrng := ho.rng
          have HFP := Lib.hid (show gw + 1 ∉ fp from fun hm => by have := (hrng (gw + 1) hm).1; have := HGS.out; omega)
          clear ho hb hK2 hrng
          obtain ⟨NK, hNK⟩ : ∃ N, N = rk.length := ⟨_, rfl⟩
          rw [← hNK]
          have HNk := Lib.hid hNK
          clear hNK
          obtain ⟨y0, q0⟩ := cells_of_heap HG5.out 0 (by simp)
          obtain ⟨y1, q1⟩ := cells_of_heap HG5.out 1 (by simp)
          go_wp2
          clear y0 q0 y1 q1
          obtain ⟨wf, hwf⟩ : ∃ x, x = putW (w2) (gw + 1) 0 [.int .i64 Q, .slice a NK c] := ⟨_, rfl⟩
          have kf := putW_all [.int .i64 Q, .slice a NK c] HG5.out rfl
          have bf := putW_below (b := gw + 1) (by first | omega | simp) [.int .i64 Q, .slice a NK c] 0 _ HB5.out
          have of := (show OwC (putW w2 (gw + 1) 0 [.int .i64 Q, .slice a NK c]) gw (.row [.int .i64]) (.slice a NK c) (.row (ones rk)) fp from OwC.putAt (OwC.base _ _ _ _ (by rw [HNk.out]; exact HO.out) (by have := HGS.out; omega)) _ HFP.out 0)
          rw [← hwf] at kf bf of
          have cf := hwf.symm
          simp only [putW, Nat.reduceAdd] at cf
          rw [cf]
          clear cf hwf
          have f0 := (cells_of_heap kf 0 (by simp)).1
          have f1 := (cells_of_heap kf 1 (by simp)).1
          simp only [List.getElem_toArray, List.getElem_cons_zero, List.getElem_cons_succ] at f0 f1
          refine bodyPost_ret (v := rpv Q (.slice a NK c)) (by simp [results, Try.results106, go_sem, f0, f1]) rfl ⟨a, c, fp, by rw [HQ2.out, HNk.out], by rw [← HGW.out, ← HNk.out]; exact of, by rw [← HGW.out]; exact bf⟩
end Go.Proofs.Yteljmfdlegohbaa

namespace Go.Proofs.Yteljmfdlegohbaa
open Go.RowKit

/-- Reports in memory of the caller's own, however long the row's block is. -/
def MrI (L : List Rv) (w : World) (e : Ending) (w' : World) : Prop := ∃ a c fp, e = .returned (.slice a L.length c) ∧ OwZ rpF w' w.heap.size 1 (.slice a L.length c) L fp ∧ Below w.heap.size w w'
theorem owC_nodup {w : World} {B : Nat} {k : IntKind} {v : Value} {c : Ce} {fp : List Nat} (h : OwC w B (.row [.int k]) v c fp) : fp.Nodup := by
  obtain ⟨rs, _, _, h⟩ := OwC.rowInv h
  rcases h with ⟨_, _, rfl⟩ | ⟨g, cap, cur, t, fps, _, _, _, _, rfl, hl, ho⟩
  · exact List.nodup_nil
  · have : fps.flatten = [] := by
      rw [List.flatten_eq_nil_iff]
      intro p hp
      obtain ⟨i, hi, rfl⟩ := List.getElem_of_mem hp
      have := ho i (by omega) hi
      rw [OwL] at this
      obtain ⟨v1, vs', c1, cs', f, f', _, _, hf, h1, h2⟩ := this
      rw [OwL] at h2
      rw [hf, (OwC.intInv h1).1, h2.2.2]; rfl
    rw [this]; simp
/-- The reports that are made so far: the row has n places, the first ones hold the reports L. -/
structure RpB (w : World) (B g n : Nat) (us : List Value) (L : List Rv) (fps : List (List Nat)) : Prop where
  own : ∃ xs, w.ownsRow B 62 2 (.slice (some ⟨g, 0, none⟩) n n) n xs ∧ xs.take (L.length * 2) = pC rpF L us
  ulen : us.length = L.length
  len : fps.length = L.length
  row : ∀ j, j < L.length → OwC w B (.row [.int .i64]) (uD us j) (.row (ones (qD L j).2)) (fD fps j)
  nd : (g :: fps.flatten).Nodup
theorem RpB.rng {w : World} {B g n : Nat} {us : List Value} {L : List Rv} {fps : List (List Nat)} (h : RpB w B g n us L fps) : ∀ b ∈ g :: fps.flatten, B ≤ b ∧ b < w.heap.size := by
  intro b hb
  rcases List.mem_cons.1 hb with rfl | h1
  · obtain ⟨xs, ho, _⟩ := h.own
    exact ho.lt b (by simp [Value.ownBlock])
  · obtain ⟨j, hj, hm⟩ := of_mem_flatten h1
    exact (h.row j (by rw [← h.len]; exact hj)).rng b hm
theorem RpB.below {w w' : World} {B g n : Nat} {us : List Value} {L : List Rv} {fps : List (List Nat)} (h : RpB w B g n us L fps) (hb : Below w.heap.size w w') : RpB w' B g n us L fps :=
  ⟨by obtain ⟨xs, ho, hx⟩ := h.own; exact ⟨xs, owns_below ho hb, hx⟩, h.ulen, h.len, fun j hj => (h.row j hj).below hb, h.nd⟩
theorem RpB.start {w : World} {B g n : Nat} {xs : List Value} (h : w.ownsRow B 62 2 (.slice (some ⟨g, 0, none⟩) n n) n xs) : RpB w B g n [] [] [] :=
  ⟨⟨xs, h, rfl⟩, rfl, rfl, fun j hj => absurd hj (Nat.not_lt_zero _), by simp⟩
theorem RpB.done {w : World} {B g : Nat} {us : List Value} {L : List Rv} {fps : List (List Nat)} (h : RpB w B g L.length us L fps) : OwZ rpF w B 1 (.slice (some ⟨g, 0, none⟩) L.length L.length) L (g :: fps.flatten) := by
  obtain ⟨xs, ho, hx⟩ := h.own
  rw [List.take_of_length_le (by rw [ho.1]; exact Nat.le_refl _)] at hx
  subst hx
  have e : ownFp (.slice (some ⟨g, 0, none⟩) L.length L.length) = [g] := by simp [ownFp, Value.ownBlock]
  exact ⟨us, fps, ⟨lowRow_of ho, h.ulen, h.len, h.row, by rw [e]; exact h.nd⟩, by rw [e]; rfl⟩
/-- The next report is stored. -/
theorem RpB.push {w : World} {B S g n : Nat} {us : List Value} {L : List Rv} {fps : List (List Nat)} {r : Int} {z : List Int} {u : Value} {fq : List Nat} (h : RpB w B g n us L fps) (hlt : L.length < n) (hB : B ≤ S) (hS : ∀ b ∈ g :: fps.flatten, b < S) (hu : OwC w S (.row [.int .i64]) u (.row (ones z)) fq) :
    RpB (putW w g (L.length * 2) [.int .i64 r, u]) B g n (us ++ [u]) (L ++ [(r, z)]) (fps ++ [fq]) := by
  have hq : ∀ b ∈ fq, b ∉ g :: fps.flatten := fun b hb hm => by have := (hu.rng b hb).1; have := hS b hm; omega
  have hnd := List.nodup_cons.1 h.nd
  refine ⟨?_, by simp [h.ulen], by simp [h.len], ?_, ?_⟩
  · obtain ⟨xs, ho, hx⟩ := h.own
    have hl : xs.length = n * 2 := ho.1
    refine ⟨_, owns_put ho (L.length * 2) [.int .i64 r, u] (by simp; omega), ?_⟩
    rw [pC_snoc L us (r, z) u h.ulen, ← hx, List.length_append, List.length_singleton]
    have hp : (xs.take (L.length * 2) ++ [Value.int .i64 r, u]).length = (L.length + 1) * 2 := by
      rw [List.length_append, List.length_take, Nat.min_eq_left (by omega)]; simp; omega
    rw [← hp, List.take_left]; rfl
  · intro j hj
    rw [qD_snoc, fD_snoc, uD_snoc, h.len, h.ulen]
    by_cases hjl : j < L.length
    · rw [if_pos hjl, if_pos hjl, if_pos hjl]
      exact OwC.putAt (h.row j hjl) _ (fun hm => hnd.1 (mem_fD hm)) _
    · have : j = L.length := by simp at hj; omega
      subst this
      rw [if_neg hjl, if_neg hjl, if_neg hjl, if_pos rfl, if_pos rfl, if_pos rfl]
      exact OwC.putAt (OwC.base _ _ _ _ hu hB) _ (fun hm => hq g hm List.mem_cons_self) _
  · have := nodup_flat_snoc (A := [g]) (F := fps) (p := fq) (by simpa using h.nd) (owC_nodup hu) (fun b hb hm => hq b hb (by simpa using hm))
    simpa using this

/-- The reports of the stacks. -/
theorem mrN_get (l : List Hd) (s : List St) : ∀ m, ∃ D : List (List Hd), (∀ d ∈ D, ∃ j, j < m ∧ (d = dwN s j ∨ d = dwN s j ++ [stA (stD s j)] ∨ d = (dwN s j).eraseIdx (fiH (dwN s j) (stD s j)))) ∧ skN s m = D.map dA ∧ mrN l s m = D.map (mrV l)
  | 0 => ⟨[], by simp, rfl, rfl⟩
  | m + 1 => by
    obtain ⟨D, h1, h2, h3⟩ := mrN_get l s m
    have key : ∀ E : List (List Hd), (∀ d ∈ E, d = dwN s m ∨ d = dwN s m ++ [stA (stD s m)] ∨ d = (dwN s m).eraseIdx (fiH (dwN s m) (stD s m))) → skX (dwN s m) (stD s m) = E.map dA → mrX l (dwN s m) (stD s m) = E.map (mrV l) → ∃ D : List (List Hd), (∀ d ∈ D, ∃ j, j < m + 1 ∧ (d = dwN s j ∨ d = dwN s j ++ [stA (stD s j)] ∨ d = (dwN s j).eraseIdx (fiH (dwN s j) (stD s j)))) ∧ skN s (m + 1) = D.map dA ∧ mrN l s (m + 1) = D.map (mrV l) := fun E e1 e2 e3 => by
      refine ⟨D ++ E, fun d hd => ?_, by rw [skN, h2, e2, List.map_append], by rw [mrN, h3, e3, List.map_append]⟩
      rcases List.mem_append.1 hd with hd | hd
      · obtain ⟨j, hj, h⟩ := h1 d hd
        exact ⟨j, by omega, h⟩
      · exact ⟨m, by omega, e1 d hd⟩
    by_cases k0 : (stD s m).k = 0
    · refine key [dwN s m ++ [stA (stD s m)], dwN s m] (fun d hd => ?_) (by rw [skX, if_pos k0]; rfl) (by rw [mrX, if_pos k0]; rfl)
      rcases List.mem_cons.1 hd with rfl | hd
      · exact .inr (.inl rfl)
      · exact .inl (List.mem_singleton.1 hd)
    · by_cases k1 : (stD s m).k = 1
      · exact key [dwN s m ++ [stA (stD s m)]] (fun d hd => .inr (.inl (List.mem_singleton.1 hd))) (by rw [skX, if_neg k0, if_pos k1]; rfl) (by rw [mrX, if_neg k0, if_pos k1]; rfl)
      · exact key [(dwN s m).eraseIdx (fiH (dwN s m) (stD s m))] (fun d hd => .inr (.inr (List.mem_singleton.1 hd))) (by rw [skX, if_neg k0, if_neg k1]; rfl) (by rw [mrX, if_neg k0, if_neg k1]; rfl)
theorem rofK_in {l : List Hd} (h : okHd l = true) : ∀ x ∈ rofK l, 1 ≤ x ∧ x ≤ 56 := fun x hx => by
  rw [rofK, if_pos h] at hx
  exact codesN_mem l 56 x hx
theorem map_lD {α β : Type} (f : List α → β) (D : List (List α)) (j : Nat) (h : j < D.length) (x : β) : (D.map f).getD j x = f (lD D j) := by
  rw [lD, List.getD_eq_getElem?_getD, List.getD_eq_getElem?_getD, List.getElem?_map, List.getElem?_eq_getElem h]; rfl

/-- Reports in memory of the caller's own, that more can be appended to. -/
def MrIP (L : List Rv) (w : World) (e : Ending) (w' : World) : Prop := ∃ a c fp, e = .returned (.slice a L.length c) ∧ OwP rpF w' w.heap.size 62 1 (.slice a L.length c) L fp ∧ Below w.heap.size w w'
theorem RpB.doneP {w : World} {B g : Nat} {us : List Value} {L : List Rv} {fps : List (List Nat)} (h : RpB w B g L.length us L fps) : OwP rpF w B 62 1 (.slice (some ⟨g, 0, none⟩) L.length L.length) L (g :: fps.flatten) := by
  obtain ⟨xs, ho, hx⟩ := h.own
  rw [List.take_of_length_le (by rw [ho.1]; exact Nat.le_refl _)] at hx
  subst hx
  have e : ownFp (.slice (some ⟨g, 0, none⟩) L.length L.length) = [g] := by simp [ownFp, Value.ownBlock]
  exact ⟨us, fps, ⟨ho, h.ulen, h.len, h.row, by rw [e]; exact h.nd⟩, by rw [e]; rfl⟩
set_option maxRecDepth 100000 in
set_option maxHeartbeats 8000000 in
theorem implMacroReports_p (v vs : Value) (l : List Hd) (s : List St) (w : World) (hl : l.length ≤ maxLen) (hs : s.length ≤ maxLen) (h : RdN w v l.length (flatHd l)) (h2 : RdN w vs s.length (flatSt s)) :
    Calls Try.prog 35 #[v, vs] w (MrIP (mrP l s) w) := by
  obtain ⟨iR, hi, hz0, hz1, hz2⟩ := info_parts info_rp
  obtain ⟨X, hX⟩ : ∃ X, X = mrP l s := ⟨_, rfl⟩
  rw [← hX]
  obtain ⟨O1, hO1⟩ : ∃ O1, O1 = okHd l := ⟨_, rfl⟩
  obtain ⟨O2, hO2⟩ : ∃ O2, O2 = okMc s := ⟨_, rfl⟩
  have hX' := hX
  rw [mrP, ← hO1, ← hO2] at hX'
  have HX := Lib.hid hX'
  have HO1 := Lib.hid hO1
  have HO2 := Lib.hid hO2
  have H1 := Lib.hid h
  have H2 := Lib.hid h2
  have HL := Lib.hid hl
  have HSL := Lib.hid hs
  have hno : ∀ w', Below w.heap.size w w' → X = [] → MrIP X w (.returned (.slice none 0 0)) w' := fun w' hb hx => by
    subst hx
    exact ⟨none, 0, [], rfl, ⟨[], [], ⟨⟨rfl, .inl ⟨rfl, rfl⟩⟩, rfl, rfl, fun j hj => absurd hj (Nat.not_lt_zero _), by simp [ownFp, Value.ownBlock]⟩, by simp [ownFp, Value.ownBlock]⟩, hb⟩
  have HNO := Lib.hid hno
  clear hX hX' hO1 hO2 h h2 hl hs hno
  go_enter Try.func35, Try.ntmps35
  go_wp2_with fail
  refine (followMacro_any vs s _ HSL.out H2.out).mono ?_
  rintro e w1 ⟨u, rfl, hru, hb⟩
  rw [← HO2.out] at hru ⊢
  have HRU := Lib.hid hru
  have HB1 := Lib.hid hb
  clear hru hb
  cases O2
  · have hx : X = [] := by rw [HX.out, Bool.and_false]; rfl
    go_wp2
    go_ret
    exact HNO.out _ HB1.out hx
  · go_wp2_with fail
    refine (implIsHeld_q v l O1 HO1.out _ HL.out (H1.out.below HB1.out)).mono ?_
    rintro e w2 ⟨rfl, hb⟩
    have HB2 := Lib.hid (HB1.out.trans (hb.mono HB1.out.size))
    have HRU2 := Lib.hid ((HRU.out (by first | rfl | trivial)).below hb)
    clear hb
    cases O1
    · have hx : X = [] := by rw [HX.out]; rfl
      go_wp2
      go_ret
      exact HNO.out _ HB2.out hx
    · have hX1 : X = mrN l s s.length := by rw [HX.out, Bool.and_self, if_pos rfl]
      have hX2 : X = mrP l s := by rw [mrP, ← HO1.out, ← HO2.out, Bool.and_self, if_pos rfl]; exact hX1
      have hX16 := mrP_len_any l s
      rw [← hX2] at hX16
      obtain ⟨D, hD1, hD2, hD3⟩ := mrN_get l s s.length
      have hmc := okMc_at HO2.out.symm
      have hpre : ∀ j, j ≤ s.length → mcN s j = true := mcN_pre (by have := HO2.out.symm; rw [okMc, Bool.and_eq_true] at this; exact this.1)
      have hdd : ∀ d ∈ D, DwOk d ∧ d.length ≤ 16 := fun d hd => by
        obtain ⟨j, hj, h⟩ := hD1 d hd
        have hok := dwOk_dw (hpre j (Nat.le_of_lt hj))
        have hlen := dwN_len s j
        have h8 := hmc.1
        rcases h with rfl | rfl | rfl
        · exact ⟨hok, by omega⟩
        · exact ⟨dwOk_snoc hok (hmc.2.2 j hj), by rw [List.length_append, List.length_singleton]; omega⟩
        · exact ⟨dwOk_erase hok _, by have := List.length_eraseIdx_le (dwN s j) (fiH (dwN s j) (stD s j)); omega⟩
      obtain ⟨m, hm⟩ : ∃ m, m = D.length := ⟨_, rfl⟩
      have hXm : X.length = m := by rw [hX1, hD3, List.length_map, hm]
      have hXD : X = D.map (mrV l) := by rw [hX1, hD3]
      have hru := HRU2.out
      rw [hD2] at hru
      have hm16 : m ≤ 16 := by omega
      have HOk := Lib.hid HO1.out.symm
      have HDd := Lib.hid hdd
      have HM := Lib.hid hm
      have HXm := Lib.hid hXm
      have HXD := Lib.hid hXD
      have HR3 := Lib.hid hru
      clear hX1 hX2 hX16 hD1 hD2 hD3 hmc hpre hdd hm hXm hXD hru HRU HRU2
      obtain ⟨ua, uc, rfl⟩ : ∃ a c, u = .slice a m c := by
        obtain ⟨us, hul, ⟨a, c, rfl, _⟩, _⟩ := HR3.out
        exact ⟨a, c, by rw [hul, List.length_map, HM.out]⟩
      go_wp2_with fail
      refine (implReportOf_any v l _ HL.out (H1.out.below HB2.out)).mono ?_
      rintro e w3 ⟨ra, rc, rfp, rfl, hro, hb⟩
      obtain ⟨Mr, hMr⟩ : ∃ x, x = rofM l := ⟨_, rfl⟩
      obtain ⟨Z, hZ⟩ : ∃ x, x = rofK l := ⟨_, rfl⟩
      rw [← hZ] at hro
      rw [← hMr, ← hZ]
      have HMr := Lib.hid hMr
      have HZ := Lib.hid hZ
      obtain ⟨NZ, hNZ⟩ : ∃ x, x = Z.length := ⟨_, rfl⟩
      have HNZ := Lib.hid hNZ
      rw [← hNZ] at hro ⊢
      have HB3 := Lib.hid (HB2.out.trans (hb.mono HB2.out.size))
      have HR4 := Lib.hid (HR3.out.below hb)
      have HRo := Lib.hid (owC_rd hro)
      clear hb hro hMr hZ hNZ HR3
      go_upto_region 5 with (fail)
      obtain ⟨W4, hW4⟩ : ∃ x, x = w3.alloc (.cells #[.int .i64 Mr, .slice ra NZ rc] 62) := ⟨_, rfl⟩
      obtain ⟨gr, hgr⟩ : ∃ x, x = w3.heap.size := ⟨_, rfl⟩
      have hb4 : Below w3.heap.size w3 W4 := by rw [hW4]; exact below_alloc1 _ _
      have HG4 := Lib.hid (show W4.heap[gr]? = some (.cells #[.int .i64 Mr, .slice ra NZ rc] 62 (0, 0)) by rw [hW4, hgr]; exact heap_alloc_new _ _)
      have HB4 := Lib.hid (HB3.out.trans (hb4.mono HB3.out.size))
      have HR5 := Lib.hid (HR4.out.below hb4)
      have HRo4 := Lib.hid (HRo.out.below hb4)
      rw [← hW4, ← hgr]
      clear hW4 hgr hb4 HR4 HRo
      go_wp2_with (at_make; refine wpList_make_full _ rfl _ _ 50 rfl W4.heap.size 62 iR (.agg #[.int .i64 0, .slice none 0 0]) 2 Try.underlying50 hi hz0 hz1 .i64 .i64 _ _ m rfl rfl rfl rfl (by rw [hz2]; omega) ?_ ?_ ?_)
      · unfold maxLen; omega
      · exact Nat.le_refl _
      · intro w5 hown hg
        have hb5 : Below W4.heap.size W4 w5 := (Below.refl _ _).grown hg (Nat.le_refl _) (fun k hk => by cases hk)
        have hgl : gr < W4.heap.size := (Array.getElem?_eq_some_iff.mp HG4.out).1
        obtain ⟨go, hgo⟩ : ∃ x, x = W4.heap.size := ⟨_, rfl⟩
        rw [← hgo] at hown hgl hb5 ⊢
        have HGO := Lib.hid hgo
        have HQ5 := Lib.hid (RpB.start hown)
        have HB5 := Lib.hid hb5
        clear hown hg hb5 hgo
        go_wp2
        go_loopw [9, 10, 30] (fun _ _ i wr => ∃ (j : Nat) (us : List Value) (fps : List (List Nat)), j ≤ m ∧ i = .int .i64 j ∧ RpB wr go go m us (X.take j) fps ∧ Below go W4 wr) (fun _ _ i _ => m - (intOf i).toNat)
        case atStart => exact ⟨0, [], [], Nat.zero_le _, rfl, HQ5.out, HB5.out⟩
        case round =>
          obtain ⟨j, us, fps, hj, rfl, hq, hb⟩ := hrel
          by_cases hlt' : j < m
          · have hjD : j < D.length := by rw [← HM.out]; exact hlt'
            have hbW : Below W4.heap.size W4 wr := by rw [← HGO.out]; exact hb
            obtain ⟨u2, hul, hrd, hrows⟩ := HR5.out
            have hdl := hrows j (by rw [List.length_map]; exact hjD)
            have hlD : lD (D.map dA) j = dA (lD D j) := by rw [lD]; exact map_lD dA D j hjD []
            rw [hlD, dA_len] at hdl
            have hdd := HDd.out (lD D j) (by rw [lD, List.getD_eq_getElem?_getD, List.getElem?_eq_getElem hjD]; exact List.getElem_mem hjD)
            have hXj : X.take (j + 1) = X.take j ++ [(((mrM Mr (lD D j) (lD D j).length : Nat) : Int), mrK Z (lD D j) 56)] := by
              have hjX : j < X.length := by rw [HXm.out]; exact hlt'
              rw [List.take_succ_eq_append_getElem hjX]
              have : X[j] = mrV l (lD D j) := by
                have h9 := map_lD (α := Hd) (mrV l) D j hjD ((0 : Int), ([] : List Int))
                rw [← HXD.out, List.getD_eq_getElem?_getD, List.getElem?_eq_getElem hjX] at h9
                exact h9
              rw [this, mrV, HMr.out, HZ.out]
            have hXl : (X.take j).length = j := by rw [List.length_take, HXm.out]; omega
            obtain ⟨d, hd⟩ : ∃ d, d = lD D j := ⟨_, rfl⟩
            rw [← hd] at hdl hdd hXj
            rcases hrd.cases with ⟨hz, _⟩ | ⟨_, b, o, cap, hv, hblt, hcell⟩
            · rw [hz, List.length_map] at hul; simp at hul; omega
            · simp only [Value.slice.injEq] at hv
              obtain ⟨rfl, -, -⟩ := hv
              have hju : j < u2.length := by rw [hul, List.length_map]; exact hjD
              have huc : wr.cell? ⟨b, o + j, none⟩ = some (uD u2 j) := by
                rw [hbW.cell (p := ⟨b, o + j, none⟩) hblt, hcell j hju, uD, List.getD_eq_getElem?_getD, List.getElem?_eq_getElem hju]; rfl
              obtain ⟨vd, hvd⟩ : ∃ x, x = uD u2 j := ⟨_, rfl⟩
              rw [← hvd] at hdl huc
              obtain ⟨da, dc, rfl⟩ := RdN.shape hdl
              have HVD := Lib.hid (hdl.below hbW)
              have HDl := Lib.hid hdd
              have HXj := Lib.hid hXj
              have HXl := Lib.hid hXl
              have HQ := Lib.hid hq
              have HB := Lib.hid hb
              have HG := Lib.hid ((hbW.block gr (by rw [← HGO.out]; exact hgl)).trans HG4.out)
              obtain ⟨nd, hnd⟩ : ∃ x, x = d.length := ⟨_, rfl⟩
              have HND := Lib.hid hnd
              rw [← hnd] at huc
              have c0 := (cells_of_heap HG.out 0 (by simp)).1
              have c1 := (cells_of_heap HG.out 1 (by simp)).1
              simp only [List.getElem_toArray, List.getElem_cons_zero, List.getElem_cons_succ] at c0 c1
              have hjm : (j : Int) < (m : Int) := by omega
              clear hjD hul hrd hrows hdl hlD hdd hXj hXl hd hblt hcell hju hvd hq hb hbW hnd
              go_wp2_with fail
              refine (withPresses_any Mr (.slice ra NZ rc) (.slice da nd dc) Z d _ (by rw [HMr.out]; exact rofM_lt HOk.out) (by rw [HZ.out]; exact rofK_len l) (by rw [HZ.out]; exact rofK_in HOk.out) (HRo4.out.below (by rw [← HGO.out]; exact HB.out)) HDl.out.2 HDl.out.1 (by rw [HND.out]; exact HVD.out)).mono ?_
              rintro e w6 ⟨a6, c6, f6, rfl, ho6, hb6⟩
              obtain ⟨zz, hzz⟩ : ∃ x, x = mrK Z d 56 := ⟨_, rfl⟩
              obtain ⟨rr, hrr⟩ : ∃ x, x = mrM Mr d d.length := ⟨_, rfl⟩
              rw [← hzz] at ho6 ⊢
              rw [← hrr]
              have HXj2 := Lib.hid (show X.take (j + 1) = X.take j ++ [((rr : Int), zz)] by rw [HXj.out, hrr, hzz])
              obtain ⟨nz, hnz⟩ : ∃ x, x = zz.length := ⟨_, rfl⟩
              rw [← hnz] at ho6 ⊢
              have HQ6 := Lib.hid (HQ.out.below hb6)
              have HBW6 := Lib.hid (show Below go W4 w6 from HB.out.trans (hb6.mono (by rw [HGO.out]; exact HB.out.size)))
              have HO6 := Lib.hid ho6
              have hqr := HQ.out.rng
              have HRG := Lib.hid hqr
              have HSz := Lib.hid (show go ≤ wr.heap.size by rw [HGO.out]; exact HB.out.size)
              obtain ⟨xs6, hx6, _⟩ := HQ6.out.own
              obtain ⟨p0, p1⟩ := owns_place hx6 (j * 2) (by omega)
              obtain ⟨p2, p3⟩ := owns_place hx6 (j * 2 + 1) (by omega)
              obtain ⟨y0, p0⟩ := Option.isSome_iff_exists.1 p0
              obtain ⟨y1, p2⟩ := Option.isSome_iff_exists.1 p2
              clear hzz hrr hnz ho6 hb6 hqr hx6 c0 c1 huc
              go_wp2
              clear p0 p1 p2 p3
              obtain ⟨W7, eW7⟩ : ∃ x, x = putW w6 go (j * 2) [.int .i64 rr, .slice a6 nz c6] := ⟨_, rfl⟩
              have cW7 := eW7.symm
              simp only [putW] at cW7
              rw [cW7]
              clear cW7
              have HQ7 := Lib.hid (show RpB W7 go go m (us ++ [.slice a6 nz c6]) (X.take (j + 1)) (fps ++ [f6]) from by
                have h9 := HQ6.out.push (S := wr.heap.size) (r := rr) (by rw [HXl.out]; exact hlt') HSz.out (fun b hb => (HRG.out b hb).2) HO6.out
                rw [HXl.out, ← HXj2.out, ← eW7] at h9
                exact h9)
              have HB7 := Lib.hid (show Below go W4 W7 from by rw [eW7]; exact putW_below (Nat.le_refl go) _ _ _ HBW6.out)
              clear eW7
              go_roundw
              case rel => exact ⟨j + 1, _, _, by omega, by go_num, HQ7.out, HB7.out⟩
              case measure => simp [intOf]; omega
          · obtain rfl : j = m := by omega
            have hXt : X.take j = X := List.take_of_length_le (by rw [HXm.out]; exact Nat.le_refl _)
            rw [hXt] at hq
            have hq2 : RpB wr go go X.length us X fps := by rw [HXm.out]; exact hq
            have HQ := Lib.hid (hq2.doneP)
            have HB := Lib.hid (show Below w.heap.size w wr from HB4.out.trans (show Below w.heap.size W4 wr from hb.mono (by rw [HGO.out]; exact HB4.out.size)))
            have HXm2 := Lib.hid HXm.out.symm
            clear hq hq2 hXt hb
            go_wp2
            go_ret
            exact ⟨some ⟨go, 0, none⟩, j, _, by rw [← HXm2.out]; rfl, by have h9 := HQ.out.base (B := w.heap.size) (by rw [HGO.out]; exact HB4.out.size); rw [← HXm2.out] at h9 ⊢; exact h9, HB.out⟩
theorem implMacroReports_any (v vs : Value) (l : List Hd) (s : List St) (w : World) (hl : l.length ≤ maxLen) (hs : s.length ≤ maxLen) (h : RdN w v l.length (flatHd l)) (h2 : RdN w vs s.length (flatSt s)) :
    Calls Try.prog 35 #[v, vs] w (MrI (mrP l s) w) := by
  refine (implMacroReports_p v vs l s w hl hs h h2).mono ?_
  rintro e w' ⟨a, c, fp, rfl, ho, hb⟩
  exact ⟨a, c, fp, rfl, ho.low, hb⟩

end Go.Proofs.Yteljmfdlegohbaa
