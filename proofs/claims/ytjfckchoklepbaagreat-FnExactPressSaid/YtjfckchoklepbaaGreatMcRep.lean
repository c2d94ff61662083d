/- DERIVED. The reference's l8Report: the report of held keys and of what a macro presses beside. · The steps of the reference's MacroReports on its two lists: a report is appended to the reports, a held key to what is down. No condition. · The reference's MacroReports: the reports of a macro that is played while keys are held. -/
import Derived.Test.YtjfckchoklepbaaGreatMcSpec
import Derived.Test.YtjfckchoklepbaaGreatMcMath
import Derived.StillTailTactics
import Derived.Test.YtjfckchoklepbaaGreatOwnBase
namespace Go.Proofs.YtjfckchoklepbaaGreat
open Go.RowKit

/-- One of the first q codes is c. -/
def hasZ (z : List Int) (c : Int) : Nat → Bool
  | 0 => false
  | q + 1 => hasZ z c q || decide (z.getD q 0 = c)
theorem hasZ_ex {z : List Int} {c : Int} : ∀ n, n ≤ z.length → (hasZ z c n = true ↔ c ∈ z.take n)
  | 0, _ => by simp [hasZ]
  | n + 1, h => by
    rw [hasZ, Bool.or_eq_true, hasZ_ex n (by omega), decide_eq_true_eq, List.take_succ_eq_append_getElem (by omega : n < z.length), List.mem_append, List.mem_singleton, List.getD_eq_getElem?_getD, List.getElem?_eq_getElem (by omega : n < z.length)]
    exact ⟨fun h => h.elim .inl (fun e => .inr e.symm), fun h => h.elim .inl (fun e => .inr e.symm)⟩
theorem hasZ_all (z : List Int) (c : Int) : hasZ z c z.length = decide (c ∈ z) := by
  have := hasZ_ex (z := z) (c := c) z.length (Nat.le_refl _)
  rw [List.take_length] at this
  rcases hc : hasZ z c z.length with _ | _
  · exact (decide_eq_false fun hm => by rw [this.mpr hm] at hc; exact absurd hc (by decide)).symm
  · exact (decide_eq_true (this.mp hc)).symm

set_option maxRecDepth 100000 in
set_option maxHeartbeats 8000000 in
theorem specL8Report_any (v vd : Value) (l d : List Hd) (w : World) (hl : l.length ≤ maxLen) (hd : d.length ≤ 1048576) (hok : okHd l = true) (hdo : DwOk d) (h : RdN w v l.length (flatHd l)) (h2 : RdN w vd d.length (flatHd d)) :
    Calls Tryz.prog 175 #[v, vd] w (RpV (mrV l d).1 (mrV l d).2 w) := by
  obtain ⟨i0, hi, hz0, hz1, hz2⟩ := info_parts info_int
  obtain ⟨da, dc, rfl⟩ := RdN.shape h2
  obtain ⟨Z, hZ⟩ : ∃ Z, Z = rofK l := ⟨_, rfl⟩
  obtain ⟨R, hR⟩ : ∃ R, R = rofM l := ⟨_, rfl⟩
  have hR4 : R < 2 ^ 4 := by rw [hR]; exact rofM_lt hok
  have hZ56 : Z.length ≤ 56 := by rw [hZ, rofK, if_pos hok]; exact codesN_len l 56
  have hmv : mrV l d = (((mrM R d d.length : Nat) : Int), mrK Z d 56) := by rw [mrV, hZ, hR]
  rw [hmv]
  have hcall := specReportOf_any v l
  rw [← hR, ← hZ] at hcall
  obtain ⟨n, hnl⟩ : ∃ n, n = d.length := ⟨_, rfl⟩
  have HNL := Lib.hid hnl
  have H1 := Lib.hid h
  have H2 := Lib.hid h2
  have HDO := Lib.hid hdo
  have HCall := Lib.hid hcall
  have HL := Lib.hid hl
  have HR4 := Lib.hid hR4
  have HZ56 := Lib.hid hZ56
  rw [← hnl] at hd ⊢
  clear hmv hcall hnl h h2 hdo hl hok hZ hR hR4 hZ56
  go_enter Tryz.func175, Tryz.ntmps175
  go_upto_region 1 with (fail)
  obtain ⟨V, hV⟩ : ∃ V, V = w.alloc (.cells #[.int .i64 0, .slice none 0 0] 47) := ⟨_, rfl⟩
  obtain ⟨gr, hgr⟩ : ∃ x, x = w.heap.size := ⟨_, rfl⟩
  have hbV : Below w.heap.size w V := by rw [hV]; exact below_alloc1 _ _
  have hGr : V.heap[gr]? = some (.cells #[.int .i64 0, .slice none 0 0] 47 (0, 0)) := by rw [hV, hgr]; exact heap_alloc_new _ _
  have hgV : gr < V.heap.size := by rw [hV, hgr]; simp
  rw [← hV, ← hgr]
  have HBV := Lib.hid hbV
  have HGr := Lib.hid hGr
  have HGV := Lib.hid hgV
  have HGW := Lib.hid (show w.heap.size ≤ gr by rw [hgr]; exact Nat.le_refl _)
  clear hV hgr hbV hGr hgV
  go_wp2_with fail
  refine (HCall.out _ HL.out (H1.out.below HBV.out)).mono ?_
  rintro e w1 ⟨u, rfl, hu, hb1⟩
  obtain ⟨ua, uc, rfl⟩ := owns_shape hu
  have HU := Lib.hid hu
  have HB1 := Lib.hid (HBV.out.trans (hb1.mono HBV.out.size))
  have HGr1 := Lib.hid ((hb1.block gr HGV.out).trans HGr.out)
  clear hu hb1
  go_upto_region 2 with (fail)
  obtain ⟨U, hU⟩ : ∃ U, U = w1.alloc (.cells #[.int .i64 (R : Nat), .slice ua Z.length uc] 47) := ⟨_, rfl⟩
  obtain ⟨go, hgo⟩ : ∃ x, x = w1.heap.size := ⟨_, rfl⟩
  have hbU : Below w1.heap.size w1 U := by rw [hU]; exact below_alloc1 _ _
  have hGo : U.heap[go]? = some (.cells #[.int .i64 (R : Nat), .slice ua Z.length uc] 47 (0, 0)) := by rw [hU, hgo]; exact heap_alloc_new _ _
  rw [← hU, ← hgo]
  rw [← hgo] at hbU
  have HBU := Lib.hid hbU
  have HGo := Lib.hid hGo
  have HGO := Lib.hid (show go = w1.heap.size from hgo)
  clear hU hgo hbU hGo
  go_wp2
  go_loopw [6] (fun i wr => ∃ j : Nat, j ≤ n ∧ i = .int .i64 j ∧ wr.heap[go]? = some (.cells #[.int .i64 (mrM R d j : Nat), .slice ua Z.length uc] 47 (0, 0)) ∧ Below go w1 wr) (fun i _ => n - (intOf i).toNat)
  case atStart => exact ⟨0, Nat.zero_le _, rfl, HGo.out, HBU.out⟩
  case round =>
    obtain ⟨j, hj, rfl, hgo, hb⟩ := hrel
    have HGj := Lib.hid hgo
    have HB := Lib.hid hb
    by_cases hlt' : j < n
    · have hjz : j < d.length := by rw [← HNL.out]; exact hlt'
      obtain ⟨b, off, rfl, hlt, s0, s1, s2, s3, s4⟩ := hd_at H2.out hjz
      have hbw : Below w.heap.size w wr := HB1.out.trans ((show Below w1.heap.size w1 wr from HGO.out ▸ HB.out).mono HB1.out.size)
      have e3 := (hbw.cell (p := ⟨b, off + j * 5 + 3, none⟩) hlt).trans s3
      obtain ⟨o0, p0⟩ := cells_of_heap hgo 0 (by simp)
      have hml := (dwOk_at HDO.out hjz).2
      have hlo := mrM_lt HR4.out HDO.out j (by omega)
      have hnx : mrM R d (j + 1) = mrM R d j ||| (hdD d j).m.toNat := rfl
      obtain ⟨q, hq⟩ : ∃ q, q = mrM R d j := ⟨_, rfl⟩
      obtain ⟨m0, hm0⟩ : ∃ m, m = (hdD d j).m := ⟨_, rfl⟩
      rw [← hq] at hnx hlo o0 HGj
      rw [← hm0] at hml hnx e3
      obtain ⟨Q, rfl⟩ : ∃ Q : Nat, m0 = Q := ⟨m0.toNat, by omega⟩
      rw [Int.toNat_natCast] at hnx
      have hor := or_nat q Q (by omega) (by omega)
      have hne : ¬ b = go := by have := HB1.out.size; have := HGO.out; omega
      have HNX := Lib.hid hnx
      have HOR := Lib.hid hor
      clear s0 s1 s2 s3 s4 hbw hml hlo hnx hq hm0 hgo hb
      go_wp2
      go_still_tail 10, (by kernel_rfl)
      go_wp2
      go_roundw
      case rel => exact ⟨j + 1, by omega, by go_num, by rw [HNX.out, ← HOR.out]; exact heap_setCell_same wr go 0 _ _ _ HGj.out, (HB.out.setCell (Nat.le_refl _) _).drew⟩
      case measure => simp [intOf]; omega
    · obtain rfl : j = n := by omega
      obtain ⟨w2, hw⟩ : ∃ x, x = wr := ⟨_, rfl⟩
      rw [← hw] at hgo hb ⊢
      obtain ⟨M, hM⟩ : ∃ M, M = mrM R d j := ⟨_, rfl⟩
      rw [← hM] at hgo ⊢
      have hb2 : Below w1.heap.size w1 w2 := HGO.out ▸ hb
      have hgs : go < w2.heap.size := (Array.getElem?_eq_some_iff.mp hgo).1
      have HB2 := Lib.hid (HB1.out.trans (hb2.mono HB1.out.size))
      have HGr2 := Lib.hid ((hb2.block gr (Array.getElem?_eq_some_iff.mp HGr1.out).1).trans HGr1.out)
      have HU2 := Lib.hid (owns_below HU.out hb2)
      have HGo2 := Lib.hid hgo
      have HGS := Lib.hid hgs
      have HMd := Lib.hid hM
      clear hw hM hgo hb hb2 hgs HGj HB
      go_upto_region 7 with (fail)
      obtain ⟨w3, hw3⟩ : ∃ x, x = w2.alloc (.cells #[] 3) := ⟨_, rfl⟩
      obtain ⟨gk, hgk⟩ : ∃ x, x = w2.heap.size := ⟨_, rfl⟩
      have hb3 : Below w2.heap.size w2 w3 := by rw [hw3]; exact below_alloc1 _ _
      have ho3 : w3.ownsRow w2.heap.size 3 1 (.slice (some ⟨gk, 0, none⟩) (mrK Z d 0).length 0) (mrK Z d 0).length ((mrK Z d 0).map (.int .i64)) := by rw [hw3, hgk]; exact World.ownsRow_lit (e := 3) (size := 1) w2 #[] 0 (Nat.le_refl _) (by simp [maxLen]) rfl
      rw [← hw3, ← hgk]
      have HB3 := Lib.hid hb3
      have HO3 := Lib.hid ho3
      clear hw3 hgk hb3 ho3
      go_wp2
      go_loopw [7, 8, 9, 10, 11] (fun ks c _ _ _ wr => ∃ (k : Nat) (a : Option Addr) (cap : Nat), k ≤ 56 ∧ c = .int .i64 ((k + 1 : Nat) : Int) ∧ ks = .slice a (mrK Z d k).length cap ∧ wr.ownsRow w2.heap.size 3 1 (.slice a (mrK Z d k).length cap) (mrK Z d k).length ((mrK Z d k).map (.int .i64)) ∧ Below w2.heap.size w2 wr) (fun _ c _ _ _ _ => 57 - (intOf c).toNat)
      case atStart => exact ⟨0, _, _, Nat.zero_le _, rfl, rfl, HO3.out, HB3.out⟩
      case round =>
        obtain ⟨k, ka, kc, hk, rfl, rfl, ho, hb⟩ := hrel
        have HO := Lib.hid ho
        have HB := Lib.hid hb
        obtain ⟨wo, hwo⟩ : ∃ x, x = wr := ⟨_, rfl⟩
        rw [← hwo] at HO HB hb ⊢
        have o1 := (hb.cell (p := ⟨go, 1, none⟩) HGS.out).trans (cells_of_heap HGo2.out 1 (by simp)).1
        simp only [List.getElem_toArray, List.getElem_cons_zero, List.getElem_cons_succ] at o1
        have HUo := Lib.hid (Rd.of_owns (owns_below HU2.out hb))
        have HDo := Lib.hid (H2.out.below (HB2.out.trans (hb.mono HB2.out.size)))
        clear hwo ho hb
        by_cases hlt2 : k < 56
        · have hon : mrOn Z d ((k + 1 : Nat) : Int) = (hasZ Z ((k + 1 : Nat) : Int) Z.length || hasC d ((k + 1 : Nat) : Int) d.length) := by rw [mrOn, hasZ_all]
          have hmk : mrK Z d (k + 1) = if mrOn Z d ((k + 1 : Nat) : Int) = true then mrK Z d k ++ [((k + 1 : Nat) : Int)] else mrK Z d k := rfl
          rw [hon] at hmk
          have hkl := mrK_len Z d k
          obtain ⟨K, hK⟩ : ∃ K, K = mrK Z d k := ⟨_, rfl⟩
          rw [← hK] at HO hmk hkl ⊢
          obtain ⟨C, hC⟩ : ∃ C : Nat, C = k + 1 := ⟨_, rfl⟩
          rw [← hC] at hmk ⊢
          have hC56 : C ≤ 56 := by omega
          have HMK := Lib.hid hmk
          have HKL := Lib.hid hkl
          have HC := Lib.hid hC
          have hz6 := HZ56.out
          clear hmk hkl hK hC hon
          go_wp2
          go_loopw [9, 10] (fun f t wi => ∃ q : Nat, q ≤ Z.length ∧ t = .int .i64 q ∧ f = .bool (hasZ Z C q) ∧ wi = wo) (fun _ t _ => Z.length - (intOf t).toNat)
          case atStart => exact ⟨0, Nat.zero_le _, rfl, rfl, rfl⟩
          case round =>
            obtain ⟨q, hq, rfl, rfl, hwi⟩ := hrel
            subst hwi
            by_cases hql : q < Z.length
            · obtain ⟨zb, zoff, hza, hzlt, d1⟩ := ints_at HUo.out hql
              have HZA := Lib.hid hza
              rw [HZA.out] at o1
              have hnx : hasZ Z C (q + 1) = (hasZ Z C q || decide (Z.getD q 0 = (C : Int))) := rfl
              obtain ⟨F, hF⟩ : ∃ F, F = hasZ Z C q := ⟨_, rfl⟩
              obtain ⟨z, hz⟩ : ∃ z, z = Z.getD q 0 := ⟨_, rfl⟩
              rw [← hF, ← hz] at hnx
              rw [← hF]
              rw [← hz] at d1
              have HNX := Lib.hid hnx
              clear hnx hF hz hza
              cases F
              · by_cases he : z = (C : Int)
                · subst he
                  go_wp2
                  go_roundw
                  case rel => exact ⟨q + 1, by omega, by go_num, by rw [HNX.out]; simp, by first | rfl | trivial⟩
                  case measure => simp [intOf]; omega
                · have hb0 : (z == (C : Int)) = false := by simp [he]
                  go_wp2
                  go_roundw
                  case rel => exact ⟨q + 1, by omega, by go_num, by rw [HNX.out]; simp [he], by first | rfl | trivial⟩
                  case measure => simp [intOf]; omega
              · go_wp2
                go_roundw
                case rel => exact ⟨q + 1, by omega, by go_num, by rw [HNX.out]; simp, by first | rfl | trivial⟩
                case measure => simp [intOf]; omega
            · obtain rfl : q = Z.length := by omega
              obtain ⟨G, hG⟩ : ∃ G, G = hasZ Z C Z.length := ⟨_, rfl⟩
              rw [← hG] at HMK ⊢
              clear hG
              go_wp2
              go_loopw [9, 11] (fun f t wi => ∃ q : Nat, q ≤ j ∧ t = .int .i64 q ∧ f = .bool (G || hasC d C q) ∧ wi = wr) (fun _ t _ => j - (intOf t).toNat)
              case atStart => exact ⟨0, Nat.zero_le _, rfl, by simp [hasC], rfl⟩
              case round =>
                obtain ⟨q, hq2, rfl, rfl, hwi⟩ := hrel
                subst hwi
                by_cases hqn : q < j
                · have hjz : q < d.length := by rw [← HNL.out]; exact hqn
                  obtain ⟨b, off, hba, hlt, s0, s1, s2, s3, s4⟩ := hd_at HDo.out hjz
                  have HBA := Lib.hid hba
                  have hnx : (G || hasC d C (q + 1)) = ((G || hasC d C q) || decide ((hdD d q).c = (C : Int))) := by rw [hasC, Bool.or_assoc]
                  obtain ⟨F, hF⟩ : ∃ F, F = (G || hasC d C q) := ⟨_, rfl⟩
                  obtain ⟨z, hz⟩ : ∃ z, z = (hdD d q).c := ⟨_, rfl⟩
                  rw [← hF, ← hz] at hnx
                  rw [← hF]
                  rw [← hz] at s2
                  have HNX := Lib.hid hnx
                  clear hnx hF hz hba s0 s1 s3 s4
                  rw [HBA.out]
                  cases F
                  · by_cases he : z = (C : Int)
                    · subst he
                      go_wp2
                      go_roundw
                      case rel => exact ⟨q + 1, by omega, by go_num, by rw [HNX.out]; simp, by first | rfl | trivial⟩
                      case measure => simp [intOf]; omega
                    · have hb0 : (z == (C : Int)) = false := by simp [he]
                      go_wp2
                      go_roundw
                      case rel => exact ⟨q + 1, by omega, by go_num, by rw [HNX.out]; simp [he], by first | rfl | trivial⟩
                      case measure => simp [intOf]; omega
                  · go_wp2
                    go_roundw
                    case rel => exact ⟨q + 1, by omega, by go_num, by rw [HNX.out]; simp, by first | rfl | trivial⟩
                    case measure => simp [intOf]; omega
                · obtain rfl : q = j := by omega
                  rw [← HNL.out] at HMK
                  obtain ⟨F, hF⟩ : ∃ F, F = (G || hasC d C q) := ⟨_, rfl⟩
                  rw [← hF] at HMK ⊢
                  clear hF o1
                  cases F
                  · have hmk : mrK Z d (k + 1) = K := by rw [show k + 1 = C from HC.out.symm, HMK.out]; rfl
                    have HM := Lib.hid hmk
                    clear hmk
                    go_wp2
                    go_roundw
                    case rel => exact ⟨k + 1, ka, kc, by omega, by have := HC.out; go_num, by rw [HM.out], by rw [HM.out]; exact HO.out, HB.out⟩
                    case measure => have := HC.out; simp [intOf]; omega
                  · have hmk : mrK Z d (k + 1) = K ++ [(C : Int)] := by rw [show k + 1 = C from HC.out.symm, HMK.out]; rfl
                    have hlen : (K ++ [(C : Int)]).length = K.length + 1 := by simp
                    have HM := Lib.hid hmk
                    have HLen := Lib.hid hlen
                    have b63 : K.length + 1 ≤ maxLen := by have := HKL.out; unfold maxLen; omega
                    have b47 : (K.length + 1) * 8 ≤ 140737488355328 := by have := HKL.out; omega
                    have hws : w2.heap.size ≤ wr.heap.size := HB.out.size
                    clear hmk hlen
                    go_wp2_with (at_builtin; refine wpList_append_own _ rfl _ _ 45 rfl w2.heap.size 3 i0 (.int .i64 0) 1 8 Tryz.underlying45 hi hz0 hz1 hz2 rfl (by decide) _ _ _ rfl (HO.out.alloc _) ⟨wr.heap.size, 0, none⟩ 1 1 [.int .i64 (C : Int)] rfl rfl ?c1 ?c2 b63 b47 ?c5 ?_)
                    try (case c1 => exact World.news_of_block (cs := #[.int .i64 (C : Int)]) (t := 3) (fr := (0, 0)) (heap_alloc_new wr _))
                    case c2 => first | rfl | (intro u hu; simp at hu; rcases hu with rfl; rfl)
                    case c5 => first | omega | (simp; omega)
                    · intro v' w7 hown1 hgrow _
                      obtain ⟨a', c', rfl⟩ := owns_shape hown1
                      have HB7 := Lib.hid ((HB.out.alloc hws (.cells #[.int .i64 (C : Int)] 3)).grown hgrow (by simp; omega) (fun q hq => (HO.out.lt q hq).1))
                      have HO7 := Lib.hid (show w7.ownsRow w2.heap.size 3 1 (.slice a' (K.length + 1) c') (K.length + 1) ((K ++ [(C : Int)]).map (.int .i64)) by rw [List.map_append]; exact hown1)
                      clear hown1 hgrow b63 b47 hws
                      go_wp2
                      go_roundw
                      case rel => exact ⟨k + 1, a', c', by omega, by have := HC.out; go_num, by rw [HM.out, HLen.out], by rw [HM.out, HLen.out]; exact HO7.out, HB7.out⟩
                      case measure => have := HC.out; simp [intOf]; omega
        · obtain rfl : k = 56 := by omega
          have hgow := (HB.out.block go HGS.out).trans HGo2.out
          obtain ⟨K, hK⟩ : ∃ K, K = mrK Z d 56 := ⟨_, rfl⟩
          rw [← hK] at HO ⊢
          have HK := Lib.hid hK
          clear hK o1
          obtain ⟨o1, p1⟩ := cells_of_heap hgow 1 (by simp)
          have HGow := Lib.hid hgow
          clear hgow
          go_upto_region 22 with (fail)
          have hne : ¬ gr = go := by have := (Array.getElem?_eq_some_iff.mp HGr1.out).1; have := HGO.out; omega
          have hx6 := heap_setCell_same wo go 1 _ _ (.slice ka K.length kc) HGow.out
          have hr6 : (wo.setCell ⟨go, 1, none⟩ (.slice ka K.length kc)).heap[gr]? = some (.cells #[.int .i64 0, .slice none 0 0] 47 (0, 0)) := by
            rw [heap_setCell_other wo ⟨go, 1, none⟩ gr _ (by show ¬ gr = go; exact hne)]
            exact (HB.out.block gr (Nat.lt_of_lt_of_le (Array.getElem?_eq_some_iff.mp HGr2.out).1 (Nat.le_refl _))).trans HGr2.out
          have hb6 : Below w.heap.size w (wo.setCell ⟨go, 1, none⟩ (.slice ka K.length kc)) := (HB2.out.trans (HB.out.mono HB2.out.size)).setCell (by have := HB1.out.size; have := HGO.out; show w.heap.size ≤ go; omega) _
          have ho6 : (wo.setCell ⟨go, 1, none⟩ (.slice ka K.length kc)).ownsRow w2.heap.size 3 1 (.slice ka K.length kc) K.length (K.map (.int .i64)) := owns_putAt HO.out (fun q hq => by have := (HO.out.lt q hq).1; have := HGS.out; omega) 1 [.slice ka K.length kc]
          obtain ⟨w6, hw6⟩ : ∃ x, x = wo.setCell ⟨go, 1, none⟩ (.slice ka K.length kc) := ⟨_, rfl⟩
          rw [← hw6] at hx6 hr6 hb6 ho6 ⊢
          clear hw6 o1 p1
          have HX6 := Lib.hid hx6
          have HR6 := Lib.hid hr6
          have HB6 := Lib.hid hb6
          have HO6 := Lib.hid ho6
          simp at hx6
          have HX6' := Lib.hid hx6
          clear hr6 hb6 ho6 hx6
          obtain ⟨o0, p0⟩ := cells_of_heap HX6'.out 0 (by simp)
          obtain ⟨o1, p1⟩ := cells_of_heap HX6'.out 1 (by simp)
          obtain ⟨r0, q0⟩ := cells_of_heap HR6.out 0 (by simp)
          obtain ⟨r1, q1⟩ := cells_of_heap HR6.out 1 (by simp)
          go_wp2
          clear o0 p0 o1 p1 r0 q0 r1 q1
          have hgr0 : w.heap.size ≤ gr := HGW.out
          obtain ⟨wf, hwf⟩ : ∃ x, x = putW (w6) (gr) 0 [.int .i64 (M : Nat), .slice ka K.length kc] := ⟨_, rfl⟩
          have kf := putW_all [.int .i64 (M : Nat), .slice ka K.length kc] HR6.out rfl
          have bf := putW_below (b := gr) (by first | omega | simp) [.int .i64 (M : Nat), .slice ka K.length kc] 0 _ HB6.out
          have of := owns_putAt (y := gr) HO6.out (fun q hq => by have := (HO6.out.lt q hq).1; have := (Array.getElem?_eq_some_iff.mp HGr2.out).1; omega) 0 [.int .i64 (M : Nat), .slice ka K.length kc]
          rw [← hwf] at kf bf of
          have cf := hwf.symm
          simp only [putW, Nat.reduceAdd] at cf
          rw [cf]
          clear cf hwf
          have f0 := (cells_of_heap kf 0 (by simp)).1
          have f1 := (cells_of_heap kf 1 (by simp)).1
          simp only [List.getElem_toArray, List.getElem_cons_zero, List.getElem_cons_succ] at f0 f1
          refine bodyPost_ret (v := rpv (M : Nat) (.slice ka K.length kc)) (by simp [results, Tryz.results175, go_sem, f0, f1]) rfl ⟨.slice ka K.length kc, by first | rfl | rw [HMd.out], by rw [← HK.out]; exact owns_base of (by have := HB2.out.size; exact this), bf⟩
end Go.Proofs.YtjfckchoklepbaaGreat

namespace Go.Proofs.YtjfckchoklepbaaGreat
open Go.RowKit

abbrev rpF (m : Int) : List Value := [.int .i64 m]
theorem rpF_len (m : Int) : (rpF m).length = 1 := rfl
theorem info_rp : (Tryz.prog.info? 47).map (fun i => (i.zero, i.size, i.bytes)) = some (some (.agg #[.int .i64 0, .slice none 0 0]), 2, 32) := by kernel_rfl
/-- Reports in memory of the caller's own. -/
def MrO (L : List Rv) (w : World) (e : Ending) (w' : World) : Prop := ∃ a c fp, e = .returned (.slice a L.length c) ∧ OwP rpF w' w.heap.size 47 1 (.slice a L.length c) L fp ∧ Below w.heap.size w w'
/-- A row of numbers, as a datum. -/
theorem owC_row {w : World} {B : Nat} {a : Option Addr} {c : Nat} {zs : List Int} (h : w.ownsRow B 3 1 (.slice a zs.length c) zs.length (zs.map (.int .i64))) (hl : zs.length ≤ 1048576) :
    ∃ fq, OwC w B (.row [.int .i64]) (.slice a zs.length c) (.row (ones zs)) fq ∧ fq.Nodup ∧ ∀ b ∈ fq, B ≤ b ∧ b < w.heap.size := by
  obtain ⟨fp, hn, ho⟩ := owC_ints h (by unfold maxLen; omega)
  exact ⟨fp, ho, hn, ho.rng⟩

/-- What is known of the two lists, the reports and what is down, and of the step's box, in a world. -/
structure MrW (W : World) (B : Nat) (ao : Option Addr) (L : List Rv) (co : Nat) (ad : Option Addr) (d : List Hd) (cd : Nat) (fp : List Nat) : Prop where
  out : OwP rpF W B 47 1 (.slice ao L.length co) L fp
  dn : W.ownsRow B 43 5 (.slice ad d.length cd) d.length (flatHd d)
  dis : ∀ b ∈ fp, b ∉ ownFp (.slice ad d.length cd)
theorem MrW.below {W W' : World} {B : Nat} {ao ad : Option Addr} {L : List Rv} {co cd : Nat} {d : List Hd} {fp : List Nat} (h : MrW W B ao L co ad d cd fp) (hb : Below W.heap.size W W') : MrW W' B ao L co ad d cd fp :=
  ⟨h.out.below hb, owns_below h.dn hb, h.dis⟩
theorem turn_of_grown {w w' : World} {v : Value} (hg : w.grownBy w' v.ownBlock) : Turn w w' (ownFp v) := by
  unfold ownFp
  rcases hv : v.ownBlock with _ | q
  · rw [hv] at hg
    exact ⟨hg.os, hg.tape, hg.output, hg.size, fun k hk _ => hg.block k hk (by simp)⟩
  · rw [hv] at hg
    exact Turn.of_grown hg
theorem head_fp {w : World} {B k : Nat} {T : TypeId} {v : Value} {L : List Rv} {fp : List Nat} (h : OwP rpF w B T k v L fp) : ∀ b ∈ ownFp v, b ∈ fp := by
  obtain ⟨us, fps, h, rfl⟩ := h
  exact fun b hb => List.mem_append_left _ hb
/-- A held key was appended to what is down. -/
theorem MrW.down {W W' : World} {B : Nat} {ao ad a' : Option Addr} {L : List Rv} {co cd c' : Nat} {d d' : List Hd} {fp : List Nat} (h : MrW W B ao L co ad d cd fp)
    (hg : W.grownBy W' (Value.slice ad d.length cd).ownBlock) (h' : W'.ownsRow B 43 5 (.slice a' d'.length c') d'.length (flatHd d'))
    (hat : ∀ b ∈ ownFp (.slice a' d'.length c'), b ∈ ownFp (.slice ad d.length cd) ∨ W.heap.size ≤ b) : MrW W' B ao L co a' d' c' fp := by
  have ht := turn_of_grown hg
  refine ⟨h.out.turn ht (fun b hb => h.dis b hb), h', fun b hb hb' => ?_⟩
  rcases hat b hb' with h1 | h1
  · exact h.dis b hb h1
  · have := (h.out.rng b hb).2; omega
/-- What is down was made anew. -/
theorem MrW.anew {W W' : World} {B B' : Nat} {ao ad a' : Option Addr} {L : List Rv} {co cd c' : Nat} {d d' : List Hd} {fp : List Nat} (h : MrW W B ao L co ad d cd fp)
    (hb : Below W.heap.size W W') (hB : B ≤ B') (hW : W.heap.size ≤ B') (h' : W'.ownsRow B' 43 5 (.slice a' d'.length c') d'.length (flatHd d')) : MrW W' B ao L co a' d' c' fp := by
  refine ⟨h.out.below hb, owns_base h' hB, fun b hm hm' => ?_⟩
  have h1 := ((OwF.mk' h').rng b hm').1
  have := (h.out.rng b hm).2
  omega
/-- A report was appended. -/
theorem MrW.push {W wb wc : World} {B g2 cap2 : Nat} {ao ad : Option Addr} {L : List Rv} {co cd : Nat} {d : List Hd} {us : List Value} {fps : List (List Nat)} {m : Int} {z : List Int} {u : Value} {fq : List Nat}
    (h : MrW W B ao L co ad d cd (ownFp (.slice ao L.length co) ++ fps.flatten)) (hq : OwQ rpF W B (.slice ao L.length co) (W.ownsRow B 47 (1 + 1) (.slice ao L.length co) L.length) us L fps)
    (hb : Below W.heap.size W wb) (hu : OwC wb W.heap.size (.row [.int .i64]) u (.row (ones z)) fq) (hn : fq.Nodup) (hBW : B ≤ W.heap.size)
    (h' : wc.ownsRow B 47 (1 + 1) (.slice (some ⟨g2, 0, none⟩) (L.length + 1) cap2) (L.length + 1) (pC rpF L us ++ (rpF m ++ [u]))) (hg : wb.grownBy wc (Value.slice ao L.length co).ownBlock) (hat : (Value.slice ao L.length co).ownBlock = some g2 ∨ g2 = wb.heap.size) :
    ∃ fp', MrW wc B (some ⟨g2, 0, none⟩) (L ++ [(m, z)]) cap2 ad d cd fp' ∧ ∀ b ∈ fp', b ∈ ownFp (.slice ao L.length co) ++ fps.flatten ∨ W.heap.size ≤ b := by
  have hb' : Turn W wb [] := Turn.of_below hb []
  have hq2 : OwQ rpF wb B (.slice ao L.length co) (wb.ownsRow B 47 (1 + 1) (.slice ao L.length co) L.length) us L fps := hq.turn (owns_below hq.own hb) hb' (fun _ _ hm => by simp at hm)
  have hrng := h.out.rng
  have hru := hu.rng
  have hpush := OwP.push (p := (m, z)) hq2 (OwC.base _ _ _ _ hu hBW) hn (fun b hb1 hb2 => by have := (hru b hb1).1; have := (hrng b hb2).2; omega) h' hg hat
  have hnew : ∀ b ∈ g2 :: (fps.flatten ++ fq), b ∈ ownFp (.slice ao L.length co) ++ fps.flatten ∨ W.heap.size ≤ b := by
    intro b hb1
    rcases List.mem_cons.1 hb1 with rfl | hb1
    · rcases hat with e | e
      · exact .inl (List.mem_append_left _ (by simp [ownFp, e]))
      · exact .inr (by have := hb.size; omega)
    · rcases List.mem_append.1 hb1 with h1 | h1
      · exact .inl (List.mem_append_right _ h1)
      · exact .inr (hru b h1).1
  refine ⟨_, ⟨by rw [List.length_append]; exact hpush, ?_, fun b hb1 hb2 => ?_⟩, hnew⟩
  · refine ((OwF.mk' (owns_below h.dn hb)).turn (turn_of_grown hg) (fun b hb1 hb2 => ?_)).1
    exact h.dis b (List.mem_append_left _ hb2) hb1
  · rcases hnew b hb1 with h1 | h1
    · exact h.dis b h1 hb2
    · have := ((OwF.mk' h.dn).rng b hb2).2; omega
end Go.Proofs.YtjfckchoklepbaaGreat

namespace Go.Proofs.YtjfckchoklepbaaGreat
open Go.RowKit

theorem mcN_pre {l : List St} : ∀ {m : Nat}, mcN l m = true → ∀ j, j ≤ m → mcN l j = true
  | 0, h, j, hj => by obtain rfl : j = 0 := by omega
                      exact h
  | m + 1, h, j, hj => by
    by_cases e : j = m + 1
    · subst e; exact h
    · rw [mcN, Bool.and_eq_true] at h
      exact mcN_pre h.1 j (by omega)
theorem fiI_snoc {d : List Hd} {k c m : Int} (h : fiH d ⟨k, c, m⟩ = d.length) : fiI (d ++ [(⟨0, 2, c, m, 0⟩ : Hd)]) ⟨k, c, m⟩ = (d.length : Int) := by
  refine fiI_at (j := d.length) (by simp) (fun q hq => ?_) (by simp [mtS, hdD])
  have e : hdD (d ++ [(⟨0, 2, c, m, 0⟩ : Hd)]) q = hdD d q := by
    rw [hdD, hdD, List.getD_eq_getElem?_getD, List.getElem?_append_left hq, List.getD_eq_getElem?_getD]
  rw [e]
  have hx := List.findIdx_eq_length.mp h
  have h2 := hx d[q] (List.getElem_mem hq)
  rw [hdD, List.getD_eq_getElem?_getD, List.getElem?_eq_getElem hq]
  exact h2
theorem new_fp {gd n c H H' : Nat} {v : Value} (hat : v.ownBlock = some gd ∨ gd = H') (hH : H ≤ H') : ∀ b ∈ ownFp (.slice (some ⟨gd, 0, none⟩) n c), b ∈ ownFp v ∨ H ≤ b := by
  intro b hb
  have hb' : b = gd := by simpa [ownFp, Value.ownBlock] using hb
  subst hb'
  rcases hat with h1 | h1
  · exact .inl (by simp [ownFp, h1])
  · exact .inr (by omega)
theorem erase_last {d : List Hd} {e : Hd} : (d ++ [e]).eraseIdx d.length = d := by
  rw [List.eraseIdx_eq_take_drop_succ, List.take_left, List.drop_of_length_le (by simp), List.append_nil]

set_option maxRecDepth 100000 in
set_option maxHeartbeats 8000000 in
theorem specMacroReports_any (v vs : Value) (l : List Hd) (s : List St) (w : World) (hl : l.length ≤ maxLen) (hs : s.length ≤ 1048576) (h : RdN w v l.length (flatHd l)) (h2 : RdN w vs s.length (flatSt s)) :
    Calls Tryz.prog 106 #[v, vs] w (MrO (mrP l s) w) := by
  obtain ⟨i0, hi, hz0, hz1, hz2⟩ := info_parts info_hd
  obtain ⟨iR, hR, hR0, hR1, hR2⟩ := info_parts info_rp
  obtain ⟨sa, sc, rfl⟩ := RdN.shape h2
  obtain ⟨n, hnl⟩ : ∃ n, n = s.length := ⟨_, rfl⟩
  obtain ⟨X, hX⟩ : ∃ X, X = mrP l s := ⟨_, rfl⟩
  rw [← hX]
  obtain ⟨O1, hO1⟩ : ∃ O1, O1 = okHd l := ⟨_, rfl⟩
  obtain ⟨O2, hO2⟩ : ∃ O2, O2 = okMc s := ⟨_, rfl⟩
  rw [mrP, ← hO1, ← hO2] at hX
  have HX := Lib.hid hX
  have HO1 := Lib.hid hO1
  have HO2 := Lib.hid hO2
  have HNL := Lib.hid hnl
  have H1 := Lib.hid h
  have H2 := Lib.hid (show RdN w (.slice sa n sc) s.length (flatSt s) from by rw [hnl]; exact h2)
  have HL := Lib.hid hl
  have HSL := Lib.hid hs
  have hn : n ≤ 1048576 := by rw [hnl]; exact hs
  rw [← hnl]
  clear hX hO1 hO2 hnl h h2 hl hs
  go_enter Tryz.func106, Tryz.ntmps106
  go_upto_region 3 with (fail)
  obtain ⟨W0, hW0⟩ : ∃ x, x = (w.alloc (.cells #[] 47)).alloc (.cells #[] 43) := ⟨_, rfl⟩
  have hb0 : Below w.heap.size w W0 := by rw [hW0]; exact ((Below.refl _ _).alloc (Nat.le_refl _) _).alloc (by simp) _
  obtain ⟨g1, hg1⟩ : ∃ x, x = w.heap.size + 1 := ⟨_, rfl⟩
  have hm0 : MrW W0 w.heap.size (some ⟨w.heap.size, 0, none⟩) (mrN l s 0) 0 (some ⟨g1, 0, none⟩) (dwN s 0) 0 (ownFp (.slice (some ⟨w.heap.size, 0, none⟩) 0 0)) := by
    have hr : (w.alloc (.cells #[] 47)).ownsRow w.heap.size 47 (1 + 1) (.slice (some ⟨w.heap.size, 0, none⟩) 0 0) 0 [] := World.ownsRow_lit (e := 47) (size := 2) w #[] 0 (Nat.le_refl _) (by simp [maxLen]) rfl
    have hb1 : Below (w.alloc (.cells #[] 47)).heap.size (w.alloc (.cells #[] 47)) W0 := by rw [hW0]; exact below_alloc1 _ _
    refine ⟨(OwP.start hr).below hb1, ?_, fun b hb hb' => ?_⟩
    · rw [hW0, hg1]
      have h5 := World.ownsRow_lit (base := w.heap.size) (e := 43) (size := 5) (w.alloc (.cells #[] 47)) #[] 0 (by simp) (by simp [maxLen]) rfl
      rw [show (w.alloc (.cells #[] 47)).heap.size = w.heap.size + 1 by simp] at h5
      exact h5
    · simp [ownFp, Value.ownBlock] at hb hb'; omega
  rw [← hW0, ← hg1]
  have HB0 := Lib.hid hb0
  have M0 := Lib.hid hm0
  clear hW0 hg1 hb0 hm0
  go_wp2_with fail
  refine (specIsHeld_any v l _ HL.out (H1.out.below HB0.out)).mono ?_
  rw [← HO1.out]
  rintro e w1 ⟨rfl, hb1⟩
  have M1 := Lib.hid (M0.out.below hb1)
  have HB1 := Lib.hid (HB0.out.trans (hb1.mono HB0.out.size))
  clear hb1 M0 HB0
  cases O1
  · obtain rfl : X = [] := by rw [HX.out]; rfl
    go_wp2
    go_ret
    exact ⟨_, _, _, rfl, M1.out.out, HB1.out⟩
  · go_wp2_with fail
    refine (specIsMacro_any _ s _ HSL.out (H2.out.below HB1.out)).mono ?_
    rw [← HO2.out]
    rintro e w2 ⟨rfl, hb2⟩
    have M2 := Lib.hid (M1.out.below hb2)
    have HB2 := Lib.hid (HB1.out.trans (hb2.mono HB1.out.size))
    clear hb2 M1 HB1
    cases O2
    · obtain rfl : X = [] := by rw [HX.out]; rfl
      go_wp2
      go_ret
      exact ⟨_, _, _, rfl, M2.out.out, HB2.out⟩
    · have hX := HX.out
      rw [Bool.and_self, if_pos rfl, ← HNL.out] at hX
      have HX2 := Lib.hid (hX)
      have HOK := Lib.hid (HO1.out.symm)
      have HMac := Lib.hid (okMc_at HO2.out.symm)
      have HPre := Lib.hid (show ∀ j, j ≤ s.length → mcN s j = true from mcN_pre (by have := HO2.out.symm; rw [okMc, Bool.and_eq_true] at this; exact this.1))
      clear hX HX HO1 HO2
      go_wp2
      go_loopw [5, 6, 7, 8] (fun out dn i _ wr => ∃ (j : Nat) (ao ad : Option Addr) (co cd : Nat) (fp : List Nat), j ≤ n ∧ i = .int .i64 j ∧ out = .slice ao (mrN l s j).length co ∧ dn = .slice ad (dwN s j).length cd ∧ MrW wr w.heap.size ao (mrN l s j) co ad (dwN s j) cd fp ∧ Below w.heap.size w wr) (fun _ _ i _ _ => n - (intOf i).toNat)
      case atStart => exact ⟨0, _, _, _, _, _, Nat.zero_le _, rfl, rfl, rfl, M2.out, HB2.out⟩
      case round =>
        obtain ⟨j, ao, ad, co, cd, fp, hj, rfl, rfl, rfl, hm, hb⟩ := hrel
        by_cases hlt' : j < n
        · have hjz : j < s.length := by rw [← HNL.out]; exact hlt'
          obtain ⟨b, off, rfl, hlt, s0, s1, s2⟩ := st_at H2.out hjz
          have e0 := (hb.cell (p := ⟨b, off + j * 3, none⟩) hlt).trans s0
          have e1 := (hb.cell (p := ⟨b, off + j * 3 + 1, none⟩) hlt).trans s1
          have e2 := (hb.cell (p := ⟨b, off + j * 3 + 2, none⟩) hlt).trans s2
          have hok := okX_at (HMac.out.2.2 j hjz)
          have hdo := dwOk_dw (HPre.out j (Nat.le_of_lt hjz))
          have hdo2 := dwOk_snoc hdo (HMac.out.2.2 j hjz)
          have hdl := dwN_len s j
          have hll := (mrN_len l s j).2
          have hfc := fiI_cases (dwN s j) (stD s j)
          have hmn : mrN l s (j + 1) = mrN l s j ++ mrX l (dwN s j) (stD s j) := rfl
          have hdw : dwN s (j + 1) = nxS (dwN s j) (stD s j) := rfl
          obtain ⟨d, hd⟩ : ∃ d, d = dwN s j := ⟨_, rfl⟩
          obtain ⟨x, hx⟩ : ∃ x, x = stD s j := ⟨_, rfl⟩
          obtain ⟨L, hL⟩ : ∃ L, L = mrN l s j := ⟨_, rfl⟩
          rw [← hd, ← hx] at hdo2 hfc hdw hok
          rw [← hL, ← hd, ← hx] at hmn
          rw [← hd] at hdo hdl
          rw [← hL] at hll
          rw [← hL, ← hd] at hm ⊢
          rw [← hx] at e0 e1 e2
          obtain ⟨k, c, m⟩ := x
          simp only at e0 e1 e2
          replace hdo2 : DwOk (d ++ [(⟨0, 2, c, m, 0⟩ : Hd)]) := hdo2
          obtain ⟨⟨hk0, hk2⟩, -, hkf⟩ := hok
          simp only at hk0 hk2 hkf
          clear s0 s1 s2 hd hx hL
          go_upto_region 9 with (fail)
          obtain ⟨U, hU⟩ : ∃ U, U = wr.alloc (.cells #[.int .i64 k, .int .i64 c, .int .i64 m] 182) := ⟨_, rfl⟩
          obtain ⟨g, hg⟩ : ∃ g, g = wr.heap.size := ⟨_, rfl⟩
          have hu : Below wr.heap.size wr U := by rw [hU]; exact below_alloc1 _ _
          have hgu : U.heap[g]? = some (.cells #[.int .i64 k, .int .i64 c, .int .i64 m] 182 (0, 0)) := by rw [hU, hg]; exact heap_alloc_new _ _
          have hgf : g ∉ fp := fun h1 => by have := (hm.out.rng g h1).2; omega
          have hgd : g ∉ ownFp (.slice ad d.length cd) := fun h1 => by have := ((OwF.mk' hm.dn).rng g h1).2; omega
          rw [← hU, ← hg]
          have MU := Lib.hid (hm.below hu)
          have HBU := Lib.hid (hb.trans (hu.mono hb.size))
          have HGU := Lib.hid (hgu)
          have HGf := Lib.hid (hgf)
          have HGd := Lib.hid (hgd)
          have HDO := Lib.hid (hdo)
          have HDO2 := Lib.hid (hdo2)
          have HDL := Lib.hid (hdl)
          have HLL := Lib.hid (hll)
          have HMn := Lib.hid (hmn)
          have HDw := Lib.hid (hdw)
          have HFC := Lib.hid (hfc)
          have HKF := Lib.hid (hkf)
          clear hU hg hu hgu hgf hgd hm hb hdo hdo2 hdl hll hmn hdw hfc hkf e0 e1 e2
          rcases (show k = 0 ∨ k = 1 ∨ k = 2 by omega) with rfl | rfl | rfl
          · have hno : fiH d ⟨0, c, m⟩ = d.length := by rcases HFC.out with ⟨_, h1⟩ | ⟨h1, _⟩; exact h1; have h2 := HKF.out; rw [h1] at h2; exact absurd (h2.mpr (Int.natCast_nonneg _)) (by decide)
            have HFI := Lib.hid ((fiI_snoc hno).symm)
            have HMN := Lib.hid (show mrN l s (j + 1) = L ++ [mrV l (d ++ [(⟨0, 2, c, m, 0⟩ : Hd)]), mrV l d] from by rw [HMn.out]; rfl)
            have HDN := Lib.hid (show dwN s (j + 1) = d from by rw [HDw.out]; exact nxS_zero rfl)
            clear hno HFC HKF HMn HDw
            obtain ⟨a0, -⟩ := cells_of_heap HGU.out 0 (by simp)
            obtain ⟨a1, -⟩ := cells_of_heap HGU.out 1 (by simp)
            obtain ⟨a2, -⟩ := cells_of_heap HGU.out 2 (by simp)
            simp only [List.getElem_toArray, List.getElem_cons_zero, List.getElem_cons_succ] at a0 a1 a2
            go_wp2_with fail
            refine (specL8Action_any 0 c m _).mono ?_
            rintro e w2 ⟨rfl, hb2⟩
            have M2 := Lib.hid (MU.out.below hb2)
            have HB2 := Lib.hid (HBU.out.trans (hb2.mono HBU.out.size))
            have HG2 := Lib.hid ((hb2.block g (Array.getElem?_eq_some_iff.mp HGU.out).1).trans HGU.out)
            have HS2 := Lib.hid (hb2.size)
            clear hb2 MU HBU HGU
            have b63 : d.length + 1 ≤ maxLen := by have := HDL.out; unfold maxLen; omega
            have b47 : (d.length + 1) * 40 ≤ 140737488355328 := by have := HDL.out; omega
            have hws : w.heap.size ≤ w2.heap.size := HB2.out.size
            go_wp2_with (at_builtin; refine wpList_append_lies _ rfl _ _ 28 rfl w.heap.size 43 i0 (.agg #[.int .i64 0, .int .i64 0, .int .i64 0, .int .i64 0, .int .i64 0]) 5 40 Tryz.underlying28 hi hz0 hz1 hz2 rfl (by decide) _ _ _ rfl (M2.out.dn.alloc _) ⟨w2.heap.size, 0, none⟩ 1 1 [.int .i64 0, .int .i64 2, .int .i64 c, .int .i64 m, .int .i64 0] rfl rfl (World.news_of_block (cs := #[.int .i64 0, .int .i64 2, .int .i64 c, .int .i64 m, .int .i64 0]) (t := 43) (fr := (0, 0)) (heap_alloc_new w2 _)) (by simp [Value.oneCell']) (by decide) b63 b47 (by simp; omega) (w2.heap.size + 1) (by simp) ?_)
            intro gd cd3 w3 hown3 hgrow3 hat3 hlt3
            have hbx : Below w2.heap.size w2 (w2.alloc (.cells #[.int .i64 0, .int .i64 2, .int .i64 c, .int .i64 m, .int .i64 0] 43)) := below_alloc1 w2 _
            have hlen3 : (d ++ [(⟨0, 2, c, m, 0⟩ : Hd)]).length = d.length + 1 := by simp
            have M3 := Lib.hid ((M2.out.below hbx).down (d' := d ++ [(⟨0, 2, c, m, 0⟩ : Hd)]) hgrow3 (by rw [hlen3, flatHd_snoc]; exact hown3) (new_fp hat3 (by simp)))
            have HB3 := Lib.hid ((HB2.out.alloc hws (.cells #[.int .i64 0, .int .i64 2, .int .i64 c, .int .i64 m, .int .i64 0] 43)).grown hgrow3 (by simp; omega) (fun q hq => (M2.out.dn.lt q hq).1))
            have HG3 := Lib.hid ((hgrow3.block g (by have := (Array.getElem?_eq_some_iff.mp HG2.out).1; simp; omega) (fun e => HGd.out (by simp [ownFp, ← e]))).trans ((hbx.block g (Array.getElem?_eq_some_iff.mp HG2.out).1).trans HG2.out))
            have HS3 := Lib.hid ((show w2.heap.size < w3.heap.size by have h1 := hgrow3.size; simp at h1; omega))
            obtain ⟨D3, hD3⟩ : ∃ x, x = d ++ [(⟨0, 2, c, m, 0⟩ : Hd)] := ⟨_, rfl⟩
            rw [← hD3] at M3 hlen3
            have HD3 := Lib.hid (hD3)
            have HLen3 := Lib.hid (hlen3)
            rw [← hlen3]
            clear hD3 hown3 hgrow3 hat3 hlt3 hbx hlen3 b63 b47 hws M2 HB2 HG2
            clear a0 a1 a2
            have HDO3 := Lib.hid (show DwOk D3 from by rw [HD3.out]; exact HDO2.out)
            have HFI3 := Lib.hid (show (d.length : Int) = fiI D3 ⟨0, c, m⟩ from by rw [HD3.out]; exact HFI.out)
            go_wp2_with fail
            refine (specL8Report_any _ _ l D3 _ HL.out (by have := HDL.out; have := HLen3.out; omega) HOK.out HDO3.out (H1.out.below HB3.out) (RdN.of_owns M3.out.dn)).mono ?_
            rintro e wA1 ⟨u, rfl, hu, hbA⟩
            obtain ⟨ua1, uc1, rfl⟩ := owns_shape hu
            have hpl : (mrV l D3).2.length ≤ 56 := mrK_len _ _ 56
            have hpe : ((mrV l D3).1, (mrV l D3).2) = mrV l D3 := rfl
            obtain ⟨pm1, hpm⟩ : ∃ x, x = (mrV l D3).1 := ⟨_, rfl⟩
            obtain ⟨pz1, hpz⟩ : ∃ x, x = (mrV l D3).2 := ⟨_, rfl⟩
            rw [← hpm, ← hpz] at hpe
            rw [← hpz] at hu hpl
            rw [← hpm, ← hpz]
            obtain ⟨fq, hq1, hq2, hq3⟩ := owC_row hu (by omega)
            have hm0 := M3.out
            obtain ⟨us, fps, hOQ, hfp⟩ := M3.out.out
            rw [hfp] at hm0
            have hnf : g ∉ ownFp (.slice ao L.length co) ++ fps.flatten := hfp ▸ HGf.out
            have HM0 := Lib.hid (hm0)
            have HQ := Lib.hid (hOQ)
            have HNF := Lib.hid (hnf)
            have HPE := Lib.hid (hpe)
            have HNq := Lib.hid (hq2)
            have HbB := Lib.hid (show Below w3.heap.size w3 (wA1.alloc (.cells #[.int .i64 pm1, .slice ua1 pz1.length uc1] 47)) from hbA.alloc hbA.size _)
            have HUq := Lib.hid (hq1.below (below_alloc1 wA1 (.cells #[.int .i64 pm1, .slice ua1 pz1.length uc1] 47)))
            have r63 : L.length + 1 ≤ maxLen := by have := HLL.out; have := HDL.out; unfold maxLen; omega
            have r47 : (L.length + 1) * 32 ≤ 140737488355328 := by have := HLL.out; omega
            have hws : w.heap.size ≤ wA1.heap.size := Nat.le_trans HB3.out.size hbA.size
            clear hu hpl hpm hpz hq1 hq2 hq3 hm0 hOQ hnf hpe hbA hfp
            go_wp2_with (at_builtin; refine wpList_append_lies _ rfl _ _ 34 rfl w.heap.size 47 iR (.agg #[.int .i64 0, .slice none 0 0]) 2 32 Tryz.underlying34 hR hR0 hR1 hR2 rfl (by decide) _ _ _ rfl (owns_below HQ.out.own HbB.out) ⟨wA1.heap.size, 0, none⟩ 1 1 [.int .i64 pm1, .slice ua1 pz1.length uc1] rfl rfl (World.news_of_block (cs := #[.int .i64 pm1, .slice ua1 pz1.length uc1]) (t := 47) (fr := (0, 0)) (heap_alloc_new wA1 _)) (by simp [Value.oneCell']) (by decide) r63 r47 (by simp; omega) (wA1.heap.size + 1) (by simp) ?_)
            intro go1 cap1 wC1 hownC hgrowC hatC hltC
            obtain ⟨fp1, hM, hnew⟩ := MrW.push (m := pm1) (z := pz1) HM0.out HQ.out HbB.out HUq.out HNq.out HB3.out.size hownC hgrowC (by rcases hatC with h1 | h1; exact .inl h1; exact .inr (by rw [h1]; simp))
            rw [HPE.out] at hM
            have HBC1 := Lib.hid (((HB3.out.trans (HbB.out.mono HB3.out.size)).grown hgrowC (by simp; omega) (fun q hq => (HQ.out.own.lt q hq).1)))
            have HGC1 := Lib.hid ((hgrowC.block g (by have := (Array.getElem?_eq_some_iff.mp HG3.out).1; have := HbB.out.size; omega) (fun e => HNF.out (List.mem_append_left _ (by simp [ownFp, ← e])))).trans ((HbB.out.block g (Array.getElem?_eq_some_iff.mp HG3.out).1).trans HG3.out))
            have HGfC1 := Lib.hid (show g ∉ fp1 from fun hg => by rcases hnew g hg with h1 | h1; exact HNF.out h1; have := (Array.getElem?_eq_some_iff.mp HG3.out).1; omega)
            obtain ⟨L1, hL1⟩ : ∃ x, x = L ++ [mrV l D3] := ⟨_, rfl⟩
            have hLl1 : L1.length = L.length + 1 := by rw [hL1]; simp
            rw [← hL1] at hM
            rw [← hLl1]
            have HL1 := Lib.hid (hL1)
            have HLl1 := Lib.hid (hLl1)
            have MC1 := Lib.hid (hM)
            clear hL1 hLl1
            clear hownC hgrowC hatC hltC hM hnew r63 r47 hws HM0 HQ HNF HbB HUq HPE HNq M3 HB3 HG3
            obtain ⟨a0, -⟩ := cells_of_heap HGC1.out 0 (by simp)
            obtain ⟨a1, -⟩ := cells_of_heap HGC1.out 1 (by simp)
            obtain ⟨a2, -⟩ := cells_of_heap HGC1.out 2 (by simp)
            simp only [List.getElem_toArray, List.getElem_cons_zero, List.getElem_cons_succ] at a0 a1 a2
            go_wp2_with fail
            refine (specFind_q _ D3 0 c m (d.length : Int) HFI3.out _ (by have := HDL.out; have := HLen3.out; unfold maxLen; omega) (RdN.of_owns MC1.out.dn)).mono ?_
            rintro e w5 ⟨rfl, hb5⟩
            have M5 := Lib.hid (MC1.out.below hb5)
            have HB5 := Lib.hid (HBC1.out.trans (hb5.mono HBC1.out.size))
            have HG5 := Lib.hid ((hb5.block g (Array.getElem?_eq_some_iff.mp HGC1.out).1).trans HGC1.out)
            clear hb5 a0 a1 a2 MC1 HBC1 HGC1
            go_wp2_with fail
            refine (specWithout_n w.heap.size D3.length d.length _ _ D3 _ rfl (by rw [HLen3.out]; omega) (by have := HDL.out; have := HLen3.out; omega) M5.out.dn).mono ?_
            rintro e w6 ⟨a6, c6, rfl, ho6, hb6⟩
            have M6 := Lib.hid (M5.out.anew hb6 HB5.out.size (Nat.le_refl _) ho6)
            have HB6 := Lib.hid (HB5.out.trans (hb6.mono HB5.out.size))
            have HG6 := Lib.hid ((hb6.block g (Array.getElem?_eq_some_iff.mp HG5.out).1).trans HG5.out)
            obtain ⟨D6, hD6⟩ : ∃ x, x = D3.eraseIdx d.length := ⟨_, rfl⟩
            rw [← hD6] at M6 ⊢
            have HD6 := Lib.hid (hD6)
            clear hD6 hb6 ho6 M5 HB5 HG5
            have HE6 := Lib.hid (show D6 = d from by rw [HD6.out, HD3.out]; exact erase_last)
            rw [HE6.out] at M6 ⊢
            go_wp2_with fail
            refine (specL8Report_any _ _ l d _ HL.out (by have := HDL.out; omega) HOK.out HDO.out (H1.out.below HB6.out) (RdN.of_owns M6.out.dn)).mono ?_
            rintro e wA2 ⟨u, rfl, hu, hbA⟩
            obtain ⟨ua2, uc2, rfl⟩ := owns_shape hu
            have hpl : (mrV l d).2.length ≤ 56 := mrK_len _ _ 56
            have hpe : ((mrV l d).1, (mrV l d).2) = mrV l d := rfl
            obtain ⟨pm2, hpm⟩ : ∃ x, x = (mrV l d).1 := ⟨_, rfl⟩
            obtain ⟨pz2, hpz⟩ : ∃ x, x = (mrV l d).2 := ⟨_, rfl⟩
            rw [← hpm, ← hpz] at hpe
            rw [← hpz] at hu hpl
            rw [← hpm, ← hpz]
            obtain ⟨fq, hq1, hq2, hq3⟩ := owC_row hu (by omega)
            have hm0 := M6.out
            obtain ⟨us, fps, hOQ, hfp⟩ := M6.out.out
            rw [hfp] at hm0
            have hnf : g ∉ ownFp (.slice (some ⟨go1, 0, none⟩) L1.length cap1) ++ fps.flatten := hfp ▸ HGfC1.out
            have HM0 := Lib.hid (hm0)
            have HQ := Lib.hid (hOQ)
            have HNF := Lib.hid (hnf)
            have HPE := Lib.hid (hpe)
            have HNq := Lib.hid (hq2)
            have HbB := Lib.hid (show Below w6.heap.size w6 (wA2.alloc (.cells #[.int .i64 pm2, .slice ua2 pz2.length uc2] 47)) from hbA.alloc hbA.size _)
            have HUq := Lib.hid (hq1.below (below_alloc1 wA2 (.cells #[.int .i64 pm2, .slice ua2 pz2.length uc2] 47)))
            have r63 : L1.length + 1 ≤ maxLen := by have := HLL.out; have := HDL.out; have := HLl1.out; unfold maxLen; omega
            have r47 : (L1.length + 1) * 32 ≤ 140737488355328 := by have := HLL.out; have := HLl1.out; omega
            have hws : w.heap.size ≤ wA2.heap.size := Nat.le_trans HB6.out.size hbA.size
            clear hu hpl hpm hpz hq1 hq2 hq3 hm0 hOQ hnf hpe hbA hfp
            go_wp2_with (at_builtin; refine wpList_append_lies _ rfl _ _ 34 rfl w.heap.size 47 iR (.agg #[.int .i64 0, .slice none 0 0]) 2 32 Tryz.underlying34 hR hR0 hR1 hR2 rfl (by decide) _ _ _ rfl (owns_below HQ.out.own HbB.out) ⟨wA2.heap.size, 0, none⟩ 1 1 [.int .i64 pm2, .slice ua2 pz2.length uc2] rfl rfl (World.news_of_block (cs := #[.int .i64 pm2, .slice ua2 pz2.length uc2]) (t := 47) (fr := (0, 0)) (heap_alloc_new wA2 _)) (by simp [Value.oneCell']) (by decide) r63 r47 (by simp; omega) (wA2.heap.size + 1) (by simp) ?_)
            intro go2 cap2 wC2 hownC hgrowC hatC hltC
            obtain ⟨fp2, hM, hnew⟩ := MrW.push (m := pm2) (z := pz2) HM0.out HQ.out HbB.out HUq.out HNq.out HB6.out.size hownC hgrowC (by rcases hatC with h1 | h1; exact .inl h1; exact .inr (by rw [h1]; simp))
            rw [HPE.out] at hM
            have HBC2 := Lib.hid (((HB6.out.trans (HbB.out.mono HB6.out.size)).grown hgrowC (by simp; omega) (fun q hq => (HQ.out.own.lt q hq).1)))
            have HGC2 := Lib.hid ((hgrowC.block g (by have := (Array.getElem?_eq_some_iff.mp HG6.out).1; have := HbB.out.size; omega) (fun e => HNF.out (List.mem_append_left _ (by simp [ownFp, ← e])))).trans ((HbB.out.block g (Array.getElem?_eq_some_iff.mp HG6.out).1).trans HG6.out))
            have HGfC2 := Lib.hid (show g ∉ fp2 from fun hg => by rcases hnew g hg with h1 | h1; exact HNF.out h1; have := (Array.getElem?_eq_some_iff.mp HG6.out).1; omega)
            obtain ⟨L2, hL2⟩ : ∃ x, x = L1 ++ [mrV l d] := ⟨_, rfl⟩
            have hLl2 : L2.length = L1.length + 1 := by rw [hL2]; simp
            rw [← hL2] at hM
            rw [← hLl2]
            have HL2 := Lib.hid (hL2)
            have HLl2 := Lib.hid (hLl2)
            have MC2 := Lib.hid (hM)
            clear hL2 hLl2
            clear hownC hgrowC hatC hltC hM hnew r63 r47 hws HM0 HQ HNF HbB HUq HPE HNq M6 HB6 HG6
            have hmn2 := HMN.out
            rw [show L ++ [mrV l (d ++ [(⟨0, 2, c, m, 0⟩ : Hd)]), mrV l d] = L2 from by rw [HL2.out, HL1.out, HD3.out]; simp] at hmn2
            replace HMN := Lib.hid hmn2
            clear hmn2
            go_wp2
            go_roundw
            case rel => exact ⟨j + 1, (some ⟨go2, 0, none⟩), a6, cap2, c6, fp2, by omega, by go_num, by rw [HMN.out], by rw [HDN.out], by rw [HMN.out, HDN.out]; exact MC2.out, HBC2.out⟩
            case measure => simp [intOf]; omega
          · skip
            have HMN := Lib.hid (show mrN l s (j + 1) = L ++ [mrV l (d ++ [(⟨0, 2, c, m, 0⟩ : Hd)])] from by rw [HMn.out]; rfl)
            have HDN := Lib.hid (show dwN s (j + 1) = d ++ [(⟨0, 2, c, m, 0⟩ : Hd)] from by rw [HDw.out]; exact nxS_one rfl)
            clear HFC HKF HMn HDw
            obtain ⟨a0, -⟩ := cells_of_heap HGU.out 0 (by simp)
            obtain ⟨a1, -⟩ := cells_of_heap HGU.out 1 (by simp)
            obtain ⟨a2, -⟩ := cells_of_heap HGU.out 2 (by simp)
            simp only [List.getElem_toArray, List.getElem_cons_zero, List.getElem_cons_succ] at a0 a1 a2
            go_wp2_with fail
            refine (specL8Action_any 1 c m _).mono ?_
            rintro e w2 ⟨rfl, hb2⟩
            have M2 := Lib.hid (MU.out.below hb2)
            have HB2 := Lib.hid (HBU.out.trans (hb2.mono HBU.out.size))
            have HG2 := Lib.hid ((hb2.block g (Array.getElem?_eq_some_iff.mp HGU.out).1).trans HGU.out)
            have HS2 := Lib.hid (hb2.size)
            clear hb2 MU HBU HGU
            have b63 : d.length + 1 ≤ maxLen := by have := HDL.out; unfold maxLen; omega
            have b47 : (d.length + 1) * 40 ≤ 140737488355328 := by have := HDL.out; omega
            have hws : w.heap.size ≤ w2.heap.size := HB2.out.size
            go_wp2_with (at_builtin; refine wpList_append_lies _ rfl _ _ 28 rfl w.heap.size 43 i0 (.agg #[.int .i64 0, .int .i64 0, .int .i64 0, .int .i64 0, .int .i64 0]) 5 40 Tryz.underlying28 hi hz0 hz1 hz2 rfl (by decide) _ _ _ rfl (M2.out.dn.alloc _) ⟨w2.heap.size, 0, none⟩ 1 1 [.int .i64 0, .int .i64 2, .int .i64 c, .int .i64 m, .int .i64 0] rfl rfl (World.news_of_block (cs := #[.int .i64 0, .int .i64 2, .int .i64 c, .int .i64 m, .int .i64 0]) (t := 43) (fr := (0, 0)) (heap_alloc_new w2 _)) (by simp [Value.oneCell']) (by decide) b63 b47 (by simp; omega) (w2.heap.size + 1) (by simp) ?_)
            intro gd cd3 w3 hown3 hgrow3 hat3 hlt3
            have hbx : Below w2.heap.size w2 (w2.alloc (.cells #[.int .i64 0, .int .i64 2, .int .i64 c, .int .i64 m, .int .i64 0] 43)) := below_alloc1 w2 _
            have hlen3 : (d ++ [(⟨0, 2, c, m, 0⟩ : Hd)]).length = d.length + 1 := by simp
            have M3 := Lib.hid ((M2.out.below hbx).down (d' := d ++ [(⟨0, 2, c, m, 0⟩ : Hd)]) hgrow3 (by rw [hlen3, flatHd_snoc]; exact hown3) (new_fp hat3 (by simp)))
            have HB3 := Lib.hid ((HB2.out.alloc hws (.cells #[.int .i64 0, .int .i64 2, .int .i64 c, .int .i64 m, .int .i64 0] 43)).grown hgrow3 (by simp; omega) (fun q hq => (M2.out.dn.lt q hq).1))
            have HG3 := Lib.hid ((hgrow3.block g (by have := (Array.getElem?_eq_some_iff.mp HG2.out).1; simp; omega) (fun e => HGd.out (by simp [ownFp, ← e]))).trans ((hbx.block g (Array.getElem?_eq_some_iff.mp HG2.out).1).trans HG2.out))
            have HS3 := Lib.hid ((show w2.heap.size < w3.heap.size by have h1 := hgrow3.size; simp at h1; omega))
            obtain ⟨D3, hD3⟩ : ∃ x, x = d ++ [(⟨0, 2, c, m, 0⟩ : Hd)] := ⟨_, rfl⟩
            rw [← hD3] at M3 hlen3
            have HD3 := Lib.hid (hD3)
            have HLen3 := Lib.hid (hlen3)
            rw [← hlen3]
            clear hD3 hown3 hgrow3 hat3 hlt3 hbx hlen3 b63 b47 hws M2 HB2 HG2
            clear a0 a1 a2
            have HDO3 := Lib.hid (show DwOk D3 from by rw [HD3.out]; exact HDO2.out)
            go_wp2_with fail
            refine (specL8Report_any _ _ l D3 _ HL.out (by have := HDL.out; have := HLen3.out; omega) HOK.out HDO3.out (H1.out.below HB3.out) (RdN.of_owns M3.out.dn)).mono ?_
            rintro e wA1 ⟨u, rfl, hu, hbA⟩
            obtain ⟨ua1, uc1, rfl⟩ := owns_shape hu
            have hpl : (mrV l D3).2.length ≤ 56 := mrK_len _ _ 56
            have hpe : ((mrV l D3).1, (mrV l D3).2) = mrV l D3 := rfl
            obtain ⟨pm1, hpm⟩ : ∃ x, x = (mrV l D3).1 := ⟨_, rfl⟩
            obtain ⟨pz1, hpz⟩ : ∃ x, x = (mrV l D3).2 := ⟨_, rfl⟩
            rw [← hpm, ← hpz] at hpe
            rw [← hpz] at hu hpl
            rw [← hpm, ← hpz]
            obtain ⟨fq, hq1, hq2, hq3⟩ := owC_row hu (by omega)
            have hm0 := M3.out
            obtain ⟨us, fps, hOQ, hfp⟩ := M3.out.out
            rw [hfp] at hm0
            have hnf : g ∉ ownFp (.slice ao L.length co) ++ fps.flatten := hfp ▸ HGf.out
            have HM0 := Lib.hid (hm0)
            have HQ := Lib.hid (hOQ)
            have HNF := Lib.hid (hnf)
            have HPE := Lib.hid (hpe)
            have HNq := Lib.hid (hq2)
            have HbB := Lib.hid (show Below w3.heap.size w3 (wA1.alloc (.cells #[.int .i64 pm1, .slice ua1 pz1.length uc1] 47)) from hbA.alloc hbA.size _)
            have HUq := Lib.hid (hq1.below (below_alloc1 wA1 (.cells #[.int .i64 pm1, .slice ua1 pz1.length uc1] 47)))
            have r63 : L.length + 1 ≤ maxLen := by have := HLL.out; have := HDL.out; unfold maxLen; omega
            have r47 : (L.length + 1) * 32 ≤ 140737488355328 := by have := HLL.out; omega
            have hws : w.heap.size ≤ wA1.heap.size := Nat.le_trans HB3.out.size hbA.size
            clear hu hpl hpm hpz hq1 hq2 hq3 hm0 hOQ hnf hpe hbA hfp
            go_wp2_with (at_builtin; refine wpList_append_lies _ rfl _ _ 34 rfl w.heap.size 47 iR (.agg #[.int .i64 0, .slice none 0 0]) 2 32 Tryz.underlying34 hR hR0 hR1 hR2 rfl (by decide) _ _ _ rfl (owns_below HQ.out.own HbB.out) ⟨wA1.heap.size, 0, none⟩ 1 1 [.int .i64 pm1, .slice ua1 pz1.length uc1] rfl rfl (World.news_of_block (cs := #[.int .i64 pm1, .slice ua1 pz1.length uc1]) (t := 47) (fr := (0, 0)) (heap_alloc_new wA1 _)) (by simp [Value.oneCell']) (by decide) r63 r47 (by simp; omega) (wA1.heap.size + 1) (by simp) ?_)
            intro go1 cap1 wC1 hownC hgrowC hatC hltC
            obtain ⟨fp1, hM, hnew⟩ := MrW.push (m := pm1) (z := pz1) HM0.out HQ.out HbB.out HUq.out HNq.out HB3.out.size hownC hgrowC (by rcases hatC with h1 | h1; exact .inl h1; exact .inr (by rw [h1]; simp))
            rw [HPE.out] at hM
            have HBC1 := Lib.hid (((HB3.out.trans (HbB.out.mono HB3.out.size)).grown hgrowC (by simp; omega) (fun q hq => (HQ.out.own.lt q hq).1)))
            have HGC1 := Lib.hid ((hgrowC.block g (by have := (Array.getElem?_eq_some_iff.mp HG3.out).1; have := HbB.out.size; omega) (fun e => HNF.out (List.mem_append_left _ (by simp [ownFp, ← e])))).trans ((HbB.out.block g (Array.getElem?_eq_some_iff.mp HG3.out).1).trans HG3.out))
            have HGfC1 := Lib.hid (show g ∉ fp1 from fun hg => by rcases hnew g hg with h1 | h1; exact HNF.out h1; have := (Array.getElem?_eq_some_iff.mp HG3.out).1; omega)
            obtain ⟨L1, hL1⟩ : ∃ x, x = L ++ [mrV l D3] := ⟨_, rfl⟩
            have hLl1 : L1.length = L.length + 1 := by rw [hL1]; simp
            rw [← hL1] at hM
            rw [← hLl1]
            have HL1 := Lib.hid (hL1)
            have HLl1 := Lib.hid (hLl1)
            have MC1 := Lib.hid (hM)
            clear hL1 hLl1
            clear hownC hgrowC hatC hltC hM hnew r63 r47 hws HM0 HQ HNF HbB HUq HPE HNq M3 HB3 HG3
            obtain ⟨a0, -⟩ := cells_of_heap HGC1.out 0 (by simp)
            obtain ⟨a1, -⟩ := cells_of_heap HGC1.out 1 (by simp)
            obtain ⟨a2, -⟩ := cells_of_heap HGC1.out 2 (by simp)
            simp only [List.getElem_toArray, List.getElem_cons_zero, List.getElem_cons_succ] at a0 a1 a2
            replace HMN := Lib.hid (show mrN l s (j + 1) = L1 from by rw [HMN.out, HL1.out, HD3.out])
            replace HDN := Lib.hid (show dwN s (j + 1) = D3 from by rw [HDN.out, HD3.out])
            go_wp2
            go_roundw
            case rel => exact ⟨j + 1, (some ⟨go1, 0, none⟩), (some ⟨gd, 0, none⟩), cap1, cd3, fp1, by omega, by go_num, by rw [HMN.out], by rw [HDN.out], by rw [HMN.out, HDN.out]; exact MC1.out, HBC1.out⟩
            case measure => simp [intOf]; omega
          · obtain ⟨hfi, hfl⟩ : fiI d ⟨2, c, m⟩ = (fiH d ⟨2, c, m⟩ : Int) ∧ fiH d ⟨2, c, m⟩ < d.length := by rcases HFC.out with ⟨h1, _⟩ | h1; have h2 := HKF.out.mp rfl; rw [h1] at h2; exact absurd h2 (by decide); exact h1
            obtain ⟨fn, hfn⟩ : ∃ t, t = fiH d ⟨2, c, m⟩ := ⟨_, rfl⟩
            rw [← hfn] at hfi hfl
            have HFI := Lib.hid (hfi.symm)
            have HFL := Lib.hid (hfl)
            have HMN := Lib.hid (show mrN l s (j + 1) = L ++ [mrV l (d.eraseIdx fn)] from by rw [HMn.out, hfn]; rfl)
            have HDN := Lib.hid (show dwN s (j + 1) = d.eraseIdx fn from by rw [HDw.out, hfn]; exact nxS_two rfl)
            have HDO3 := Lib.hid (dwOk_erase HDO.out fn)
            have HEL := Lib.hid (List.length_eraseIdx_le d fn)
            clear hfi hfl hfn HFC HKF HMn HDw
            obtain ⟨a0, -⟩ := cells_of_heap HGU.out 0 (by simp)
            obtain ⟨a1, -⟩ := cells_of_heap HGU.out 1 (by simp)
            obtain ⟨a2, -⟩ := cells_of_heap HGU.out 2 (by simp)
            simp only [List.getElem_toArray, List.getElem_cons_zero, List.getElem_cons_succ] at a0 a1 a2
            go_wp2_with fail
            refine (specFind_q _ d 2 c m (fn : Int) HFI.out _ (by have := HDL.out; unfold maxLen; omega) (RdN.of_owns MU.out.dn)).mono ?_
            rintro e w5 ⟨rfl, hb5⟩
            have M5 := Lib.hid (MU.out.below hb5)
            have HB5 := Lib.hid (HBU.out.trans (hb5.mono HBU.out.size))
            have HG5 := Lib.hid ((hb5.block g (Array.getElem?_eq_some_iff.mp HGU.out).1).trans HGU.out)
            clear hb5 a0 a1 a2 MU HBU HGU
            go_wp2_with fail
            refine (specWithout_n w.heap.size d.length fn _ _ d _ rfl HFL.out (by have := HDL.out; omega) M5.out.dn).mono ?_
            rintro e w6 ⟨a6, c6, rfl, ho6, hb6⟩
            have M6 := Lib.hid (M5.out.anew hb6 HB5.out.size (Nat.le_refl _) ho6)
            have HB6 := Lib.hid (HB5.out.trans (hb6.mono HB5.out.size))
            have HG6 := Lib.hid ((hb6.block g (Array.getElem?_eq_some_iff.mp HG5.out).1).trans HG5.out)
            obtain ⟨D6, hD6⟩ : ∃ x, x = d.eraseIdx fn := ⟨_, rfl⟩
            rw [← hD6] at M6 ⊢
            have HD6 := Lib.hid (hD6)
            clear hD6 hb6 ho6 M5 HB5 HG5
            have HDO4 := Lib.hid (show DwOk D6 from by rw [HD6.out]; exact HDO3.out)
            have HEL2 := Lib.hid (show D6.length ≤ d.length from by rw [HD6.out]; exact HEL.out)
            go_wp2_with fail
            refine (specL8Report_any _ _ l D6 _ HL.out (by have := HDL.out; have := HEL2.out; omega) HOK.out HDO4.out (H1.out.below HB6.out) (RdN.of_owns M6.out.dn)).mono ?_
            rintro e wA1 ⟨u, rfl, hu, hbA⟩
            obtain ⟨ua1, uc1, rfl⟩ := owns_shape hu
            have hpl : (mrV l D6).2.length ≤ 56 := mrK_len _ _ 56
            have hpe : ((mrV l D6).1, (mrV l D6).2) = mrV l D6 := rfl
            obtain ⟨pm1, hpm⟩ : ∃ x, x = (mrV l D6).1 := ⟨_, rfl⟩
            obtain ⟨pz1, hpz⟩ : ∃ x, x = (mrV l D6).2 := ⟨_, rfl⟩
            rw [← hpm, ← hpz] at hpe
            rw [← hpz] at hu hpl
            rw [← hpm, ← hpz]
            obtain ⟨fq, hq1, hq2, hq3⟩ := owC_row hu (by omega)
            have hm0 := M6.out
            obtain ⟨us, fps, hOQ, hfp⟩ := M6.out.out
            rw [hfp] at hm0
            have hnf : g ∉ ownFp (.slice ao L.length co) ++ fps.flatten := hfp ▸ HGf.out
            have HM0 := Lib.hid (hm0)
            have HQ := Lib.hid (hOQ)
            have HNF := Lib.hid (hnf)
            have HPE := Lib.hid (hpe)
            have HNq := Lib.hid (hq2)
            have HbB := Lib.hid (show Below w6.heap.size w6 (wA1.alloc (.cells #[.int .i64 pm1, .slice ua1 pz1.length uc1] 47)) from hbA.alloc hbA.size _)
            have HUq := Lib.hid (hq1.below (below_alloc1 wA1 (.cells #[.int .i64 pm1, .slice ua1 pz1.length uc1] 47)))
            have r63 : L.length + 1 ≤ maxLen := by have := HLL.out; have := HDL.out; unfold maxLen; omega
            have r47 : (L.length + 1) * 32 ≤ 140737488355328 := by have := HLL.out; omega
            have hws : w.heap.size ≤ wA1.heap.size := Nat.le_trans HB6.out.size hbA.size
            clear hu hpl hpm hpz hq1 hq2 hq3 hm0 hOQ hnf hpe hbA hfp
            go_wp2_with (at_builtin; refine wpList_append_lies _ rfl _ _ 34 rfl w.heap.size 47 iR (.agg #[.int .i64 0, .slice none 0 0]) 2 32 Tryz.underlying34 hR hR0 hR1 hR2 rfl (by decide) _ _ _ rfl (owns_below HQ.out.own HbB.out) ⟨wA1.heap.size, 0, none⟩ 1 1 [.int .i64 pm1, .slice ua1 pz1.length uc1] rfl rfl (World.news_of_block (cs := #[.int .i64 pm1, .slice ua1 pz1.length uc1]) (t := 47) (fr := (0, 0)) (heap_alloc_new wA1 _)) (by simp [Value.oneCell']) (by decide) r63 r47 (by simp; omega) (wA1.heap.size + 1) (by simp) ?_)
            intro go1 cap1 wC1 hownC hgrowC hatC hltC
            obtain ⟨fp1, hM, hnew⟩ := MrW.push (m := pm1) (z := pz1) HM0.out HQ.out HbB.out HUq.out HNq.out HB6.out.size hownC hgrowC (by rcases hatC with h1 | h1; exact .inl h1; exact .inr (by rw [h1]; simp))
            rw [HPE.out] at hM
            have HBC1 := Lib.hid (((HB6.out.trans (HbB.out.mono HB6.out.size)).grown hgrowC (by simp; omega) (fun q hq => (HQ.out.own.lt q hq).1)))
            have HGC1 := Lib.hid ((hgrowC.block g (by have := (Array.getElem?_eq_some_iff.mp HG6.out).1; have := HbB.out.size; omega) (fun e => HNF.out (List.mem_append_left _ (by simp [ownFp, ← e])))).trans ((HbB.out.block g (Array.getElem?_eq_some_iff.mp HG6.out).1).trans HG6.out))
            have HGfC1 := Lib.hid (show g ∉ fp1 from fun hg => by rcases hnew g hg with h1 | h1; exact HNF.out h1; have := (Array.getElem?_eq_some_iff.mp HG6.out).1; omega)
            obtain ⟨L1, hL1⟩ : ∃ x, x = L ++ [mrV l D6] := ⟨_, rfl⟩
            have hLl1 : L1.length = L.length + 1 := by rw [hL1]; simp
            rw [← hL1] at hM
            rw [← hLl1]
            have HL1 := Lib.hid (hL1)
            have HLl1 := Lib.hid (hLl1)
            have MC1 := Lib.hid (hM)
            clear hL1 hLl1
            clear hownC hgrowC hatC hltC hM hnew r63 r47 hws HM0 HQ HNF HbB HUq HPE HNq M6 HB6 HG6
            replace HMN := Lib.hid (show mrN l s (j + 1) = L1 from by rw [HMN.out, HL1.out, HD6.out])
            replace HDN := Lib.hid (show dwN s (j + 1) = D6 from by rw [HDN.out, HD6.out])
            go_wp2
            go_roundw
            case rel => exact ⟨j + 1, (some ⟨go1, 0, none⟩), a6, cap1, c6, fp1, by omega, by go_num, by rw [HMN.out], by rw [HDN.out], by rw [HMN.out, HDN.out]; exact MC1.out, HBC1.out⟩
            case measure => simp [intOf]; omega
        · obtain rfl : j = n := by omega
          rw [← HX2.out] at hm ⊢
          have M9 := Lib.hid (hm)
          have HB9 := Lib.hid (hb)
          clear hm hb
          go_wp2
          go_ret
          exact ⟨_, _, _, rfl, M9.out.out, HB9.out⟩

end Go.Proofs.YtjfckchoklepbaaGreat
