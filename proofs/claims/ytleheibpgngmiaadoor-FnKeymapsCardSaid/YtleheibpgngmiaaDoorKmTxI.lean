/- DERIVED. The program's FormatKeymap returns the text of a keymap, where its tables are as its text lays them. -/
import Derived.Test.YtleheibpgngmiaaDoorKmPa
import Derived.Test.YtleheibpgngmiaaDoorKmImpl
import Derived.Test.YtleheibpgngmiaaDoorAcMath
import Derived.Test.YtleheibpgngmiaaDoorJoin
namespace Go.Proofs.YtleheibpgngmiaaDoor
open Go.RowKit

theorem take_set_next : ∀ (xs : List Value) (v : Value) (j : Nat), j < xs.length → (xs.set j v).take (j + 1) = xs.take j ++ [v]
  | [], _, _, h => by simp at h
  | x :: xs, v, 0, _ => by simp
  | x :: xs, v, j + 1, h => by
    have := take_set_next xs v j (by simpa using h)
    rw [List.set_cons_succ, List.take_succ_cons, this, List.take_succ_cons, List.cons_append]

set_option maxRecDepth 100000 in
set_option maxHeartbeats 4000000 in
theorem implFormatKeymap_any (keys : Int) (v : Value) (L : List (List Ac)) (w : World) (ht : AcTabs w) (hn : L.length ≤ maxLen) (hm : ∀ l ∈ L, l.length ≤ maxLen) (h : LdS w v L) :
    Calls Tryd.prog 30 #[kmv keys v] w fun e w' => e = .returned (.string (kmS keys L)) ∧ Below w.heap.size w w' := by
  obtain ⟨i0, hi, hz0, hz1, hz2⟩ := info_parts info_str
  obtain ⟨r, hr⟩ : ∃ r, r = kmS keys L := ⟨_, rfl⟩
  obtain ⟨o, ho⟩ : ∃ o, o = okKm keys L := ⟨_, rfl⟩
  rw [← hr]
  have hr2 := hr
  rw [kmS, ← ho] at hr2
  have HT := Lib.hid ht
  have HO := Lib.hid ho
  have HR := Lib.hid hr2
  have HN := Lib.hid hn
  have HM := Lib.hid hm
  have H := Lib.hid h
  obtain ⟨xa, xc, rfl⟩ := RdS.shape h
  clear hr hr2 hm h ho ht hn
  obtain ⟨n, hnl⟩ : ∃ n, n = L.length := ⟨_, rfl⟩
  have HNL := Lib.hid hnl
  rw [← hnl]
  clear hnl
  obtain ⟨W, hW⟩ : ∃ W, W = w.alloc (.cells #[.int .i64 keys, .slice xa n xc] 31) := ⟨_, rfl⟩
  have HX0 := Lib.hid (show Bxd W w.heap.size [.int .i64 keys, .slice xa n xc] by rw [hW]; exact Bxd.new _ _ _)
  have HB0 := Lib.hid (show Below w.heap.size w W by rw [hW]; exact (Below.refl _ _).alloc (Nat.le_refl _) _)
  have HS0 := Lib.hid (show w.heap.size < W.heap.size by rw [hW]; simp)
  have HW := Lib.hid hW
  clear hW
  go_enter Tryd.func30, Tryd.ntmps30
  go_wp2_with fail
  rw [← HW.out]
  have c0 := HX0.out.at 0 _ rfl
  have c1 := HX0.out.at 1 _ rfl
  refine (implIsKeymap_q keys _ L o HO.out _ HN.out HM.out (by rw [HNL.out]; exact H.out.below HB0.out)).mono ?_
  rintro e w1 ⟨rfl, hb⟩
  have HB1 := Lib.hid (show Below W.heap.size W w1 from hb)
  clear hb c0 c1
  cases o
  · have hRr : r = ⟨#[]⟩ := HR.out
    subst hRr
    go_wp2
    go_ret
    exact ⟨rfl, HB0.out.trans (HB1.out.mono HB0.out.size)⟩
  · obtain ⟨⟨k1, k32⟩, ⟨l1, l4⟩, hall⟩ := okKm_at HO.out.symm
    have HRr := Lib.hid (show r = joined (L.map rowT) barS from HR.out)
    have hn4 : 1 ≤ n ∧ n ≤ 4 := by rw [HNL.out]; exact ⟨l1, l4⟩
    obtain ⟨n1, n4⟩ := hn4
    obtain ⟨K, rfl⟩ := Int.eq_ofNat_of_zero_le (show 0 ≤ keys by omega)
    have HAll := Lib.hid (show ∀ j, j < n → (lD L j).length = K from fun j hj => by have := (hall j (by rw [← HNL.out]; exact hj)).1; omega)
    have hK : K ≤ 32 := by omega
    have hRows : ∀ s ∈ L.map rowT, s.size ≤ 352 := by
      intro s hs
      obtain ⟨l, hl, rfl⟩ := List.mem_map.1 hs
      obtain ⟨q, hq, rfl⟩ := List.getElem_of_mem hl
      have h1 := rowT_size L[q]
      have h3 : lD L q = L[q] := by unfold lD; rw [List.getD_eq_getElem?_getD, List.getElem?_eq_getElem hq]; rfl
      have h4 := (hall q hq).1
      rw [h3] at h4
      omega
    have hJ : ∀ q, q ≤ (L.map rowT).length → (jn (L.map rowT) barS q).length ≤ 70368744177664 := by
      intro q hq
      have h1 := jn_le 352 (L.map rowT) barS hRows q hq
      have e : barS.size = 3 := rfl
      rw [e] at h1
      rw [List.length_map] at hq
      omega
    have HJ := Lib.hid hJ
    have HML := Lib.hid (show (L.map rowT).length = n by rw [List.length_map, HNL.out])
    rcases RdS.cases H.out with ⟨hnil, _⟩ | ⟨b, off, cap, us, hpos, hsl, hlt, hc⟩
    · exfalso; rw [hnil] at l1; simp at l1
    · obtain ⟨rfl, -, rfl⟩ := by simpa using hsl
      rw [← HNL.out] at hc
      have HC := Lib.hid hc
      have HLT := Lib.hid hlt
      clear hall l1 l4 hpos hsl hc hlt k1 k32 hRows hJ
      have c1 := (HX0.out.below HB1.out HS0.out).at 1 _ rfl
      go_wp2_with (at_make; refine wpList_make_full w1 rfl _ _ 74 rfl W.heap.size 9 i0 (.string ByteArray.empty) 1 Tryd.underlying74 hi hz0 hz1 .i64 .i64 _ _ n rfl rfl rfl rfl (by rw [hz2]; omega) ?_ ?_ ?_)
      · simp [maxLen]; omega
      · exact HB1.out.size
      · intro w2 hown hg
        obtain ⟨g, hgv⟩ : ∃ g, g = w1.heap.size := ⟨_, rfl⟩
        rw [← hgv] at hown ⊢
        have hB2 : Below W.heap.size W w2 := HB1.out.grown hg HB1.out.size (fun k hk => by cases hk)
        have HO2 := Lib.hid hown
        have HB2 := Lib.hid hB2
        clear hown hg hB2 hgv c1
        have c1 := (HX0.out.below HB2.out HS0.out).at 1 _ rfl
        go_wp2
        clear c1
        go_loopw [4, 5, 6, 7, 8, 19] (fun _ _ _ _ _ i wr => ∃ (j : Nat) (xs : List Value), j ≤ n ∧ i = .int .i64 j ∧ wr.ownsRow W.heap.size 9 1 (.slice (some ⟨g, 0, none⟩) n n) n xs ∧ xs.take j = ((L.map rowT).take j).map .string ∧ Below W.heap.size W wr) (fun _ _ _ _ _ i _ => n - (intOf i).toNat)
        case atStart => exact ⟨0, _, Nat.zero_le _, rfl, HO2.out, rfl, HB2.out⟩
        case round =>
          obtain ⟨j, xs, hj, rfl, ho, hxs, hb⟩ := hrel
          obtain ⟨W1, hW1⟩ : ∃ x, x = wr := ⟨_, rfl⟩
          subst hW1
          have HO3 := Lib.hid ho
          have HXS := Lib.hid hxs
          have HB3 := Lib.hid hb
          have hbw := HB0.out.trans (hb.mono HB0.out.size)
          have HBW := Lib.hid hbw
          clear ho hxs hb
          by_cases hlt' : j < n
          · obtain ⟨d0, hrow⟩ := HC.out j hlt'
            obtain ⟨ua, uc, hu⟩ := RdN.shape hrow
            have hlen := HAll.out j hlt'
            rw [hu] at d0 hrow
            rw [hlen] at d0
            have HRow := Lib.hid hrow
            have HLen := Lib.hid hlen
            have d1 := (hbw.cell (p := ⟨b, off + j, none⟩) HLT.out).trans d0
            clear hrow d0 hlen hu hbw
            go_wp2_with (at_make; refine wpList_make_full W1 rfl _ _ 74 rfl W1.heap.size 9 i0 (.string ByteArray.empty) 1 Tryd.underlying74 hi hz0 hz1 .i64 .i64 _ _ K rfl rfl rfl rfl (by rw [hz2]; omega) ?_ ?_ ?_)
            · simp [maxLen]; omega
            · exact Nat.le_refl _
            · intro w3 hown hg
              obtain ⟨g2, hgv⟩ : ∃ g, g = W1.heap.size := ⟨_, rfl⟩
              rw [← hgv] at hown ⊢
              have hB4 : Below g2 W1 w3 := (Below.refl _ _).grown hg (by rw [hgv]; exact Nat.le_refl _) (fun k hk => by cases hk)
              have HGv := Lib.hid hgv
              have HO4 := Lib.hid hown
              have HB4 := Lib.hid hB4
              clear hown hg hB4 hgv d1
              go_wp2
              go_loopw [7, 8, 29] (fun _ _ kk wr => ∃ (k : Nat) (ys : List Value), k ≤ K ∧ kk = .int .i64 k ∧ wr.ownsRow g2 9 1 (.slice (some ⟨g2, 0, none⟩) K K) K ys ∧ ys.take k = (((lD L j).map acW).take k).map .string ∧ Below g2 W1 wr) (fun _ _ kk _ => K - (intOf kk).toNat)
              case atStart => exact ⟨0, _, Nat.zero_le _, rfl, HO4.out, rfl, HB4.out⟩
              case round =>
                obtain ⟨k, ys, hk, rfl, ho, hys, hb⟩ := hrel
                have hbw := HBW.out.trans (hb.mono (by rw [HGv.out]; exact HBW.out.size))
                have HO5 := Lib.hid ho
                have HYS := Lib.hid hys
                have HB5 := Lib.hid hb
                by_cases hkl : k < K
                · obtain ⟨b2, off2, rfl, hlt2, e0, e1, e2, e3⟩ := row_at HRow.out (k := k) (by rw [HLen.out]; exact hkl)
                  have f0 := (hbw.cell (p := ⟨b2, off2 + k * 4, none⟩) hlt2).trans e0
                  have f1 := (hbw.cell (p := ⟨b2, off2 + k * 4 + 1, none⟩) hlt2).trans e1
                  have f2 := (hbw.cell (p := ⟨b2, off2 + k * 4 + 2, none⟩) hlt2).trans e2
                  have f3 := (hbw.cell (p := ⟨b2, off2 + k * 4 + 3, none⟩) hlt2).trans e3
                  have hst := strs_take ((lD L j).map acW) k (by rw [List.length_map, HLen.out]; exact hkl)
                  have hgd : ((lD L j).map acW).getD k ⟨#[]⟩ = acW (acD (lD L j) k) := by
                    have hk2 : k < (lD L j).length := by rw [HLen.out]; exact hkl
                    rw [List.getD_eq_getElem?_getD, List.getElem?_map, List.getElem?_eq_getElem hk2, acD, List.getD_eq_getElem?_getD, List.getElem?_eq_getElem hk2]
                    rfl
                  rw [hgd] at hst
                  obtain ⟨A, hA⟩ : ∃ A, A = acD (lD L j) k := ⟨_, rfl⟩
                  rw [← hA] at f0 f1 f2 f3 hst
                  obtain ⟨T, hT⟩ : ∃ T, T = acW A := ⟨_, rfl⟩
                  rw [← hT] at hst
                  have HST := Lib.hid hst
                  have HTT := Lib.hid hT
                  obtain ⟨ak, ac, am, an⟩ := A
                  simp only at f0 f1 f2 f3
                  have HBW5 := Lib.hid hbw
                  clear e0 e1 e2 e3 hA ho hys hb hbw hst hgd hT
                  go_upto_region 11 with (fail)
                  obtain ⟨U, hU⟩ : ∃ U, U = wr.alloc (.cells #[.int .i64 ak, .int .i64 ac, .int .i64 am, .int .i64 an] 37) := ⟨_, rfl⟩
                  obtain ⟨gx, hgx⟩ : ∃ g, g = wr.heap.size := ⟨_, rfl⟩
                  have hbx : Bxd U gx [.int .i64 ak, .int .i64 ac, .int .i64 am, .int .i64 an] := by rw [hU, hgx]; exact Bxd.new _ _ _
                  have hbu : Below wr.heap.size wr U := by rw [hU]; exact (Below.refl _ _).alloc (Nat.le_refl _) _
                  rw [← hU, ← hgx]
                  have HBU := Lib.hid hbu
                  have a0 := hbx.at 0 _ rfl
                  have a1 := hbx.at 1 _ rfl
                  have a2 := hbx.at 2 _ rfl
                  have a3 := hbx.at 3 _ rfl
                  clear hU hgx hbx hbu f0 f1 f2 f3
                  go_wp2_with fail
                  refine (implFormatAction_n ak ac am an T HTT.out _ (HT.out.below (HBW5.out.trans (HBU.out.mono HBW5.out.size)))).mono ?_
                  rintro e w5 ⟨rfl, hb5⟩
                  have hbb := HBU.out.trans (hb5.mono HBU.out.size)
                  have HB6 := Lib.hid (HB5.out.trans (hbb.mono (show g2 ≤ wr.heap.size by have := HB5.out.size; have := HGv.out; omega)))
                  have HO6 := Lib.hid (owns_below HO5.out hbb)
                  clear hb5 hbb a0 a1 a2 a3
                  have hyl : ys.length = K := by have := HO6.out.1; omega
                  obtain ⟨y0, s0⟩ : ∃ y, w5.cell? ⟨g2, k, none⟩ = some y := ⟨ys[k]'(by omega), by rw [HO6.out.cellAt k (by omega), List.getElem?_eq_getElem (show k < ys.length by omega)]⟩
                  have z0 := HO6.out.frozenAt k
                  have HO7 := Lib.hid (HO6.out.stored k (.string T)).1
                  have HYS2 := Lib.hid (show (ys.set k (.string T)).take (k + 1) = (((lD L j).map acW).take (k + 1)).map .string by rw [take_set_next _ _ _ (by omega), HYS.out, HST.out])
                  have HB7 := Lib.hid (show Below g2 W1 (w5.setCell ⟨g2, k, none⟩ (.string T)) from HB6.out.setCell (Nat.le_refl _) _)
                  clear hyl
                  go_wp2
                  go_roundw
                  case rel => exact ⟨k + 1, _, by omega, by go_num, HO7.out, HYS2.out, HB7.out⟩
                  case measure => simp [intOf]; omega
                · obtain rfl : k = K := by omega
                  have hwl : ((lD L j).map acW).length = k := by rw [List.length_map, HLen.out]
                  have hrd5 : Rd wr (.slice (some ⟨g2, 0, none⟩) k k) (((lD L j).map acW).map .string) := by
                    have h1 := Rd.of_owns HO5.out
                    have hyl : ys.length = k := by have := HO5.out.1; omega
                    have h2 := HYS.out
                    rw [List.take_of_length_le (by omega), List.take_of_length_le (by omega)] at h2
                    rw [← h2]; exact h1
                  have hJr : ∀ q, q ≤ ((lD L j).map acW).length → (jn ((lD L j).map acW) blankS q).length ≤ 70368744177664 := by
                    intro q hq
                    have h1 := row_small (lD L j) q hq
                    omega
                  obtain ⟨T, hT⟩ : ∃ T, T = rowT (lD L j) := ⟨_, rfl⟩
                  have hst := strs_take (L.map rowT) j (by rw [HML.out]; exact hlt')
                  have hgd : (L.map rowT).getD j ⟨#[]⟩ = rowT (lD L j) := by
                    have hj2 : j < L.length := by rw [← HNL.out]; exact hlt'
                    rw [List.getD_eq_getElem?_getD, List.getElem?_map, List.getElem?_eq_getElem hj2, lD, List.getD_eq_getElem?_getD, List.getElem?_eq_getElem hj2]
                    rfl
                  rw [hgd, ← hT] at hst
                  have HST := Lib.hid hst
                  have HTT := Lib.hid hT
                  have HRd5 := Lib.hid hrd5
                  have HJr := Lib.hid hJr
                  have HWL := Lib.hid hwl
                  clear ho hys hb hbw hwl hrd5 hJr hT hst hgd
                  go_wp2_with fail
                  refine (implJoin_any _ ((lD L j).map acW) blankS _ (by rw [HWL.out]; omega) HJr.out HRd5.out).mono ?_
                  rw [show joined ((lD L j).map acW) blankS = T from HTT.out.symm]
                  rintro e w5 ⟨rfl, hb5⟩
                  have hbb : Below W1.heap.size W1 w5 := by
                    have h1 := HB5.out
                    rw [HGv.out] at h1
                    exact h1.trans (hb5.mono h1.size)
                  have HB9 := Lib.hid (HB3.out.trans (hbb.mono HB3.out.size))
                  have HO9 := Lib.hid (owns_below HO3.out hbb)
                  clear hb5 hbb
                  have hxl : xs.length = n := by have := HO9.out.1; omega
                  obtain ⟨y0, s0⟩ : ∃ y, w5.cell? ⟨g, j, none⟩ = some y := ⟨xs[j]'(by omega), by rw [HO9.out.cellAt j (by omega), List.getElem?_eq_getElem (show j < xs.length by omega)]⟩
                  have z0 := HO9.out.frozenAt j
                  have HO10 := Lib.hid (HO9.out.stored j (.string T)).1
                  have HXS2 := Lib.hid (show (xs.set j (.string T)).take (j + 1) = ((L.map rowT).take (j + 1)).map .string by rw [take_set_next _ _ _ (by omega), HXS.out, HST.out])
                  have HB10 := Lib.hid (show Below W.heap.size W (w5.setCell ⟨g, j, none⟩ (.string T)) from HB9.out.setCell (HO9.out.lt g rfl).1 _)
                  clear hxl
                  go_wp2
                  go_roundw
                  case rel => exact ⟨j + 1, _, by omega, by go_num, HO10.out, HXS2.out, HB10.out⟩
                  case measure => simp [intOf]; omega
          · obtain rfl : j = n := by omega
            have hrd3 : Rd W1 (.slice (some ⟨g, 0, none⟩) j j) ((L.map rowT).map .string) := by
              have h1 := Rd.of_owns HO3.out
              have hxl : xs.length = j := by have := HO3.out.1; omega
              have h2 := HXS.out
              have h3 := HML.out
              rw [List.take_of_length_le (by omega), List.take_of_length_le (by omega)] at h2
              rw [← h2]; exact h1
            have HRd3 := Lib.hid hrd3
            clear hrd3 hbw
            go_wp2_with fail
            refine (implJoin_any _ (L.map rowT) barS _ (by rw [HML.out]; omega) HJ.out HRd3.out).mono ?_
            rintro e w5 ⟨rfl, hb5⟩
            have HB9 := Lib.hid (HB3.out.trans (hb5.mono HB3.out.size))
            clear hb5
            go_wp2
            go_ret
            exact ⟨ret_tx HRr.out.symm, HB0.out.trans (HB9.out.mono HB0.out.size)⟩

end Go.Proofs.YtleheibpgngmiaaDoor
