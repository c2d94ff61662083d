/- DERIVED. The text of a keymap; the reference's FormatKeymap returns it. · What the reference reads as a keymap: ParseKeymap returns it. Called with any text of at most 1048576 bytes. · A keymap's text cut at the separators of layers, each layer cut at blanks, is read as the reference reads it. Plain mathematics. -/
import Derived.Test.YtleheibpgngmiaaDoorKmSpec
import Derived.Test.YtleheibpgngmiaaDoorAcTx
import Derived.Test.YtleheibpgngmiaaDoorJoin
import Derived.Test.YtleheibpgngmiaaDoorAcPa2
import Derived.Test.YtleheibpgngmiaaDoorKmSpec5
import Derived.Test.YtleheibpgngmiaaDoorParts
import Derived.Lib.SplitLaws
namespace Go.Proofs.YtleheibpgngmiaaDoor
open Go.RowKit

def acW (a : Ac) : ByteArray := acS a.k a.c a.m a.n
def blankS : ByteArray := ⟨#[32]⟩
def barS : ByteArray := ⟨#[32, 124, 32]⟩
def rowT (l : List Ac) : ByteArray := joined (l.map acW) blankS
def kmS (keys : Int) (L : List (List Ac)) : ByteArray := if okKm keys L = true then joined (L.map rowT) barS else ⟨#[]⟩
theorem acS_size (k c m n : Int) : (acS k c m n).size ≤ 10 := by
  unfold acS
  split
  · rename_i h
    obtain ⟨_, _, _, n0, n3⟩ := okAc_lim h
    have hT : (itoaText n).size = 1 := by rw [itoa_few n0 n3]; rfl
    have hA := mdV_size m
    have hN := nmV_size c
    have e47 : (⟨#[47]⟩ : ByteArray).size = 1 := rfl
    have e45 : (⟨#[45]⟩ : ByteArray).size = 1 := rfl
    unfold acT
    by_cases g0 : k = 0
    · rw [if_pos g0]; show 4 ≤ 10; decide
    rw [if_neg g0]
    by_cases g1 : k = 1
    · rw [if_pos g1]; show 4 ≤ 10; decide
    rw [if_neg g1]
    by_cases g2 : k = 3
    · rw [if_pos g2]; rw [ByteArray.size_append, hT]; show 3 + 1 ≤ 10; decide
    rw [if_neg g2]
    by_cases g3 : k = 4
    · rw [if_pos g3]; rw [ByteArray.size_append, hT]; show 3 + 1 ≤ 10; decide
    rw [if_neg g3]
    by_cases g4 : k = 5
    · rw [if_pos g4]; rw [ByteArray.size_append, hT]; show 3 + 1 ≤ 10; decide
    rw [if_neg g4]
    by_cases g5 : k = 6
    · rw [if_pos g5]; rw [ByteArray.size_append, ByteArray.size_append, e47]; omega
    rw [if_neg g5]
    by_cases g6 : k = 7
    · rw [if_pos g6]; rw [ByteArray.size_append, ByteArray.size_append, e47]; omega
    rw [if_neg g6]
    by_cases g7 : k = 8
    · rw [if_pos g7]; rw [ByteArray.size_append]; show 5 + (mdV m).size ≤ 10; omega
    rw [if_neg g7]
    by_cases g8 : k = 9
    · rw [if_pos g8]; rw [ByteArray.size_append, hT]; show 6 + 1 ≤ 10; decide
    rw [if_neg g8]
    by_cases g9 : k = 10
    · rw [if_pos g9]; show 4 ≤ 10; decide
    rw [if_neg g9]
    by_cases g10 : m = 0
    · rw [if_pos g10]; omega
    rw [if_neg g10]
    rw [ByteArray.size_append, ByteArray.size_append, e45]; omega
  · exact Nat.zero_le _
theorem joined_size (ss : List ByteArray) (sep : ByteArray) : (joined ss sep).size = (jn ss sep ss.length).length := rfl
theorem row_small (l : List Ac) : ∀ k, k ≤ (l.map acW).length → (jn (l.map acW) blankS k).length ≤ k * 11 := by
  intro k hk
  have := jn_le 10 (l.map acW) blankS (fun s hs => by obtain ⟨a, _, rfl⟩ := List.mem_map.1 hs; exact acS_size _ _ _ _) k hk
  have e : blankS.size = 1 := rfl
  rw [e] at this
  exact this
theorem rowT_size (l : List Ac) : (rowT l).size ≤ l.length * 11 := by
  rw [rowT, joined_size]
  have := row_small l _ (Nat.le_refl _)
  rwa [List.length_map] at this ⊢
theorem specFormatAction_q (k c m n : Int) (T : ByteArray) (hT : T = acS k c m n) (w : World) : Calls Tryd.prog 60 #[acv k c m n] w fun e w' => e = .returned (.string T) ∧ Below w.heap.size w w' := by
  rw [hT]; exact specFormatAction_any k c m n w
theorem strs_take (ss : List ByteArray) (j : Nat) (h : j < ss.length) : (ss.take (j + 1)).map Value.string = (ss.take j).map Value.string ++ [.string (ss.getD j ⟨#[]⟩)] := by
  rw [List.take_succ_eq_append_getElem h, List.map_append, List.getD_eq_getElem?_getD, List.getElem?_eq_getElem h]
  rfl

set_option maxRecDepth 100000 in
set_option maxHeartbeats 4000000 in
theorem specFormatKeymap_any (keys : Int) (v : Value) (L : List (List Ac)) (w : World) (hn : L.length ≤ maxLen) (hm : ∀ l ∈ L, l.length ≤ maxLen) (h : LdS w v L) :
    Calls Tryd.prog 36 #[kmv keys v] w fun e w' => e = .returned (.string (kmS keys L)) ∧ Below w.heap.size w w' := by
  obtain ⟨i0, hi, hz0, hz1, hz2⟩ := info_parts info_str
  obtain ⟨r, hr⟩ : ∃ r, r = kmS keys L := ⟨_, rfl⟩
  obtain ⟨o, ho⟩ : ∃ o, o = okKm keys L := ⟨_, rfl⟩
  rw [← hr]
  have hr2 := hr
  rw [kmS, ← ho] at hr2
  have HO := Lib.hid ho
  have HR := Lib.hid hr2
  have HN := Lib.hid hn
  have HM := Lib.hid hm
  have H := Lib.hid h
  obtain ⟨xa, xc, rfl⟩ := RdS.shape h
  clear hr hr2 hm h ho
  unfold maxLen at hn
  obtain ⟨n, hnl⟩ : ∃ n, n = L.length := ⟨_, rfl⟩
  have HNL := Lib.hid hnl
  rw [← hnl] at hn ⊢
  clear hnl
  obtain ⟨W, hW⟩ : ∃ W, W = w.alloc (.cells #[.int .i64 keys, .slice xa n xc] 31) := ⟨_, rfl⟩
  have HX0 := Lib.hid (show Bxd W w.heap.size [.int .i64 keys, .slice xa n xc] by rw [hW]; exact Bxd.new _ _ _)
  have HB0 := Lib.hid (show Below w.heap.size w W by rw [hW]; exact (Below.refl _ _).alloc (Nat.le_refl _) _)
  have HS0 := Lib.hid (show w.heap.size < W.heap.size by rw [hW]; simp)
  have HW := Lib.hid hW
  clear hW
  go_enter Tryd.func36, Tryd.ntmps36
  go_upto_region 2 with (fail)
  rw [← HW.out]
  obtain ⟨U, hU⟩ : ∃ U, U = W.alloc (.cells #[] 9) := ⟨_, rfl⟩
  obtain ⟨g0, hg0⟩ : ∃ g, g = w.heap.size + 1 := ⟨_, rfl⟩
  have hg1 : g0 = W.heap.size := by rw [hg0, HW.out]; simp
  have hbu : Below W.heap.size W U := by rw [hU]; exact (Below.refl _ _).alloc (Nat.le_refl _) _
  have hou : U.ownsRow W.heap.size 9 1 (.slice (some ⟨g0, 0, none⟩) 0 0) 0 [] := by rw [hU, hg1]; exact World.ownsRow_lit (e := 9) (size := 1) W #[] 0 (Nat.le_refl _) (by simp [maxLen]) rfl
  rw [← hU, ← hg0]
  have HBU := Lib.hid hbu
  have HOU := Lib.hid hou
  clear hU hg0 hg1 hbu hou
  have c0 := (HX0.out.below HBU.out HS0.out).at 0 _ rfl
  have c1 := (HX0.out.below HBU.out HS0.out).at 1 _ rfl
  have HRd0 := Lib.hid (show LdS U (.slice xa n xc) L by rw [HNL.out]; exact H.out.below (HB0.out.trans (HBU.out.mono HB0.out.size)))
  have HJ0 := Lib.hid (show Rd U (.slice (some ⟨g0, 0, none⟩) 0 0) (([] : List ByteArray).map .string) from Rd.of_owns HOU.out)
  have HBar := Lib.hid (show barS.size ≤ 1048576 by decide)
  have HBl := Lib.hid (show blankS.size ≤ 1048576 by decide)
  cases o
  · have HRr := Lib.hid (show r = joined [] barS from HR.out)
    have hjn : ∀ k, k ≤ ([] : List ByteArray).length → (jn [] barS k).length ≤ 70368744177664 := by intro k hk; simp at hk; subst hk; simp [jn]
    have HJN := Lib.hid hjn
    clear hjn
    by_cases hn0 : 0 < n
    · go_wp2
      refine wp_loop_rounds 1 ?_
      rw [rounds_succ]
      go_wp2_with fail
      refine (specIsKeymap_q keys _ L false HO.out _ HN.out HM.out HRd0.out).mono ?_
      rintro e w1 ⟨rfl, hb⟩
      have HB1 := Lib.hid (HBU.out.trans (hb.mono HBU.out.size))
      have HJ1 := Lib.hid (HJ0.out.below hb)
      clear hb c0 c1
      go_wp2_with fail
      refine (specJoin_any _ [] barS _ (by simp) HBar.out HJN.out HJ1.out).mono ?_
      rintro e w2 ⟨rfl, hb⟩
      have HB2 := Lib.hid (HB1.out.trans (hb.mono HB1.out.size))
      clear hb
      go_wp2
      go_ret
      exact ⟨ret_tx HRr.out.symm, HB0.out.trans (HB2.out.mono HB0.out.size)⟩
    · obtain rfl : n = 0 := by omega
      go_wp2
      refine wp_loop_rounds 1 ?_
      rw [rounds_succ]
      go_wp2_with fail
      refine (specJoin_any _ [] barS _ (by simp) HBar.out HJN.out HJ0.out).mono ?_
      rintro e w2 ⟨rfl, hb⟩
      have HB2 := Lib.hid (HBU.out.trans (hb.mono HBU.out.size))
      clear hb
      go_wp2
      go_ret
      exact ⟨ret_tx HRr.out.symm, HB0.out.trans (HB2.out.mono HB0.out.size)⟩
  · obtain ⟨⟨k1, k32⟩, ⟨l1, l4⟩, hall⟩ := okKm_at HO.out.symm
    have HRr := Lib.hid (show r = joined (L.map rowT) barS from HR.out)
    have hn4 : 1 ≤ n ∧ n ≤ 4 := by rw [HNL.out]; exact ⟨l1, l4⟩
    obtain ⟨n1, n4⟩ := hn4
    obtain ⟨K, rfl⟩ := Int.eq_ofNat_of_zero_le (show 0 ≤ keys by omega)
    have HAll := Lib.hid (show ∀ j, j < n → (lD L j).length = K from fun j hj => by have := (hall j (by rw [← HNL.out]; exact hj)).1; omega)
    have hK : K ≤ 32 := by omega
    have hRows : ∀ s ∈ L.map rowT, s.size ≤ 352 := by
      intro s hs
      obtain ⟨l, hl, rfl⟩ := List.mem_map.1 hs
      obtain ⟨q, hq, rfl⟩ := List.getElem_of_mem hl
      have h1 := rowT_size L[q]
      have h3 : lD L q = L[q] := by unfold lD; rw [List.getD_eq_getElem?_getD, List.getElem?_eq_getElem hq]; rfl
      have h4 := (hall q hq).1
      rw [h3] at h4
      omega
    have hJ : ∀ q, q ≤ (L.map rowT).length → (jn (L.map rowT) barS q).length ≤ 70368744177664 := by
      intro q hq
      have h1 := jn_le 352 (L.map rowT) barS hRows q hq
      have e : barS.size = 3 := rfl
      rw [e] at h1
      rw [List.length_map] at hq
      omega
    have HJ := Lib.hid hJ
    have HML := Lib.hid (show (L.map rowT).length = n by rw [List.length_map, HNL.out])
    rcases RdS.cases H.out with ⟨hnil, _⟩ | ⟨b, off, cap, us, hpos, hsl, hlt, hc⟩
    · exfalso; rw [hnil] at l1; simp at l1
    · obtain ⟨rfl, -, rfl⟩ := by simpa using hsl
      rw [← HNL.out] at hc
      have HC := Lib.hid hc
      have HLT := Lib.hid hlt
      clear hall l1 l4 hpos hsl hc hlt k1 k32 hRows hJ c0 c1
      go_wp2
      go_loopw [3, 4, 5, 6] (fun u i _ _ wr => ∃ (j : Nat) (a : Option Addr) (c : Nat), j ≤ n ∧ i = .int .i64 j ∧ u = .slice a j c ∧ wr.ownsRow W.heap.size 9 1 (.slice a j c) j (((L.map rowT).take j).map .string) ∧ Below W.heap.size W wr) (fun _ i _ _ _ => n - (intOf i).toNat)
      case atStart => exact ⟨0, _, _, Nat.zero_le _, rfl, rfl, HOU.out, HBU.out⟩
      case round =>
        obtain ⟨j, a, c, hj, rfl, rfl, ho, hb⟩ := hrel
        obtain ⟨W1, hW1⟩ : ∃ x, x = wr := ⟨_, rfl⟩
        subst hW1
        have HO3 := Lib.hid ho
        have HB3 := Lib.hid hb
        have c0 := (HX0.out.below hb HS0.out).at 0 _ rfl
        have c1 := (HX0.out.below hb HS0.out).at 1 _ rfl
        have hbw := HB0.out.trans (hb.mono HB0.out.size)
        have HRd1 := Lib.hid (show LdS W1 (.slice (some ⟨b, off, none⟩) n xc) L by rw [HNL.out]; exact H.out.below hbw)
        clear ho hb
        by_cases hlt' : j < n
        · obtain ⟨d0, hrow⟩ := HC.out j hlt'
          obtain ⟨ua, uc, hu⟩ := RdN.shape hrow
          have hlen := HAll.out j hlt'
          rw [hu] at d0 hrow
          rw [hlen] at d0
          have HRow := Lib.hid hrow
          have HD := Lib.hid d0
          have HLen := Lib.hid hlen
          clear hrow d0 hlen hu hbw
          go_wp2_with fail
          refine (specIsKeymap_q K _ L true HO.out _ HN.out HM.out HRd1.out).mono ?_
          rintro e w2 ⟨rfl, hb⟩
          have HB4 := Lib.hid (HB3.out.trans (hb.mono HB3.out.size))
          have HO4 := Lib.hid (owns_below HO3.out hb)
          clear hb c0 c1
          go_upto_region 6 with (fail)
          obtain ⟨A0, hA0⟩ : ∃ x, x = w2.alloc (.cells #[] 9) := ⟨_, rfl⟩
          obtain ⟨ga, hga⟩ : ∃ g, g = w2.heap.size := ⟨_, rfl⟩
          have hbA : Below w2.heap.size w2 A0 := by rw [hA0]; exact (Below.refl _ _).alloc (Nat.le_refl _) _
          have hoA : A0.ownsRow w2.heap.size 9 1 (.slice (some ⟨ga, 0, none⟩) 0 0) 0 ((((lD L j).map acW).take 0).map .string) := by rw [hA0, hga]; exact World.ownsRow_lit (e := 9) (size := 1) w2 #[] 0 (Nat.le_refl _) (by simp [maxLen]) rfl
          rw [← hA0, ← hga]
          have HBA := Lib.hid hbA
          have HOA := Lib.hid hoA
          clear hA0 hga hbA hoA
          go_wp2
          go_loopw [5, 6] (fun u kk wr => ∃ (k : Nat) (a : Option Addr) (c : Nat), k ≤ K ∧ kk = .int .i64 k ∧ u = .slice a k c ∧ wr.ownsRow w2.heap.size 9 1 (.slice a k c) k ((((lD L j).map acW).take k).map .string) ∧ Below w2.heap.size w2 wr) (fun _ kk _ => K - (intOf kk).toNat)
          case atStart => exact ⟨0, _, _, Nat.zero_le _, rfl, rfl, HOA.out, HBA.out⟩
          case round =>
            obtain ⟨k, a', c', hk, rfl, rfl, ho, hb⟩ := hrel
            have hbW := HB4.out.trans (hb.mono HB4.out.size)
            have c0 := (HX0.out.below hbW HS0.out).at 0 _ rfl
            have c1 := (HX0.out.below hbW HS0.out).at 1 _ rfl
            have hbw := HB0.out.trans (hbW.mono HB0.out.size)
            have HO5 := Lib.hid ho
            have HB5 := Lib.hid hb
            by_cases hkl : k < K
            · obtain ⟨b2, off2, rfl, hlt2, e0, e1, e2, e3⟩ := row_at HRow.out (k := k) (by rw [HLen.out]; exact hkl)
              have d1 := (hbw.cell (p := ⟨b, off + j, none⟩) HLT.out).trans HD.out
              have f0 := (hbw.cell (p := ⟨b2, off2 + k * 4, none⟩) hlt2).trans e0
              have f1 := (hbw.cell (p := ⟨b2, off2 + k * 4 + 1, none⟩) hlt2).trans e1
              have f2 := (hbw.cell (p := ⟨b2, off2 + k * 4 + 2, none⟩) hlt2).trans e2
              have f3 := (hbw.cell (p := ⟨b2, off2 + k * 4 + 3, none⟩) hlt2).trans e3
              have hst := strs_take ((lD L j).map acW) k (by rw [List.length_map, HLen.out]; exact hkl)
              have hgd : ((lD L j).map acW).getD k ⟨#[]⟩ = acW (acD (lD L j) k) := by
                have hk2 : k < (lD L j).length := by rw [HLen.out]; exact hkl
                rw [List.getD_eq_getElem?_getD, List.getElem?_map, List.getElem?_eq_getElem hk2, acD, List.getD_eq_getElem?_getD, List.getElem?_eq_getElem hk2]
                rfl
              rw [hgd] at hst
              obtain ⟨A, hA⟩ : ∃ A, A = acD (lD L j) k := ⟨_, rfl⟩
              rw [← hA] at f0 f1 f2 f3 hst
              obtain ⟨T, hT⟩ : ∃ T, T = acW A := ⟨_, rfl⟩
              rw [← hT] at hst
              have HST := Lib.hid hst
              have HTT := Lib.hid hT
              obtain ⟨ak, ac, am, an⟩ := A
              simp only at f0 f1 f2 f3
              clear e0 e1 e2 e3 hA ho hb hbw hbW hst hgd hT
              go_wp2_with fail
              refine (specFormatAction_q ak ac am an T HTT.out _).mono ?_
              rintro e w5 ⟨rfl, hb5⟩
              have HB6 := Lib.hid (HB5.out.trans (hb5.mono HB5.out.size))
              have HO6 := Lib.hid (owns_below HO5.out hb5)
              have hsz1 : w2.heap.size ≤ w5.heap.size + 1 := Nat.le_succ_of_le HB6.out.size
              have b63 : k + 1 ≤ maxLen := by unfold maxLen; omega
              have b47 : (k + 1) * 16 ≤ 140737488355328 := by omega
              clear hb5 f0 f1 f2 f3 d1 c0 c1
              go_wp2_with (at_builtin; refine wpList_append_owns rfl _ _ 74 rfl w2.heap.size 9 i0 (.string ByteArray.empty) 1 16 Tryd.underlying74 hi hz0 hz1 hz2 rfl (by decide) _ _ _ rfl (HO6.out.alloc _) _ _ _ _ rfl (World.ownsRow_lit (e := 9) (size := 1) w5 #[.string T] 1 (Nat.le_refl _) (by simp [maxLen]) rfl) (by simp [Value.oneCell']) b63 b47 (by simp; exact hsz1) ?_)
              intro v6 w6 hown6 hgrow
              obtain ⟨a6, c6, rfl⟩ := owns_shape hown6
              have HB7 := Lib.hid ((HB6.out.alloc HB6.out.size _).grown hgrow (by simp; exact hsz1) (fun q hq => (HO6.out.lt q hq).1))
              have HO7 := Lib.hid (show w6.ownsRow w2.heap.size 9 1 (.slice a6 (k + 1) c6) (k + 1) ((((lD L j).map acW).take (k + 1)).map .string) by rw [HST.out]; simpa using hown6)
              clear hown6 hgrow b63 b47 hsz1
              go_wp2
              go_roundw
              case rel => exact ⟨k + 1, a6, c6, by omega, by go_num, rfl, HO7.out, HB7.out⟩
              case measure => simp [intOf]; omega
            · obtain rfl : k = K := by omega
              have hwl : ((lD L j).map acW).length = k := by rw [List.length_map, HLen.out]
              have hrd5 : Rd wr (.slice a' k c') (((lD L j).map acW).map .string) := by
                have h1 := Rd.of_owns HO5.out
                rwa [List.take_of_length_le (by omega)] at h1
              have hJr : ∀ q, q ≤ ((lD L j).map acW).length → (jn ((lD L j).map acW) blankS q).length ≤ 70368744177664 := by
                intro q hq
                have h1 := row_small (lD L j) q hq
                omega
              obtain ⟨T, hT⟩ : ∃ T, T = rowT (lD L j) := ⟨_, rfl⟩
              have hst := strs_take (L.map rowT) j (by rw [HML.out]; exact hlt')
              have hgd : (L.map rowT).getD j ⟨#[]⟩ = rowT (lD L j) := by
                have hj2 : j < L.length := by rw [← HNL.out]; exact hlt'
                rw [List.getD_eq_getElem?_getD, List.getElem?_map, List.getElem?_eq_getElem hj2, lD, List.getD_eq_getElem?_getD, List.getElem?_eq_getElem hj2]
                rfl
              rw [hgd, ← hT] at hst
              have HST := Lib.hid hst
              have HTT := Lib.hid hT
              have HRd5 := Lib.hid hrd5
              have HJr := Lib.hid hJr
              have HWL := Lib.hid hwl
              have HO8 := Lib.hid (owns_below HO4.out hb)
              have HB8 := Lib.hid hbW
              clear ho hb hbw hbW hwl hrd5 hJr hT hst hgd c1
              go_wp2_with fail
              refine (specJoin_any _ ((lD L j).map acW) blankS _ (by rw [HWL.out]; omega) HBl.out HJr.out HRd5.out).mono ?_
              rw [show joined ((lD L j).map acW) blankS = T from HTT.out.symm]
              rintro e w5 ⟨rfl, hb5⟩
              have HB9 := Lib.hid (HB8.out.trans (hb5.mono HB8.out.size))
              have HO9 := Lib.hid (owns_below HO8.out hb5)
              have hsz1 : W.heap.size ≤ w5.heap.size + 1 := Nat.le_succ_of_le HB9.out.size
              have b63 : j + 1 ≤ maxLen := by unfold maxLen; omega
              have b47 : (j + 1) * 16 ≤ 140737488355328 := by omega
              clear hb5 c0
              go_wp2_with (at_builtin; refine wpList_append_owns rfl _ _ 74 rfl W.heap.size 9 i0 (.string ByteArray.empty) 1 16 Tryd.underlying74 hi hz0 hz1 hz2 rfl (by decide) _ _ _ rfl (HO9.out.alloc _) _ _ _ _ rfl (World.ownsRow_lit (e := 9) (size := 1) w5 #[.string T] 1 (Nat.le_refl _) (by simp [maxLen]) rfl) (by simp [Value.oneCell']) b63 b47 (by simp; exact hsz1) ?_)
              intro v6 w6 hown6 hgrow
              obtain ⟨a6, c6, rfl⟩ := owns_shape hown6
              have HB10 := Lib.hid ((HB9.out.alloc HB9.out.size _).grown hgrow (by simp; exact hsz1) (fun q hq => (HO9.out.lt q hq).1))
              have HO10 := Lib.hid (show w6.ownsRow W.heap.size 9 1 (.slice a6 (j + 1) c6) (j + 1) (((L.map rowT).take (j + 1)).map .string) by rw [HST.out]; simpa using hown6)
              clear hown6 hgrow b63 b47 hsz1
              go_wp2
              go_roundw
              case rel => exact ⟨j + 1, a6, c6, by omega, by go_num, rfl, HO10.out, HB10.out⟩
              case measure => simp [intOf]; omega
        · obtain rfl : j = n := by omega
          have hrd3 : Rd W1 (.slice a j c) ((L.map rowT).map .string) := by
            have h1 := Rd.of_owns HO3.out
            have h2 := HML.out
            rwa [List.take_of_length_le (by omega)] at h1
          have HRd3 := Lib.hid hrd3
          clear hrd3 hbw
          go_wp2_with fail
          refine (specJoin_any _ (L.map rowT) barS _ (by rw [HML.out]; omega) HBar.out HJ.out HRd3.out).mono ?_
          rintro e w5 ⟨rfl, hb5⟩
          have HB9 := Lib.hid (HB3.out.trans (hb5.mono HB3.out.size))
          clear hb5
          go_wp2
          go_ret
          exact ⟨ret_tx HRr.out.symm, HB0.out.trans (HB9.out.mono HB0.out.size)⟩
end Go.Proofs.YtleheibpgngmiaaDoor

namespace Go.Proofs.YtleheibpgngmiaaDoor
open Go.RowKit

abbrev sBar : ByteArray := ⟨#[124]⟩
structure Pk where
  l : List (List Ac)
  row : List Ac
  k : Int
  ok : Bool
def pkStep (p : Pk) (s : ByteArray) : Pk := if s = sBar then ⟨p.l ++ [p.row], [], p.row.length, p.ok⟩ else ⟨p.l, p.row ++ [(acP s).1], p.k, p.ok && (acP s).2⟩
def pkN (ws : List ByteArray) : Nat → Pk
  | 0 => ⟨[], [], 0, true⟩
  | i + 1 => pkStep (pkN ws i) (ws.getD i ⟨#[]⟩)
def pkEnd (p : Pk) : Kmr := if p.ok = true ∧ okKm p.k p.l = true then ⟨p.k, p.l, true⟩ else ⟨0, [], false⟩
def wordsOf (s : ByteArray) : List ByteArray := parts s 32 ++ [sBar]
def kmP (s : ByteArray) : Kmr := pkEnd (pkN (wordsOf s) (wordsOf s).length)
theorem pkN_bad {ws : List ByteArray} {i : Nat} (h : (pkN ws i).ok = false) : ∀ m, i ≤ m → (pkN ws m).ok = false
  | 0, hm => by obtain rfl : i = 0 := by omega
                exact h
  | m + 1, hm => by
    rcases Nat.lt_or_ge i (m + 1) with h2 | h2
    · have := pkN_bad h m (by omega)
      rw [pkN, pkStep]
      split
      · exact this
      · show ((pkN ws m).ok && _) = false
        rw [this]; rfl
    · obtain rfl : i = m + 1 := by omega
      exact h
theorem pkEnd_bad {p : Pk} (h : p.ok = false) : pkEnd p = ⟨0, [], false⟩ := by
  unfold pkEnd; rw [if_neg (fun e => by rw [h] at e; exact absurd e.1 (by decide))]
theorem pkN_len (ws : List ByteArray) : ∀ i, (pkN ws i).l.length ≤ i ∧ (pkN ws i).row.length ≤ i ∧ ∀ l ∈ (pkN ws i).l, l.length ≤ i
  | 0 => ⟨Nat.le_refl _, Nat.le_refl _, fun l hl => by simp [pkN] at hl⟩
  | i + 1 => by
    obtain ⟨h1, h2, h3⟩ := pkN_len ws i
    rw [pkN, pkStep]
    split
    · refine ⟨by simp; omega, by simp, fun l hl => ?_⟩
      rcases List.mem_append.1 hl with h | h
      · exact Nat.le_succ_of_le (h3 l h)
      · rw [List.mem_singleton.1 h]; omega
    · refine ⟨by simp; omega, by simp; omega, fun l hl => Nat.le_succ_of_le (h3 l hl)⟩
theorem specParseAction_n (s : ByteArray) (r : Ac × Bool) (hr : r = acP s) (w : World) (hl : s.size ≤ 1048576) : Calls Tryd.prog 65 #[.string s] w fun e w' => e = .returned (.tuple #[acv r.1.k r.1.c r.1.m r.1.n, .bool r.2]) ∧ Below w.heap.size w w' := by
  rw [hr]; exact specParseAction_any s w hl
theorem heap_grown {w w' : World} {r : Option Nat} {b : Nat} (h : w.grownBy w' r) (hb : b < w.heap.size) (hn : r ≠ some b) : w'.heap[b]? = w.heap[b]? := h.block b hb (fun e => hn e.symm)
theorem turn_grown {w w' : World} {v : Value} (hg : w.grownBy w' v.ownBlock) : Turn w w' (ownFp v) := by
  unfold ownFp
  rcases hv : v.ownBlock with _ | q
  · rw [hv] at hg
    exact ⟨hg.os, hg.tape, hg.output, hg.size, fun k hk _ => hg.block k hk (by simp)⟩
  · rw [hv] at hg
    exact Turn.of_grown hg
theorem ownFp_some {g n c : Nat} : ownFp (.slice (some ⟨g, 0, none⟩) n c) = [g] := by simp [ownFp, Value.ownBlock]

set_option maxRecDepth 100000 in
set_option maxHeartbeats 8000000 in
theorem specParseKeymap_any (s : ByteArray) (w : World) (hl : s.size ≤ 1048576) :
    Calls Tryd.prog 39 #[.string s] w (KmOut (kmP s) w) := by
  obtain ⟨i0, hi, hz0, hz1, hz2⟩ := info_parts info_ac
  obtain ⟨i1, hI1, hy0, hy1, hy2⟩ := info_parts info_acs
  obtain ⟨i2, hI2, hx0, hx1, hx2⟩ := info_parts info_str
  obtain ⟨r, hr⟩ : ∃ r, r = kmP s := ⟨_, rfl⟩
  rw [← hr]
  obtain ⟨V, hV⟩ : ∃ V, V = w.alloc (.cells #[.int .i64 0, .slice none 0 0] 31) := ⟨_, rfl⟩
  have hg0 : V.heap[w.heap.size]? = some (.cells #[.int .i64 0, .slice none 0 0] 31 (0, 0)) := by rw [hV]; exact heap_alloc_new w _
  have hb0 : Below w.heap.size w V := by rw [hV]; exact (Below.refl _ _).alloc (Nat.le_refl _) _
  have hs0 : V.heap.size = w.heap.size + 1 := by rw [hV]; simp
  have HNil := Lib.hid (show ∀ wx, Below w.heap.size w wx → r = ⟨0, [], false⟩ → KmOut r w (.returned (.tuple #[kmv 0 (.slice none 0 0), .bool false])) (putW wx w.heap.size 0 [.int .i64 0, .slice none 0 0]) from fun wx hx h => by
    rw [h]
    exact ⟨none, 0, _, rfl, OwB.done (OwB.start (World.ownsRow_nil _ _ _ _)) rfl, putW_below (by omega) _ _ _ hx⟩)
  obtain ⟨U, hU⟩ : ∃ U, U = V.alloc (.cells #[.int .i64 0, .slice none 0 0] 31) := ⟨_, rfl⟩
  obtain ⟨gm, hgm⟩ : ∃ g, g = w.heap.size + 1 := ⟨_, rfl⟩
  have hgm1 : gm = V.heap.size := by rw [hgm, hs0]
  have hbU : Below V.heap.size V U := by rw [hU]; exact (Below.refl _ _).alloc (Nat.le_refl _) _
  have HGm := Lib.hid (show U.heap[gm]? = some (.cells #[.int .i64 0, .slice none 0 0] 31 (0, 0)) by rw [hU, hgm1]; exact heap_alloc_new _ _)
  have HSU := Lib.hid (show U.heap.size = gm + 1 by rw [hU, hgm1]; simp)
  have HBU := Lib.hid (hb0.trans (hbU.mono hb0.size))
  have HGU := Lib.hid ((hbU.block w.heap.size (by rw [hs0]; omega)).trans hg0)
  have HGW := Lib.hid (show w.heap.size < gm by omega)
  obtain ⟨A0, hA0⟩ : ∃ x, x = U.alloc (.cells #[] 37) := ⟨_, rfl⟩
  obtain ⟨gr, hgr⟩ : ∃ g, g = w.heap.size + 1 + 1 := ⟨_, rfl⟩
  have hgr1 : gr = U.heap.size := by rw [hgr, HSU.out, hgm]
  have hbA : Below U.heap.size U A0 := by rw [hA0]; exact (Below.refl _ _).alloc (Nat.le_refl _) _
  have HRow0 := Lib.hid (show A0.ownsRow U.heap.size 37 4 (.slice (some ⟨gr, 0, none⟩) 0 0) 0 (flatAc []) by rw [hA0, hgr1]; exact World.ownsRow_lit (e := 37) (size := 4) U #[] 0 (Nat.le_refl _) (by simp [maxLen]) rfl)
  have HBA := Lib.hid hbA
  have HGR := Lib.hid (show gr < A0.heap.size by rw [hA0, hgr1]; simp)
  have HAll := Lib.hid (show A0 = ((w.alloc (.cells #[.int .i64 0, .slice none 0 0] 31)).alloc (.cells #[.int .i64 0, .slice none 0 0] 31)).alloc (.cells #[] 37) by rw [hA0, hU, hV])
  have hgmv : gm = w.heap.size + 1 := hgm
  have hgrv : gr = w.heap.size + 1 + 1 := hgr
  have HL := Lib.hid hl
  have HR := Lib.hid hr
  clear hV hU hA0 hbU hg0 hb0 hs0 hgm1 hgr1 hbA hl hr hgm hgr
  go_enter Tryd.func39, Tryd.ntmps39
  go_wp2_with fail
  rw [← HAll.out, ← hgrv, ← hgmv]
  clear hgmv hgrv
  refine (specSplit_any s 32 _ HL.out).mono ?_
  rintro e w1 ⟨vw, rfl, how, hb⟩
  obtain ⟨N, hN⟩ : ∃ N, N = (parts s 32).length := ⟨_, rfl⟩
  have hNb : N ≤ 1048577 := by rw [hN]; have := parts_len s 32; have := HL.out; omega
  rw [← hN] at how
  have HN := Lib.hid hN
  have HB1 := Lib.hid (HBA.out.trans (hb.mono HBA.out.size))
  have HOW := Lib.hid how
  have HRow1 := Lib.hid (owns_below HRow0.out hb)
  have HGR1 := Lib.hid (Nat.lt_of_lt_of_le HGR.out hb.size)
  have HGRA := Lib.hid (show gr < A0.heap.size from HGR.out)
  obtain ⟨av, cv, rfl⟩ := owns_shape how
  have hA : A0.heap.size ≤ w1.heap.size := hb.size
  have b63 : N + 1 ≤ maxLen := by unfold maxLen; omega
  have b47 : (N + 1) * 16 ≤ 140737488355328 := by omega
  have hsz1 : A0.heap.size ≤ w1.heap.size + 1 := by omega
  clear how hb hN
  go_wp2_with (at_builtin; refine wpList_append_lies _ rfl _ _ 74 rfl A0.heap.size 9 i2 (.string ByteArray.empty) 1 16 Tryd.underlying74 hI2 hx0 hx1 hx2 rfl (by decide) _ _ _ rfl (HOW.out.alloc _) ⟨w1.heap.size, 0, none⟩ 1 1 [.string sBar] rfl rfl (World.news_of_block (cs := #[.string sBar]) (t := 9) (fr := (0, 0)) (heap_alloc_new w1 _)) (by simp [Value.oneCell']) (by decide) b63 b47 (by simp; exact hsz1) (w1.heap.size + 1) (by simp) ?_)
  intro bw cw w2 hown2 hgrow2 hat2 hlt2
  obtain ⟨ws, hws⟩ : ∃ ws, ws = wordsOf s := ⟨_, rfl⟩
  have hwl : ws.length = N + 1 := by rw [hws, wordsOf, List.length_append, ← HN.out]; rfl
  have hwsz : ∀ j, (ws.getD j ⟨#[]⟩).size ≤ 1048576 := by
    intro j
    rw [List.getD_eq_getElem?_getD]
    rcases hc : ws[j]? with _ | p
    · exact Nat.zero_le _
    · have hm := List.mem_of_getElem? hc
      rw [hws, wordsOf, List.mem_append] at hm
      rcases hm with h1 | h1
      · obtain ⟨q, hq, rfl⟩ := List.getElem_of_mem h1
        have h2 := parts_sizes s 32 q
        rw [List.getD_eq_getElem?_getD, List.getElem?_eq_getElem hq] at h2
        exact Nat.le_trans h2 HL.out
      · rw [List.mem_singleton.1 h1]; show 1 ≤ 1048576; decide
  have hcw : ∀ j, j < N + 1 → w2.cell? ⟨bw, j, none⟩ = some (.string (ws.getD j ⟨#[]⟩)) := by
    intro j hj
    have hx : (parts s 32).map Value.string ++ [.string sBar] = ws.map Value.string := by rw [hws, wordsOf, List.map_append]; rfl
    have ho := hown2
    rw [hx] at ho
    rw [ho.cellAt j (by omega), List.getElem?_map, List.getD_eq_getElem?_getD, List.getElem?_eq_getElem (by omega)]
    rfl
  have hb2 : Below A0.heap.size w1 w2 := (((Below.refl w1.heap.size w1).alloc (Nat.le_refl _) _).mono hA).grown hgrow2 (by simp; exact hsz1) (fun q hq => (HOW.out.lt q hq).1)
  have hUA : U.heap.size ≤ A0.heap.size := HBA.out.size
  have hbwA : A0.heap.size ≤ bw := by
    rcases hat2 with h1 | h1
    · exact (HOW.out.lt bw h1).1
    · omega
  have HBW := Lib.hid (HB1.out.trans (hb2.mono hUA))
  have HRow2 := Lib.hid (show w2.ownsRow U.heap.size 37 4 (.slice (some ⟨gr, 0, none⟩) 0 0) 0 (flatAc []) from ((OwF.mk' (HRow1.out.alloc _)).turn (turn_grown hgrow2) (fun b hb hb' => by rw [ownFp_some, List.mem_singleton] at hb; have h1 := ((OwF.mk' HOW.out).rng b hb').1; have h2 := HGRA.out; omega)).1)
  have hgmA : gm < U.heap.size := by rw [HSU.out]; omega
  have HGm2 := Lib.hid (((HBW.out.trans (Below.refl _ _)).block gm hgmA).trans HGm.out)
  have HCW := Lib.hid hcw
  have HWL := Lib.hid hwl
  have HWS := Lib.hid hwsz
  have HWSE := Lib.hid hws
  have hbw1 : gm < bw := by omega
  have hbw2 : bw < w2.heap.size := hlt2
  have hbw3 : ¬ gr = bw := by have := HGRA.out; omega
  have hne1 : ¬ gm = bw := by omega
  have hne2 : ¬ bw = gm := by omega
  clear hws hwl hwsz hcw hb2 hown2 hgrow2 hat2 hlt2 hsz1 b63 b47
  go_wp2
  go_loopw [3, 5, 7, 8, 9] (fun _ row i _ _ wr => ∃ (j : Nat) (p : Pk) (us : List Value) (fps : List (List Nat)) (a : Option Addr) (c : Nat) (ra : Option Addr) (rc : Nat), j ≤ N + 1 ∧ p = pkN ws j ∧ i = .int .i64 j ∧ row = .slice ra p.row.length rc ∧ wr.heap[gm]? = some (.cells #[.int .i64 p.k, .slice a p.l.length c] 31 (0, 0)) ∧ LoB wr U.heap.size (.slice a p.l.length c) p.l.length us p.l fps ∧ OwF wr U.heap.size 37 4 (.slice ra p.row.length rc) p.row.length (flatAc p.row) (ownFp (.slice ra p.row.length rc)) ∧ (∀ x ∈ ownFp (.slice ra p.row.length rc), x ∉ ownFp (.slice a p.l.length c) ++ fps.flatten) ∧ bw ∉ ownFp (.slice ra p.row.length rc) ∧ bw ∉ ownFp (.slice a p.l.length c) ++ fps.flatten ∧ wr.heap[bw]? = w2.heap[bw]? ∧ bw < wr.heap.size ∧ p.ok = true ∧ Below gm U wr) (fun _ _ i _ _ _ => N + 1 - (intOf i).toNat)
  case atStart => exact ⟨0, ⟨[], [], 0, true⟩, [], [], none, 0, some ⟨gr, 0, none⟩, 0, Nat.zero_le _, rfl, rfl, rfl, HGm2.out, OwB.start (World.ownsRow_nil _ _ _ _), OwF.mk' HRow2.out, by intro x hx; simp [ownFp, Value.ownBlock], by rw [ownFp_some, List.mem_singleton]; exact fun e => hbw3 e.symm, by simp [ownFp, Value.ownBlock], rfl, hbw2, rfl, HBW.out.mono (Nat.le_of_lt hgmA)⟩
  case round =>
    obtain ⟨j, p, us, fps, a, c, ra, rc, hj, hp, rfl, rfl, hgm, hob, hrow, hd1, hd2, hd3, hbw, hbwl, hok, hb⟩ := hrel
    obtain ⟨W1, hW1⟩ : ∃ x, x = wr := ⟨_, rfl⟩
    subst hW1
    have hpl := pkN_len ws j
    rw [← hp] at hpl
    obtain ⟨hpl1, hpl2, hpl3⟩ := hpl
    have hUW : U.heap.size ≤ W1.heap.size := hb.size
    have hUg : gm < U.heap.size := by have := HSU.out; omega
    have hgms : gm < W1.heap.size := by omega
    by_cases hlt' : j < N + 1
    · have hcell : W1.cell? ⟨bw, j, none⟩ = some (.string (ws.getD j ⟨#[]⟩)) := (cell_heap hbw).trans (HCW.out j hlt')
      have hnx : pkN ws (j + 1) = pkStep p (ws.getD j ⟨#[]⟩) := by rw [pkN, ← hp]
      have hTs := HWS.out j
      obtain ⟨T, hT⟩ : ∃ T, T = ws.getD j ⟨#[]⟩ := ⟨_, rfl⟩
      rw [← hT] at hcell hnx hTs
      obtain ⟨o1, p1⟩ := cells_of_heap hgm 1 (by simp)
      by_cases hbar : T = sBar
      · rw [pkStep, if_pos hbar] at hnx
        have e1 := lit_eq [124] hbar
        have HOB := Lib.hid hob
        have HROW := Lib.hid hrow
        have HD1 := Lib.hid hd1
        have HD2 := Lib.hid hd2
        have HD3 := Lib.hid hd3
        have HGmW := Lib.hid hgm
        have HBwh := Lib.hid hbw
        have HB := Lib.hid hb
        have HNX := Lib.hid hnx
        have HOK := Lib.hid hok
        have c63 : p.l.length + 1 ≤ maxLen := by unfold maxLen; omega
        have c47 : (p.l.length + 1) * 24 ≤ 140737488355328 := by omega
        have hsz1 : U.heap.size ≤ W1.heap.size + 1 := by omega
        clear hob hrow hd1 hd2 hd3 hgm hbw hb hnx hok hp hpl3 hTs hT hbar
        go_wp2_with (at_builtin; refine wpList_append_lies _ rfl _ _ 29 rfl U.heap.size 54 i1 (.slice none 0 0) 1 24 Tryd.underlying29 hI1 hy0 hy1 hy2 rfl (by decide) (.slice a p.l.length c) p.l.length us rfl (HOB.out.own.alloc _) ⟨W1.heap.size, 0, none⟩ 1 1 [.slice ra p.row.length rc] rfl rfl (World.news_of_block (cs := #[.slice ra p.row.length rc]) (t := 54) (fr := (0, 0)) (heap_alloc_new W1 _)) (by simp [Value.oneCell']) (by decide) c63 c47 (by simp; exact hsz1) (W1.heap.size + 1) (by simp) ?_)
        intro g2 cap2 w4 hown2 hgrow2 hat2 hlt4
        have hb4 : Below U.heap.size W1 w4 := (((Below.refl W1.heap.size W1).alloc (Nat.le_refl _) _).mono hUW).grown hgrow2 (by simp; exact hsz1) (fun q hq => (HOB.out.own.lt q hq).1)
        have hgm4 := (hb4.block gm (by omega)).trans HGmW.out
        obtain ⟨o14, p14⟩ := cells_of_heap hgm4 1 (by simp)
        have hof : OwF (W1.alloc (.cells #[.slice ra p.row.length rc] 54)) U.heap.size 37 4 (.slice ra p.row.length rc) p.row.length (p.row.flatMap Ac.cells) (ownFp (.slice ra p.row.length rc)) := HROW.out.below ((Below.refl _ _).alloc (Nat.le_refl _) _)
        have hob3 := HOB.out.below (w' := W1.alloc (.cells #[.slice ra p.row.length rc] 54)) ((Below.refl _ _).alloc (Nat.le_refl _) _)
        have hg2 : (Value.slice a p.l.length c).ownBlock = some g2 ∨ g2 = (W1.alloc (.cells #[.slice ra p.row.length rc] 54)).heap.size := by rcases hat2 with h1 | h1; exact .inl h1; exact .inr (by rw [h1]; simp)
        have hpush := OwB.push hob3 rfl hof HD1.out hown2 hgrow2 hg2
        have hbwn : bw ∉ ownFp (.slice (some ⟨g2, 0, none⟩) (p.l.length + 1) cap2) ++ (fps ++ [ownFp (.slice ra p.row.length rc)]).flatten := by
          rw [ownFp_some, List.mem_append, not_or, List.flatten_append, List.mem_append, not_or]
          have h3 := HD3.out
          rw [List.mem_append, not_or] at h3
          refine ⟨?_, h3.2, by simpa using HD2.out⟩
          rw [List.mem_singleton]
          intro e
          rcases hat2 with h1 | h1
          · exact h3.1 (by rw [e]; simp [ownFp, h1])
          · omega
        have hbw4 : w4.heap[bw]? = w2.heap[bw]? := by
          rw [heap_grown hgrow2 (b := bw) (by simp; omega) (fun e => by
            have h3 := HD3.out
            rw [List.mem_append, not_or] at h3
            exact h3.1 (by simp [ownFp, e]))]
          rw [Below.heap_alloc _ _ _ hbwl]
          exact HBwh.out
        have HPush := Lib.hid hpush
        have HBwn := Lib.hid hbwn
        have HBw4 := Lib.hid hbw4
        have HB4 := Lib.hid hb4
        have HGm4 := Lib.hid hgm4
        have HW4 := Lib.hid (show W1.heap.size ≤ w4.heap.size from hb4.size)
        clear hof hob3 hg2 hpush hbwn hbw4 hb4 hgm4 hown2 hgrow2 hat2 hlt4 c63 c47 hsz1 o1 p1
        go_upto_region 9 with (fail)
        obtain ⟨w5, hw5⟩ : ∃ x, x = w4.setCell ⟨gm, 1, none⟩ (.slice (some ⟨g2, 0, none⟩) (p.l.length + 1) cap2) := ⟨_, rfl⟩
        have hgm5 : w5.heap[gm]? = some (.cells #[.int .i64 p.k, .slice (some ⟨g2, 0, none⟩) (p.l.length + 1) cap2] 31 (0, 0)) := by rw [hw5, heap_setCell_same w4 gm 1 _ _ _ HGm4.out]; simp
        have hs5 : w5.heap.size = w4.heap.size := by rw [hw5]; simp
        rw [← hw5]
        obtain ⟨o05, p05⟩ := cells_of_heap hgm5 0 (by simp)
        have HW5 := Lib.hid hw5
        have HGm5 := Lib.hid hgm5
        have HS5 := Lib.hid hs5
        clear hw5 hgm5 hs5 o14 p14
        obtain ⟨w6, hw6⟩ : ∃ x, x = w5.setCell ⟨gm, 0, none⟩ (.int .i64 (p.row.length : Int)) := ⟨_, rfl⟩
        have hs6 : w6.heap.size = w5.heap.size := by rw [hw6]; simp
        have hll : p.l.length + 1 = (p.l ++ [p.row]).length := by simp
        have hgm6 : (w6.alloc (.cells #[] 37)).heap[gm]? = some (.cells #[.int .i64 (p.row.length : Int), .slice (some ⟨g2, 0, none⟩) (p.l ++ [p.row]).length cap2] 31 (0, 0)) := by
          rw [Below.heap_alloc _ _ _ (by rw [hs6, HS5.out]; have := HW4.out; omega), hw6, heap_setCell_same w5 gm 0 _ _ _ HGm5.out, ← hll]; simp
        have hp4 := HPush.out
        have hr4 := hp4.rng
        have hob7 : LoB (w6.alloc (.cells #[] 37)) U.heap.size (.slice (some ⟨g2, 0, none⟩) (p.l ++ [p.row]).length cap2) (p.l ++ [p.row]).length (us ++ [.slice ra p.row.length rc]) (p.l ++ [p.row]) (fps ++ [ownFp (.slice ra p.row.length rc)]) := by
          rw [← hll]
          have h1 := hp4.turn (Turn.of_grown (grown_set w4 gm 1 (.slice (some ⟨g2, 0, none⟩) (p.l.length + 1) cap2))) (fun x hx hx' => by rw [List.mem_singleton] at hx'; have := (hr4 x hx).1; omega)
          rw [← HW5.out] at h1
          have h2 := h1.turn (Turn.of_grown (grown_set w5 gm 0 (.int .i64 (p.row.length : Int)))) (fun x hx hx' => by rw [List.mem_singleton] at hx'; have := (hr4 x hx).1; omega)
          rw [← hw6] at h2
          exact h2.below ((Below.refl _ _).alloc (Nat.le_refl _) _)
        have hrow7 : OwF (w6.alloc (.cells #[] 37)) U.heap.size 37 4 (.slice (some ⟨w5.heap.size, 0, none⟩) 0 0) 0 (flatAc []) (ownFp (.slice (some ⟨w5.heap.size, 0, none⟩) 0 0)) := by
          rw [← hs6]
          exact OwF.mk' (World.ownsRow_lit (e := 37) (size := 4) w6 #[] 0 (by rw [hs6, HS5.out]; have := HW4.out; omega) (by simp [maxLen]) rfl)
        have hd7 : ∀ x ∈ ownFp (.slice (some ⟨w5.heap.size, 0, none⟩) 0 0), x ∉ ownFp (.slice (some ⟨g2, 0, none⟩) (p.l ++ [p.row]).length cap2) ++ (fps ++ [ownFp (.slice ra p.row.length rc)]).flatten := by
          intro x hx hx'
          rw [ownFp_some, List.mem_singleton] at hx
          have h1 := (hr4 x (by rw [ownFp_some] at hx' ⊢; exact hx')).2
          have h2 := HS5.out
          omega
        have hbw7 : bw ∉ ownFp (.slice (some ⟨w5.heap.size, 0, none⟩) 0 0) := by
          rw [ownFp_some, List.mem_singleton]; have := HS5.out; have := HW4.out; omega
        have hbn7 : bw ∉ ownFp (.slice (some ⟨g2, 0, none⟩) (p.l ++ [p.row]).length cap2) ++ (fps ++ [ownFp (.slice ra p.row.length rc)]).flatten := by
          have := HBwn.out; rw [ownFp_some] at this ⊢; exact this
        have hbh7 : (w6.alloc (.cells #[] 37)).heap[bw]? = w2.heap[bw]? := by
          rw [Below.heap_alloc _ _ _ (by rw [hs6, HS5.out]; have := HW4.out; omega), hw6, Below.heap_setCell _ ⟨gm, 0, none⟩ _ bw hne2, HW5.out, Below.heap_setCell _ ⟨gm, 1, none⟩ _ bw hne2]
          exact HBw4.out
        have hbl7 : bw < (w6.alloc (.cells #[] 37)).heap.size := by have h1 := HS5.out; have h2 := HW4.out; simp; omega
        have hb7 : Below gm U (w6.alloc (.cells #[] 37)) := by
          have h1 : Below gm U w4 := HB.out.trans (HB4.out.mono (Nat.le_of_lt hUg))
          have h2 : Below gm U w5 := by rw [HW5.out]; exact h1.setCell (Nat.le_refl _) _
          have h3 : Below gm U w6 := by rw [hw6]; exact h2.setCell (Nat.le_refl _) _
          exact h3.alloc (by rw [hs6, HS5.out]; have := HW4.out; omega) _
        rw [hw6] at hgm6 hob7 hrow7 hbh7 hbl7 hb7
        have K1 := Lib.hid hgm6
        have K2 := Lib.hid hob7
        have K3 := Lib.hid hrow7
        have K4 := Lib.hid hd7
        have K5 := Lib.hid hbw7
        have K6 := Lib.hid hbn7
        have K7 := Lib.hid hbh7
        have K8 := Lib.hid hbl7
        have K9 := Lib.hid hb7
        clear hw6 hs6 hll hgm6 hp4 hr4 hob7 hrow7 hd7 hbw7 hbn7 hbh7 hbl7 hb7
        go_wp2
        go_roundw
        case rel => exact ⟨j + 1, ⟨p.l ++ [p.row], [], p.row.length, p.ok⟩, _, _, some ⟨g2, 0, none⟩, cap2, some ⟨w5.heap.size, 0, none⟩, 0, by omega, HNX.out.symm, by go_num, rfl, K1.out, K2.out, K3.out, K4.out, K5.out, K6.out, K7.out, K8.out, HOK.out, K9.out⟩
        case measure => simp [intOf]; omega
      · rw [pkStep, if_neg hbar] at hnx
        have e1 := lit_ne [124] hbar
        obtain ⟨R, hR⟩ : ∃ R, R = acP T := ⟨_, rfl⟩
        rw [← hR] at hnx
        have HRA := Lib.hid hR
        have HTS := Lib.hid hTs
        have HOB := Lib.hid hob
        have HROW := Lib.hid hrow
        have HD1 := Lib.hid hd1
        have HD2 := Lib.hid hd2
        have HD3 := Lib.hid hd3
        have HGmW := Lib.hid hgm
        have HBwh := Lib.hid hbw
        have HB := Lib.hid hb
        have HNX := Lib.hid hnx
        have HOK := Lib.hid hok
        clear hob hrow hd1 hd2 hd3 hgm hbw hb hnx hok hp hpl3 hTs hT hR hbar
        go_wp2_with fail
        refine (specParseAction_n T R HRA.out _ HTS.out).mono ?_
        rintro e w5 ⟨rfl, hb5⟩
        obtain ⟨⟨ak, ac, am, an⟩, rb⟩ := R
        simp only
        have HB5 := Lib.hid hb5
        clear hb5 o1 p1
        go_upto_region 12 with (fail)
        obtain ⟨W6, hW6⟩ : ∃ x, x = w5.alloc (.cells #[.int .i64 ak, .int .i64 ac, .int .i64 am, .int .i64 an] 37) := ⟨_, rfl⟩
        obtain ⟨gx, hgx⟩ : ∃ g, g = w5.heap.size := ⟨_, rfl⟩
        have hb6 : Below w5.heap.size w5 W6 := by rw [hW6]; exact (Below.refl _ _).alloc (Nat.le_refl _) _
        have hx6 : Bxd W6 gx [.int .i64 ak, .int .i64 ac, .int .i64 am, .int .i64 an] := by rw [hW6, hgx]; exact Bxd.new _ _ _
        rw [← hW6, ← hgx]
        have HB6 := Lib.hid (HB5.out.trans (hb6.mono HB5.out.size))
        have HX6 := Lib.hid hx6
        clear hW6 hgx hb6 hx6
        cases rb
        · have HRr := Lib.hid (show r = ⟨0, [], false⟩ by
            rw [HR.out, kmP, ← HWSE.out]
            exact pkEnd_bad (pkN_bad (i := j + 1) (by rw [HNX.out]; exact Bool.and_false _) ws.length (by rw [HWL.out]; omega)))
          have HBX := Lib.hid (HBU.out.trans ((HB.out.trans (HB6.out.mono (Nat.le_of_lt hgms))).mono (Nat.le_of_lt HGW.out)))
          have HGX := Lib.hid ((HB6.out.block w.heap.size (by have := HGW.out; omega)).trans ((HB.out.block w.heap.size HGW.out).trans HGU.out))
          obtain ⟨y0, q0⟩ := cells_of_heap HGX.out 0 (by simp)
          obtain ⟨y1, q1⟩ := cells_of_heap HGX.out 1 (by simp)
          go_wp2
          clear y0 q0 y1 q1
          obtain ⟨wf, hwf⟩ : ∃ x, x = putW (W6) (w.heap.size) 0 [.int .i64 0, .slice none 0 0] := ⟨_, rfl⟩
          have kf := putW_all [.int .i64 0, .slice none 0 0] HGX.out rfl
          have bf := putW_below (b := w.heap.size) (by first | omega | simp) [.int .i64 0, .slice none 0 0] 0 _ HBX.out
          have of := HNil.out _ HBX.out HRr.out
          rw [← hwf] at kf bf of
          have cf := hwf.symm
          simp only [putW, Nat.reduceAdd] at cf
          rw [cf]
          clear cf hwf
          have f0 := (cells_of_heap kf 0 (by simp)).1
          have f1 := (cells_of_heap kf 1 (by simp)).1
          simp only [List.getElem_toArray, List.getElem_cons_zero, List.getElem_cons_succ] at f0 f1
          refine bodyPost_ret (v := .tuple #[kmv 0 (.slice none 0 0), .bool false]) (by simp [results, Tryd.results39, go_sem, f0, f1]) rfl of
        · have hll : p.row.length + 1 = (p.row ++ [Ac.mk ak ac am an]).length := by simp
          have x0 := HX6.out.at 0 _ rfl
          have x1 := HX6.out.at 1 _ rfl
          have x2 := HX6.out.at 2 _ rfl
          have x3 := HX6.out.at 3 _ rfl
          have b63 : p.row.length + 1 ≤ maxLen := by unfold maxLen; omega
          have b47 : (p.row.length + 1) * 32 ≤ 140737488355328 := by omega
          have hW16 : W1.heap.size ≤ W6.heap.size := HB6.out.size
          have hsz1 : U.heap.size ≤ W6.heap.size + 1 := by omega
          have HLLr := Lib.hid hll
          have HROW6 := Lib.hid (HROW.out.below HB6.out)
          have HOB6 := Lib.hid (HOB.out.below HB6.out)
          clear hll
          go_wp2_with (at_builtin; refine wpList_append_lies _ rfl _ _ 54 rfl U.heap.size 37 i0 (.agg #[.int .i64 0, .int .i64 0, .int .i64 0, .int .i64 0]) 4 32 Tryd.underlying54 hi hz0 hz1 hz2 rfl (by decide) (.slice ra p.row.length rc) p.row.length (flatAc p.row) rfl (HROW6.out.1.alloc _) ⟨W6.heap.size, 0, none⟩ 1 1 [.int .i64 ak, .int .i64 ac, .int .i64 am, .int .i64 an] rfl rfl (World.news_of_block (cs := #[.int .i64 ak, .int .i64 ac, .int .i64 am, .int .i64 an]) (t := 37) (fr := (0, 0)) (heap_alloc_new W6 _)) (by simp [Value.oneCell']) (by decide) b63 b47 (by simp; exact hsz1) (W6.heap.size + 1) (by simp) ?_)
          intro g7 c7 w7 hown7 hgrow7 hat7 hlt7
          have hb7 : Below gm U w7 := by
            have h1 : Below gm U (W6.alloc (.cells #[.int .i64 ak, .int .i64 ac, .int .i64 am, .int .i64 an] 37)) := (HB.out.trans (HB6.out.mono (Nat.le_of_lt hgms))).alloc (by omega) _
            exact h1.grown hgrow7 (by simp; omega) (fun q hq => by have := (HROW6.out.1.lt q hq).1; omega)
          have htg := turn_grown hgrow7
          have hgm7 : w7.heap[gm]? = some (.cells #[.int .i64 p.k, .slice a p.l.length c] 31 (0, 0)) := by
            rw [heap_grown hgrow7 (b := gm) (by simp; omega) (fun e => by have := (HROW6.out.1.lt gm e).1; omega), Below.heap_alloc _ _ _ (by omega)]
            exact (HB6.out.block gm hgms).trans HGmW.out
          have hob7 : LoB w7 U.heap.size (.slice a p.l.length c) p.l.length us p.l fps := (HOB6.out.below (w' := W6.alloc (.cells #[.int .i64 ak, .int .i64 ac, .int .i64 am, .int .i64 an] 37)) ((Below.refl _ _).alloc (Nat.le_refl _) _)).turn htg (fun x hx hx' => HD1.out x hx' hx)
          have hrow7 : OwF w7 U.heap.size 37 4 (.slice (some ⟨g7, 0, none⟩) (p.row ++ [Ac.mk ak ac am an]).length c7) (p.row ++ [Ac.mk ak ac am an]).length (flatAc (p.row ++ [Ac.mk ak ac am an])) (ownFp (.slice (some ⟨g7, 0, none⟩) (p.row ++ [Ac.mk ak ac am an]).length c7)) := by
            rw [flatAc_snoc, ← HLLr.out]; exact OwF.mk' hown7
          have hg7 : g7 ∈ ownFp (.slice ra p.row.length rc) ∨ g7 = W6.heap.size + 1 := by
            rcases hat7 with h1 | h1
            · exact .inl (by simp [ownFp, h1])
            · exact .inr h1
          have hd7 : ∀ x ∈ ownFp (.slice (some ⟨g7, 0, none⟩) (p.row ++ [Ac.mk ak ac am an]).length c7), x ∉ ownFp (.slice a p.l.length c) ++ fps.flatten := by
            intro x hx hx'
            rw [ownFp_some, List.mem_singleton] at hx
            subst hx
            rcases hg7 with h1 | h1
            · exact HD1.out _ h1 hx'
            · have := (HOB6.out.rng _ hx').2; omega
          have hbw7 : bw ∉ ownFp (.slice (some ⟨g7, 0, none⟩) (p.row ++ [Ac.mk ak ac am an]).length c7) := by
            rw [ownFp_some, List.mem_singleton]
            intro e
            rcases hg7 with h1 | h1
            · exact HD2.out (by rw [e]; exact h1)
            · omega
          have hbh7 : w7.heap[bw]? = w2.heap[bw]? := by
            rw [heap_grown hgrow7 (b := bw) (by simp; omega) (fun e => HD2.out (by simp [ownFp, e])), Below.heap_alloc _ _ _ (by omega)]
            exact (HB6.out.block bw hbwl).trans HBwh.out
          have hbl7 : bw < w7.heap.size := by have := hgrow7.size; simp at this; omega
          have K1 := Lib.hid hgm7
          have K2 := Lib.hid hob7
          have K3 := Lib.hid hrow7
          have K4 := Lib.hid hd7
          have K5 := Lib.hid hbw7
          have K7 := Lib.hid hbh7
          have K8 := Lib.hid hbl7
          have K9 := Lib.hid hb7
          have HNX2 := Lib.hid (show pkN ws (j + 1) = ⟨p.l, p.row ++ [Ac.mk ak ac am an], p.k, true⟩ by rw [HNX.out, HOK.out]; rfl)
          rw [HLLr.out]
          clear hown7 hgrow7 hat7 hlt7 hb7 htg hgm7 hob7 hrow7 hg7 hd7 hbw7 hbh7 hbl7 b63 b47 hsz1 x0 x1 x2 x3
          go_wp2
          go_roundw
          case rel => exact ⟨j + 1, ⟨p.l, p.row ++ [Ac.mk ak ac am an], p.k, true⟩, us, fps, a, c, some ⟨g7, 0, none⟩, c7, by omega, HNX2.out.symm, by go_num, by simp, K1.out, K2.out, K3.out, K4.out, K5.out, HD3.out, K7.out, K8.out, rfl, K9.out⟩
          case measure => simp [intOf]; omega
    · obtain rfl : j = N + 1 := by omega
      obtain ⟨o, ho⟩ : ∃ o, o = okKm p.k p.l := ⟨_, rfl⟩
      have hr3 : r = if o = true then ⟨p.k, p.l, true⟩ else ⟨0, [], false⟩ := by
        rw [HR.out, kmP, ← HWSE.out, HWL.out, ← hp, pkEnd, hok, ← ho]
        cases o <;> simp
      have hLr : ∀ l ∈ p.l, l.length ≤ maxLen := fun l hl => Nat.le_trans (hpl3 l hl) (by unfold maxLen; omega)
      have HOS := Lib.hid (OwB.done hob rfl)
      have HR3 := Lib.hid hr3
      have HO := Lib.hid ho
      have HLR := Lib.hid hLr
      have HGm3 := Lib.hid hgm
      have HBWW := Lib.hid (HBU.out.trans (hb.mono (Nat.le_of_lt HGW.out)))
      have HGr := Lib.hid ((hb.block w.heap.size HGW.out).trans HGU.out)
      have HLn := Lib.hid (show p.l.length ≤ maxLen by unfold maxLen; omega)
      have m0 := (cells_of_heap hgm 0 (by simp)).1
      have m1 := (cells_of_heap hgm 1 (by simp)).1
      clear hob hrow hd1 hd2 hd3 hgm hbw hb hok hp hpl1 hpl2 hpl3 hr3 ho hLr
      go_wp2_with fail
      refine (specIsKeymap_q p.k _ p.l o HO.out _ HLn.out HLR.out HOS.out.rd).mono ?_
      rintro e w5 ⟨rfl, hb5⟩
      have HB5 := Lib.hid (HBWW.out.trans (hb5.mono HBWW.out.size))
      have hgm5 := (hb5.block gm hgms).trans HGm3.out
      have HGr5 := Lib.hid ((hb5.block w.heap.size (by have := HGW.out; omega)).trans HGr.out)
      have HOS5 := Lib.hid (HOS.out.below hb5)
      clear m0 m1
      have m0 := (cells_of_heap hgm5 0 (by simp)).1
      have m1 := (cells_of_heap hgm5 1 (by simp)).1
      obtain ⟨y0, q0⟩ := cells_of_heap HGr5.out 0 (by simp)
      obtain ⟨y1, q1⟩ := cells_of_heap HGr5.out 1 (by simp)
      clear hb5 hgm5
      cases o
      · have HRr := Lib.hid (show r = ⟨0, [], false⟩ from HR3.out)
        go_wp2
        clear m0 m1 y0 q0 y1 q1
        obtain ⟨wf, hwf⟩ : ∃ x, x = putW (w5) (w.heap.size) 0 [.int .i64 0, .slice none 0 0] := ⟨_, rfl⟩
        have kf := putW_all [.int .i64 0, .slice none 0 0] HGr5.out rfl
        have bf := putW_below (b := w.heap.size) (by first | omega | simp) [.int .i64 0, .slice none 0 0] 0 _ HB5.out
        have of := HNil.out _ HB5.out HRr.out
        rw [← hwf] at kf bf of
        have cf := hwf.symm
        simp only [putW, Nat.reduceAdd] at cf
        rw [cf]
        clear cf hwf
        have f0 := (cells_of_heap kf 0 (by simp)).1
        have f1 := (cells_of_heap kf 1 (by simp)).1
        simp only [List.getElem_toArray, List.getElem_cons_zero, List.getElem_cons_succ] at f0 f1
        refine bodyPost_ret (v := .tuple #[kmv 0 (.slice none 0 0), .bool false]) (by simp [results, Tryd.results39, go_sem, f0, f1]) rfl of
      · have HRr := Lib.hid (show r = ⟨p.k, p.l, true⟩ from HR3.out)
        go_wp2
        clear m0 m1 y0 q0 y1 q1
        obtain ⟨wf, hwf⟩ : ∃ x, x = putW (w5) (w.heap.size) 0 [.int .i64 p.k, .slice a p.l.length c] := ⟨_, rfl⟩
        have kf := putW_all [.int .i64 p.k, .slice a p.l.length c] HGr5.out rfl
        have bf := putW_below (b := w.heap.size) (by first | omega | simp) [.int .i64 p.k, .slice a p.l.length c] 0 _ HB5.out
        have of := HOS5.out.put (b := w.heap.size) [.int .i64 p.k, .slice a p.l.length c] 0 (by have := HGW.out; omega)
        rw [← hwf] at kf bf of
        have cf := hwf.symm
        simp only [putW, Nat.reduceAdd] at cf
        rw [cf]
        clear cf hwf
        have f0 := (cells_of_heap kf 0 (by simp)).1
        have f1 := (cells_of_heap kf 1 (by simp)).1
        simp only [List.getElem_toArray, List.getElem_cons_zero, List.getElem_cons_succ] at f0 f1
        refine bodyPost_ret (v := .tuple #[kmv p.k (.slice a p.l.length c), .bool true]) (by simp [results, Tryd.results39, go_sem, f0, f1]) rfl (by rw [HRr.out]; exact ⟨a, c, _, rfl, of.base HBU.out.size, bf⟩)
end Go.Proofs.YtleheibpgngmiaaDoor

namespace Go.Proofs.YtleheibpgngmiaaDoor
open Go.RowKit

theorem isPrefixOf_app : ∀ (a b : List UInt8), a.isPrefixOf (a ++ b) = true
  | [], _ => by simp
  | x :: a, b => by simp
/-- Where something occurs, its first place is no later. -/
theorem index_occ {sub : List UInt8} (hs : sub ≠ []) : ∀ (A B : List UInt8), 0 ≤ Lib.index (A ++ (sub ++ B)) sub ∧ Lib.index (A ++ (sub ++ B)) sub ≤ A.length
  | [], B => by
    obtain ⟨c, t, rfl⟩ := List.exists_cons_of_ne_nil hs
    have h1 : (c :: t).isPrefixOf (c :: (t ++ B)) = true := isPrefixOf_app (c :: t) B
    rw [List.nil_append]
    show 0 ≤ Lib.index (c :: (t ++ B)) (c :: t) ∧ Lib.index (c :: (t ++ B)) (c :: t) ≤ _
    rw [Lib.index, if_pos h1]
    exact ⟨Int.le_refl _, by simp⟩
  | a :: A, B => by
    obtain ⟨h1, h2⟩ := index_occ hs A B
    rw [List.cons_append, Lib.index]
    by_cases h : sub.isPrefixOf (a :: (A ++ (sub ++ B))) = true
    · rw [if_pos h]; exact ⟨Int.le_refl _, by simp; omega⟩
    · rw [if_neg h]
      have hm : ¬ (Lib.index (A ++ (sub ++ B)) sub == -1) = true := fun e => by have := beq_iff_eq.1 e; omega
      rw [if_neg hm]
      simp only [List.length_cons]
      omega
theorem prefix_split : ∀ {a l : List UInt8}, a.isPrefixOf l = true → l = a ++ l.drop a.length
  | [], l, _ => by simp
  | x :: a, [], h => by simp [List.isPrefixOf] at h
  | x :: a, y :: l, h => by
    simp only [List.isPrefixOf, Bool.and_eq_true, beq_iff_eq] at h
    obtain ⟨rfl, h2⟩ := h
    rw [List.cons_append, List.length_cons, List.drop_succ_cons, ← prefix_split h2]
/-- The first place, and what stands ahead of it and behind. -/
theorem index_at {sub : List UInt8} (hs : sub ≠ []) : ∀ {l : List UInt8} {i : Nat}, Lib.index l sub = i → l = l.take i ++ (sub ++ l.drop (i + sub.length))
  | [], i, h => by
    obtain ⟨c, t, rfl⟩ := List.exists_cons_of_ne_nil hs
    simp [Lib.index] at h
  | b :: l, i, h => by
    rw [Lib.index] at h
    by_cases hp : sub.isPrefixOf (b :: l) = true
    · rw [if_pos hp] at h
      obtain rfl : i = 0 := by omega
      rw [List.take_zero, List.nil_append, Nat.zero_add]
      exact prefix_split hp
    · rw [if_neg hp] at h
      by_cases hm : (Lib.index l sub == -1) = true
      · rw [if_pos hm] at h; omega
      · rw [if_neg hm] at h
        obtain ⟨j, rfl⟩ : ∃ j, i = j + 1 := ⟨i - 1, by have := Lib.index_ge l sub; have h2 : Lib.index l sub ≠ -1 := fun e => hm (beq_iff_eq.2 e); omega⟩
        have ih := index_at hs (l := l) (i := j) (by omega)
        rw [List.take_succ_cons, List.cons_append, show j + 1 + sub.length = (j + sub.length) + 1 by omega, List.drop_succ_cons, ← ih]

/-- sub stands nowhere in T. -/
def NoSub (sub T : ByteArray) : Prop := ∀ A B : List UInt8, T.data.toList ≠ A ++ (sub.data.toList ++ B)
/-- s is cut at sep into pieces in which sep does not stand. -/
inductive Cutd (sep : ByteArray) : ByteArray → List ByteArray → Prop
  | last (T : ByteArray) : NoSub sep T → Cutd sep T [T]
  | more (s T s' : ByteArray) (Ts : List ByteArray) : s = T ++ sep ++ s' → NoSub sep T → Cutd sep s' Ts → Cutd sep s (T :: Ts)
theorem ba_app (a b : ByteArray) : (a ++ b).data.toList = a.data.toList ++ b.data.toList := by simp
theorem ba_toNE {sep : ByteArray} (h1 : 1 ≤ sep.size) : sep.data.toList ≠ [] := fun e => by
  have : sep.data.toList.length = sep.size := size_toList sep
  rw [e] at this
  simp at this; omega
theorem noSub_of_miss {s sep : ByteArray} (h1 : 1 ≤ sep.size) (h : Lib.indexB s sep = -1) : NoSub sep s := by
  intro A B e
  have h2 := index_occ (ba_toNE h1) A B
  have h3 : Lib.index s.data.toList sep.data.toList = -1 := h
  rw [e] at h3
  omega
theorem cutd_pieces (sep : ByteArray) (h1 : 1 ≤ sep.size) : ∀ (k : Nat) (s : ByteArray), Lib.countB s sep = k → Cutd sep s (Lib.splitB sep 0 k s)
  | 0, s, hk => by
    rcases Lib.indexB_cases s sep with hix | ⟨i, hix, _⟩
    · exact .last s (noSub_of_miss h1 hix)
    · have := Lib.countB_hit s sep i h1 hix; omega
  | k + 1, s, hk => by
    rcases Lib.indexB_cases s sep with hix | ⟨i, hix, hroom⟩
    · rw [Lib.countB_miss s sep hix] at hk; omega
    · rw [Lib.splitB_hit sep 0 k s i hix]
      have hat : s.data.toList = s.data.toList.take i ++ (sep.data.toList ++ s.data.toList.drop (i + sep.data.toList.length)) := index_at (ba_toNE h1) hix
      have hsl := size_toList sep
      refine .more s _ (s.extract (i + sep.size) s.size) _ ?_ ?_ (cutd_pieces sep h1 k _ (by have := Lib.countB_hit s sep i h1 hix; omega))
      · apply ba_ext
        rw [ba_app, ba_app, ext_list, ext_list, List.drop_zero, List.append_assoc, List.take_of_length_le (l := s.data.toList.drop (i + sep.size)) (by rw [List.length_drop, size_toList]; exact Nat.le_refl _), Nat.add_zero, Nat.sub_zero, ← hsl]
        exact hat
      · intro A B e
        rw [ext_list, List.drop_zero, Nat.add_zero, Nat.sub_zero] at e
        have h3 : Lib.index s.data.toList sep.data.toList = i := hix
        rw [hat, e, List.append_assoc, List.append_assoc] at h3
        have h4 := (index_occ (ba_toNE h1) A (B ++ (sep.data.toList ++ s.data.toList.drop (i + sep.data.toList.length)))).2
        rw [h3] at h4
        have h5 := congrArg List.length e
        rw [List.length_take, List.length_append, List.length_append, hsl, size_toList] at h5
        omega

/-- Joined lists, one behind the other. -/
theorem joined_app (X Y : List ByteArray) (sep : ByteArray) (hX : 0 < X.length) (hY : 0 < Y.length) : joined (X ++ Y) sep = joined X sep ++ sep ++ joined Y sep := by
  have key : ∀ k, 0 < k → k ≤ Y.length → jn (X ++ Y) sep (X.length + k) = jn X sep X.length ++ sep.data.toList ++ jn Y sep k := by
    intro k
    induction k with
    | zero => intro h _; omega
    | succ k ih =>
      intro _ hk
      have hg : (X ++ Y).getD (X.length + k) ByteArray.empty = Y.getD k ByteArray.empty := by
        rw [List.getD_eq_getElem?_getD, List.getD_eq_getElem?_getD, List.getElem?_append_right (by omega), Nat.add_sub_cancel_left]
      rw [← Nat.add_assoc, jn_later _ _ (by omega), hg]
      rcases Nat.eq_zero_or_pos k with rfl | hp
      · rw [jn_first, Nat.add_zero]
        congr 1
        congr 1
        have hpre : ∀ j, j ≤ X.length → jn (X ++ Y) sep j = jn X sep j := by
          intro j
          induction j with
          | zero => intro _; rfl
          | succ j ihj =>
            intro hj
            have hg2 : (X ++ Y).getD j ByteArray.empty = X.getD j ByteArray.empty := by
              rw [List.getD_eq_getElem?_getD, List.getD_eq_getElem?_getD, List.getElem?_append_left (by omega)]
            rw [jn, jn, hg2, ihj (by omega)]
        exact hpre _ (Nat.le_refl _)
      · rw [ih hp (by omega), jn_later _ _ hp, List.append_assoc, List.append_assoc, List.append_assoc, List.append_assoc, List.append_assoc]
  apply ba_ext
  rw [ba_app, ba_app]
  show (jn (X ++ Y) sep (X ++ Y).length).toArray.toList = (jn X sep X.length).toArray.toList ++ sep.data.toList ++ (jn Y sep Y.length).toArray.toList
  rw [List.length_append]
  simpa using key Y.length hY (Nat.le_refl _)
theorem joined_one (x sep : ByteArray) : joined [x] sep = x := by
  apply ba_ext
  show (jn [x] sep 1).toArray.toList = _
  rw [jn_first]; simp
theorem parts_pos (s : ByteArray) (c : Int) : 0 < (parts s c).length := by simp [parts]
theorem blank_byte : blankS.data.toList = [byte8 32] := by decide
theorem without_bar : Without sBar 32 := by
  intro j hj
  have : j = 0 := by have h : sBar.size = 1 := rfl; omega
  subst this
  decide
theorem bar_three : barS = blankS ++ sBar ++ blankS := by decide
/-- The words of two texts with a separator of layers between them. -/
theorem parts_bar (A B : ByteArray) : parts (A ++ barS ++ B) 32 = parts A 32 ++ ([sBar] ++ parts B 32) := by
  have hw : ∀ p ∈ parts A 32 ++ ([sBar] ++ parts B 32), Without p 32 := by
    intro p hp
    rcases List.mem_append.1 hp with h | h
    · exact (parts_without A 32 p h).1
    · rcases List.mem_append.1 h with h | h
      · rw [List.mem_singleton.1 h]; exact without_bar
      · exact (parts_without B 32 p h).1
  have hj := parts_joined _ blankS 32 (by decide) (by decide) blank_byte (by rw [List.length_append]; have := parts_pos A 32; omega) hw
  have e : joined (parts A 32 ++ ([sBar] ++ parts B 32)) blankS = A ++ barS ++ B := by
    rw [joined_app _ _ _ (parts_pos A 32) (by simp), joined_app _ _ _ (by simp) (parts_pos B 32), joined_one, joined_parts _ _ 32 blank_byte, joined_parts _ _ 32 blank_byte, bar_three]
    apply ba_ext
    simp only [ba_app, List.append_assoc]
  rw [e] at hj
  exact hj

theorem bar_no : (acP sBar).2 = false := by decide +kernel
def goodW (ws : List ByteArray) : Bool := ws.all fun w => (acP w).2
def rowP (ws : List ByteArray) : List Ac × Bool := if goodW ws = true then (ws.map fun w => (acP w).1, true) else ([], false)
/-- What the program reads in one layer's text. -/
def lineP (T : ByteArray) : List Ac × Bool := rowP (parts T 32)
def rowsP (Ts : List ByteArray) : List (List Ac) := Ts.map fun T => (lineP T).1
def goodT (Ts : List ByteArray) : Bool := Ts.all fun T => (lineP T).2
/-- What the program reads in the texts of layers. -/
def impP (Ts : List ByteArray) : Kmr := if goodT Ts = true ∧ okKm ((lD (rowsP Ts) 0).length : Int) (rowsP Ts) = true then ⟨((lD (rowsP Ts) 0).length : Int), rowsP Ts, true⟩ else ⟨0, [], false⟩

def pkF (p : Pk) (ws : List ByteArray) : Pk := ws.foldl pkStep p
theorem pkF_app (p : Pk) (a b : List ByteArray) : pkF p (a ++ b) = pkF (pkF p a) b := by unfold pkF; rw [List.foldl_append]
theorem pkN_foldF (ws : List ByteArray) : ∀ i, i ≤ ws.length → pkN ws i = pkF ⟨[], [], 0, true⟩ (ws.take i)
  | 0, _ => by rw [List.take_zero]; rfl
  | i + 1, h => by
    rw [pkN, pkN_foldF ws i (by omega), List.take_succ_eq_append_getElem (by omega), pkF_app, List.getD_eq_getElem?_getD, List.getElem?_eq_getElem (by omega)]
    rfl
theorem kmP_fold (s : ByteArray) : kmP s = pkEnd (pkF ⟨[], [], 0, true⟩ (parts s 32 ++ [sBar])) := by
  rw [kmP, pkN_foldF _ _ (Nat.le_refl _), List.take_length]; rfl
theorem pkF_bad : ∀ (ws : List ByteArray) (p : Pk), p.ok = false → (pkF p ws).ok = false
  | [], p, h => h
  | w :: ws, p, h => by
    refine pkF_bad ws (pkStep p w) ?_
    rw [pkStep]
    split
    · exact h
    · show (p.ok && _) = false
      rw [h]; rfl
theorem pkF_mem : ∀ (ws : List ByteArray) (p : Pk) (l : List Ac), l ∈ p.l → l ∈ (pkF p ws).l
  | [], p, l, h => h
  | w :: ws, p, l, h => by
    refine pkF_mem ws (pkStep p w) l ?_
    rw [pkStep]
    split
    · exact List.mem_append_left _ h
    · exact h
/-- A state from which no keymap comes. -/
def Lost (p : Pk) : Prop := p.ok = false ∨ [] ∈ p.l
theorem Lost.on {p : Pk} (h : Lost p) (ws : List ByteArray) : Lost (pkF p ws) := by
  rcases h with h | h
  · exact .inl (pkF_bad ws p h)
  · exact .inr (pkF_mem ws p [] h)
theorem Lost.fin {p : Pk} (h : Lost p) : pkEnd p = ⟨0, [], false⟩ := by
  rcases h with h | h
  · exact pkEnd_bad h
  · unfold pkEnd
    rw [if_neg]
    rintro ⟨_, hk⟩
    obtain ⟨⟨k1, _⟩, _, hall⟩ := okKm_at hk
    obtain ⟨j, hj, he⟩ := List.getElem_of_mem h
    have h1 := (hall j hj).1
    have h2 : lD p.l j = [] := by unfold lD; rw [List.getD_eq_getElem?_getD, List.getElem?_eq_getElem hj, he]; rfl
    rw [h2] at h1
    simp at h1
    omega
/-- Words that are all read make a row. -/
theorem pkF_good : ∀ (ws : List ByteArray) (p : Pk), goodW ws = true → pkF p ws = ⟨p.l, p.row ++ (ws.map fun w => (acP w).1), p.k, p.ok⟩
  | [], p, _ => by simp [pkF]
  | w :: ws, p, h => by
    rw [goodW, List.all_cons, Bool.and_eq_true] at h
    have hb : w ≠ sBar := fun e => by rw [e, bar_no] at h; exact absurd h.1 (by decide)
    have h2 := pkF_good ws (pkStep p w) h.2
    show pkF (pkStep p w) ws = _
    rw [h2, pkStep, if_neg hb, h.1]
    simp
theorem pkF_bar (p : Pk) : pkF p [sBar] = ⟨p.l ++ [p.row], [], p.row.length, p.ok⟩ := by
  show pkStep p sBar = _
  rw [pkStep, if_pos rfl]
/-- A word that is none: nothing comes of it, or it is a bar. -/
theorem pkF_word {ws : List ByteArray} (p : Pk) {w : ByteArray} (hw : w ∈ ws) (h : (acP w).2 = false) (hb : w ≠ sBar) : (pkF p ws).ok = false := by
  obtain ⟨a, b, rfl⟩ := List.append_of_mem hw
  rw [pkF_app]
  show (pkF (pkStep (pkF p a) w) b).ok = false
  refine pkF_bad b _ ?_
  rw [pkStep, if_neg hb, h]
  show (_ && false) = false
  rw [Bool.and_false]
/-- A text without a separator whose words are not all read: nothing comes of it, with the bar that follows. -/
theorem pkF_lost (T : ByteArray) (hT : NoSub barS T) (p : Pk) (hp : p.row = []) (hg : goodW (parts T 32) = false) : Lost (pkF p (parts T 32 ++ [sBar])) := by
  obtain ⟨W, hW⟩ : ∃ W, W = parts T 32 := ⟨_, rfl⟩
  rw [← hW] at hg ⊢
  have hex : ∃ w ∈ W, (acP w).2 = false := by
    rw [goodW, List.all_eq_false] at hg
    obtain ⟨w, hw, h⟩ := hg
    exact ⟨w, hw, by simpa using h⟩
  by_cases hother : ∃ w ∈ W, (acP w).2 = false ∧ w ≠ sBar
  · obtain ⟨w, hw, h, hb⟩ := hother
    exact .inl (pkF_word p (List.mem_append_left _ hw) h hb)
  · obtain ⟨w, hw, h⟩ := hex
    have hwb : w = sBar := Decidable.byContradiction fun hb => hother ⟨w, hw, h, hb⟩
    subst hwb
    obtain ⟨X, Y, hXY⟩ := List.append_of_mem hw
    rcases Nat.eq_zero_or_pos X.length with hX | hX
    · obtain rfl := List.eq_nil_of_length_eq_zero hX
      rw [hXY, List.nil_append]
      right
      show [] ∈ (pkF (pkStep p sBar) (Y ++ [sBar])).l
      refine pkF_mem _ _ _ ?_
      rw [pkStep, if_pos rfl, hp]
      exact List.mem_append_right _ (List.mem_singleton.2 rfl)
    · rcases Nat.eq_zero_or_pos Y.length with hY | hY
      · obtain rfl := List.eq_nil_of_length_eq_zero hY
        rw [hXY, List.append_assoc, pkF_app]
        right
        show [] ∈ (pkF (pkStep (pkF p X) sBar) [sBar]).l
        rw [pkF_bar, pkStep, if_pos rfl]
        exact List.mem_append_right _ (List.mem_singleton.2 rfl)
      · exfalso
        have e : T = joined X blankS ++ barS ++ joined Y blankS := by
          have h1 := joined_parts T blankS 32 blank_byte
          rw [← hW, hXY, show X ++ sBar :: Y = X ++ ([sBar] ++ Y) from rfl, joined_app _ _ _ hX (by simp), joined_app _ _ _ (by simp) hY, joined_one] at h1
          rw [← h1, bar_three]
          apply ba_ext
          simp only [ba_app, List.append_assoc]
        refine hT (joined X blankS).data.toList (joined Y blankS).data.toList ?_
        conv => lhs; rw [e]
        rw [ba_app, ba_app, List.append_assoc]
theorem lineP_good {T : ByteArray} (h : goodW (parts T 32) = true) : lineP T = ((parts T 32).map fun w => (acP w).1, true) := by rw [lineP, rowP, if_pos h]
theorem lineP_bad {T : ByteArray} (h : goodW (parts T 32) = false) : lineP T = ([], false) := by rw [lineP, rowP, if_neg (by rw [h]; decide)]
/-- One piece of the text, with the bar behind it. -/
theorem pkF_piece (T : ByteArray) (p : Pk) (hp : p.row = []) (h : (lineP T).2 = true) : pkF p (parts T 32 ++ [sBar]) = ⟨p.l ++ [(lineP T).1], [], ((lineP T).1.length : Int), p.ok⟩ := by
  have hg : goodW (parts T 32) = true := by
    by_cases hg : goodW (parts T 32) = true
    · exact hg
    · rw [lineP_bad (by simpa using hg)] at h; exact absurd h (by decide)
  rw [pkF_app, pkF_good _ _ hg, pkF_bar, hp, lineP_good hg, List.nil_append]
theorem cut_fold {s : ByteArray} {Ts : List ByteArray} (h : Cutd barS s Ts) : ∀ p : Pk, p.row = [] →
    if goodT Ts = true then pkF p (parts s 32 ++ [sBar]) = ⟨p.l ++ rowsP Ts, [], ((rowsP Ts).getLast?.getD []).length, p.ok⟩ else Lost (pkF p (parts s 32 ++ [sBar])) := by
  induction h with
  | last T hT =>
    intro p hp
    by_cases hg : (lineP T).2 = true
    · rw [if_pos (by simp [goodT, hg])]
      rw [pkF_piece T p hp hg]
      simp [rowsP]
    · rw [if_neg (by simp [goodT, hg])]
      refine pkF_lost T hT p hp ?_
      by_cases h2 : goodW (parts T 32) = true
      · rw [lineP_good h2] at hg; exact absurd rfl hg
      · simpa using h2
  | more s T s' Ts he hT hc ih =>
    intro p hp
    have e : parts s 32 ++ [sBar] = (parts T 32 ++ [sBar]) ++ (parts s' 32 ++ [sBar]) := by
      rw [he, parts_bar]; simp
    rw [e, pkF_app]
    by_cases hg : (lineP T).2 = true
    · rw [pkF_piece T p hp hg]
      have ih2 := ih ⟨p.l ++ [(lineP T).1], [], ((lineP T).1.length : Int), p.ok⟩ rfl
      have hne : rowsP Ts ≠ [] := by
        cases hc <;> simp [rowsP]
      by_cases hr : goodT Ts = true
      · rw [if_pos hr] at ih2
        rw [if_pos (by rw [goodT, List.all_cons, hg]; exact hr), ih2]
        have hl : (rowsP (T :: Ts)).getLast? = (rowsP Ts).getLast? := by
          show ((lineP T).1 :: rowsP Ts).getLast? = _
          rw [List.getLast?_cons]
          rcases hq : (rowsP Ts).getLast? with _ | q
          · rw [List.getLast?_eq_none_iff] at hq; exact absurd hq hne
          · rfl
        rw [hl]
        simp [rowsP]
      · rw [if_neg hr] at ih2
        rw [if_neg (by rw [goodT, List.all_cons, hg]; exact hr)]
        exact ih2
    · rw [if_neg (by simp [goodT, hg])]
      refine Lost.on (pkF_lost T hT p hp ?_) _
      by_cases h2 : goodW (parts T 32) = true
      · rw [lineP_good h2] at hg; exact absurd rfl hg
      · simpa using h2
/-- The program's reading of the pieces is the reference's of the text. -/
theorem impP_kmP {s : ByteArray} {Ts : List ByteArray} (h : Cutd barS s Ts) : impP Ts = kmP s := by
  have hf := cut_fold h ⟨[], [], 0, true⟩ rfl
  rw [kmP_fold]
  by_cases hg : goodT Ts = true
  · rw [if_pos hg] at hf
    rw [hf, pkEnd, impP, List.nil_append]
    simp only [true_and, hg]
    have hne : rowsP Ts ≠ [] := by cases h <;> simp [rowsP]
    have hlast : ∃ j, j < (rowsP Ts).length ∧ (rowsP Ts).getLast?.getD [] = lD (rowsP Ts) j := by
      refine ⟨(rowsP Ts).length - 1, by have := List.length_pos_iff.2 hne; omega, ?_⟩
      rw [List.getLast?_eq_getElem?, lD, List.getD_eq_getElem?_getD]
    obtain ⟨j, hj, hjl⟩ := hlast
    rw [hjl]
    by_cases h1 : okKm ((lD (rowsP Ts) 0).length : Int) (rowsP Ts) = true
    · obtain ⟨_, _, hall⟩ := okKm_at h1
      have e := (hall j hj).1
      rw [e, if_pos h1]
    · rw [if_neg h1]
      by_cases h2 : okKm ((lD (rowsP Ts) j).length : Int) (rowsP Ts) = true
      · exfalso
        obtain ⟨_, _, hall⟩ := okKm_at h2
        have e := (hall 0 (List.length_pos_iff.2 hne)).1
        rw [← e] at h2
        exact h1 h2
      · rw [if_neg h2]
  · rw [if_neg hg] at hf
    rw [hf.fin, impP, if_neg (fun e => hg e.1)]

end Go.Proofs.YtleheibpgngmiaaDoor
