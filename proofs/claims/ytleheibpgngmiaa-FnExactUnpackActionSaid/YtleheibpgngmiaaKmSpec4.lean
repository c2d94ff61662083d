/- DERIVED. The reference's PackKeymap: a keymap's bytes. -/
import Derived.Test.YtleheibpgngmiaaKmSpec3
import Derived.Test.YtleheibpgngmiaaBytes
namespace Go.Proofs.Ytleheibpgngmiaa
open Go.RowKit

def rowB (l : List Ac) : List Int := l.flatMap packV
/-- A keymap's bytes ahead of action k of layer j. -/
def pkB (keys : Int) (L : List (List Ac)) (j k : Nat) : List Int := [keys, (L.length : Int)] ++ (L.take j).flatMap rowB ++ rowB ((lD L j).take k)
def packK (keys : Int) (L : List (List Ac)) : List Int := if okKm keys L = true then [keys, (L.length : Int)] ++ L.flatMap rowB else []
theorem pkB_zero (keys : Int) (L : List (List Ac)) : pkB keys L 0 0 = [keys, (L.length : Int)] := by simp [pkB, rowB]
theorem pkB_step (keys : Int) (L : List (List Ac)) (j k : Nat) (hk : k < (lD L j).length) : pkB keys L j (k + 1) = pkB keys L j k ++ packV (acD (lD L j) k) := by
  unfold pkB
  rw [acD_take _ _ hk]
  simp [rowB]
theorem pkB_row (keys : Int) (L : List (List Ac)) (j k : Nat) (hj : j < L.length) (hk : k = (lD L j).length) : pkB keys L (j + 1) 0 = pkB keys L j k := by
  unfold pkB
  rw [lD_take L j hj, hk, List.take_length]
  simp [rowB]
theorem pkB_all (keys : Int) (L : List (List Ac)) (h : okKm keys L = true) : pkB keys L L.length 0 = packK keys L := by
  rw [packK, if_pos h, pkB, List.take_length]
  simp [rowB]
theorem packV_len (a : Ac) : (packV a).length ≤ 3 := by unfold packV; split <;> simp

set_option maxRecDepth 100000 in
set_option maxHeartbeats 4000000 in
theorem specPackKeymap_any (keys : Int) (v : Value) (L : List (List Ac)) (w : World) (hn : L.length ≤ maxLen) (hm : ∀ l ∈ L, l.length ≤ maxLen) (h : LdS w v L) :
    Calls Try.prog 38 #[kmv keys v] w fun e w' => ∃ u, e = .returned u ∧ w'.ownsRow w.heap.size 5 1 u (packK keys L).length ((packK keys L).map (.int .u8)) ∧ Below w.heap.size w w' := by
  obtain ⟨i0, hi, hz0, hz1, hz2⟩ := info_parts info_u8
  obtain ⟨r, hr⟩ : ∃ r, r = packK keys L := ⟨_, rfl⟩
  obtain ⟨o, ho⟩ : ∃ o, o = okKm keys L := ⟨_, rfl⟩
  rw [← hr]
  have hr2 := hr
  rw [packK, ← ho] at hr2
  have HO := Lib.hid ho
  have HR := Lib.hid hr
  have HR2 := Lib.hid hr2
  have HN := Lib.hid hn
  have HM := Lib.hid hm
  have H := Lib.hid h
  obtain ⟨xa, xc, rfl⟩ := RdS.shape h
  clear hr hr2 hn hm h ho
  obtain ⟨n, hnl⟩ : ∃ n, n = L.length := ⟨_, rfl⟩
  have HNL := Lib.hid hnl
  rw [← hnl]
  clear hnl
  obtain ⟨W, hW⟩ : ∃ W, W = w.alloc (.cells #[.int .i64 keys, .slice xa n xc] 26) := ⟨_, rfl⟩
  have HX0 := Lib.hid (show Bxd W w.heap.size [.int .i64 keys, .slice xa n xc] by rw [hW]; exact Bxd.new _ _ _)
  have HB0 := Lib.hid (show Below w.heap.size w W by rw [hW]; exact (Below.refl _ _).alloc (Nat.le_refl _) _)
  have HS0 := Lib.hid (show w.heap.size < W.heap.size by rw [hW]; simp)
  have HW := Lib.hid hW
  clear hW
  go_enter Try.func38, Try.ntmps38
  go_upto_region 2 with (fail)
  rw [← HW.out]
  obtain ⟨U, hU⟩ : ∃ U, U = W.alloc (.cells #[] 5) := ⟨_, rfl⟩
  obtain ⟨g0, hg0⟩ : ∃ g, g = w.heap.size + 1 := ⟨_, rfl⟩
  have hg1 : g0 = W.heap.size := by rw [hg0, HW.out]; simp
  have hbu : Below W.heap.size W U := by rw [hU]; exact (Below.refl _ _).alloc (Nat.le_refl _) _
  have hou : U.ownsRow W.heap.size 5 1 (.slice (some ⟨g0, 0, none⟩) 0 0) 0 [] := by rw [hU, hg1]; exact World.ownsRow_lit (e := 5) (size := 1) W #[] 0 (Nat.le_refl _) (by simp [maxLen]) rfl
  rw [← hU, ← hg0]
  have HBU := Lib.hid hbu
  have HOU := Lib.hid hou
  clear hU hg0 hg1 hbu hou
  have c0 := (HX0.out.below HBU.out HS0.out).at 0 _ rfl
  have c1 := (HX0.out.below HBU.out HS0.out).at 1 _ rfl
  go_wp2_with fail
  refine (specIsKeymap_q keys _ L o HO.out _ HN.out HM.out (by rw [HNL.out]; exact H.out.below (HB0.out.trans (HBU.out.mono HB0.out.size)))).mono ?_
  rintro e w1 ⟨rfl, hb⟩
  have HB := Lib.hid (HBU.out.trans (hb.mono HBU.out.size))
  have HO1 := Lib.hid (owns_below HOU.out hb)
  clear hb c0 c1
  have c0 := (HX0.out.below HB.out HS0.out).at 0 _ rfl
  have c1 := (HX0.out.below HB.out HS0.out).at 1 _ rfl
  cases o
  · have hr3 : r = [] := HR2.out
    subst hr3
    go_wp2
    go_ret
    exact ⟨_, rfl, owns_base HO1.out HB0.out.size, HB0.out.trans (HB.out.mono HB0.out.size)⟩
  · obtain ⟨⟨k1, k32⟩, ⟨l1, l4⟩, hall⟩ := okKm_at HO.out.symm
    have HRR := Lib.hid (show pkB keys L n 0 = r by rw [HNL.out, HR.out]; exact pkB_all keys L HO.out.symm)
    have hn4 : 1 ≤ n ∧ n ≤ 4 := by rw [HNL.out]; exact ⟨l1, l4⟩
    obtain ⟨n1, n4⟩ := hn4
    obtain ⟨K, rfl⟩ := Int.eq_ofNat_of_zero_le (show 0 ≤ keys by omega)
    have HAll := Lib.hid (show ∀ j, j < n → (lD L j).length = K from fun j hj => by have := (hall j (by rw [← HNL.out]; exact hj)).1; omega)
    have hK : K ≤ 32 := by omega
    have u0 : IntKind.u8.wrap (K : Int) = (K : Int) := by rw [IntKind.wrap_u8]; omega
    have u1 : IntKind.u8.wrap (n : Int) = (n : Int) := by rw [IntKind.wrap_u8]; omega
    rcases RdS.cases H.out with ⟨hnil, _⟩ | ⟨b, off, cap, us, hpos, hsl, hlt, hc⟩
    · exfalso; rw [hnil] at l1; simp at l1
    · obtain ⟨rfl, -, rfl⟩ := by simpa using hsl
      rw [← HNL.out] at hc
      have HC := Lib.hid hc
      have HLT := Lib.hid hlt
      clear hall l1 l4 hpos hsl hc hlt k1 k32
      go_wp2_with (at_builtin; refine wpList_append_owns rfl _ _ 22 rfl W.heap.size 5 i0 (.int .u8 0) 1 1 Try.underlying22 hi hz0 hz1 hz2 rfl (by decide) _ _ _ rfl (HO1.out.alloc _) _ _ _ _ rfl (World.ownsRow_lit (e := 5) (size := 1) w1 #[.int .u8 (K : Int), .int .u8 (n : Int)] 2 (Nat.le_refl _) (by simp [maxLen]) rfl) (by simp [Value.oneCell']) (by simp [maxLen]) (by decide) (by simp; exact Nat.le_succ_of_le HB.out.size) ?_)
      intro v2 w2 hown2 hgrow
      have hb2 : Below W.heap.size W w2 := (HB.out.alloc HB.out.size _).grown hgrow (by simp; exact Nat.le_succ_of_le HB.out.size) (fun q hq => (HO1.out.lt q hq).1)
      obtain ⟨a2, cp2, rfl⟩ := owns_shape hown2
      have ho2 : w2.ownsRow W.heap.size 5 1 (.slice a2 (pkB K L 0 0).length cp2) (pkB K L 0 0).length ((pkB K L 0 0).map (.int .u8)) := by rw [pkB_zero, ← HNL.out]; exact hown2
      have e0 : (pkB K L 0 0).length = 2 := by rw [pkB_zero]; rfl
      have HB2 := Lib.hid hb2
      have HO2 := Lib.hid ho2
      have HE0 := Lib.hid e0
      clear hb2 hown2 hgrow ho2 e0 u0 u1 c0 c1
      go_wp2
      go_loopw [3, 4, 5] (fun u i _ wr => ∃ (j : Nat) (X : List Int) (a : Option Addr) (c : Nat), j ≤ n ∧ i = .int .i64 j ∧ X = pkB K L j 0 ∧ X.length ≤ 2 + 96 * j ∧ u = .slice a X.length c ∧ wr.ownsRow W.heap.size 5 1 (.slice a X.length c) X.length (X.map (.int .u8)) ∧ Below W.heap.size W wr) (fun _ i _ _ => n - (intOf i).toNat)
      case atStart => exact ⟨0, _, a2, cp2, Nat.zero_le _, rfl, rfl, by rw [HE0.out]; omega, by rw [HE0.out], HO2.out, HB2.out⟩
      case round =>
        obtain ⟨j, X, a, c, hj, rfl, hX, hXl, rfl, ho, hb⟩ := hrel
        have HO3 := Lib.hid ho
        have HB3 := Lib.hid hb
        have HX := Lib.hid hX
        have HXL := Lib.hid hXl
        have c0 := (HX0.out.below hb HS0.out).at 0 _ rfl
        have c1 := (HX0.out.below hb HS0.out).at 1 _ rfl
        clear ho hb hX hXl
        by_cases hlt' : j < n
        · obtain ⟨d0, hrow⟩ := HC.out j hlt'
          obtain ⟨ua, uc, hu⟩ := RdN.shape hrow
          have hlen := HAll.out j hlt'
          rw [hu] at d0 hrow
          rw [hlen] at d0
          have HRow := Lib.hid hrow
          have HD := Lib.hid d0
          have HLen := Lib.hid hlen
          clear hrow d0 hlen hu c0
          go_wp2
          go_loopw [3, 5] (fun u kk wr => ∃ (k : Nat) (X : List Int) (a : Option Addr) (c : Nat), k ≤ K ∧ kk = .int .i64 k ∧ X = pkB K L j k ∧ X.length ≤ 2 + 96 * j + 3 * k ∧ u = .slice a X.length c ∧ wr.ownsRow W.heap.size 5 1 (.slice a X.length c) X.length (X.map (.int .u8)) ∧ Below W.heap.size W wr) (fun _ kk _ => K - (intOf kk).toNat)
          case atStart => exact ⟨0, X, a, c, Nat.zero_le _, rfl, HX.out, by have := HXL.out; omega, rfl, HO3.out, HB3.out⟩
          case round =>
            obtain ⟨k, Y, a', c', hk, rfl, hY, hYl, rfl, ho, hb⟩ := hrel
            have c0 := (HX0.out.below hb HS0.out).at 0 _ rfl
            have c1 := (HX0.out.below hb HS0.out).at 1 _ rfl
            have hbw := HB0.out.trans (hb.mono HB0.out.size)
            have HO4 := Lib.hid ho
            have HB4 := Lib.hid hb
            have HY := Lib.hid hY
            have HYL := Lib.hid hYl
            by_cases hkl : k < K
            · obtain ⟨b2, off2, rfl, hlt2, e0, e1, e2, e3⟩ := row_at HRow.out (k := k) (by rw [HLen.out]; exact hkl)
              have d1 := (hbw.cell (p := ⟨b, off + j, none⟩) HLT.out).trans HD.out
              have f0 := (hbw.cell (p := ⟨b2, off2 + k * 4, none⟩) hlt2).trans e0
              have f1 := (hbw.cell (p := ⟨b2, off2 + k * 4 + 1, none⟩) hlt2).trans e1
              have f2 := (hbw.cell (p := ⟨b2, off2 + k * 4 + 2, none⟩) hlt2).trans e2
              have f3 := (hbw.cell (p := ⟨b2, off2 + k * 4 + 3, none⟩) hlt2).trans e3
              have hst := pkB_step K L j k (by rw [HLen.out]; exact hkl)
              obtain ⟨A, hA⟩ : ∃ A, A = acD (lD L j) k := ⟨_, rfl⟩
              rw [← hA] at f0 f1 f2 f3 hst
              rw [← hY] at hst
              obtain ⟨P, hP⟩ : ∃ P, P = packV A := ⟨_, rfl⟩
              have hPl : P.length ≤ 3 := by rw [hP]; exact packV_len A
              rw [← hP] at hst
              have HST := Lib.hid hst
              have HP := Lib.hid hP
              have HPL := Lib.hid hPl
              obtain ⟨ak, ac, am, an⟩ := A
              simp only at f0 f1 f2 f3
              clear e0 e1 e2 e3 hA hY hYl ho hb hbw hst hP hPl
              go_wp2_with fail
              refine (specPackAction_any ak ac am an _).mono ?_
              rw [← HP.out]
              rintro e w5 ⟨u5, rfl, hou, hb5⟩
              have HB5 := Lib.hid (HB4.out.trans (hb5.mono HB4.out.size))
              have HO5 := Lib.hid (owns_below HO4.out hb5)
              have HOU := Lib.hid hou
              have hsz1 : W.heap.size ≤ w5.heap.size := HB5.out.size
              have b63 : Y.length + P.length ≤ maxLen := by have := HYL.out; have := HPL.out; unfold maxLen; omega
              have b47 : (Y.length + P.length) * 1 ≤ 140737488355328 := by have := HYL.out; have := HPL.out; omega
              clear hou hb5 f0 f1 f2 f3 d1 c0 c1
              go_wp2_with (at_builtin; refine wpList_append_owns rfl _ _ 22 rfl W.heap.size 5 i0 (.int .u8 0) 1 1 Try.underlying22 hi hz0 hz1 hz2 rfl (by decide) _ _ _ rfl HO5.out _ _ _ _ rfl HOU.out (by intro u hu; obtain ⟨z, _, rfl⟩ := List.mem_map.1 hu; rfl) b63 b47 hsz1 ?_)
              intro v6 w6 hown6 hgrow
              rw [← List.length_append, ← List.map_append] at hown6
              obtain ⟨a6, c6, rfl⟩ := owns_shape hown6
              have HB6 := Lib.hid (HB5.out.grown hgrow hsz1 (fun q hq => (HO5.out.lt q hq).1))
              have HO6 := Lib.hid hown6
              clear hown6 hgrow b63 b47 hsz1
              go_wp2
              go_roundw
              case rel => exact ⟨k + 1, Y ++ P, a6, c6, by omega, by go_num, HST.out.symm, by rw [List.length_append]; have := HYL.out; have := HPL.out; omega, rfl, HO6.out, HB6.out⟩
              case measure => simp [intOf]; omega
            · obtain rfl : k = K := by omega
              have HRow2 := Lib.hid (pkB_row k L j k (by rw [← HNL.out]; exact hlt') HLen.out.symm)
              clear hY hYl ho hb hbw
              go_wp2
              go_roundw
              case rel => exact ⟨j + 1, Y, a', c', by omega, by go_num, by rw [HRow2.out]; exact HY.out, by have := HYL.out; omega, rfl, HO4.out, HB4.out⟩
              case measure => simp [intOf]; omega
        · obtain rfl : j = n := by omega
          have HRX := Lib.hid (show X = r from HX.out.trans HRR.out)
          go_wp2
          go_ret
          exact ⟨_, rfl, by rw [← HRX.out]; exact owns_base HO3.out HB0.out.size, HB0.out.trans (HB3.out.mono HB0.out.size)⟩

end Go.Proofs.Ytleheibpgngmiaa
