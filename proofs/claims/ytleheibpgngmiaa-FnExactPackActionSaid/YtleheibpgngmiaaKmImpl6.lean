/- DERIVED. The program's PackKeymap: a keymap's bytes. -/
import Derived.Test.YtleheibpgngmiaaKmSpec4
import Derived.Test.YtleheibpgngmiaaKmImpl
import Derived.Test.YtleheibpgngmiaaKmImpl5
namespace Go.Proofs.Ytleheibpgngmiaa
open Go.RowKit

set_option maxRecDepth 100000 in
set_option maxHeartbeats 4000000 in
theorem implPackKeymap_any (keys : Int) (v : Value) (L : List (List Ac)) (w : World) (hn : L.length ≤ maxLen) (hm : ∀ l ∈ L, l.length ≤ maxLen) (h : LdS w v L) :
    Calls Try.prog 39 #[kmv keys v] w fun e w' => ∃ u, e = .returned u ∧ w'.ownsRow w.heap.size 5 1 u (packK keys L).length ((packK keys L).map (.int .u8)) ∧ Below w.heap.size w w' := by
  obtain ⟨i0, hi, hz0, hz1, hz2⟩ := info_parts info_u8
  obtain ⟨r, hr⟩ : ∃ r, r = packK keys L := ⟨_, rfl⟩
  obtain ⟨o, ho⟩ : ∃ o, o = okKm keys L := ⟨_, rfl⟩
  rw [← hr]
  have hr2 := hr
  rw [packK, ← ho] at hr2
  have HO := Lib.hid ho
  have HR := Lib.hid hr
  have HR2 := Lib.hid hr2
  have HN := Lib.hid hn
  have HM := Lib.hid hm
  have H := Lib.hid h
  obtain ⟨xa, xc, rfl⟩ := RdS.shape h
  clear hr hr2 hn hm h ho
  obtain ⟨n, hnl⟩ : ∃ n, n = L.length := ⟨_, rfl⟩
  have HNL := Lib.hid hnl
  rw [← hnl]
  clear hnl
  obtain ⟨W, hW⟩ : ∃ W, W = w.alloc (.cells #[.int .i64 keys, .slice xa n xc] 26) := ⟨_, rfl⟩
  have HX0 := Lib.hid (show Bxd W w.heap.size [.int .i64 keys, .slice xa n xc] by rw [hW]; exact Bxd.new _ _ _)
  have HB0 := Lib.hid (show Below w.heap.size w W by rw [hW]; exact (Below.refl _ _).alloc (Nat.le_refl _) _)
  have HS0 := Lib.hid (show w.heap.size < W.heap.size by rw [hW]; simp)
  have HW := Lib.hid hW
  clear hW
  go_enter Try.func39, Try.ntmps39
  go_wp2_with fail
  rw [← HW.out]
  have c0 := HX0.out.at 0 _ rfl
  have c1 := HX0.out.at 1 _ rfl
  refine (implIsKeymap_q keys _ L o HO.out _ HN.out HM.out (by rw [HNL.out]; exact H.out.below HB0.out)).mono ?_
  rintro e w1 ⟨rfl, hb⟩
  have HB := Lib.hid (hb.mono (Nat.le_refl _))
  clear hb c0 c1
  have c0 := (HX0.out.below HB.out HS0.out).at 0 _ rfl
  have c1 := (HX0.out.below HB.out HS0.out).at 1 _ rfl
  cases o
  · have hr3 : r = [] := HR2.out
    subst hr3
    go_wp2
    go_ret
    exact ⟨_, rfl, World.ownsRow_nil _ _ _ _, HB0.out.trans (HB.out.mono HB0.out.size)⟩
  · obtain ⟨⟨k1, k32⟩, ⟨l1, l4⟩, hall⟩ := okKm_at HO.out.symm
    have HRR := Lib.hid (show pkB keys L n 0 = r by rw [HNL.out, HR.out]; exact pkB_all keys L HO.out.symm)
    have hn4 : 1 ≤ n ∧ n ≤ 4 := by rw [HNL.out]; exact ⟨l1, l4⟩
    obtain ⟨n1, n4⟩ := hn4
    obtain ⟨K, rfl⟩ := Int.eq_ofNat_of_zero_le (show 0 ≤ keys by omega)
    have HAll := Lib.hid (show ∀ j, j < n → (lD L j).length = K from fun j hj => by have := (hall j (by rw [← HNL.out]; exact hj)).1; omega)
    have hK : K ≤ 32 := by omega
    have u0 : IntKind.u8.wrap (K : Int) = (K : Int) := by rw [IntKind.wrap_u8]; omega
    have u1 : IntKind.u8.wrap (n : Int) = (n : Int) := by rw [IntKind.wrap_u8]; omega
    rcases RdS.cases H.out with ⟨hnil, _⟩ | ⟨b, off, cap, us, hpos, hsl, hlt, hc⟩
    · exfalso; rw [hnil] at l1; simp at l1
    · obtain ⟨rfl, -, rfl⟩ := by simpa using hsl
      rw [← HNL.out] at hc
      have HC := Lib.hid hc
      have HLT := Lib.hid hlt
      clear hall l1 l4 hpos hsl hc hlt k1 k32
      go_upto_region 4 with (fail)
      obtain ⟨w2, hw2⟩ : ∃ w2, w2 = w1.alloc (.cells #[.int .u8 (K : Int), .int .u8 (n : Int)] 5) := ⟨_, rfl⟩
      obtain ⟨g2, hg2⟩ : ∃ g2, g2 = w1.heap.size := ⟨_, rfl⟩
      have hown2 : w2.ownsRow W.heap.size 5 1 (.slice (some ⟨g2, 0, none⟩) 2 2) 2 [.int .u8 (K : Int), .int .u8 (n : Int)] := by
        rw [hw2, hg2]; exact World.ownsRow_lit (e := 5) (size := 1) w1 #[.int .u8 (K : Int), .int .u8 (n : Int)] 2 HB.out.size (by simp [maxLen]) rfl
      have hb2 : Below W.heap.size W w2 := by rw [hw2]; exact HB.out.alloc HB.out.size _
      rw [← hw2, ← hg2]
      have ho2 : w2.ownsRow W.heap.size 5 1 (.slice (some ⟨g2, 0, none⟩) (pkB K L 0 0).length 2) (pkB K L 0 0).length ((pkB K L 0 0).map (.int .u8)) := by rw [pkB_zero, ← HNL.out]; exact hown2
      have e0 : (pkB K L 0 0).length = 2 := by rw [pkB_zero]; rfl
      have HB2 := Lib.hid hb2
      have HO2 := Lib.hid ho2
      have HE0 := Lib.hid e0
      clear hb2 hown2 ho2 e0 u0 u1 hw2 hg2 c0 c1
      have c1 := (HX0.out.below HB2.out HS0.out).at 1 _ rfl
      go_wp2
      clear c1
      go_loopw [3, 5, 7, 22] (fun u _ _ i wr => ∃ (j : Nat) (X : List Int) (a : Option Addr) (c : Nat), j ≤ n ∧ i = .int .i64 j ∧ X = pkB K L j 0 ∧ X.length ≤ 2 + 96 * j ∧ u = .slice a X.length c ∧ wr.ownsRow W.heap.size 5 1 (.slice a X.length c) X.length (X.map (.int .u8)) ∧ Below W.heap.size W wr) (fun _ _ _ i _ => n - (intOf i).toNat)
      case atStart => exact ⟨0, _, some ⟨g2, 0, none⟩, 2, Nat.zero_le _, rfl, rfl, by rw [HE0.out]; omega, by rw [HE0.out], HO2.out, HB2.out⟩
      case round =>
        obtain ⟨j, X, a, c, hj, rfl, hX, hXl, rfl, ho, hb⟩ := hrel
        have HO3 := Lib.hid ho
        have HB3 := Lib.hid hb
        have HX := Lib.hid hX
        have HXL := Lib.hid hXl
        have hbw0 := HB0.out.trans (hb.mono HB0.out.size)
        clear ho hb hX hXl
        by_cases hlt' : j < n
        · obtain ⟨d0, hrow⟩ := HC.out j hlt'
          obtain ⟨ua, uc, hu⟩ := RdN.shape hrow
          have hlen := HAll.out j hlt'
          rw [hu] at d0 hrow
          rw [hlen] at d0
          have HRow := Lib.hid hrow
          have HD := Lib.hid d0
          have HLen := Lib.hid hlen
          have d1 := (hbw0.cell (p := ⟨b, off + j, none⟩) HLT.out).trans d0
          clear hrow d0 hlen hu hbw0
          go_wp2
          clear d1
          go_loopw [3, 7, 28] (fun u _ kk wr => ∃ (k : Nat) (X : List Int) (a : Option Addr) (c : Nat), k ≤ K ∧ kk = .int .i64 k ∧ X = pkB K L j k ∧ X.length ≤ 2 + 96 * j + 3 * k ∧ u = .slice a X.length c ∧ wr.ownsRow W.heap.size 5 1 (.slice a X.length c) X.length (X.map (.int .u8)) ∧ Below W.heap.size W wr) (fun _ _ kk _ => K - (intOf kk).toNat)
          case atStart => exact ⟨0, X, a, c, Nat.zero_le _, rfl, HX.out, by have := HXL.out; omega, rfl, HO3.out, HB3.out⟩
          case round =>
            obtain ⟨k, Y, a', c', hk, rfl, hY, hYl, rfl, ho, hb⟩ := hrel
            have hbw := HB0.out.trans (hb.mono HB0.out.size)
            have HO4 := Lib.hid ho
            have HB4 := Lib.hid hb
            have HY := Lib.hid hY
            have HYL := Lib.hid hYl
            by_cases hkl : k < K
            · obtain ⟨b2, off2, rfl, hlt2, e0, e1, e2, e3⟩ := row_at HRow.out (k := k) (by rw [HLen.out]; exact hkl)
              have f0 := (hbw.cell (p := ⟨b2, off2 + k * 4, none⟩) hlt2).trans e0
              have f1 := (hbw.cell (p := ⟨b2, off2 + k * 4 + 1, none⟩) hlt2).trans e1
              have f2 := (hbw.cell (p := ⟨b2, off2 + k * 4 + 2, none⟩) hlt2).trans e2
              have f3 := (hbw.cell (p := ⟨b2, off2 + k * 4 + 3, none⟩) hlt2).trans e3
              have hst := pkB_step K L j k (by rw [HLen.out]; exact hkl)
              obtain ⟨A, hA⟩ : ∃ A, A = acD (lD L j) k := ⟨_, rfl⟩
              rw [← hA] at f0 f1 f2 f3 hst
              rw [← hY] at hst
              obtain ⟨P, hP⟩ : ∃ P, P = packV A := ⟨_, rfl⟩
              have hPl : P.length ≤ 3 := by rw [hP]; exact packV_len A
              rw [← hP] at hst
              have HST := Lib.hid hst
              have HP := Lib.hid hP
              have HPL := Lib.hid hPl
              obtain ⟨ak, ac, am, an⟩ := A
              simp only at f0 f1 f2 f3
              clear e0 e1 e2 e3 hA hY hYl ho hb hbw hst hP hPl
              go_upto_region 10 with (fail)
              obtain ⟨U, hU⟩ : ∃ U, U = wr.alloc (.cells #[.int .i64 ak, .int .i64 ac, .int .i64 am, .int .i64 an] 31) := ⟨_, rfl⟩
              obtain ⟨g, hg⟩ : ∃ g, g = wr.heap.size := ⟨_, rfl⟩
              have hbx : Bxd U g [.int .i64 ak, .int .i64 ac, .int .i64 am, .int .i64 an] := by rw [hU, hg]; exact Bxd.new _ _ _
              have HBU := Lib.hid (show Below W.heap.size W U by rw [hU]; exact HB4.out.alloc HB4.out.size _)
              have HOU4 := Lib.hid (show U.ownsRow W.heap.size 5 1 (.slice a' Y.length c') Y.length (Y.map (.int .u8)) by rw [hU]; exact HO4.out.alloc _)
              rw [← hU, ← hg]
              have a0 := hbx.at 0 _ rfl
              have a1 := hbx.at 1 _ rfl
              have a2 := hbx.at 2 _ rfl
              have a3 := hbx.at 3 _ rfl
              clear hU hg hbx f0 f1 f2 f3
              go_wp2_with fail
              refine (implPackAction_any ak ac am an _).mono ?_
              rw [← HP.out]
              rintro e w5 ⟨u5, rfl, hou, hb5⟩
              have HB5 := Lib.hid (HBU.out.trans (hb5.mono HBU.out.size))
              have HO5 := Lib.hid (owns_below HOU4.out hb5)
              have HOU := Lib.hid hou
              have hsz1 : W.heap.size ≤ w5.heap.size := HB5.out.size
              have b63 : Y.length + P.length ≤ maxLen := by have := HYL.out; have := HPL.out; unfold maxLen; omega
              have b47 : (Y.length + P.length) * 1 ≤ 140737488355328 := by have := HYL.out; have := HPL.out; omega
              clear hou hb5 a0 a1 a2 a3
              go_wp2_with (at_builtin; refine wpList_append_owns rfl _ _ 22 rfl W.heap.size 5 i0 (.int .u8 0) 1 1 Try.underlying22 hi hz0 hz1 hz2 rfl (by decide) _ _ _ rfl HO5.out _ _ _ _ rfl HOU.out (by intro u hu; obtain ⟨z, _, rfl⟩ := List.mem_map.1 hu; rfl) b63 b47 hsz1 ?_)
              intro v6 w6 hown6 hgrow
              rw [← List.length_append, ← List.map_append] at hown6
              obtain ⟨a6, c6, rfl⟩ := owns_shape hown6
              have HB6 := Lib.hid (HB5.out.grown hgrow hsz1 (fun q hq => (HO5.out.lt q hq).1))
              have HO6 := Lib.hid hown6
              clear hown6 hgrow b63 b47 hsz1
              go_wp2
              go_roundw
              case rel => exact ⟨k + 1, Y ++ P, a6, c6, by omega, by go_num, HST.out.symm, by rw [List.length_append]; have := HYL.out; have := HPL.out; omega, rfl, HO6.out, HB6.out⟩
              case measure => simp [intOf]; omega
            · obtain rfl : k = K := by omega
              have HRow2 := Lib.hid (pkB_row k L j k (by rw [← HNL.out]; exact hlt') HLen.out.symm)
              clear hY hYl ho hb hbw
              go_wp2
              go_roundw
              case rel => exact ⟨j + 1, Y, a', c', by omega, by go_num, by rw [HRow2.out]; exact HY.out, by have := HYL.out; omega, rfl, HO4.out, HB4.out⟩
              case measure => simp [intOf]; omega
        · obtain rfl : j = n := by omega
          have HRX := Lib.hid (show X = r from HX.out.trans HRR.out)
          go_wp2
          go_ret
          exact ⟨_, rfl, by rw [← HRX.out]; exact owns_base HO3.out HB0.out.size, HB0.out.trans (HB3.out.mono HB0.out.size)⟩

end Go.Proofs.Ytleheibpgngmiaa
