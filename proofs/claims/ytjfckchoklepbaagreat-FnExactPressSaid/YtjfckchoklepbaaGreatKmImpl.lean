/- DERIVED. The program's fitsLayer and IsKeymap: each returns what a plain function says. -/
import Derived.Test.YtjfckchoklepbaaGreatKmSpec
import Derived.Test.YtjfckchoklepbaaGreatAcOk
namespace Go.Proofs.YtjfckchoklepbaaGreat
open Go.RowKit

set_option maxRecDepth 100000 in
set_option maxHeartbeats 4000000 in
theorem implFits_q (k c m n : Int) (i N : Nat) (o : Bool) (ho : o = okA N i ⟨k, c, m, n⟩) (w : World) : Calls Tryz.prog 163 #[acv k c m n, .int .i64 i, .int .i64 N] w fun e w' => e = .returned (.bool o) ∧ Below w.heap.size w w' := by
  obtain ⟨vo, hvo⟩ : ∃ vo, vo = okAc k c m n := ⟨_, rfl⟩
  have hA : o = (vo && (!(decide (k = 1) && decide (i = 0)) && !(!decide (k = 9) && decide ((N : Int) ≤ n)))) := by rw [ho, hvo]; rfl
  have HA := Lib.hid hA
  have HVO := Lib.hid hvo
  clear ho hvo hA
  obtain ⟨W, hW⟩ : ∃ W, W = w.alloc (.cells #[.int .i64 k, .int .i64 c, .int .i64 m, .int .i64 n] 41) := ⟨_, rfl⟩
  have HX0 := Lib.hid (show Bxd W w.heap.size [.int .i64 k, .int .i64 c, .int .i64 m, .int .i64 n] by rw [hW]; exact Bxd.new _ _ _)
  have HB0 := Lib.hid (show Below w.heap.size w W by rw [hW]; exact (Below.refl _ _).alloc (Nat.le_refl _) _)
  have HS0 := Lib.hid (show w.heap.size < W.heap.size by rw [hW]; simp)
  have HW := Lib.hid hW
  clear hW
  go_enter Tryz.func163, Tryz.ntmps163
  go_wp2_with fail
  rw [← HW.out]
  have c0 := HX0.out.at 0 _ rfl
  have c1 := HX0.out.at 1 _ rfl
  have c2 := HX0.out.at 2 _ rfl
  have c3 := HX0.out.at 3 _ rfl
  refine (implIsAction_q k c m n vo HVO.out _).mono ?_
  rintro e w1 ⟨rfl, hb⟩
  have HB := Lib.hid (HB0.out.trans (hb.mono HB0.out.size))
  have HX1 := Lib.hid (HX0.out.below hb HS0.out)
  clear hb c0 c1 c2 c3
  have c0 := HX1.out.at 0 _ rfl
  have c3 := HX1.out.at 3 _ rfl
  cases vo
  · obtain rfl : o = false := HA.out
    go_wp2
    go_ret
    exact ⟨rfl, HB.out⟩
  · by_cases hi : i = 0
    · have j0 : ((i : Int) == 0) = true := by simp [hi]
      by_cases h1 : k = 1
      · obtain rfl : o = false := by rw [HA.out]; simp [h1, hi]
        go_wp2
        go_ret
        exact ⟨rfl, HB.out⟩
      · by_cases h9 : k = 9
        · obtain rfl : o = true := by rw [HA.out]; simp [h9]
          go_wp2
          go_ret
          exact ⟨rfl, HB.out⟩
        · have HK := Lib.hid (show o = decide (n < N) by rw [HA.out, Bool.eq_iff_iff]; simp [h1, h9])
          go_wp2
          go_ret
          exact ⟨ret_bool (by rw [HK.out]; simp [h9]), HB.out⟩
    · have j0 : ((i : Int) == 0) = false := by simp; omega
      by_cases h9 : k = 9
      · obtain rfl : o = true := by rw [HA.out]; simp [h9]
        go_wp2
        go_ret
        exact ⟨rfl, HB.out⟩
      · have HK := Lib.hid (show o = decide (n < N) by rw [HA.out, Bool.eq_iff_iff]; simp [hi, h9])
        go_wp2
        go_ret
        exact ⟨ret_bool (by rw [HK.out]; simp [h9]), HB.out⟩

set_option maxRecDepth 100000 in
set_option maxHeartbeats 4000000 in
theorem implIsKeymap_any (keys : Int) (v : Value) (L : List (List Ac)) (w : World) (hn : L.length ≤ maxLen) (hm : ∀ l ∈ L, l.length ≤ maxLen) (h : LdS w v L) :
    Calls Tryz.prog 86 #[kmv keys v] w fun e w' => e = .returned (.bool (okKm keys L)) ∧ Below w.heap.size w w' := by
  obtain ⟨r, hr⟩ : ∃ r, r = okKm keys L := ⟨_, rfl⟩
  rw [← hr]
  have HR := Lib.hid hr
  clear hr
  unfold maxLen at hn
  obtain ⟨B1, hB1⟩ : ∃ x, x = inB keys 1 32 := ⟨_, rfl⟩
  obtain ⟨B2, hB2⟩ : ∃ x, x = inB L.length 1 4 := ⟨_, rfl⟩
  have HB1 := Lib.hid hB1
  have HB2 := Lib.hid hB2
  clear hB1 hB2
  obtain ⟨xa, xc, rfl⟩ := RdS.shape h
  obtain ⟨N, hN⟩ : ∃ N, N = L.length := ⟨_, rfl⟩
  have HNN := Lib.hid hN
  have HB2' := Lib.hid (show B2 = inB (N : Int) 1 4 by rw [HB2.out, ← HNN.out])
  have HM := Lib.hid (fun j => lD_le hm j)
  have H := Lib.hid h
  rw [← hN] at hn
  rw [← HNN.out]
  clear hN hm h
  have HRB := Lib.hid (show (B1 && B2) = false → r = false from fun h0 => by rw [HR.out, okKm, ← HB1.out, ← HB2.out, h0, Bool.and_false])
  obtain ⟨W, hW⟩ : ∃ W, W = w.alloc (.cells #[.int .i64 keys, .slice xa N xc] 26) := ⟨_, rfl⟩
  have HX0 := Lib.hid (show Bxd W w.heap.size [.int .i64 keys, .slice xa N xc] by rw [hW]; exact Bxd.new _ _ _)
  have HB0 := Lib.hid (show Below w.heap.size w W by rw [hW]; exact (Below.refl _ _).alloc (Nat.le_refl _) _)
  have HS0 := Lib.hid (show w.heap.size < W.heap.size by rw [hW]; simp)
  have HW := Lib.hid hW
  clear hW
  go_enter Tryz.func86, Tryz.ntmps86
  go_wp2_with fail
  rw [← HW.out]
  have c0 := HX0.out.at 0 _ rfl
  have c1 := HX0.out.at 1 _ rfl
  refine (isBetween_any keys 1 32 _).mono ?_
  rw [← HB1.out]
  rintro e w0 ⟨rfl, rfl⟩
  cases B1
  · obtain rfl : r = false := HRB.out (by simp)
    go_wp2
    go_ret
    exact ⟨rfl, HB0.out⟩
  · go_wp2_with fail
    refine (isBetween_any N 1 4 _).mono ?_
    rw [← HB2'.out]
    rintro e w0 ⟨rfl, rfl⟩
    cases B2
    · obtain rfl : r = false := HRB.out (by simp)
      go_wp2
      go_ret
      exact ⟨rfl, HB0.out⟩
    · have hN14 := of_decide_eq_true (show decide (1 ≤ (N : Int) ∧ (N : Int) ≤ 4) = true from HB2'.out.symm)
      have hn4 : N ≤ 4 := by omega
      rcases RdS.cases H.out with ⟨hnil, _⟩ | ⟨b, off, cap, us, hpos, hsl, hlt, hc⟩
      · exfalso; rw [hnil] at HNN; have := HNN.out; simp at this; omega
      · obtain ⟨rfl, -, rfl⟩ := by simpa using hsl
        rw [← HNN.out] at hc
        have HC := Lib.hid hc
        have HLT := Lib.hid hlt
        clear hpos hsl hc hlt hN14
        go_wp2
        have HbW := Lib.hid (show b < W.heap.size from Nat.lt_of_lt_of_le HLT.out HB0.out.size)
        clear c0 c1
        go_loopw [3, 4, 6, 21] (fun _ _ _ i wr => ∃ (j : Nat), j ≤ N ∧ i = .int .i64 j ∧ layN keys L j = true ∧ Below W.heap.size W wr) (fun _ _ _ i _ => N - (intOf i).toNat)
        case atStart => exact ⟨0, Nat.zero_le _, rfl, rfl, Below.refl _ _⟩
        case round =>
          obtain ⟨j, hj, rfl, hlay, hb⟩ := hrel
          have c0 := (HX0.out.below hb HS0.out).at 0 _ rfl
          by_cases hlt' : j < N
          · obtain ⟨d0, hrow⟩ := HC.out j hlt'
            obtain ⟨ua, uc, hu⟩ := RdN.shape hrow
            rw [hu] at d0 hrow
            have d1 := (hb.cell (p := ⟨b, off + j, none⟩) HbW.out).trans ((HB0.out.cell (p := ⟨b, off + j, none⟩) HLT.out).trans d0)
            have hml := HM.out j
            unfold maxLen at hml
            have hbad : layOk keys L j = false → r = false := fun h0 => by rw [HR.out]; exact okKm_no (by rw [← HNN.out]; exact hlt') h0
            obtain ⟨l, hl⟩ : ∃ l, l = lD L j := ⟨_, rfl⟩
            have hbad2 : layOk keys L j = (decide ((l.length : Int) = keys) && rowN N j l l.length) := by rw [layOk, ← hl, ← HNN.out]
            rw [← hl] at hml hrow d1
            obtain ⟨n, hnl⟩ : ∃ n, n = l.length := ⟨_, rfl⟩
            rw [← hnl] at hml d1 hbad2
            have HLay := Lib.hid hlay
            have HB := Lib.hid hb
            have HBad := Lib.hid hbad
            have HBad2 := Lib.hid hbad2
            have HNL := Lib.hid hnl
            have HRow := Lib.hid hrow
            clear hlay hb d0 hu hl hbad hbad2 hnl hrow
            by_cases hk : (n : Int) = keys
            · have HRow2 := Lib.hid (HRow.out.below HB0.out)
              go_wp2
              go_loopw [6, 33] (fun _ kk wi => ∃ k : Nat, k ≤ n ∧ kk = .int .i64 k ∧ rowN N j l k = true ∧ Below W.heap.size W wi) (fun _ kk _ => n - (intOf kk).toNat)
              case atStart => exact ⟨0, Nat.zero_le _, rfl, rfl, HB.out⟩
              case round =>
                obtain ⟨k, hkn, rfl, hrw, hb⟩ := hrel
                have c1 := (HX0.out.below hb HS0.out).at 1 _ rfl
                clear c0 d1
                by_cases hkl : k < n
                · obtain ⟨b2, off2, rfl, hlt2, e0, e1, e2, e3⟩ := row_at HRow2.out (k := k) (by rw [← HNL.out]; exact hkl)
                  obtain ⟨ac, hac⟩ : ∃ a, a = acD l k := ⟨_, rfl⟩
                  rw [← hac] at e0 e1 e2 e3
                  have hrf : okA N j ac = false → r = false := fun h0 => HBad.out (by rw [HBad2.out, rowN_no (by rw [← hac]; exact h0) n hkl, Bool.and_false])
                  have hnx : okA N j ac = true → rowN N j l (k + 1) = true := fun h0 => by rw [rowN, hrw, ← hac, h0]; rfl
                  obtain ⟨ka, ca, ma, na⟩ := ac
                  simp only at e0 e1 e2 e3
                  have f0 := (hb.cell (p := ⟨b2, off2 + k * 4, none⟩) hlt2).trans e0
                  have f1 := (hb.cell (p := ⟨b2, off2 + k * 4 + 1, none⟩) hlt2).trans e1
                  have f2 := (hb.cell (p := ⟨b2, off2 + k * 4 + 2, none⟩) hlt2).trans e2
                  have f3 := (hb.cell (p := ⟨b2, off2 + k * 4 + 3, none⟩) hlt2).trans e3
                  obtain ⟨vo, hvo⟩ : ∃ vo, vo = okA N j ⟨ka, ca, ma, na⟩ := ⟨_, rfl⟩
                  rw [← hvo] at hrf hnx
                  have HRF := Lib.hid hrf
                  have HNX := Lib.hid hnx
                  have HVO := Lib.hid hvo
                  have HB := Lib.hid hb
                  have HRW := Lib.hid hrw
                  clear e0 e1 e2 e3 hac hrf hnx hvo hrw hb
                  go_upto_region 11 with (fail)
                  obtain ⟨U, hU⟩ : ∃ U, U = wr.alloc (.cells #[.int .i64 ka, .int .i64 ca, .int .i64 ma, .int .i64 na] 41) := ⟨_, rfl⟩
                  obtain ⟨g, hg⟩ : ∃ g, g = wr.heap.size := ⟨_, rfl⟩
                  have hbx : Bxd U g [.int .i64 ka, .int .i64 ca, .int .i64 ma, .int .i64 na] := by rw [hU, hg]; exact Bxd.new _ _ _
                  have hbu : Below W.heap.size W U := by rw [hU]; exact HB.out.alloc HB.out.size _
                  rw [← hU, ← hg]
                  have HXU := Lib.hid hbx
                  have HBU := Lib.hid hbu
                  clear hU hg hbx hbu f0 f1 f2 f3 c1
                  have c1 := (HX0.out.below HBU.out HS0.out).at 1 _ rfl
                  have a0 := HXU.out.at 0 _ rfl
                  have a1 := HXU.out.at 1 _ rfl
                  have a2 := HXU.out.at 2 _ rfl
                  have a3 := HXU.out.at 3 _ rfl
                  go_wp2_with fail
                  refine (implFits_q ka ca ma na j N vo HVO.out _).mono ?_
                  rintro e w2 ⟨rfl, hb2⟩
                  have HBB := Lib.hid (HBU.out.trans (hb2.mono HBU.out.size))
                  clear hb2 a0 a1 a2 a3 c1
                  cases vo
                  · obtain rfl : r = false := HRF.out rfl
                    go_wp2
                    go_ret
                    exact ⟨rfl, HB0.out.trans (HBB.out.mono HB0.out.size)⟩
                  · have HQ := Lib.hid (HNX.out rfl)
                    go_wp2
                    go_roundw
                    case rel => exact ⟨k + 1, by omega, by go_num, HQ.out, HBB.out⟩
                    case measure => simp [intOf]; omega
                · obtain rfl : k = n := by omega
                  have HB := Lib.hid hb
                  have HLN := Lib.hid (show layN keys L (j + 1) = true by rw [layN, HLay.out, HBad2.out, decide_eq_true hk, hrw]; rfl)
                  clear hb hrw
                  go_wp2
                  go_roundw
                  case rel => exact ⟨j + 1, by omega, by go_num, HLN.out, HB.out⟩
                  case measure => simp [intOf]; omega
            · have hrf : r = false := HBad.out (by rw [HBad2.out, decide_eq_false hk, Bool.false_and])
              subst hrf
              go_wp2
              go_ret
              exact ⟨rfl, HB0.out.trans (HB.out.mono HB0.out.size)⟩
          · obtain rfl : j = N := by omega
            have hrr : r = true := by rw [HR.out, okKm, ← HNN.out, hlay, ← HB1.out, ← HB2'.out]; rfl
            subst hrr
            have HB := Lib.hid hb
            clear hlay hb
            go_wp2
            go_ret
            exact ⟨rfl, HB0.out.trans (HB.out.mono HB0.out.size)⟩

theorem implIsKeymap_q (keys : Int) (v : Value) (L : List (List Ac)) (o : Bool) (ho : o = okKm keys L) (w : World) (hn : L.length ≤ maxLen) (hm : ∀ l ∈ L, l.length ≤ maxLen) (h : LdS w v L) :
    Calls Tryz.prog 86 #[kmv keys v] w fun e w' => e = .returned (.bool o) ∧ Below w.heap.size w w' := by
  rw [ho]; exact implIsKeymap_any keys v L w hn hm h

end Go.Proofs.YtjfckchoklepbaaGreat
