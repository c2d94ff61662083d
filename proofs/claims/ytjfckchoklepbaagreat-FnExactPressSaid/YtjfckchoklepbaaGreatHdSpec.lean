/- DERIVED. The reference's IsHeld: it tells whether held keys are valid. · The reference's LayersOn: the layers that are on. -/
import Derived.Test.YtjfckchoklepbaaGreatHd
import Derived.Test.YtjfckchoklepbaaGreatAcOk
namespace Go.Proofs.YtjfckchoklepbaaGreat
open Go.RowKit

theorem bit_one (S K : Nat) (hS : S < 2 ^ 32) : bits .and .i64 ((S : Int) / 2 ^ K) 1 = ((if S.testBit K = true then 1 else 0 : Nat) : Int) := by
  have h1 : ((S : Int) / 2 ^ K) = ((S / 2 ^ K : Nat) : Int) := by simp
  have h2 : S / 2 ^ K ≤ S := Nat.div_le_self _ _
  rw [h1, show (1 : Int) = ((1 : Nat) : Int) from rfl, and_nat _ _ (by omega) (by omega), Nat.testBit_eq_decide_div_mod_eq, Nat.and_one_is_mod]
  rcases Nat.mod_two_eq_zero_or_one (S / 2 ^ K) with h | h <;> simp [h]

set_option maxRecDepth 100000 in
set_option maxHeartbeats 4000000 in
theorem specIsHeld_any (v : Value) (l : List Hd) (w : World) (hn : l.length ≤ maxLen) (h : RdN w v l.length (flatHd l)) :
    Calls Tryz.prog 168 #[v] w fun e w' => e = .returned (.bool (okHd l)) ∧ Below w.heap.size w w' := by
  obtain ⟨r, hr⟩ : ∃ r, r = okHd l := ⟨_, rfl⟩
  rw [← hr]
  have HR := Lib.hid hr
  clear hr
  unfold maxLen at hn
  rcases rd_hds h with ⟨rfl, a, cap, rfl⟩ | ⟨b, off, cap, hpos, rfl, hlt, hc⟩
  · obtain rfl : r = true := HR.out
    clear h
    go_enter Tryz.func168, Tryz.ntmps168
    go_wp2
    refine wp_loop_rounds 1 ?_
    rw [rounds_succ]
    go_wp2
    go_ret
    exact ⟨rfl, Below.refl _ _⟩
  · have HC := Lib.hid hc
    obtain ⟨N, hN⟩ : ∃ N, N = l.length := ⟨_, rfl⟩
    rw [← hN] at hn hpos ⊢
    have HNN := Lib.hid hN
    clear h hc hN
    go_enter Tryz.func168, Tryz.ntmps168
    go_wp2
    go_loopw [3, 4, 5] (fun s i _ wr => ∃ (j : Nat), j ≤ N ∧ i = .int .i64 j ∧ s = .int .i64 (seenN l j : Nat) ∧ hdN l j = true ∧ Below w.heap.size w wr) (fun _ i _ _ => N - (intOf i).toNat)
    case atStart => exact ⟨0, Nat.zero_le _, rfl, rfl, rfl, Below.refl _ _⟩
    case round =>
      obtain ⟨j, hj, rfl, rfl, hd, hb⟩ := hrel
      by_cases hlt' : j < N
      · obtain ⟨c0, c1, c2, c3, c4⟩ := HC.out j (by rw [← HNN.out]; exact hlt')
        obtain ⟨e, he⟩ : ∃ e, e = hdD l j := ⟨_, rfl⟩
        have hsl := seenN_lt hd
        have hbad : (okOne e && !(seenN l j).testBit e.h.toNat) = false → r = false := fun h0 => by rw [HR.out, okHd, ← HNN.out]; exact hdN_no (by rw [← he]; exact h0) _ hlt'
        have hnx : (okOne e && !(seenN l j).testBit e.h.toNat) = true → hdN l (j + 1) = true := fun h0 => by rw [hdN, hd, ← he, h0]; rfl
        have hsn : seenN l (j + 1) = seenN l j ||| 2 ^ e.h.toNat := by rw [seenN, ← he]
        rw [← he] at c0 c1 c2 c3 c4
        obtain ⟨S, hS⟩ : ∃ S, S = seenN l j := ⟨_, rfl⟩
        rw [← hS] at hsl hbad hnx hsn ⊢
        obtain ⟨k0, ka, ca, ma, na⟩ := e
        simp only at c0 c1 c2 c3 c4 hbad hnx hsn
        have f0 := (hb.cell (p := ⟨b, off + j * 5, none⟩) hlt).trans c0
        have f1 := (hb.cell (p := ⟨b, off + j * 5 + 1, none⟩) hlt).trans c1
        have f2 := (hb.cell (p := ⟨b, off + j * 5 + 2, none⟩) hlt).trans c2
        have f3 := (hb.cell (p := ⟨b, off + j * 5 + 3, none⟩) hlt).trans c3
        have f4 := (hb.cell (p := ⟨b, off + j * 5 + 4, none⟩) hlt).trans c4
        obtain ⟨V, hV⟩ : ∃ V, V = inB k0 0 31 := ⟨_, rfl⟩
        obtain ⟨vo, hvo⟩ : ∃ vo, vo = okAc ka ca ma na := ⟨_, rfl⟩
        obtain ⟨vt, hvt⟩ : ∃ vt, vt = holdAc ka ca ma na := ⟨_, rfl⟩
        have hone : okOne ⟨k0, ka, ca, ma, na⟩ = (V && (vo && (!decide (ka = 1) && !vt))) := by rw [hV, hvo, hvt]; rfl
        rw [hone] at hbad hnx
        have HBad := Lib.hid hbad
        have HNX := Lib.hid hnx
        have HSN := Lib.hid hsn
        have HSL := Lib.hid hsl
        have HVO := Lib.hid hvo
        have HVT := Lib.hid hvt
        have HV := Lib.hid hV
        have HB := Lib.hid hb
        clear c0 c1 c2 c3 c4 hbad hnx hsn hsl hvo hvt hV hone hb he hS hd
        go_upto_region 6 with (fail)
        obtain ⟨U, hU⟩ : ∃ U, U = wr.alloc (.cells #[.int .i64 ka, .int .i64 ca, .int .i64 ma, .int .i64 na] 41) := ⟨_, rfl⟩
        obtain ⟨g, hg⟩ : ∃ g, g = wr.heap.size := ⟨_, rfl⟩
        have hbx : Bxd U g [.int .i64 ka, .int .i64 ca, .int .i64 ma, .int .i64 na] := by rw [hU, hg]; exact Bxd.new _ _ _
        have hu : Below wr.heap.size wr U := by rw [hU]; exact (Below.refl _ _).alloc (Nat.le_refl _) _
        have hgs : g < U.heap.size := by rw [hU, hg]; simp
        have hbl : b < wr.heap.size := Nat.lt_of_lt_of_le hlt HB.out.size
        have r0 := (hu.cell (p := ⟨b, off + j * 5, none⟩) hbl).trans f0
        rw [← hU, ← hg]
        have HXU := Lib.hid hbx
        have HBU := Lib.hid (HB.out.trans (hu.mono HB.out.size))
        have HGS := Lib.hid hgs
        clear hU hg hbx hu hgs f0 f1 f2 f3 f4
        have a0 := HXU.out.at 0 _ rfl
        have a1 := HXU.out.at 1 _ rfl
        have a2 := HXU.out.at 2 _ rfl
        have a3 := HXU.out.at 3 _ rfl
        go_wp2_with fail
        refine (inB_any k0 0 31 _).mono ?_
        rw [← HV.out]
        rintro e w2 ⟨rfl, rfl⟩
        cases V
        · obtain rfl : r = false := HBad.out rfl
          go_wp2
          go_ret
          exact ⟨rfl, HBU.out⟩
        · have hk : 0 ≤ k0 ∧ k0 ≤ 31 := of_decide_eq_true HV.out.symm
          obtain ⟨K, rfl⟩ : ∃ K : Nat, k0 = K := ⟨k0.toNat, by omega⟩
          have hK : K ≤ 31 := by omega
          have hK0 : ¬ (K : Int) < 0 := by omega
          have hbit := bit_one S K HSL.out
          obtain ⟨B, hB⟩ : ∃ B, B = S.testBit K := ⟨_, rfl⟩
          have HBB := Lib.hid hB
          rw [← hB] at hbit
          clear hB hk
          cases B
          · replace hbit : bits .and .i64 ((S : Int) / 2 ^ K) 1 = 0 := hbit
            go_wp2_with fail
            refine (specIsAction_q ka ca ma na vo HVO.out _).mono ?_
            rintro e w2 ⟨rfl, hb2⟩
            have HB2 := Lib.hid (HBU.out.trans (hb2.mono HBU.out.size))
            have HX2 := Lib.hid (HXU.out.below hb2 HGS.out)
            have HG2 := Lib.hid (Nat.lt_of_lt_of_le HGS.out hb2.size)
            have hbU : b < U.heap.size := Nat.lt_of_lt_of_le hlt HBU.out.size
            have r2 := (hb2.cell (p := ⟨b, off + j * 5, none⟩) hbU).trans r0
            clear hb2 a0 a1 a2 a3 r0
            have a0 := HX2.out.at 0 _ rfl
            have a1 := HX2.out.at 1 _ rfl
            have a2 := HX2.out.at 2 _ rfl
            have a3 := HX2.out.at 3 _ rfl
            cases vo
            · obtain rfl : r = false := HBad.out (by simp)
              go_wp2
              go_ret
              exact ⟨rfl, HB2.out⟩
            · by_cases h1 : ka = 1
              · obtain rfl : r = false := HBad.out (by simp [h1])
                go_wp2
                go_ret
                exact ⟨rfl, HB2.out⟩
              · go_wp2_with fail
                refine (specIsTapHold_q ka ca ma na vt HVT.out _).mono ?_
                rintro e w3 ⟨rfl, hb3⟩
                have HB3 := Lib.hid (HB2.out.trans (hb3.mono HB2.out.size))
                have hb2' : b < w2.heap.size := Nat.lt_of_lt_of_le hlt HB2.out.size
                have r3 := (hb3.cell (p := ⟨b, off + j * 5, none⟩) hb2').trans r2
                clear hb3 a0 a1 a2 a3 r2
                cases vt
                · have hq : hdN l (j + 1) = true := HNX.out (by rw [Int.toNat_natCast, ← HBB.out]; simp [h1])
                  have hp31 : 2 ^ K ≤ 2 ^ 31 := Nat.pow_le_pow_right (by omega) hK
                  have hor := or_nat S (2 ^ K) (by have := HSL.out; omega) (by omega)
                  have hsn := HSN.out
                  rw [Int.toNat_natCast] at hsn
                  have hpe : ((2 ^ K : Nat) : Int) = (2 : Int) ^ K := by rw [Int.natCast_pow]; rfl
                  have hsh : wrap64 ((2 : Int) ^ K) = 2 ^ K := (wrap64_pow62 (by omega)).trans hpe
                  rw [hpe] at hor
                  have HOR := Lib.hid hor
                  have HQ := Lib.hid hq
                  have HSN2 := Lib.hid hsn
                  clear hq hsn hpe hor
                  go_wp2
                  go_roundw
                  case rel => exact ⟨j + 1, by omega, by go_num, by rw [HSN2.out, ← HOR.out], HQ.out, HB3.out⟩
                  case measure => simp [intOf]; omega
                · obtain rfl : r = false := HBad.out (by simp)
                  go_wp2
                  go_ret
                  exact ⟨rfl, HB3.out⟩
          · replace hbit : bits .and .i64 ((S : Int) / 2 ^ K) 1 = 1 := hbit
            obtain rfl : r = false := HBad.out (by rw [Int.toNat_natCast, ← HBB.out]; simp)
            go_wp2
            go_ret
            exact ⟨rfl, HBU.out⟩
      · obtain rfl : j = N := by omega
        have hrt : r = true := by rw [HR.out, okHd, ← HNN.out]; exact hd
        subst hrt
        go_wp2
        go_ret
        exact ⟨rfl, hb⟩
end Go.Proofs.YtjfckchoklepbaaGreat

namespace Go.Proofs.YtjfckchoklepbaaGreat
open Go.RowKit

theorem specIsHeld_q (v : Value) (l : List Hd) (o : Bool) (ho : o = okHd l) (w : World) (hn : l.length ≤ maxLen) (h : RdN w v l.length (flatHd l)) :
    Calls Tryz.prog 168 #[v] w fun e w' => e = .returned (.bool o) ∧ Below w.heap.size w w' := by
  rw [ho]; exact specIsHeld_any v l w hn h

set_option maxRecDepth 100000 in
set_option maxHeartbeats 4000000 in
theorem specLayersOn_any (fixed : Int) (v : Value) (l : List Hd) (w : World) (hn : l.length ≤ maxLen) (h : RdN w v l.length (flatHd l)) :
    Calls Tryz.prog 102 #[.int .i64 fixed, v] w fun e w' => e = .returned (.int .i64 (onV fixed l : Nat)) ∧ Below w.heap.size w w' := by
  obtain ⟨R, hR⟩ : ∃ R, R = okHd l := ⟨_, rfl⟩
  obtain ⟨s, hs⟩ : ∃ s, s = onStart fixed := ⟨_, rfl⟩
  obtain ⟨r, hr⟩ : ∃ r, r = onV fixed l := ⟨_, rfl⟩
  have hr2 : r = if R = true then onN l s l.length else s := by rw [hr, onV, ← hR, ← hs]
  rw [← hr]
  have hs4 : s < 2 ^ 4 := by rw [hs]; exact onStart_lt fixed
  obtain ⟨V, hV⟩ : ∃ V, V = inB fixed 0 15 := ⟨_, rfl⟩
  have hsv : s = if V = true then 1 ||| fixed.toNat else 1 := by rw [hs, onStart, ← hV]
  have HR := Lib.hid hR
  have HRR := Lib.hid hr2
  have HS4 := Lib.hid hs4
  have HV := Lib.hid hV
  have HSV := Lib.hid hsv
  have H := Lib.hid h
  have HN := Lib.hid hn
  clear hR hs hr hr2 hs4 hV hsv
  have go : ∀ (on : Value), on = .int .i64 (s : Nat) → True := fun _ _ => trivial
  clear go
  rcases rd_hds h with ⟨rfl, a, cap, rfl⟩ | ⟨b, off, cap, hpos, rfl, hlt, hc⟩
  · obtain rfl : R = true := HR.out
    obtain rfl : r = s := HRR.out
    clear h
    go_enter Tryz.func102, Tryz.ntmps102
    go_wp2_with fail
    refine (inB_any fixed 0 15 _).mono ?_
    rw [← HV.out]
    rintro e w2 ⟨rfl, rfl⟩
    cases V
    · have e1 : r = 1 := HSV.out
      subst e1
      go_wp2
      refine wp_loop_rounds 1 ?_
      rw [rounds_succ]
      go_wp2
      go_ret
      exact ⟨rfl, Below.refl _ _⟩
    · have hk : 0 ≤ fixed ∧ fixed ≤ 15 := of_decide_eq_true HV.out.symm
      obtain ⟨F, rfl⟩ : ∃ F : Nat, fixed = F := ⟨fixed.toNat, by omega⟩
      have e1 : r = 1 ||| F := by have e := HSV.out; rwa [if_pos rfl, Int.toNat_natCast] at e
      have hor : bits .or .i64 1 (F : Int) = ((1 ||| F : Nat) : Int) := or_nat 1 F (by omega) (by omega)
      rw [← e1] at hor
      have HOR := Lib.hid hor
      go_wp2
      refine wp_loop_rounds 1 ?_
      rw [rounds_succ]
      go_wp2
      go_ret
      exact ⟨ret_int (by first | exact HOR.out | rfl | rw [e1]), Below.refl _ _⟩
  · have HC := Lib.hid hc
    obtain ⟨N, hN⟩ : ∃ N, N = l.length := ⟨_, rfl⟩
    have HNN := Lib.hid hN
    have hnr : N ≤ maxLen := by rw [hN]; exact hn
    unfold maxLen at hnr
    rw [← hN] at hpos H ⊢
    have HP := Lib.hid hpos
    clear h hc hN hn hpos
    go_enter Tryz.func102, Tryz.ntmps102
    go_upto_region 2 with (fail)
    go_upto_if 8 with (go_at_call 98; refine (inB_any fixed 0 15 _).mono ?_; rw [← HV.out]; rintro e w2 ⟨rfl, rfl⟩)
    go_cut [5] (fun o wx => o = .int .i64 (s : Nat) ∧ w = wx)
    case first =>
      cases V
      · have e1 : s = 1 := HSV.out
        subst e1
        go_wp2
        go_meet
        exact ⟨rfl, rfl⟩
      · have hk : 0 ≤ fixed ∧ fixed ≤ 15 := of_decide_eq_true HV.out.symm
        obtain ⟨F, rfl⟩ : ∃ F : Nat, fixed = F := ⟨fixed.toNat, by omega⟩
        have e1 : s = 1 ||| F := by have e := HSV.out; rwa [if_pos rfl, Int.toNat_natCast] at e
        have hor : bits .or .i64 1 (F : Int) = ((1 ||| F : Nat) : Int) := or_nat 1 F (by omega) (by omega)
        rw [← e1] at hor
        have HOR := Lib.hid hor
        clear hor
        go_wp2
        go_meet
        exact ⟨by first | rw [HOR.out] | rw [e1] | rfl, rfl⟩
    case rest =>
      obtain ⟨rfl, hw⟩ := hcut
      subst hw
      go_wp2
      go_loopw [5, 6] (fun o i wr => ∃ (j : Nat), j ≤ N ∧ i = .int .i64 j ∧ o = .int .i64 (onN l s j : Nat) ∧ (R = true ∨ j = 0) ∧ Below w.heap.size w wr) (fun _ i _ => N - (intOf i).toNat)
      case atStart => exact ⟨0, Nat.zero_le _, rfl, rfl, .inr rfl, Below.refl _ _⟩
      case round =>
        obtain ⟨j, hj, rfl, rfl, hR, hb⟩ := hrel
        by_cases hlt' : j < N
        · obtain ⟨c0, c1, c2, c3, c4⟩ := HC.out j (by rw [← HNN.out]; exact hlt')
          have HB := Lib.hid hb
          clear hb
          go_wp2_with fail
          refine (specIsHeld_q _ l R HR.out _ (by rw [← HNN.out]; exact hnr) (by rw [← HNN.out]; exact H.out.below HB.out)).mono ?_
          rintro e w2 ⟨rfl, hb2⟩
          have HB2 := Lib.hid (HB.out.trans (hb2.mono HB.out.size))
          have f1 := (HB2.out.cell (p := ⟨b, off + j * 5 + 1, none⟩) hlt).trans c1
          have f4 := (HB2.out.cell (p := ⟨b, off + j * 5 + 4, none⟩) hlt).trans c4
          clear hb2 c0 c1 c2 c3 c4
          cases R
          · obtain rfl : j = 0 := by
              rcases hR with h0 | h0
              · exact absurd h0 (by decide)
              · exact h0
            have hrs : r = s := HRR.out
            subst hrs
            go_wp2
            go_ret
            exact ⟨rfl, HB2.out⟩
          · have hjl : j < l.length := by rw [← HNN.out]; exact hlt'
            have hlo := onN_lt HS4.out HR.out.symm j (by omega)
            have hmom := mom_at HR.out.symm hjl
            have hnx : onN l s (j + 1) = if (hdD l j).k = 3 then onN l s j ||| 2 ^ (hdD l j).n.toNat else onN l s j := rfl
            obtain ⟨q, hq⟩ : ∃ q, q = onN l s j := ⟨_, rfl⟩
            rw [← hq] at hlo hnx ⊢
            obtain ⟨kk, hkk⟩ : ∃ x, x = (hdD l j).k := ⟨_, rfl⟩
            obtain ⟨nn, hnn⟩ : ∃ x, x = (hdD l j).n := ⟨_, rfl⟩
            rw [← hkk] at f1 hmom hnx
            rw [← hnn] at f4 hmom hnx
            have HNX := Lib.hid hnx
            have HLO := Lib.hid hlo
            have HMOM := Lib.hid hmom
            clear hnx hlo hmom hkk hnn hq hR
            by_cases hk : kk = 3
            · obtain ⟨m1, m2⟩ := HMOM.out hk
              obtain ⟨M, rfl⟩ : ∃ M : Nat, nn = M := ⟨nn.toNat, by omega⟩
              have hnx := HNX.out
              rw [if_pos hk, Int.toNat_natCast] at hnx
              have hp8 : 2 ^ M ≤ 2 ^ 3 := Nat.pow_le_pow_right (by omega) (by omega)
              have hor := or_nat q (2 ^ M) (by have := HLO.out; omega) (by omega)
              have hpe : ((2 ^ M : Nat) : Int) = (2 : Int) ^ M := by rw [Int.natCast_pow]; rfl
              have hsh : wrap64 ((2 : Int) ^ M) = 2 ^ M := (wrap64_pow62 (by omega)).trans hpe
              rw [hpe] at hor
              have HOR := Lib.hid hor
              have HQ := Lib.hid hnx
              clear hor hnx hpe
              subst hk
              go_wp2
              go_roundw
              case rel => exact ⟨j + 1, by omega, by go_num, by rw [HQ.out, ← HOR.out], .inl (by first | rfl | trivial), HB2.out⟩
              case measure => simp [intOf]; omega
            · have hnx := HNX.out
              rw [if_neg hk] at hnx
              have HQ := Lib.hid hnx
              clear hnx
              go_wp2
              go_roundw
              case rel => exact ⟨j + 1, by omega, by go_num, by rw [HQ.out], .inl (by first | rfl | trivial), HB2.out⟩
              case measure => simp [intOf]; omega
        · obtain rfl : j = N := by omega
          have hrt : r = onN l s j := by
            rw [HRR.out]
            rcases hR with rfl | rfl
            · rw [if_pos rfl, HNN.out]
            · exact absurd HP.out (by omega)
          subst hrt
          go_wp2
          go_ret
          exact ⟨rfl, hb⟩

end Go.Proofs.YtjfckchoklepbaaGreat
