/- DERIVED. The program's canBeHeld, IsHeld and LayersOn: each returns what a plain function says. -/
import Derived.Test.YtghijkpcmamebaaHdDef
import Derived.Test.YtghijkpcmamebaaAcImpl
import Derived.Test.YtghijkpcmamebaaDebImpl
import Derived.Test.YtghijkpcmamebaaKm
import Derived.Deep.DeepCutAuto
namespace Go.Proofs.Ytghijkpcmamebaa
open Go.RowKit

/-- What a walk knows of one held key. -/
theorem hd_at7 {w : World} {ua : Option Addr} {m uc : Nat} {l : List Hd} (h : RdN w (.slice ua m uc) l.length (flatHd l)) {k : Nat} (hk : k < l.length) : ∃ b off, ua = some ⟨b, off, none⟩ ∧ b < w.heap.size ∧
    w.cell? ⟨b, off + k * 5, none⟩ = some (.int .i64 (hdD l k).h) ∧ w.cell? ⟨b, off + k * 5 + 1, none⟩ = some (.int .i64 (hdD l k).k) ∧ w.cell? ⟨b, off + k * 5 + 2, none⟩ = some (.int .i64 (hdD l k).c) ∧ w.cell? ⟨b, off + k * 5 + 3, none⟩ = some (.int .i64 (hdD l k).m) ∧ w.cell? ⟨b, off + k * 5 + 4, none⟩ = some (.int .i64 (hdD l k).n) := by
  rcases rd_hds (l := l) h with ⟨rfl, _⟩ | ⟨b, off, cap, _, hs, hlt, hc⟩
  · simp at hk
  · obtain ⟨rfl, rfl, rfl⟩ := by simpa using hs
    exact ⟨b, off, rfl, hlt, hc k hk⟩

set_option maxRecDepth 100000 in
theorem canBeHeld_q (k c m n : Int) (o : Bool) (ho : o = (okAc k c m n && (!decide (k = 1) && !holdAc k c m n))) (w : World) : Calls Try.prog 46 #[acv k c m n] w fun e w' => e = .returned (.bool o) ∧ Below w.heap.size w w' := by
  obtain ⟨vo, hvo⟩ : ∃ vo, vo = okAc k c m n := ⟨_, rfl⟩
  obtain ⟨vt, hvt⟩ : ∃ vt, vt = holdAc k c m n := ⟨_, rfl⟩
  rw [← hvo, ← hvt] at ho
  have HA := Lib.hid ho
  have HVO := Lib.hid hvo
  have HVT := Lib.hid hvt
  clear ho hvo hvt
  obtain ⟨W, hW⟩ : ∃ W, W = w.alloc (.cells #[.int .i64 k, .int .i64 c, .int .i64 m, .int .i64 n] 31) := ⟨_, rfl⟩
  have HX0 := Lib.hid (show Bxd W w.heap.size [.int .i64 k, .int .i64 c, .int .i64 m, .int .i64 n] by rw [hW]; exact Bxd.new _ _ _)
  have HB0 := Lib.hid (show Below w.heap.size w W by rw [hW]; exact (Below.refl _ _).alloc (Nat.le_refl _) _)
  have HS0 := Lib.hid (show w.heap.size < W.heap.size by rw [hW]; simp)
  have HW := Lib.hid hW
  clear hW
  go_enter Try.func46, Try.ntmps46
  go_wp2_with fail
  rw [← HW.out]
  have c0 := HX0.out.at 0 _ rfl
  have c1 := HX0.out.at 1 _ rfl
  have c2 := HX0.out.at 2 _ rfl
  have c3 := HX0.out.at 3 _ rfl
  refine (implIsAction_q k c m n vo HVO.out _).mono ?_
  rintro e w1 ⟨rfl, hb⟩
  have HB1 := Lib.hid (HB0.out.trans (hb.mono HB0.out.size))
  have HX1 := Lib.hid (HX0.out.below hb HS0.out)
  clear hb c0 c1 c2 c3
  have c0 := HX1.out.at 0 _ rfl
  have c1 := HX1.out.at 1 _ rfl
  have c2 := HX1.out.at 2 _ rfl
  have c3 := HX1.out.at 3 _ rfl
  cases vo
  · obtain rfl : o = false := HA.out
    go_wp2
    go_ret
    exact ⟨rfl, HB1.out⟩
  · by_cases h1 : k = 1
    · obtain rfl : o = false := by rw [HA.out]; simp [h1]
      go_wp2
      go_ret
      exact ⟨rfl, HB1.out⟩
    · have HK := Lib.hid (show o = !vt by rw [HA.out]; simp [h1])
      go_wp2_with fail
      refine (implIsTapHold_q k c m n vt HVT.out _).mono ?_
      rintro e w2 ⟨rfl, hb⟩
      have HB2 := Lib.hid (HB1.out.trans (hb.mono HB1.out.size))
      clear hb c0 c1 c2 c3
      go_wp2
      go_ret
      exact ⟨ret_bool (by rw [HK.out]; simp [h1]), HB2.out⟩

theorem isMask4_any (x : Int) (v : Bool) (hv : v = inB x 0 15) (w : World) : Calls Try.prog 48 #[.int .i64 4, .int .i64 x] w fun e w' => e = .returned (.bool v) ∧ w = w' := by
  rw [hv]; exact isMaskOf_any 4 x w (by omega)
theorem hasKey_t (S K : Nat) (o : Bool) (ho : o = S.testBit K) (w : World) (hS : S < 2 ^ 62) (hK : K < 62) : Calls Try.prog 45 #[.int .i64 S, .int .i64 K] w fun e w' => e = .returned (.bool o) ∧ w = w' := by
  rw [ho, ← hz_nat S K hS]; exact hasKey_any S K w hK

set_option maxRecDepth 100000 in
set_option maxHeartbeats 4000000 in
theorem implIsHeld_any (v : Value) (l : List Hd) (w : World) (hn : l.length ≤ maxLen) (h : RdN w v l.length (flatHd l)) :
    Calls Try.prog 15 #[v] w fun e w' => e = .returned (.bool (okHd l)) ∧ Below w.heap.size w w' := by
  obtain ⟨r, hr⟩ : ∃ r, r = okHd l := ⟨_, rfl⟩
  rw [← hr]
  have HR := Lib.hid hr
  clear hr
  unfold maxLen at hn
  rcases rd_hds h with ⟨rfl, a, cap, rfl⟩ | ⟨b, off, cap, hpos, rfl, hlt, hc⟩
  · obtain rfl : r = true := HR.out
    clear h
    go_enter Try.func15, Try.ntmps15
    go_wp2
    refine wp_loop_rounds 1 ?_
    rw [rounds_succ]
    go_wp2
    go_ret
    exact ⟨rfl, Below.refl _ _⟩
  · have HC := Lib.hid hc
    obtain ⟨N, hN⟩ : ∃ N, N = l.length := ⟨_, rfl⟩
    rw [← hN] at hn hpos ⊢
    have HNN := Lib.hid hN
    clear h hc hN
    go_enter Try.func15, Try.ntmps15
    go_wp2
    go_loopw [3, 5, 8] (fun s _ i wr => ∃ (j : Nat), j ≤ N ∧ i = .int .i64 j ∧ s = .int .i64 (seenN l j : Nat) ∧ hdN l j = true ∧ Below w.heap.size w wr) (fun _ _ i _ => N - (intOf i).toNat)
    case atStart => exact ⟨0, Nat.zero_le _, rfl, rfl, rfl, Below.refl _ _⟩
    case round =>
      obtain ⟨j, hj, rfl, rfl, hd, hb⟩ := hrel
      by_cases hlt' : j < N
      · obtain ⟨c0, c1, c2, c3, c4⟩ := HC.out j (by rw [← HNN.out]; exact hlt')
        obtain ⟨e, he⟩ : ∃ e, e = hdD l j := ⟨_, rfl⟩
        have hsl := seenN_lt hd
        have hbad : (okOne e && !(seenN l j).testBit e.h.toNat) = false → r = false := fun h0 => by rw [HR.out, okHd, ← HNN.out]; exact hdN_no (by rw [← he]; exact h0) _ hlt'
        have hnx : (okOne e && !(seenN l j).testBit e.h.toNat) = true → hdN l (j + 1) = true := fun h0 => by rw [hdN, hd, ← he, h0]; rfl
        have hsn : seenN l (j + 1) = seenN l j ||| 2 ^ e.h.toNat := by rw [seenN, ← he]
        rw [← he] at c0 c1 c2 c3 c4
        obtain ⟨S, hS⟩ : ∃ S, S = seenN l j := ⟨_, rfl⟩
        rw [← hS] at hsl hbad hnx hsn ⊢
        obtain ⟨k0, ka, ca, ma, na⟩ := e
        simp only at c0 c1 c2 c3 c4 hbad hnx hsn
        have f0 := (hb.cell (p := ⟨b, off + j * 5, none⟩) hlt).trans c0
        have f1 := (hb.cell (p := ⟨b, off + j * 5 + 1, none⟩) hlt).trans c1
        have f2 := (hb.cell (p := ⟨b, off + j * 5 + 2, none⟩) hlt).trans c2
        have f3 := (hb.cell (p := ⟨b, off + j * 5 + 3, none⟩) hlt).trans c3
        have f4 := (hb.cell (p := ⟨b, off + j * 5 + 4, none⟩) hlt).trans c4
        obtain ⟨V, hV⟩ : ∃ V, V = inB k0 0 31 := ⟨_, rfl⟩
        obtain ⟨vc, hvc⟩ : ∃ vc, vc = (okAc ka ca ma na && (!decide (ka = 1) && !holdAc ka ca ma na)) := ⟨_, rfl⟩
        have hone : okOne ⟨k0, ka, ca, ma, na⟩ = (V && vc) := by rw [hV, hvc]; rfl
        rw [hone] at hbad hnx
        have HBad := Lib.hid hbad
        have HNX := Lib.hid hnx
        have HSN := Lib.hid hsn
        have HSL := Lib.hid hsl
        have HVC := Lib.hid hvc
        have HV := Lib.hid hV
        have HB := Lib.hid hb
        clear c0 c1 c2 c3 c4 hbad hnx hsn hsl hvc hV hone hb he hS hd
        go_upto_region 5 with (fail)
        obtain ⟨U, hU⟩ : ∃ U, U = wr.alloc (.cells #[.int .i64 k0, .int .i64 ka, .int .i64 ca, .int .i64 ma, .int .i64 na] 33) := ⟨_, rfl⟩
        obtain ⟨g, hg⟩ : ∃ g, g = wr.heap.size := ⟨_, rfl⟩
        have hbx : Bxd U g [.int .i64 k0, .int .i64 ka, .int .i64 ca, .int .i64 ma, .int .i64 na] := by rw [hU, hg]; exact Bxd.new _ _ _
        have hu : Below wr.heap.size wr U := by rw [hU]; exact (Below.refl _ _).alloc (Nat.le_refl _) _
        have hgs : g < U.heap.size := by rw [hU, hg]; simp
        rw [← hU, ← hg]
        have HXU := Lib.hid hbx
        have HGS := Lib.hid hgs
        have HBU := Lib.hid (HB.out.trans (hu.mono HB.out.size))
        clear hU hg hbx hu hgs f0 f1 f2 f3 f4
        have a0 := HXU.out.at 0 _ rfl
        have a1 := HXU.out.at 1 _ rfl
        have a2 := HXU.out.at 2 _ rfl
        have a3 := HXU.out.at 3 _ rfl
        have a4 := HXU.out.at 4 _ rfl
        go_wp2_with fail
        refine (isBetween_any k0 0 31 _).mono ?_
        rw [← HV.out]
        rintro e w2 ⟨rfl, rfl⟩
        cases V
        · obtain rfl : r = false := HBad.out rfl
          go_wp2
          go_ret
          exact ⟨rfl, HBU.out⟩
        · have hk : 0 ≤ k0 ∧ k0 ≤ 31 := of_decide_eq_true HV.out.symm
          obtain ⟨K, rfl⟩ : ∃ K : Nat, k0 = K := ⟨k0.toNat, by omega⟩
          have hK : K ≤ 31 := by omega
          have hK0 : ¬ (K : Int) < 0 := by omega
          obtain ⟨B, hB⟩ : ∃ B, B = S.testBit K := ⟨_, rfl⟩
          have HBB := Lib.hid hB
          have HS62 := Lib.hid (show S < 2 ^ 62 by have := HSL.out; omega)
          clear hB hk
          go_wp2_with fail
          refine (hasKey_t S K B HBB.out _ HS62.out (by omega)).mono ?_
          rintro e w2 ⟨rfl, rfl⟩
          cases B
          · go_wp2_with fail
            refine (canBeHeld_q ka ca ma na vc HVC.out _).mono ?_
            rintro e w2 ⟨rfl, hb2⟩
            have HB2 := Lib.hid (HBU.out.trans (hb2.mono HBU.out.size))
            have HX2 := Lib.hid (HXU.out.below hb2 HGS.out)
            clear hb2 a0 a1 a2 a3 a4
            have a0 := HX2.out.at 0 _ rfl
            cases vc
            · obtain rfl : r = false := HBad.out rfl
              go_wp2
              go_ret
              exact ⟨rfl, HB2.out⟩
            · have hq : hdN l (j + 1) = true := HNX.out (by rw [Int.toNat_natCast, ← HBB.out]; rfl)
              have hp31 : 2 ^ K ≤ 2 ^ 31 := Nat.pow_le_pow_right (by omega) hK
              have hor := or_nat S (2 ^ K) (by have := HSL.out; omega) (by omega)
              have hsn := HSN.out
              rw [Int.toNat_natCast] at hsn
              have hpe : ((2 ^ K : Nat) : Int) = (2 : Int) ^ K := by rw [Int.natCast_pow]; rfl
              have hsh : wrap64 ((2 : Int) ^ K) = 2 ^ K := (wrap64_pow62 (by omega)).trans hpe
              rw [hpe] at hor
              have HOR := Lib.hid hor
              have HQ := Lib.hid hq
              have HSN2 := Lib.hid hsn
              clear hq hsn hpe hor
              go_wp2
              go_roundw
              case rel => exact ⟨j + 1, by omega, by go_num, by rw [HSN2.out, ← HOR.out], HQ.out, HB2.out⟩
              case measure => simp [intOf]; omega
          · obtain rfl : r = false := HBad.out (by rw [Int.toNat_natCast, ← HBB.out]; simp)
            go_wp2
            go_ret
            exact ⟨rfl, HBU.out⟩
      · obtain rfl : j = N := by omega
        have hrt : r = true := by rw [HR.out, okHd, ← HNN.out]; exact hd
        subst hrt
        go_wp2
        go_ret
        exact ⟨rfl, hb⟩
theorem implIsHeld_q (v : Value) (l : List Hd) (o : Bool) (ho : o = okHd l) (w : World) (hn : l.length ≤ maxLen) (h : RdN w v l.length (flatHd l)) :
    Calls Try.prog 15 #[v] w fun e w' => e = .returned (.bool o) ∧ Below w.heap.size w w' := by
  rw [ho]; exact implIsHeld_any v l w hn h

set_option maxRecDepth 100000 in
set_option maxHeartbeats 4000000 in
theorem implLayersOn_any (fixed : Int) (v : Value) (l : List Hd) (w : World) (hn : l.length ≤ maxLen) (h : RdN w v l.length (flatHd l)) :
    Calls Try.prog 18 #[.int .i64 fixed, v] w fun e w' => e = .returned (.int .i64 (onV fixed l : Nat)) ∧ Below w.heap.size w w' := by
  obtain ⟨R, hR⟩ : ∃ R, R = okHd l := ⟨_, rfl⟩
  obtain ⟨s, hs⟩ : ∃ s, s = onStart fixed := ⟨_, rfl⟩
  obtain ⟨r, hr⟩ : ∃ r, r = onV fixed l := ⟨_, rfl⟩
  have hr2 : r = if R = true then onN l s l.length else s := by rw [hr, onV, ← hR, ← hs]
  rw [← hr]
  have hs4 : s < 2 ^ 4 := by rw [hs]; exact onStart_lt fixed
  obtain ⟨V, hV⟩ : ∃ V, V = inB fixed 0 15 := ⟨_, rfl⟩
  have hsv : s = if V = true then 1 ||| fixed.toNat else 1 := by rw [hs, onStart, ← hV]
  have HR := Lib.hid hR
  have HRR := Lib.hid hr2
  have HS4 := Lib.hid hs4
  have HV := Lib.hid hV
  have HSV := Lib.hid hsv
  clear hR hs hr hr2 hs4 hV hsv
  obtain ⟨xa, xc, rfl⟩ := RdN.shape h
  obtain ⟨N, hN⟩ : ∃ N, N = l.length := ⟨_, rfl⟩
  have HNN := Lib.hid hN
  have HL := Lib.hid hn
  have hnr : N ≤ maxLen := by rw [hN]; exact hn
  unfold maxLen at hnr
  have H := Lib.hid h
  rw [← hN]
  clear h hN hn
  go_enter Try.func18, Try.ntmps18
  go_upto_region 2 with (fail)
  go_upto_if 9 with (go_at_call 48; refine (isMask4_any fixed V HV.out _).mono ?_; rintro e w2 ⟨rfl, rfl⟩)
  go_cut [5] (fun o wx => o = .int .i64 (s : Nat) ∧ w = wx)
  case first =>
    cases V
    · have e1 : s = 1 := HSV.out
      subst e1
      go_wp2
      go_meet
      exact ⟨rfl, rfl⟩
    · have hk : 0 ≤ fixed ∧ fixed ≤ 15 := of_decide_eq_true HV.out.symm
      obtain ⟨F, rfl⟩ : ∃ F : Nat, fixed = F := ⟨fixed.toNat, by omega⟩
      have e1 : s = 1 ||| F := by have e := HSV.out; rwa [if_pos rfl, Int.toNat_natCast] at e
      have hor : bits .or .i64 1 (F : Int) = ((1 ||| F : Nat) : Int) := or_nat 1 F (by omega) (by omega)
      rw [← e1] at hor
      have HOR := Lib.hid hor
      clear hor
      go_wp2
      go_meet
      exact ⟨by first | rw [HOR.out] | rw [e1] | rfl, rfl⟩
  case rest =>
    obtain ⟨rfl, hw⟩ := hcut
    subst hw
    go_wp2_with fail
    refine (implIsHeld_q _ l R HR.out _ HL.out (by rw [HNN.out]; have := H.out; rw [← HNN.out] at this ⊢; exact this)).mono ?_
    rintro e w1 ⟨rfl, hb⟩
    have HB1 := Lib.hid hb
    clear hb
    cases R
    · obtain rfl : r = s := HRR.out
      go_wp2
      go_ret
      exact ⟨rfl, HB1.out⟩
    · have HRN := Lib.hid (show r = onN l s N by rw [HRR.out, if_pos rfl, HNN.out])
      go_wp2
      go_loopw [5, 7, 19] (fun o _ i wr => ∃ (j : Nat), j ≤ N ∧ i = .int .i64 j ∧ o = .int .i64 (onN l s j : Nat) ∧ Below w.heap.size w wr) (fun _ _ i _ => N - (intOf i).toNat)
      case atStart => exact ⟨0, Nat.zero_le _, rfl, rfl, HB1.out⟩
      case round =>
        obtain ⟨j, hj, rfl, rfl, hb⟩ := hrel
        by_cases hlt' : j < N
        · obtain ⟨b, off, rfl, hlt, c0, c1, c2, c3, c4⟩ := hd_at7 H.out (k := j) (by rw [← HNN.out]; exact hlt')
          have hjl : j < l.length := by rw [← HNN.out]; exact hlt'
          have hlo := onN_lt HS4.out HR.out.symm j (by omega)
          have hmom := mom_at HR.out.symm hjl
          have hnx : onN l s (j + 1) = if (hdD l j).k = 3 then onN l s j ||| 2 ^ (hdD l j).n.toNat else onN l s j := rfl
          obtain ⟨q, hq⟩ : ∃ q, q = onN l s j := ⟨_, rfl⟩
          rw [← hq] at hlo hnx ⊢
          obtain ⟨e, he⟩ : ∃ e, e = hdD l j := ⟨_, rfl⟩
          rw [← he] at c0 c1 c2 c3 c4 hmom hnx
          obtain ⟨k0, kk, ca, ma, nn⟩ := e
          simp only at c0 c1 c2 c3 c4 hmom hnx
          have f0 := (hb.cell (p := ⟨b, off + j * 5, none⟩) hlt).trans c0
          have f1 := (hb.cell (p := ⟨b, off + j * 5 + 1, none⟩) hlt).trans c1
          have f2 := (hb.cell (p := ⟨b, off + j * 5 + 2, none⟩) hlt).trans c2
          have f3 := (hb.cell (p := ⟨b, off + j * 5 + 3, none⟩) hlt).trans c3
          have f4 := (hb.cell (p := ⟨b, off + j * 5 + 4, none⟩) hlt).trans c4
          have HB := Lib.hid hb
          have HNX := Lib.hid hnx
          have HLO := Lib.hid hlo
          have HMOM := Lib.hid hmom
          clear hnx hlo hmom hq c0 c1 c2 c3 c4 hb he hjl
          go_upto_region 9 with (fail)
          obtain ⟨U, hU⟩ : ∃ U, U = wr.alloc (.cells #[.int .i64 k0, .int .i64 kk, .int .i64 ca, .int .i64 ma, .int .i64 nn] 33) := ⟨_, rfl⟩
          obtain ⟨g, hg⟩ : ∃ g, g = wr.heap.size := ⟨_, rfl⟩
          have hbx : Bxd U g [.int .i64 k0, .int .i64 kk, .int .i64 ca, .int .i64 ma, .int .i64 nn] := by rw [hU, hg]; exact Bxd.new _ _ _
          have hu : Below wr.heap.size wr U := by rw [hU]; exact (Below.refl _ _).alloc (Nat.le_refl _) _
          rw [← hU, ← hg]
          have HXU := Lib.hid hbx
          have HBU := Lib.hid (HB.out.trans (hu.mono HB.out.size))
          clear hU hg hbx hu f0 f1 f2 f3 f4
          have a1 := HXU.out.at 1 _ rfl
          have a4 := HXU.out.at 4 _ rfl
          by_cases hk : kk = 3
          · obtain ⟨m1, m2⟩ := HMOM.out hk
            obtain ⟨M, rfl⟩ : ∃ M : Nat, nn = M := ⟨nn.toNat, by omega⟩
            have hnx := HNX.out
            rw [if_pos hk, Int.toNat_natCast] at hnx
            have hp8 : 2 ^ M ≤ 2 ^ 3 := Nat.pow_le_pow_right (by omega) (by omega)
            have hor := or_nat q (2 ^ M) (by have := HLO.out; omega) (by omega)
            have hpe : ((2 ^ M : Nat) : Int) = (2 : Int) ^ M := by rw [Int.natCast_pow]; rfl
            have hsh : wrap64 ((2 : Int) ^ M) = 2 ^ M := (wrap64_pow62 (by omega)).trans hpe
            rw [hpe] at hor
            have HOR := Lib.hid hor
            have HQ := Lib.hid hnx
            clear hor hnx hpe
            subst hk
            go_wp2
            go_roundw
            case rel => exact ⟨j + 1, by omega, by go_num, by rw [HQ.out, ← HOR.out], HBU.out⟩
            case measure => simp [intOf]; omega
          · have hnx := HNX.out
            rw [if_neg hk] at hnx
            have HQ := Lib.hid hnx
            clear hnx
            go_wp2
            go_roundw
            case rel => exact ⟨j + 1, by omega, by go_num, by rw [HQ.out], HBU.out⟩
            case measure => simp [intOf]; omega
        · obtain rfl : j = N := by omega
          obtain rfl : r = onN l s j := HRN.out
          have HB := Lib.hid hb
          clear hb
          go_wp2
          go_ret
          exact ⟨rfl, HB.out⟩

end Go.Proofs.Ytghijkpcmamebaa
