/- DERIVED. The reference's l11Switch, l11Fits, l11Out and MatchCombo: what the front of a queue is. -/
import Derived.Test.YtagmdkblcgnddaaMaDef
import Derived.Test.YtagmdkblcgnddaaCbSpec
import Derived.Test.YtagmdkblcgnddaaMpCb
import Derived.Deep.RegionHeld3
namespace Go.Proofs.Ytagmdkblcgnddaa
open Go.RowKit

set_option maxRecDepth 100000 in
theorem specSwitch_q (t k : Int) (d v : Bool) (hv : v = swOk ⟨t, k, d⟩) (w : World) : Calls Try.prog 113 #[evv t k d] w fun e w' => e = .returned (.bool v) ∧ Below w.heap.size w w' := by
  obtain ⟨a1, h1⟩ : ∃ a, a = okEv ⟨t, k, d⟩ := ⟨_, rfl⟩
  have hv2 : v = (a1 && decide (k < 24)) := by rw [hv, h1]; rfl
  have H1 := Lib.hid h1
  have HV := Lib.hid hv2
  clear h1 hv hv2
  obtain ⟨W, hW⟩ : ∃ W, W = w.alloc (.cells #[.int .i64 t, .int .i64 k, .bool d] 36) := ⟨_, rfl⟩
  have HX0 := Lib.hid (show Bxd W w.heap.size [.int .i64 t, .int .i64 k, .bool d] by rw [hW]; exact Bxd.new _ _ _)
  have HB0 := Lib.hid (show Below w.heap.size w W by rw [hW]; exact (Below.refl _ _).alloc (Nat.le_refl _) _)
  have HS0 := Lib.hid (show w.heap.size < W.heap.size by rw [hW]; simp)
  have HW := Lib.hid hW
  clear hW
  go_enter Try.func113, Try.ntmps113
  go_upto_region 1 with (fail)
  rw [← HW.out]
  have c0 := HX0.out.at 0 _ rfl
  have c1 := HX0.out.at 1 _ rfl
  have c2 := HX0.out.at 2 _ rfl
  go_wp2_with fail
  refine (specIsEvent_q t k d a1 H1.out _).mono ?_
  rintro e w1 ⟨rfl, hb⟩
  have HB1 := Lib.hid (HB0.out.trans (hb.mono HB0.out.size))
  have HX1 := Lib.hid (HX0.out.below hb HS0.out)
  clear hb c0 c1 c2
  have c1 := HX1.out.at 1 _ rfl
  cases a1
  · obtain rfl : v = false := HV.out
    go_wp2
    go_ret
    exact ⟨rfl, HB1.out⟩
  · obtain rfl : v = decide (k < 24) := HV.out.trans (Bool.true_and _)
    go_wp2
    go_ret
    exact ⟨rfl, HB1.out⟩

set_option maxRecDepth 100000 in
theorem specFits_q (v : Value) (l : List Cb) (S : Nat) (r : Bool) (hr : r = fitsV l S) (w : World) (hn : l.length ≤ maxLen) (h : RdN w v l.length (flatCb l)) :
    Calls Try.prog 114 #[v, .int .i64 (S : Int)] w fun e w' => e = .returned (.bool r) ∧ w = w' := by
  obtain ⟨a, cap, rfl⟩ := rdN_shape h
  have HR := Lib.hid hr
  have H := Lib.hid h
  clear hr h
  unfold maxLen at hn
  obtain ⟨N, hN⟩ : ∃ N, N = l.length := ⟨_, rfl⟩
  rw [← hN] at hn ⊢
  have HNN := Lib.hid hN
  clear hN
  go_enter Try.func114, Try.ntmps114
  go_wp2
  go_loop [5] (fun i => ∃ (j : Nat), j ≤ N ∧ i = .int .i64 j ∧ fitN l S j = false) (fun i => N - (intOf i).toNat)
  case atStart => exact ⟨0, Nat.zero_le _, rfl, rfl⟩
  case round =>
    obtain ⟨j, hj, rfl, hno⟩ := hrel
    by_cases hlt' : j < N
    · have hjl : j < l.length := by rw [← HNN.out]; exact hlt'
      obtain ⟨b, off, rfl, hlt, c0, -⟩ := cb_at H.out hjl
      have hup : fitC S (cbD l j) = true → r = true := fun h0 => by rw [HR.out, fitsV]; exact fitN_up h0 _ hjl
      have hnx : fitC S (cbD l j) = false → fitN l S (j + 1) = false := fun h0 => by rw [fitN, hno, h0]; rfl
      obtain ⟨k, hk⟩ : ∃ k, k = (cbD l j).k := ⟨_, rfl⟩
      obtain ⟨t, ht⟩ : ∃ t, bits .andNot .i64 (S : Int) k = t := ⟨_, rfl⟩
      have hft : fitC S (cbD l j) = (t == 0) := by rw [fitC, ← hk, ht]
      rw [← hk] at c0
      rw [hft] at hup hnx
      have HUP := Lib.hid hup
      have HNX := Lib.hid hnx
      clear hup hnx hft hno hk
      by_cases h0 : t = 0
      · have b0 : (t == 0) = true := by simp [h0]
        have HQ := Lib.hid (HUP.out b0)
        go_wp2
        go_ret
        exact ⟨ret_bool HQ.out.symm, rfl⟩
      · have b0 : (t == 0) = false := by simp [h0]
        have HQ := Lib.hid (HNX.out b0)
        go_wp2
        go_round
        case rel => exact ⟨j + 1, by omega, by go_num, HQ.out⟩
        case measure => simp [intOf]; omega
    · obtain rfl : j = N := by omega
      have HQ := Lib.hid (show r = false by rw [HR.out, fitsV, ← HNN.out, hno])
      clear hno
      go_wp2
      go_ret
      exact ⟨ret_bool HQ.out.symm, rfl⟩

set_option maxRecDepth 100000 in
theorem specOut_q (v : Value) (l : List Cb) (S : Nat) (x : Int) (m : Bool) (hr : outV l S = (x, m)) (w : World) (hn : l.length ≤ maxLen) (h : RdN w v l.length (flatCb l)) :
    Calls Try.prog 115 #[v, .int .i64 (S : Int)] w fun e w' => e = .returned (.tuple #[.int .i64 x, .bool m]) ∧ w = w' := by
  obtain ⟨a, cap, rfl⟩ := rdN_shape h
  have HR := Lib.hid hr
  have H := Lib.hid h
  clear hr h
  unfold maxLen at hn
  obtain ⟨N, hN⟩ : ∃ N, N = l.length := ⟨_, rfl⟩
  rw [← hN] at hn ⊢
  have HNN := Lib.hid hN
  clear hN
  go_enter Try.func115, Try.ntmps115
  go_wp2
  go_loop [8, 6, 7] (fun i o p => ∃ (j : Nat), j ≤ N ∧ i = .int .i64 j ∧ o = .int .i64 (outN l S j).1 ∧ p = .bool (outN l S j).2) (fun i _ _ => N - (intOf i).toNat)
  case atStart => exact ⟨0, Nat.zero_le _, rfl, rfl, rfl⟩
  case round =>
    obtain ⟨j, hj, rfl, rfl, rfl⟩ := hrel
    by_cases hlt' : j < N
    · have hjl : j < l.length := by rw [← HNN.out]; exact hlt'
      obtain ⟨b, off, rfl, hlt, c0, c1⟩ := cb_at H.out hjl
      have hnx : outN l S (j + 1) = if (S : Int) = (cbD l j).k then ((cbD l j).o, (outN l S j).2) else if fitC S (cbD l j) = true then ((outN l S j).1, true) else outN l S j := rfl
      obtain ⟨p, hp⟩ : ∃ p, p = outN l S j := ⟨_, rfl⟩
      obtain ⟨e, he⟩ : ∃ e, e = cbD l j := ⟨_, rfl⟩
      rw [← he] at c0 c1 hnx
      rw [← hp] at hnx ⊢
      obtain ⟨k, oo⟩ := e
      obtain ⟨p1, p2⟩ := p
      simp only at c0 c1 hnx
      obtain ⟨t, ht⟩ : ∃ t, bits .andNot .i64 (S : Int) k = t := ⟨_, rfl⟩
      have hft : fitC S ⟨k, oo⟩ = (t == 0) := by rw [fitC, ht]
      rw [hft] at hnx
      have HNX := Lib.hid hnx
      clear hnx hft hp he
      by_cases h1 : (S : Int) = k
      · have b1 : ((S : Int) == k) = true := by simp [h1]
        have HQ := Lib.hid (HNX.out.trans (if_pos h1))
        clear h1 ht
        go_wp2
        go_round
        case rel => exact ⟨j + 1, by omega, by go_num, by rw [HQ.out], by rw [HQ.out]⟩
        case measure => simp [intOf]; omega
      · have b1 : ((S : Int) == k) = false := by simp [h1]
        have HQ := Lib.hid (HNX.out.trans (if_neg h1))
        clear h1
        by_cases h0 : t = 0
        · have b0 : (t == 0) = true := by simp [h0]
          have HQ2 := Lib.hid (HQ.out.trans (if_pos b0))
          go_wp2
          go_round
          case rel => exact ⟨j + 1, by omega, by go_num, by rw [HQ2.out], by rw [HQ2.out]⟩
          case measure => simp [intOf]; omega
        · have b0 : (t == 0) = false := by simp [h0]
          have HQ2 := Lib.hid (HQ.out.trans (if_neg (by rw [b0]; exact Bool.false_ne_true)))
          go_wp2
          go_round
          case rel => exact ⟨j + 1, by omega, by go_num, by rw [HQ2.out], by rw [HQ2.out]⟩
          case measure => simp [intOf]; omega
    · obtain rfl : j = N := by omega
      have HQ := Lib.hid (show outN l S j = (x, m) by rw [← HR.out, outV, HNN.out])
      go_wp2
      go_ret2
      exact ⟨by rw [HQ.out]; rfl, rfl⟩


end Go.Proofs.Ytagmdkblcgnddaa
