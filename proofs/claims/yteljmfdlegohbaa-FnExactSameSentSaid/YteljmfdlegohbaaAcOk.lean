/- DERIVED. The reference's IsAction, IsTapHold, TapOf, HoldOf: each returns what a plain function says. · The program's isBetween, IsAction, IsTapHold: each returns what a plain function says. -/
import Derived.Test.YteljmfdlegohbaaAcs
import Derived.Deep.RegionHeld3
import Derived.Deep.DeepCutAuto
import Derived.Laws.StructEq
namespace Go.Proofs.Yteljmfdlegohbaa
open Go.RowKit

theorem isBetween_any (n a b : Int) (w : World) : Calls Try.prog 88 #[.int .i64 n, .int .i64 a, .int .i64 b] w fun e w' => e = .returned (.bool (inB n a b)) ∧ w = w' := by
  obtain ⟨v, hv⟩ : ∃ v, v = inB n a b := ⟨_, rfl⟩
  rw [← hv]
  unfold inB at hv
  by_cases h0 : a ≤ n
  · by_cases h1 : n ≤ b
    · rw [decide_eq_true ⟨h0, h1⟩] at hv
      subst hv
      go_enter Try.func88, Try.ntmps88
      go_wp2
      go_ret
      exact ⟨rfl, rfl⟩
    · rw [decide_eq_false (by omega)] at hv
      subst hv
      go_enter Try.func88, Try.ntmps88
      go_wp2
      go_ret
      exact ⟨rfl, rfl⟩
  · rw [decide_eq_false (by omega)] at hv
    subst hv
    go_enter Try.func88, Try.ntmps88
    go_wp2
    go_ret
    exact ⟨rfl, rfl⟩

theorem eqAc_run (k c m n k' c' m' n' : Int) (w : World) : (Go.binOp .eql 203 (acv k c m n) (acv k' c' m' n')).run Try.prog w = .ok (.bool (k == k' && (c == c' && (m == m' && n == n')))) w := by
  rw [Go.run_eql_struct]
  simp [go_sem]
  by_cases h1 : k = k' <;> by_cases h2 : c = c' <;> by_cases h3 : m = m' <;> by_cases h4 : n = n' <;> simp [*]

theorem okKey (c m n : Int) : okAc 2 c m n = (decide (n = 0) && (inB c 0 56 && (inB m 0 15 && (c + m != 0)))) := by
  unfold okAc inB
  rw [Bool.eq_iff_iff]
  simp
  omega
theorem sum_in (c m : Int) (hc : inB c 0 56 = true) (hm : inB m 0 15 = true) : IntKind.i64.wrap (c + m) = c + m := by
  have h1 := of_decide_eq_true hc
  have h2 := of_decide_eq_true hm
  exact IntWalk.i64_in _ ⟨by omega, by omega⟩

set_option maxRecDepth 100000 in
set_option maxHeartbeats 4000000 in
theorem implIsAction_any (k c m n : Int) (w : World) : Calls Try.prog 165 #[acv k c m n] w fun e w' => e = .returned (.bool (okAc k c m n)) ∧ Below w.heap.size w w' := by
  obtain ⟨r, hr⟩ : ∃ r, r = okAc k c m n := ⟨_, rfl⟩
  rw [← hr]
  have HR := Lib.hid hr
  clear hr
  obtain ⟨W, hW⟩ : ∃ W, W = w.alloc (.cells #[.int .i64 k, .int .i64 c, .int .i64 m, .int .i64 n] 203) := ⟨_, rfl⟩
  have HX0 := Lib.hid (show Bxd W w.heap.size [.int .i64 k, .int .i64 c, .int .i64 m, .int .i64 n] by rw [hW]; exact Bxd.new _ _ _)
  have HB0 := Lib.hid (show Below w.heap.size w W by rw [hW]; exact (Below.refl _ _).alloc (Nat.le_refl _) _)
  have HS0 := Lib.hid (show w.heap.size < W.heap.size by rw [hW]; simp)
  have HW := Lib.hid hW
  clear hW
  go_enter Try.func165, Try.ntmps165
  go_upto_region 1 with (fail)
  rw [← HW.out]
  have c0 := HX0.out.at 0 _ rfl
  have c1 := HX0.out.at 1 _ rfl
  have c2 := HX0.out.at 2 _ rfl
  have c3 := HX0.out.at 3 _ rfl
  have key : k = 0 ∨ k = 1 ∨ k = 10 ∨ k = 2 ∨ k = 3 ∨ k = 4 ∨ k = 5 ∨ k = 9 ∨ k = 6 ∨ k = 7 ∨ k = 8 ∨ (¬ k = 0 ∧ ¬ k = 1 ∧ ¬ k = 10 ∧ ¬ k = 2 ∧ ¬ k = 3 ∧ ¬ k = 4 ∧ ¬ k = 5 ∧ ¬ k = 9 ∧ ¬ k = 6 ∧ ¬ k = 7 ∧ ¬ k = 8) := by omega
  rcases key with rfl | rfl | rfl | rfl | rfl | rfl | rfl | rfl | rfl | rfl | rfl | ⟨k0, k1, k10, k2, k3, k4, k5, k9, k6, k7, k8⟩
  case inl | inr.inl | inr.inr.inl =>
    all_goals
      rcases Decidable.em (c = 0) with hc | hc <;> rcases Decidable.em (m = 0) with hm | hm <;> rcases Decidable.em (n = 0) with hn | hn
    all_goals
      go_wp2
      go_ret
      exact ⟨ret_bool (by rw [HR.out]; simp [okAc, *]), HB0.out⟩
  case inr.inr.inr.inl =>
    obtain ⟨C, hC⟩ : ∃ C, C = inB c 0 56 := ⟨_, rfl⟩
    obtain ⟨M, hM⟩ : ∃ M, M = inB m 0 15 := ⟨_, rfl⟩
    obtain ⟨S, hS⟩ : ∃ S, S = (c + m != 0) := ⟨_, rfl⟩
    have HC := Lib.hid hC
    have HM := Lib.hid hM
    have HK := Lib.hid (show r = (decide (n = 0) && (C && (M && S))) by rw [HR.out, okKey, hC, hM, hS])
    rcases Decidable.em (n = 0) with hn | hn
    · cases C
      · clear hC hM hS
        go_wp2_with fail
        refine (isBetween_any c 0 56 _).mono ?_
        rw [← HC.out]
        rintro e w0 ⟨rfl, rfl⟩
        go_wp2
        go_ret
        exact ⟨ret_bool (by rw [HK.out]; simp), HB0.out⟩
      · cases M
        · clear hC hM hS
          go_wp2_with fail
          refine (isBetween_any c 0 56 _).mono ?_
          rw [← HC.out]
          rintro e w0 ⟨rfl, rfl⟩
          go_wp2_with fail
          refine (isBetween_any m 0 15 _).mono ?_
          rw [← HM.out]
          rintro e w0 ⟨rfl, rfl⟩
          go_wp2
          go_ret
          exact ⟨ret_bool (by rw [HK.out]; simp), HB0.out⟩
        · have hw := sum_in c m hC.symm hM.symm
          have hs := hS.symm
          clear hC hM hS
          go_wp2_with fail
          refine (isBetween_any c 0 56 _).mono ?_
          rw [← HC.out]
          rintro e w0 ⟨rfl, rfl⟩
          go_wp2_with fail
          refine (isBetween_any m 0 15 _).mono ?_
          rw [← HM.out]
          rintro e w0 ⟨rfl, rfl⟩
          go_wp2
          go_ret
          exact ⟨ret_bool (by rw [HK.out]; simp [hn]), HB0.out⟩
    · clear hC hM hS
      go_wp2
      go_ret
      exact ⟨ret_bool (by rw [HK.out]; simp [hn]), HB0.out⟩
  case inr.inr.inr.inr.inl | inr.inr.inr.inr.inr.inl =>
    all_goals
      obtain ⟨L, hL⟩ : ∃ L, L = inB n 1 3 := ⟨_, rfl⟩
      have HL := Lib.hid hL
      have HK := Lib.hid (show r = (L && (decide (c = 0) && decide (m = 0))) by rw [HR.out, hL]; simp [okAc])
      clear hL
      rcases Decidable.em (c = 0) with h1 | h1
      · rcases Decidable.em (m = 0) with h2 | h2
        · cases L
          all_goals
            go_wp2_with fail
            refine (isBetween_any n 1 3 _).mono ?_
            rw [← HL.out]
            rintro e w0 ⟨rfl, rfl⟩
            go_wp2
            go_ret
            exact ⟨ret_bool (by rw [HK.out]; simp [*]), HB0.out⟩
        · skip
          go_wp2
          go_ret
          exact ⟨ret_bool (by rw [HK.out]; simp [*]), HB0.out⟩
      · skip
        go_wp2
        go_ret
        exact ⟨ret_bool (by rw [HK.out]; simp [*]), HB0.out⟩
  case inr.inr.inr.inr.inr.inr.inl | inr.inr.inr.inr.inr.inr.inr.inl =>
    all_goals
      obtain ⟨L, hL⟩ : ∃ L, L = inB n 0 3 := ⟨_, rfl⟩
      have HL := Lib.hid hL
      have HK := Lib.hid (show r = (L && (decide (c = 0) && decide (m = 0))) by rw [HR.out, hL]; simp [okAc])
      clear hL
      rcases Decidable.em (c = 0) with h1 | h1
      · rcases Decidable.em (m = 0) with h2 | h2
        · cases L
          all_goals
            go_wp2_with fail
            refine (isBetween_any n 0 3 _).mono ?_
            rw [← HL.out]
            rintro e w0 ⟨rfl, rfl⟩
            go_wp2
            go_ret
            exact ⟨ret_bool (by rw [HK.out]; simp [*]), HB0.out⟩
        · skip
          go_wp2
          go_ret
          exact ⟨ret_bool (by rw [HK.out]; simp [*]), HB0.out⟩
      · skip
        go_wp2
        go_ret
        exact ⟨ret_bool (by rw [HK.out]; simp [*]), HB0.out⟩
  case inr.inr.inr.inr.inr.inr.inr.inr.inl =>
    obtain ⟨A, hA⟩ : ∃ A, A = inB c 1 56 := ⟨_, rfl⟩
    obtain ⟨B, hB⟩ : ∃ B, B = inB m 1 15 := ⟨_, rfl⟩
    have HA := Lib.hid hA
    have HB := Lib.hid hB
    have HK := Lib.hid (show r = (A && (B && decide (n = 0))) by rw [HR.out, hA, hB]; simp [okAc])
    clear hA hB
    rcases Decidable.em (n = 0) with h1 | h1
    · cases A
      · skip
        go_wp2_with fail
        refine (isBetween_any c 1 56 _).mono ?_
        rw [← HA.out]
        rintro e w0 ⟨rfl, rfl⟩
        go_wp2
        go_ret
        exact ⟨ret_bool (by rw [HK.out]; simp [*]), HB0.out⟩
      · cases B
        all_goals
          go_wp2_with fail
          refine (isBetween_any c 1 56 _).mono ?_
          rw [← HA.out]
          rintro e w0 ⟨rfl, rfl⟩
          go_wp2_with fail
          refine (isBetween_any m 1 15 _).mono ?_
          rw [← HB.out]
          rintro e w0 ⟨rfl, rfl⟩
          go_wp2
          go_ret
          exact ⟨ret_bool (by rw [HK.out]; simp [*]), HB0.out⟩
    · skip
      go_wp2
      go_ret
      exact ⟨ret_bool (by rw [HK.out]; simp [*]), HB0.out⟩
  case inr.inr.inr.inr.inr.inr.inr.inr.inr.inl =>
    obtain ⟨A, hA⟩ : ∃ A, A = inB c 1 56 := ⟨_, rfl⟩
    obtain ⟨B, hB⟩ : ∃ B, B = inB n 1 3 := ⟨_, rfl⟩
    have HA := Lib.hid hA
    have HB := Lib.hid hB
    have HK := Lib.hid (show r = (A && (B && decide (m = 0))) by rw [HR.out, hA, hB]; simp [okAc])
    clear hA hB
    rcases Decidable.em (m = 0) with h1 | h1
    · cases A
      · skip
        go_wp2_with fail
        refine (isBetween_any c 1 56 _).mono ?_
        rw [← HA.out]
        rintro e w0 ⟨rfl, rfl⟩
        go_wp2
        go_ret
        exact ⟨ret_bool (by rw [HK.out]; simp [*]), HB0.out⟩
      · cases B
        all_goals
          go_wp2_with fail
          refine (isBetween_any c 1 56 _).mono ?_
          rw [← HA.out]
          rintro e w0 ⟨rfl, rfl⟩
          go_wp2_with fail
          refine (isBetween_any n 1 3 _).mono ?_
          rw [← HB.out]
          rintro e w0 ⟨rfl, rfl⟩
          go_wp2
          go_ret
          exact ⟨ret_bool (by rw [HK.out]; simp [*]), HB0.out⟩
    · skip
      go_wp2
      go_ret
      exact ⟨ret_bool (by rw [HK.out]; simp [*]), HB0.out⟩
  case inr.inr.inr.inr.inr.inr.inr.inr.inr.inr.inl =>
    obtain ⟨L, hL⟩ : ∃ L, L = inB m 1 15 := ⟨_, rfl⟩
    have HL := Lib.hid hL
    have HK := Lib.hid (show r = (L && (decide (c = 0) && decide (n = 0))) by rw [HR.out, hL]; simp [okAc])
    clear hL
    rcases Decidable.em (c = 0) with h1 | h1
    · rcases Decidable.em (n = 0) with h2 | h2
      · cases L
        all_goals
          go_wp2_with fail
          refine (isBetween_any m 1 15 _).mono ?_
          rw [← HL.out]
          rintro e w0 ⟨rfl, rfl⟩
          go_wp2
          go_ret
          exact ⟨ret_bool (by rw [HK.out]; simp [*]), HB0.out⟩
      · skip
        go_wp2
        go_ret
        exact ⟨ret_bool (by rw [HK.out]; simp [*]), HB0.out⟩
    · skip
      go_wp2
      go_ret
      exact ⟨ret_bool (by rw [HK.out]; simp [*]), HB0.out⟩
  case inr.inr.inr.inr.inr.inr.inr.inr.inr.inr.inr =>
    go_wp2
    go_ret
    exact ⟨ret_bool (by rw [HR.out]; simp [okAc, *]), HB0.out⟩
theorem implIsAction_q (k c m n : Int) (v : Bool) (hv : v = okAc k c m n) (w : World) : Calls Try.prog 165 #[acv k c m n] w fun e w' => e = .returned (.bool v) ∧ Below w.heap.size w w' := by
  rw [hv]; exact implIsAction_any k c m n w

theorem implIsTapHold_any (k c m n : Int) (w : World) : Calls Try.prog 189 #[acv k c m n] w fun e w' => e = .returned (.bool (holdAc k c m n)) ∧ Below w.heap.size w w' := by
  obtain ⟨v, hv⟩ : ∃ v, v = okAc k c m n := ⟨_, rfl⟩
  obtain ⟨r, hr⟩ : ∃ r, r = holdAc k c m n := ⟨_, rfl⟩
  have hr2 := hr
  rw [holdAc, ← hv] at hr2
  rw [← hr]
  have HV := Lib.hid hv
  have HR := Lib.hid hr2
  clear hv hr hr2
  obtain ⟨W, hW⟩ : ∃ W, W = w.alloc (.cells #[.int .i64 k, .int .i64 c, .int .i64 m, .int .i64 n] 203) := ⟨_, rfl⟩
  have HX0 := Lib.hid (show Bxd W w.heap.size [.int .i64 k, .int .i64 c, .int .i64 m, .int .i64 n] by rw [hW]; exact Bxd.new _ _ _)
  have HB0 := Lib.hid (show Below w.heap.size w W by rw [hW]; exact (Below.refl _ _).alloc (Nat.le_refl _) _)
  have HS0 := Lib.hid (show w.heap.size < W.heap.size by rw [hW]; simp)
  have HW := Lib.hid hW
  clear hW
  go_enter Try.func189, Try.ntmps189
  go_wp2_with fail
  rw [← HW.out]
  have c0 := HX0.out.at 0 _ rfl
  have c1 := HX0.out.at 1 _ rfl
  have c2 := HX0.out.at 2 _ rfl
  have c3 := HX0.out.at 3 _ rfl
  refine (implIsAction_q k c m n v HV.out _).mono ?_
  rintro e w1 ⟨rfl, hb⟩
  have HB := Lib.hid (HB0.out.trans (hb.mono HB0.out.size))
  have d0 := (hb.cell (p := ⟨w.heap.size, 0, none⟩) HS0.out).trans c0
  clear hb c0 c1 c2 c3
  have key : k = 6 ∨ k = 7 ∨ (¬ k = 6 ∧ ¬ k = 7) := by omega
  rcases key with rfl | rfl | ⟨k6, k7⟩ <;> cases v
  all_goals
    go_wp2
    go_ret
    exact ⟨ret_bool (by rw [HR.out]; simp [*]), HB.out⟩
theorem implIsTapHold_q (k c m n : Int) (v : Bool) (hv : v = holdAc k c m n) (w : World) : Calls Try.prog 189 #[acv k c m n] w fun e w' => e = .returned (.bool v) ∧ Below w.heap.size w w' := by
  rw [hv]; exact implIsTapHold_any k c m n w

end Go.Proofs.Yteljmfdlegohbaa
