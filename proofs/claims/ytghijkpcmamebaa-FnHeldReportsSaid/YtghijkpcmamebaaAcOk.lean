/- DERIVED. The reference's IsAction, IsTapHold, TapOf, HoldOf: each returns what a plain function says. -/
import Derived.Test.YtghijkpcmamebaaAcs
import Derived.Deep.RegionHeld3
import Derived.Deep.DeepCutAuto
namespace Go.Proofs.Ytghijkpcmamebaa
open Go.RowKit

set_option maxRecDepth 100000 in
set_option maxHeartbeats 4000000 in
theorem specIsAction_any (k c m n : Int) (w : World) : Calls Try.prog 50 #[acv k c m n] w fun e w' => e = .returned (.bool (okAc k c m n)) ∧ Below w.heap.size w w' := by
  obtain ⟨r, hr⟩ : ∃ r, r = okAc k c m n := ⟨_, rfl⟩
  obtain ⟨C, hC⟩ : ∃ C, C = inB c 1 56 := ⟨_, rfl⟩
  obtain ⟨M, hM⟩ : ∃ M, M = inB m 1 15 := ⟨_, rfl⟩
  obtain ⟨L, hL⟩ : ∃ L, L = inB n 1 3 := ⟨_, rfl⟩
  obtain ⟨E, hE⟩ : ∃ E, E = inB n 0 3 := ⟨_, rfl⟩
  rw [← hr]
  have hr2 := hr
  unfold okAc at hr2
  rw [← hC, ← hM, ← hL, ← hE] at hr2
  have HR := Lib.hid hr2
  have HC := Lib.hid hC
  have HM := Lib.hid hM
  have HL := Lib.hid hL
  have HE := Lib.hid hE
  clear hr hr2 hC hM hL hE
  obtain ⟨W, hW⟩ : ∃ W, W = w.alloc (.cells #[.int .i64 k, .int .i64 c, .int .i64 m, .int .i64 n] 31) := ⟨_, rfl⟩
  have HX0 := Lib.hid (show Bxd W w.heap.size [.int .i64 k, .int .i64 c, .int .i64 m, .int .i64 n] by rw [hW]; exact Bxd.new _ _ _)
  have HB0 := Lib.hid (show Below w.heap.size w W by rw [hW]; exact (Below.refl _ _).alloc (Nat.le_refl _) _)
  have HS0 := Lib.hid (show w.heap.size < W.heap.size by rw [hW]; simp)
  have HW := Lib.hid hW
  clear hW
  go_enter Try.func50, Try.ntmps50
  go_wp2_with fail
  rw [← HW.out]
  have c0 := HX0.out.at 0 _ rfl
  have c1 := HX0.out.at 1 _ rfl
  have c2 := HX0.out.at 2 _ rfl
  have c3 := HX0.out.at 3 _ rfl
  refine (inB_any c 1 56 _).mono ?_
  rw [← HC.out]
  rintro e w0 ⟨rfl, rfl⟩
  go_wp2_with fail
  refine (inB_any m 1 15 _).mono ?_
  rw [← HM.out]
  rintro e w0 ⟨rfl, rfl⟩
  go_wp2_with fail
  refine (inB_any n 1 3 _).mono ?_
  rw [← HL.out]
  rintro e w0 ⟨rfl, rfl⟩
  have key : k = 0 ∨ k = 1 ∨ k = 10 ∨ k = 2 ∨ k = 3 ∨ k = 4 ∨ k = 5 ∨ k = 9 ∨ k = 6 ∨ k = 7 ∨ k = 8 ∨ (¬ k = 0 ∧ ¬ k = 1 ∧ ¬ k = 10 ∧ ¬ k = 2 ∧ ¬ k = 3 ∧ ¬ k = 4 ∧ ¬ k = 5 ∧ ¬ k = 9 ∧ ¬ k = 6 ∧ ¬ k = 7 ∧ ¬ k = 8) := by omega
  rcases key with rfl | rfl | rfl | rfl | rfl | rfl | rfl | rfl | rfl | rfl | rfl | ⟨k0, k1, k10, k2, k3, k4, k5, k9, k6, k7, k8⟩
  case inl | inr.inl | inr.inr.inl =>
    all_goals
      rcases Decidable.em (c = 0) with hc | hc <;> rcases Decidable.em (m = 0) with hm | hm <;> rcases Decidable.em (n = 0) with hn | hn
    all_goals
      go_wp2
      go_ret
      exact ⟨ret_bool (by rw [HR.out]; simp [*]), HB0.out⟩
  case inr.inr.inr.inl =>
    rcases Decidable.em (c = 0) with hc | hc <;> rcases Decidable.em (m = 0) with hm | hm <;> rcases Decidable.em (n = 0) with hn | hn <;> cases C <;> cases M
    all_goals
      go_wp2
      go_ret
      exact ⟨ret_bool (by rw [HR.out]; simp [*]), HB0.out⟩
  case inr.inr.inr.inr.inl | inr.inr.inr.inr.inr.inl =>
    all_goals
      rcases Decidable.em (c = 0) with hc | hc <;> rcases Decidable.em (m = 0) with hm | hm <;> cases L
    all_goals
      go_wp2
      go_ret
      exact ⟨ret_bool (by rw [HR.out]; simp [*]), HB0.out⟩
  case inr.inr.inr.inr.inr.inr.inl | inr.inr.inr.inr.inr.inr.inr.inl =>
    all_goals
      rcases Decidable.em (c = 0) with hc | hc <;> rcases Decidable.em (m = 0) with hm | hm <;> cases E
    all_goals
      go_wp2_with fail
      refine (inB_any n 0 3 _).mono ?_
      rw [← HE.out]
      rintro e w0 ⟨rfl, rfl⟩
      go_wp2
      go_ret
      exact ⟨ret_bool (by rw [HR.out]; simp [*]), HB0.out⟩
  case inr.inr.inr.inr.inr.inr.inr.inr.inl =>
    rcases Decidable.em (n = 0) with hn | hn <;> cases C <;> cases M
    all_goals
      go_wp2
      go_ret
      exact ⟨ret_bool (by rw [HR.out]; simp [*]), HB0.out⟩
  case inr.inr.inr.inr.inr.inr.inr.inr.inr.inl =>
    rcases Decidable.em (m = 0) with hm | hm <;> cases C <;> cases L
    all_goals
      go_wp2
      go_ret
      exact ⟨ret_bool (by rw [HR.out]; simp [*]), HB0.out⟩
  case inr.inr.inr.inr.inr.inr.inr.inr.inr.inr.inl =>
    rcases Decidable.em (c = 0) with hc | hc <;> rcases Decidable.em (n = 0) with hn | hn <;> cases M
    all_goals
      go_wp2
      go_ret
      exact ⟨ret_bool (by rw [HR.out]; simp [*]), HB0.out⟩
  case inr.inr.inr.inr.inr.inr.inr.inr.inr.inr.inr =>
    go_wp2
    go_ret
    exact ⟨ret_bool (by rw [HR.out]; simp [*]), HB0.out⟩

theorem specIsAction_q (k c m n : Int) (v : Bool) (hv : v = okAc k c m n) (w : World) : Calls Try.prog 50 #[acv k c m n] w fun e w' => e = .returned (.bool v) ∧ Below w.heap.size w w' := by
  rw [hv]; exact specIsAction_any k c m n w

theorem specIsTapHold_any (k c m n : Int) (w : World) : Calls Try.prog 51 #[acv k c m n] w fun e w' => e = .returned (.bool (holdAc k c m n)) ∧ Below w.heap.size w w' := by
  obtain ⟨v, hv⟩ : ∃ v, v = okAc k c m n := ⟨_, rfl⟩
  obtain ⟨r, hr⟩ : ∃ r, r = holdAc k c m n := ⟨_, rfl⟩
  have hr2 := hr
  rw [holdAc, ← hv] at hr2
  rw [← hr]
  have HV := Lib.hid hv
  have HR := Lib.hid hr2
  clear hv hr hr2
  obtain ⟨W, hW⟩ : ∃ W, W = w.alloc (.cells #[.int .i64 k, .int .i64 c, .int .i64 m, .int .i64 n] 31) := ⟨_, rfl⟩
  have HX0 := Lib.hid (show Bxd W w.heap.size [.int .i64 k, .int .i64 c, .int .i64 m, .int .i64 n] by rw [hW]; exact Bxd.new _ _ _)
  have HB0 := Lib.hid (show Below w.heap.size w W by rw [hW]; exact (Below.refl _ _).alloc (Nat.le_refl _) _)
  have HS0 := Lib.hid (show w.heap.size < W.heap.size by rw [hW]; simp)
  have HW := Lib.hid hW
  clear hW
  go_enter Try.func51, Try.ntmps51
  go_wp2_with fail
  rw [← HW.out]
  have c0 := HX0.out.at 0 _ rfl
  have c1 := HX0.out.at 1 _ rfl
  have c2 := HX0.out.at 2 _ rfl
  have c3 := HX0.out.at 3 _ rfl
  refine (specIsAction_q k c m n v HV.out _).mono ?_
  rintro e w1 ⟨rfl, hb⟩
  have HB := Lib.hid (HB0.out.trans (hb.mono HB0.out.size))
  have d0 := (hb.cell (p := ⟨w.heap.size, 0, none⟩) HS0.out).trans c0
  clear hb c0 c1 c2 c3
  have key : k = 6 ∨ k = 7 ∨ (¬ k = 6 ∧ ¬ k = 7) := by omega
  rcases key with rfl | rfl | ⟨k6, k7⟩ <;> cases v
  all_goals
    go_wp2
    go_ret
    exact ⟨ret_bool (by rw [HR.out]; simp [*]), HB.out⟩
theorem specIsTapHold_q (k c m n : Int) (v : Bool) (hv : v = holdAc k c m n) (w : World) : Calls Try.prog 51 #[acv k c m n] w fun e w' => e = .returned (.bool v) ∧ Below w.heap.size w w' := by
  rw [hv]; exact specIsTapHold_any k c m n w

end Go.Proofs.Ytghijkpcmamebaa
