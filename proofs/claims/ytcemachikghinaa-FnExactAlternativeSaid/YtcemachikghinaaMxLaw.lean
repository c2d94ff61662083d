/- DERIVED. The exact laws of chapter 2: each, called with any matrix and any numbers, returns true and changes nothing that was there. -/
import Derived.Test.YtcemachikghinaaMxImpl3
namespace Go.Proofs.Ytcemachikghinaa
open Go.RowKit

theorem toMatrix_any (R C : Int) (D : Bool) (w : World) : Calls Try.prog 23 #[mx R C D] w fun e w' => e = .returned (mx R C D) ∧ Below w.heap.size w w' := by
  go_enter Try.func23, Try.ntmps23
  go_wp2
  refine bodyPost_ret (v := mx R C D) (by simp [results, Try.results23, go_sem]) rfl ⟨rfl, ?_⟩
  exact (((Below.refl _ _).alloc (Nat.le_refl _) _).alloc (by simp) _).alloc (by simp; omega) _

theorem lawIsMatrix_walk (R C : Int) (D : Bool) (w : World) : Calls Try.prog 5 #[mx R C D] w fun e w' => e = .returned (.bool true) ∧ Below w.heap.size w w' := by
  obtain ⟨v, hv⟩ : ∃ v, v = okM R C := ⟨_, rfl⟩
  have HV := Lib.hid hv
  clear hv
  obtain ⟨W, hW⟩ : ∃ W, W = w.alloc (.cells #[.int .i64 (R), .int .i64 (C), .bool D] 34) := ⟨_, rfl⟩
  have HX0 := Lib.hid (show Boxed W w.heap.size (R) (C) D by rw [hW]; exact boxed_new _ _ _ _ _)
  have HB0 := Lib.hid (show Below w.heap.size w W by rw [hW]; exact (Below.refl _ _).alloc (Nat.le_refl _) _)
  have HS0 := Lib.hid (show w.heap.size < W.heap.size by rw [hW]; simp)
  have HW := Lib.hid hW
  clear hW
  go_enter Try.func5, Try.ntmps5
  go_wp2_with fail
  refine (toMatrix_any R C D _).mono ?_
  rintro e w1 ⟨rfl, hb⟩
  rw [← HW.out] at hb
  have HB1 := Lib.hid (HB0.out.trans (hb.mono HB0.out.size))
  have HS1 := Lib.hid (Nat.lt_of_lt_of_le HS0.out hb.size)
  have HX1 := Lib.hid (HX0.out.below hb HS0.out)
  obtain ⟨c0, c1, c2⟩ := HX1.out
  clear hb
  go_wp2_with fail
  refine (specIsMatrix_any R C D _).mono ?_
  rw [← HV.out]
  rintro e w2 ⟨rfl, hb⟩
  have HB2 := Lib.hid (HB1.out.trans (hb.mono HB1.out.size))
  have HS2 := Lib.hid (Nat.lt_of_lt_of_le HS1.out hb.size)
  have HX2 := Lib.hid (HX1.out.below hb HS1.out)
  obtain ⟨c0, c1, c2⟩ := HX2.out
  clear hb
  go_wp2_with fail
  refine (toMatrix_any R C D _).mono ?_
  rintro e w3 ⟨rfl, hb⟩
  have HB3 := Lib.hid (HB2.out.trans (hb.mono HB2.out.size))
  have HS3 := Lib.hid (Nat.lt_of_lt_of_le HS2.out hb.size)
  have HX3 := Lib.hid (HX2.out.below hb HS2.out)
  obtain ⟨c0, c1, c2⟩ := HX3.out
  clear hb
  go_wp2_with fail
  refine (implIsMatrix_any R C D _).mono ?_
  rw [← HV.out]
  rintro e w4 ⟨rfl, hb⟩
  have HB4 := Lib.hid (HB3.out.trans (hb.mono HB3.out.size))
  have HS4 := Lib.hid (Nat.lt_of_lt_of_le HS3.out hb.size)
  have HX4 := Lib.hid (HX3.out.below hb HS3.out)
  obtain ⟨c0, c1, c2⟩ := HX4.out
  clear hb
  go_wp2
  go_ret
  exact ⟨rfl, HB4.out⟩

theorem lawKeyCount_walk (R C : Int) (D : Bool) (w : World) : Calls Try.prog 6 #[mx R C D] w fun e w' => e = .returned (.bool true) ∧ Below w.heap.size w w' := by
  obtain ⟨v, hv⟩ : ∃ v, v = keysM R C := ⟨_, rfl⟩
  have HV := Lib.hid hv
  clear hv
  obtain ⟨W, hW⟩ : ∃ W, W = w.alloc (.cells #[.int .i64 (R), .int .i64 (C), .bool D] 34) := ⟨_, rfl⟩
  have HX0 := Lib.hid (show Boxed W w.heap.size (R) (C) D by rw [hW]; exact boxed_new _ _ _ _ _)
  have HB0 := Lib.hid (show Below w.heap.size w W by rw [hW]; exact (Below.refl _ _).alloc (Nat.le_refl _) _)
  have HS0 := Lib.hid (show w.heap.size < W.heap.size by rw [hW]; simp)
  have HW := Lib.hid hW
  clear hW
  go_enter Try.func6, Try.ntmps6
  go_wp2_with fail
  refine (toMatrix_any R C D _).mono ?_
  rintro e w1 ⟨rfl, hb⟩
  rw [← HW.out] at hb
  have HB1 := Lib.hid (HB0.out.trans (hb.mono HB0.out.size))
  have HS1 := Lib.hid (Nat.lt_of_lt_of_le HS0.out hb.size)
  have HX1 := Lib.hid (HX0.out.below hb HS0.out)
  obtain ⟨c0, c1, c2⟩ := HX1.out
  clear hb
  go_wp2_with fail
  refine (specKeyCount_any R C D _).mono ?_
  rw [← HV.out]
  rintro e w2 ⟨rfl, hb⟩
  have HB2 := Lib.hid (HB1.out.trans (hb.mono HB1.out.size))
  have HS2 := Lib.hid (Nat.lt_of_lt_of_le HS1.out hb.size)
  have HX2 := Lib.hid (HX1.out.below hb HS1.out)
  obtain ⟨c0, c1, c2⟩ := HX2.out
  clear hb
  go_wp2_with fail
  refine (toMatrix_any R C D _).mono ?_
  rintro e w3 ⟨rfl, hb⟩
  have HB3 := Lib.hid (HB2.out.trans (hb.mono HB2.out.size))
  have HS3 := Lib.hid (Nat.lt_of_lt_of_le HS2.out hb.size)
  have HX3 := Lib.hid (HX2.out.below hb HS2.out)
  obtain ⟨c0, c1, c2⟩ := HX3.out
  clear hb
  go_wp2_with fail
  refine (implKeyCount_any R C D _).mono ?_
  rw [← HV.out]
  rintro e w4 ⟨rfl, hb⟩
  have HB4 := Lib.hid (HB3.out.trans (hb.mono HB3.out.size))
  have HS4 := Lib.hid (Nat.lt_of_lt_of_le HS3.out hb.size)
  have HX4 := Lib.hid (HX3.out.below hb HS3.out)
  obtain ⟨c0, c1, c2⟩ := HX4.out
  clear hb
  go_wp2
  go_ret
  exact ⟨rfl, HB4.out⟩

theorem lawIsMask_walk (R C : Int) (D : Bool) (x : Int) (w : World) : Calls Try.prog 7 #[mx R C D, .int .i64 x] w fun e w' => e = .returned (.bool true) ∧ Below w.heap.size w w' := by
  obtain ⟨v, hv⟩ : ∃ v, v = okMask R C x := ⟨_, rfl⟩
  have HV := Lib.hid hv
  clear hv
  obtain ⟨W, hW⟩ : ∃ W, W = w.alloc (.cells #[.int .i64 (R), .int .i64 (C), .bool D] 34) := ⟨_, rfl⟩
  have HX0 := Lib.hid (show Boxed W w.heap.size (R) (C) D by rw [hW]; exact boxed_new _ _ _ _ _)
  have HB0 := Lib.hid (show Below w.heap.size w W by rw [hW]; exact (Below.refl _ _).alloc (Nat.le_refl _) _)
  have HS0 := Lib.hid (show w.heap.size < W.heap.size by rw [hW]; simp)
  have HW := Lib.hid hW
  clear hW
  go_enter Try.func7, Try.ntmps7
  go_wp2_with fail
  refine (toMatrix_any R C D _).mono ?_
  rintro e w1 ⟨rfl, hb⟩
  rw [← HW.out] at hb
  have HB1 := Lib.hid (HB0.out.trans (hb.mono HB0.out.size))
  have HS1 := Lib.hid (Nat.lt_of_lt_of_le HS0.out hb.size)
  have HX1 := Lib.hid (HX0.out.below hb HS0.out)
  obtain ⟨c0, c1, c2⟩ := HX1.out
  clear hb
  go_wp2_with fail
  refine (specIsMask_any R C D x _).mono ?_
  rw [← HV.out]
  rintro e w2 ⟨rfl, hb⟩
  have HB2 := Lib.hid (HB1.out.trans (hb.mono HB1.out.size))
  have HS2 := Lib.hid (Nat.lt_of_lt_of_le HS1.out hb.size)
  have HX2 := Lib.hid (HX1.out.below hb HS1.out)
  obtain ⟨c0, c1, c2⟩ := HX2.out
  clear hb
  go_wp2_with fail
  refine (toMatrix_any R C D _).mono ?_
  rintro e w3 ⟨rfl, hb⟩
  have HB3 := Lib.hid (HB2.out.trans (hb.mono HB2.out.size))
  have HS3 := Lib.hid (Nat.lt_of_lt_of_le HS2.out hb.size)
  have HX3 := Lib.hid (HX2.out.below hb HS2.out)
  obtain ⟨c0, c1, c2⟩ := HX3.out
  clear hb
  go_wp2_with fail
  refine (implIsMask_any R C D x _).mono ?_
  rw [← HV.out]
  rintro e w4 ⟨rfl, hb⟩
  have HB4 := Lib.hid (HB3.out.trans (hb.mono HB3.out.size))
  have HS4 := Lib.hid (Nat.lt_of_lt_of_le HS3.out hb.size)
  have HX4 := Lib.hid (HX3.out.below hb HS3.out)
  obtain ⟨c0, c1, c2⟩ := HX4.out
  clear hb
  go_wp2
  go_ret
  exact ⟨rfl, HB4.out⟩

theorem lawReadMatrix_walk (R C : Int) (D : Bool) (x : Int) (w : World) : Calls Try.prog 8 #[mx R C D, .int .i64 x] w fun e w' => e = .returned (.bool true) ∧ Below w.heap.size w w' := by
  obtain ⟨v, hv⟩ : ∃ v, v = readV R C D x := ⟨_, rfl⟩
  obtain ⟨b, hb⟩ : ∃ b, b = okMask R C x := ⟨_, rfl⟩
  have HV := Lib.hid hv
  have HB := Lib.hid hb
  clear hv hb
  obtain ⟨W, hW⟩ : ∃ W, W = w.alloc (.cells #[.int .i64 (R), .int .i64 (C), .bool D] 34) := ⟨_, rfl⟩
  have HX0 := Lib.hid (show Boxed W w.heap.size (R) (C) D by rw [hW]; exact boxed_new _ _ _ _ _)
  have HB0 := Lib.hid (show Below w.heap.size w W by rw [hW]; exact (Below.refl _ _).alloc (Nat.le_refl _) _)
  have HS0 := Lib.hid (show w.heap.size < W.heap.size by rw [hW]; simp)
  have HW := Lib.hid hW
  clear hW
  go_enter Try.func8, Try.ntmps8
  go_wp2_with fail
  refine (toMatrix_any R C D _).mono ?_
  rintro e w1 ⟨rfl, hb⟩
  rw [← HW.out] at hb
  have HB1 := Lib.hid (HB0.out.trans (hb.mono HB0.out.size))
  have HS1 := Lib.hid (Nat.lt_of_lt_of_le HS0.out hb.size)
  have HX1 := Lib.hid (HX0.out.below hb HS0.out)
  obtain ⟨c0, c1, c2⟩ := HX1.out
  clear hb
  go_wp2_with fail
  refine (specReadMatrix_any R C D x _).mono ?_
  rw [← HV.out, ← HB.out]
  rintro e w2 ⟨rfl, hb⟩
  have HB2 := Lib.hid (HB1.out.trans (hb.mono HB1.out.size))
  have HS2 := Lib.hid (Nat.lt_of_lt_of_le HS1.out hb.size)
  have HX2 := Lib.hid (HX1.out.below hb HS1.out)
  obtain ⟨c0, c1, c2⟩ := HX2.out
  clear hb
  go_wp2_with fail
  refine (toMatrix_any R C D _).mono ?_
  rintro e w3 ⟨rfl, hb⟩
  have HB3 := Lib.hid (HB2.out.trans (hb.mono HB2.out.size))
  have HS3 := Lib.hid (Nat.lt_of_lt_of_le HS2.out hb.size)
  have HX3 := Lib.hid (HX2.out.below hb HS2.out)
  obtain ⟨c0, c1, c2⟩ := HX3.out
  clear hb
  go_wp2_with fail
  refine (implReadMatrix_any R C D x _).mono ?_
  rw [← HV.out, ← HB.out]
  rintro e w4 ⟨rfl, hb⟩
  have HB4 := Lib.hid (HB3.out.trans (hb.mono HB3.out.size))
  have HS4 := Lib.hid (Nat.lt_of_lt_of_le HS3.out hb.size)
  have HX4 := Lib.hid (HX3.out.below hb HS3.out)
  obtain ⟨c0, c1, c2⟩ := HX4.out
  clear hb
  go_wp2
  go_ret
  exact ⟨rfl, HB4.out⟩

theorem lawGhostsOf_walk (R C : Int) (D : Bool) (x : Int) (w : World) : Calls Try.prog 9 #[mx R C D, .int .i64 x] w fun e w' => e = .returned (.bool true) ∧ Below w.heap.size w w' := by
  obtain ⟨v, hv⟩ : ∃ v, v = ghostV R C D x := ⟨_, rfl⟩
  obtain ⟨b, hb⟩ : ∃ b, b = okMask R C x := ⟨_, rfl⟩
  have HV := Lib.hid hv
  have HB := Lib.hid hb
  clear hv hb
  obtain ⟨W, hW⟩ : ∃ W, W = w.alloc (.cells #[.int .i64 (R), .int .i64 (C), .bool D] 34) := ⟨_, rfl⟩
  have HX0 := Lib.hid (show Boxed W w.heap.size (R) (C) D by rw [hW]; exact boxed_new _ _ _ _ _)
  have HB0 := Lib.hid (show Below w.heap.size w W by rw [hW]; exact (Below.refl _ _).alloc (Nat.le_refl _) _)
  have HS0 := Lib.hid (show w.heap.size < W.heap.size by rw [hW]; simp)
  have HW := Lib.hid hW
  clear hW
  go_enter Try.func9, Try.ntmps9
  go_wp2_with fail
  refine (toMatrix_any R C D _).mono ?_
  rintro e w1 ⟨rfl, hb⟩
  rw [← HW.out] at hb
  have HB1 := Lib.hid (HB0.out.trans (hb.mono HB0.out.size))
  have HS1 := Lib.hid (Nat.lt_of_lt_of_le HS0.out hb.size)
  have HX1 := Lib.hid (HX0.out.below hb HS0.out)
  obtain ⟨c0, c1, c2⟩ := HX1.out
  clear hb
  go_wp2_with fail
  refine (specGhostsOf_any R C D x _).mono ?_
  rw [← HV.out, ← HB.out]
  rintro e w2 ⟨rfl, hb⟩
  have HB2 := Lib.hid (HB1.out.trans (hb.mono HB1.out.size))
  have HS2 := Lib.hid (Nat.lt_of_lt_of_le HS1.out hb.size)
  have HX2 := Lib.hid (HX1.out.below hb HS1.out)
  obtain ⟨c0, c1, c2⟩ := HX2.out
  clear hb
  go_wp2_with fail
  refine (toMatrix_any R C D _).mono ?_
  rintro e w3 ⟨rfl, hb⟩
  have HB3 := Lib.hid (HB2.out.trans (hb.mono HB2.out.size))
  have HS3 := Lib.hid (Nat.lt_of_lt_of_le HS2.out hb.size)
  have HX3 := Lib.hid (HX2.out.below hb HS2.out)
  obtain ⟨c0, c1, c2⟩ := HX3.out
  clear hb
  go_wp2_with fail
  refine (implGhostsOf_any R C D x _).mono ?_
  rw [← HV.out, ← HB.out]
  rintro e w4 ⟨rfl, hb⟩
  have HB4 := Lib.hid (HB3.out.trans (hb.mono HB3.out.size))
  have HS4 := Lib.hid (Nat.lt_of_lt_of_le HS3.out hb.size)
  have HX4 := Lib.hid (HX3.out.below hb HS3.out)
  obtain ⟨c0, c1, c2⟩ := HX4.out
  clear hb
  go_wp2
  go_ret
  exact ⟨rfl, HB4.out⟩

theorem lawIsReading_walk (R C : Int) (D : Bool) (x : Int) (w : World) : Calls Try.prog 10 #[mx R C D, .int .i64 x] w fun e w' => e = .returned (.bool true) ∧ Below w.heap.size w w' := by
  obtain ⟨v, hv⟩ : ∃ v, v = readB R C D x := ⟨_, rfl⟩
  have HV := Lib.hid hv
  clear hv
  obtain ⟨W, hW⟩ : ∃ W, W = w.alloc (.cells #[.int .i64 (R), .int .i64 (C), .bool D] 34) := ⟨_, rfl⟩
  have HX0 := Lib.hid (show Boxed W w.heap.size (R) (C) D by rw [hW]; exact boxed_new _ _ _ _ _)
  have HB0 := Lib.hid (show Below w.heap.size w W by rw [hW]; exact (Below.refl _ _).alloc (Nat.le_refl _) _)
  have HS0 := Lib.hid (show w.heap.size < W.heap.size by rw [hW]; simp)
  have HW := Lib.hid hW
  clear hW
  go_enter Try.func10, Try.ntmps10
  go_wp2_with fail
  refine (toMatrix_any R C D _).mono ?_
  rintro e w1 ⟨rfl, hb⟩
  rw [← HW.out] at hb
  have HB1 := Lib.hid (HB0.out.trans (hb.mono HB0.out.size))
  have HS1 := Lib.hid (Nat.lt_of_lt_of_le HS0.out hb.size)
  have HX1 := Lib.hid (HX0.out.below hb HS0.out)
  obtain ⟨c0, c1, c2⟩ := HX1.out
  clear hb
  go_wp2_with fail
  refine (specIsReading_any R C D x _).mono ?_
  rw [← HV.out]
  rintro e w2 ⟨rfl, hb⟩
  have HB2 := Lib.hid (HB1.out.trans (hb.mono HB1.out.size))
  have HS2 := Lib.hid (Nat.lt_of_lt_of_le HS1.out hb.size)
  have HX2 := Lib.hid (HX1.out.below hb HS1.out)
  obtain ⟨c0, c1, c2⟩ := HX2.out
  clear hb
  go_wp2_with fail
  refine (toMatrix_any R C D _).mono ?_
  rintro e w3 ⟨rfl, hb⟩
  have HB3 := Lib.hid (HB2.out.trans (hb.mono HB2.out.size))
  have HS3 := Lib.hid (Nat.lt_of_lt_of_le HS2.out hb.size)
  have HX3 := Lib.hid (HX2.out.below hb HS2.out)
  obtain ⟨c0, c1, c2⟩ := HX3.out
  clear hb
  go_wp2_with fail
  refine (implIsReading_any R C D x _).mono ?_
  rw [← HV.out]
  rintro e w4 ⟨rfl, hb⟩
  have HB4 := Lib.hid (HB3.out.trans (hb.mono HB3.out.size))
  have HS4 := Lib.hid (Nat.lt_of_lt_of_le HS3.out hb.size)
  have HX4 := Lib.hid (HX3.out.below hb HS3.out)
  obtain ⟨c0, c1, c2⟩ := HX4.out
  clear hb
  go_wp2
  go_ret
  exact ⟨rfl, HB4.out⟩

theorem lawAlternative_walk (R C : Int) (D : Bool) (x k : Int) (w : World) : Calls Try.prog 11 #[mx R C D, .int .i64 x, .int .i64 k] w fun e w' => e = .returned (.bool true) ∧ Below w.heap.size w w' := by
  obtain ⟨v, hv⟩ : ∃ v, v = altV R C D x k := ⟨_, rfl⟩
  obtain ⟨b, hb⟩ : ∃ b, b = altB R C D x k := ⟨_, rfl⟩
  have HV := Lib.hid hv
  have HB := Lib.hid hb
  clear hv hb
  obtain ⟨W, hW⟩ : ∃ W, W = w.alloc (.cells #[.int .i64 (R), .int .i64 (C), .bool D] 34) := ⟨_, rfl⟩
  have HX0 := Lib.hid (show Boxed W w.heap.size (R) (C) D by rw [hW]; exact boxed_new _ _ _ _ _)
  have HB0 := Lib.hid (show Below w.heap.size w W by rw [hW]; exact (Below.refl _ _).alloc (Nat.le_refl _) _)
  have HS0 := Lib.hid (show w.heap.size < W.heap.size by rw [hW]; simp)
  have HW := Lib.hid hW
  clear hW
  go_enter Try.func11, Try.ntmps11
  go_wp2_with fail
  refine (toMatrix_any R C D _).mono ?_
  rintro e w1 ⟨rfl, hb⟩
  rw [← HW.out] at hb
  have HB1 := Lib.hid (HB0.out.trans (hb.mono HB0.out.size))
  have HS1 := Lib.hid (Nat.lt_of_lt_of_le HS0.out hb.size)
  have HX1 := Lib.hid (HX0.out.below hb HS0.out)
  obtain ⟨c0, c1, c2⟩ := HX1.out
  clear hb
  go_wp2_with fail
  refine (specAlternative_any R C D x k _).mono ?_
  rw [← HV.out, ← HB.out]
  rintro e w2 ⟨rfl, hb⟩
  have HB2 := Lib.hid (HB1.out.trans (hb.mono HB1.out.size))
  have HS2 := Lib.hid (Nat.lt_of_lt_of_le HS1.out hb.size)
  have HX2 := Lib.hid (HX1.out.below hb HS1.out)
  obtain ⟨c0, c1, c2⟩ := HX2.out
  clear hb
  go_wp2_with fail
  refine (toMatrix_any R C D _).mono ?_
  rintro e w3 ⟨rfl, hb⟩
  have HB3 := Lib.hid (HB2.out.trans (hb.mono HB2.out.size))
  have HS3 := Lib.hid (Nat.lt_of_lt_of_le HS2.out hb.size)
  have HX3 := Lib.hid (HX2.out.below hb HS2.out)
  obtain ⟨c0, c1, c2⟩ := HX3.out
  clear hb
  go_wp2_with fail
  refine (implAlternative_any R C D x k _).mono ?_
  rw [← HV.out, ← HB.out]
  rintro e w4 ⟨rfl, hb⟩
  have HB4 := Lib.hid (HB3.out.trans (hb.mono HB3.out.size))
  have HS4 := Lib.hid (Nat.lt_of_lt_of_le HS3.out hb.size)
  have HX4 := Lib.hid (HX3.out.below hb HS3.out)
  obtain ⟨c0, c1, c2⟩ := HX4.out
  clear hb
  go_wp2
  go_ret
  exact ⟨rfl, HB4.out⟩

theorem lawClearKeys_walk (R C : Int) (D : Bool) (x : Int) (w : World) : Calls Try.prog 12 #[mx R C D, .int .i64 x] w fun e w' => e = .returned (.bool true) ∧ Below w.heap.size w w' := by
  obtain ⟨v, hv⟩ : ∃ v, v = clearV R C D x := ⟨_, rfl⟩
  have HV := Lib.hid hv
  clear hv
  obtain ⟨W, hW⟩ : ∃ W, W = w.alloc (.cells #[.int .i64 (R), .int .i64 (C), .bool D] 34) := ⟨_, rfl⟩
  have HX0 := Lib.hid (show Boxed W w.heap.size (R) (C) D by rw [hW]; exact boxed_new _ _ _ _ _)
  have HB0 := Lib.hid (show Below w.heap.size w W by rw [hW]; exact (Below.refl _ _).alloc (Nat.le_refl _) _)
  have HS0 := Lib.hid (show w.heap.size < W.heap.size by rw [hW]; simp)
  have HW := Lib.hid hW
  clear hW
  go_enter Try.func12, Try.ntmps12
  go_wp2_with fail
  refine (toMatrix_any R C D _).mono ?_
  rintro e w1 ⟨rfl, hb⟩
  rw [← HW.out] at hb
  have HB1 := Lib.hid (HB0.out.trans (hb.mono HB0.out.size))
  have HS1 := Lib.hid (Nat.lt_of_lt_of_le HS0.out hb.size)
  have HX1 := Lib.hid (HX0.out.below hb HS0.out)
  obtain ⟨c0, c1, c2⟩ := HX1.out
  clear hb
  go_wp2_with fail
  refine (specClearKeys_any R C D x _).mono ?_
  rw [← HV.out]
  rintro e w2 ⟨rfl, hb⟩
  have HB2 := Lib.hid (HB1.out.trans (hb.mono HB1.out.size))
  have HS2 := Lib.hid (Nat.lt_of_lt_of_le HS1.out hb.size)
  have HX2 := Lib.hid (HX1.out.below hb HS1.out)
  obtain ⟨c0, c1, c2⟩ := HX2.out
  clear hb
  go_wp2_with fail
  refine (toMatrix_any R C D _).mono ?_
  rintro e w3 ⟨rfl, hb⟩
  have HB3 := Lib.hid (HB2.out.trans (hb.mono HB2.out.size))
  have HS3 := Lib.hid (Nat.lt_of_lt_of_le HS2.out hb.size)
  have HX3 := Lib.hid (HX2.out.below hb HS2.out)
  obtain ⟨c0, c1, c2⟩ := HX3.out
  clear hb
  go_wp2_with fail
  refine (implClearKeys_any R C D x _).mono ?_
  rw [← HV.out]
  rintro e w4 ⟨rfl, hb⟩
  have HB4 := Lib.hid (HB3.out.trans (hb.mono HB3.out.size))
  have HS4 := Lib.hid (Nat.lt_of_lt_of_le HS3.out hb.size)
  have HX4 := Lib.hid (HX3.out.below hb HS3.out)
  obtain ⟨c0, c1, c2⟩ := HX4.out
  clear hb
  go_wp2
  go_ret
  exact ⟨rfl, HB4.out⟩

theorem lawAcceptReading_walk (R C : Int) (D : Bool) (o x : Int) (w : World) : Calls Try.prog 13 #[mx R C D, .int .i64 o, .int .i64 x] w fun e w' => e = .returned (.bool true) ∧ Below w.heap.size w w' := by
  obtain ⟨v, hv⟩ : ∃ v, v = accV R C D o x := ⟨_, rfl⟩
  obtain ⟨b, hb⟩ : ∃ b, b = accB R C D o x := ⟨_, rfl⟩
  have HV := Lib.hid hv
  have HB := Lib.hid hb
  clear hv hb
  obtain ⟨W, hW⟩ : ∃ W, W = w.alloc (.cells #[.int .i64 (R), .int .i64 (C), .bool D] 34) := ⟨_, rfl⟩
  have HX0 := Lib.hid (show Boxed W w.heap.size (R) (C) D by rw [hW]; exact boxed_new _ _ _ _ _)
  have HB0 := Lib.hid (show Below w.heap.size w W by rw [hW]; exact (Below.refl _ _).alloc (Nat.le_refl _) _)
  have HS0 := Lib.hid (show w.heap.size < W.heap.size by rw [hW]; simp)
  have HW := Lib.hid hW
  clear hW
  go_enter Try.func13, Try.ntmps13
  go_wp2_with fail
  refine (toMatrix_any R C D _).mono ?_
  rintro e w1 ⟨rfl, hb⟩
  rw [← HW.out] at hb
  have HB1 := Lib.hid (HB0.out.trans (hb.mono HB0.out.size))
  have HS1 := Lib.hid (Nat.lt_of_lt_of_le HS0.out hb.size)
  have HX1 := Lib.hid (HX0.out.below hb HS0.out)
  obtain ⟨c0, c1, c2⟩ := HX1.out
  clear hb
  go_wp2_with fail
  refine (specAcceptReading_any R C D o x _).mono ?_
  rw [← HV.out, ← HB.out]
  rintro e w2 ⟨rfl, hb⟩
  have HB2 := Lib.hid (HB1.out.trans (hb.mono HB1.out.size))
  have HS2 := Lib.hid (Nat.lt_of_lt_of_le HS1.out hb.size)
  have HX2 := Lib.hid (HX1.out.below hb HS1.out)
  obtain ⟨c0, c1, c2⟩ := HX2.out
  clear hb
  go_wp2_with fail
  refine (toMatrix_any R C D _).mono ?_
  rintro e w3 ⟨rfl, hb⟩
  have HB3 := Lib.hid (HB2.out.trans (hb.mono HB2.out.size))
  have HS3 := Lib.hid (Nat.lt_of_lt_of_le HS2.out hb.size)
  have HX3 := Lib.hid (HX2.out.below hb HS2.out)
  obtain ⟨c0, c1, c2⟩ := HX3.out
  clear hb
  go_wp2_with fail
  refine (implAcceptReading_any R C D o x _).mono ?_
  rw [← HV.out, ← HB.out]
  rintro e w4 ⟨rfl, hb⟩
  have HB4 := Lib.hid (HB3.out.trans (hb.mono HB3.out.size))
  have HS4 := Lib.hid (Nat.lt_of_lt_of_le HS3.out hb.size)
  have HX4 := Lib.hid (HX3.out.below hb HS3.out)
  obtain ⟨c0, c1, c2⟩ := HX4.out
  clear hb
  go_wp2
  go_ret
  exact ⟨rfl, HB4.out⟩
end Go.Proofs.Ytcemachikghinaa
