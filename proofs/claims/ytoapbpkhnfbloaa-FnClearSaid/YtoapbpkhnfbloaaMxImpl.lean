/- DERIVED. The program's IsMatrix, KeyCount and IsMask, and its sets of columns, each called with any matrix and any numbers: it returns what a plain function says. -/
import Derived.Test.YtoapbpkhnfbloaaMxSpec2
namespace Go.Proofs.Ytoapbpkhnfbloaa
open Go.RowKit

theorem implIsMatrix_any (R C : Int) (D : Bool) (w : World) : Calls Try.prog 18 #[mx R C D] w fun e w' => e = .returned (.bool (okM R C)) ∧ Below w.heap.size w w' := by
  by_cases h1 : 1 ≤ R
  · by_cases h2 : R ≤ 4
    · by_cases h3 : 1 ≤ C
      · by_cases h4 : C ≤ 6
        · rw [show okM R C = true from (okM_iff R C).mpr ⟨⟨h1, h2⟩, h3, h4⟩]
          obtain ⟨W, hW⟩ : ∃ W, W = w.alloc (.cells #[.int .i64 (R), .int .i64 (C), .bool D] 25) := ⟨_, rfl⟩
          have HX0 := Lib.hid (show Boxed W w.heap.size (R) (C) D by rw [hW]; exact boxed_new _ _ _ _ _)
          have HB0 := Lib.hid (show Below w.heap.size w W by rw [hW]; exact (Below.refl _ _).alloc (Nat.le_refl _) _)
          have HS0 := Lib.hid (show w.heap.size < W.heap.size by rw [hW]; simp)
          have HW := Lib.hid hW
          clear hW
          go_enter Try.func18, Try.ntmps18
          go_wp2
          go_ret
          rw [← HW.out]
          exact ⟨rfl, HB0.out⟩
        · rw [show okM R C = false by simp [okM, h4]]
          obtain ⟨W, hW⟩ : ∃ W, W = w.alloc (.cells #[.int .i64 (R), .int .i64 (C), .bool D] 25) := ⟨_, rfl⟩
          have HX0 := Lib.hid (show Boxed W w.heap.size (R) (C) D by rw [hW]; exact boxed_new _ _ _ _ _)
          have HB0 := Lib.hid (show Below w.heap.size w W by rw [hW]; exact (Below.refl _ _).alloc (Nat.le_refl _) _)
          have HS0 := Lib.hid (show w.heap.size < W.heap.size by rw [hW]; simp)
          have HW := Lib.hid hW
          clear hW
          go_enter Try.func18, Try.ntmps18
          go_wp2
          go_ret
          rw [← HW.out]
          exact ⟨rfl, HB0.out⟩
      · rw [show okM R C = false by simp [okM, h3]]
        obtain ⟨W, hW⟩ : ∃ W, W = w.alloc (.cells #[.int .i64 (R), .int .i64 (C), .bool D] 25) := ⟨_, rfl⟩
        have HX0 := Lib.hid (show Boxed W w.heap.size (R) (C) D by rw [hW]; exact boxed_new _ _ _ _ _)
        have HB0 := Lib.hid (show Below w.heap.size w W by rw [hW]; exact (Below.refl _ _).alloc (Nat.le_refl _) _)
        have HS0 := Lib.hid (show w.heap.size < W.heap.size by rw [hW]; simp)
        have HW := Lib.hid hW
        clear hW
        go_enter Try.func18, Try.ntmps18
        go_wp2
        go_ret
        rw [← HW.out]
        exact ⟨rfl, HB0.out⟩
    · rw [show okM R C = false by simp [okM, h2]]
      obtain ⟨W, hW⟩ : ∃ W, W = w.alloc (.cells #[.int .i64 (R), .int .i64 (C), .bool D] 25) := ⟨_, rfl⟩
      have HX0 := Lib.hid (show Boxed W w.heap.size (R) (C) D by rw [hW]; exact boxed_new _ _ _ _ _)
      have HB0 := Lib.hid (show Below w.heap.size w W by rw [hW]; exact (Below.refl _ _).alloc (Nat.le_refl _) _)
      have HS0 := Lib.hid (show w.heap.size < W.heap.size by rw [hW]; simp)
      have HW := Lib.hid hW
      clear hW
      go_enter Try.func18, Try.ntmps18
      go_wp2
      go_ret
      rw [← HW.out]
      exact ⟨rfl, HB0.out⟩
  · rw [show okM R C = false by simp [okM, h1]]
    obtain ⟨W, hW⟩ : ∃ W, W = w.alloc (.cells #[.int .i64 (R), .int .i64 (C), .bool D] 25) := ⟨_, rfl⟩
    have HX0 := Lib.hid (show Boxed W w.heap.size (R) (C) D by rw [hW]; exact boxed_new _ _ _ _ _)
    have HB0 := Lib.hid (show Below w.heap.size w W by rw [hW]; exact (Below.refl _ _).alloc (Nat.le_refl _) _)
    have HS0 := Lib.hid (show w.heap.size < W.heap.size by rw [hW]; simp)
    have HW := Lib.hid hW
    clear hW
    go_enter Try.func18, Try.ntmps18
    go_wp2
    go_ret
    rw [← HW.out]
    exact ⟨rfl, HB0.out⟩

theorem implKeyCount_any (R C : Int) (D : Bool) (w : World) : Calls Try.prog 8 #[mx R C D] w fun e w' => e = .returned (.int .i64 (keysM R C)) ∧ Below w.heap.size w w' := by
  obtain ⟨ok, hok⟩ : ∃ ok, ok = okM R C := ⟨_, rfl⟩
  have hk : keysM R C = if ok = true then R * C else 0 := by rw [keysM, hok]
  rw [hk]
  have hb := keysM_bound R C
  rw [hk] at hb
  have HO := Lib.hid hok
  clear hok hk
  cases ok
  · clear hb
    obtain ⟨W, hW⟩ : ∃ W, W = w.alloc (.cells #[.int .i64 (R), .int .i64 (C), .bool D] 25) := ⟨_, rfl⟩
    have HX0 := Lib.hid (show Boxed W w.heap.size (R) (C) D by rw [hW]; exact boxed_new _ _ _ _ _)
    have HB0 := Lib.hid (show Below w.heap.size w W by rw [hW]; exact (Below.refl _ _).alloc (Nat.le_refl _) _)
    have HS0 := Lib.hid (show w.heap.size < W.heap.size by rw [hW]; simp)
    have HW := Lib.hid hW
    clear hW
    go_enter Try.func8, Try.ntmps8
    go_wp2_with fail
    refine (implIsMatrix_any R C D _).mono ?_
    rw [← HO.out]
    rintro e w1 ⟨rfl, hb⟩
    rw [← HW.out] at hb
    have HB1 := Lib.hid (HB0.out.trans (hb.mono HB0.out.size))
    have HS1 := Lib.hid (Nat.lt_of_lt_of_le HS0.out hb.size)
    have HX1 := Lib.hid (HX0.out.below hb HS0.out)
    obtain ⟨c0, c1, c2⟩ := HX1.out
    clear hb
    go_wp2
    go_ret
    exact ⟨rfl, HB1.out⟩
  · simp only [if_true] at hb ⊢
    obtain ⟨hb0, hb1⟩ := hb
    obtain ⟨W, hW⟩ : ∃ W, W = w.alloc (.cells #[.int .i64 (R), .int .i64 (C), .bool D] 25) := ⟨_, rfl⟩
    have HX0 := Lib.hid (show Boxed W w.heap.size (R) (C) D by rw [hW]; exact boxed_new _ _ _ _ _)
    have HB0 := Lib.hid (show Below w.heap.size w W by rw [hW]; exact (Below.refl _ _).alloc (Nat.le_refl _) _)
    have HS0 := Lib.hid (show w.heap.size < W.heap.size by rw [hW]; simp)
    have HW := Lib.hid hW
    clear hW
    go_enter Try.func8, Try.ntmps8
    go_wp2_with fail
    refine (implIsMatrix_any R C D _).mono ?_
    rw [← HO.out]
    rintro e w1 ⟨rfl, hb⟩
    rw [← HW.out] at hb
    have HB1 := Lib.hid (HB0.out.trans (hb.mono HB0.out.size))
    have HS1 := Lib.hid (Nat.lt_of_lt_of_le HS0.out hb.size)
    have HX1 := Lib.hid (HX0.out.below hb HS0.out)
    obtain ⟨c0, c1, c2⟩ := HX1.out
    clear hb
    go_wp2
    go_ret
    exact ⟨rfl, HB1.out⟩

theorem implIsMask_any (R C : Int) (D : Bool) (x : Int) (w : World) : Calls Try.prog 13 #[mx R C D, .int .i64 x] w fun e w' => e = .returned (.bool (okMask R C x)) ∧ Below w.heap.size w w' := by
  obtain ⟨ok, hok⟩ : ∃ ok, ok = okM R C := ⟨_, rfl⟩
  obtain ⟨n, hn⟩ := Int.eq_ofNat_of_zero_le (keysM_bound R C).1
  have hn24 : n ≤ 24 := by have := (keysM_bound R C).2; omega
  have hv : okMask R C x = (ok && decide (0 ≤ x ∧ x ≤ 2 ^ n - 1)) := by rw [okMask, hok, hn]; rfl
  rw [hv]
  have HO := Lib.hid hok
  have HN := Lib.hid hn
  clear hok hn hv
  cases ok
  · obtain ⟨W, hW⟩ : ∃ W, W = w.alloc (.cells #[.int .i64 (R), .int .i64 (C), .bool D] 25) := ⟨_, rfl⟩
    have HX0 := Lib.hid (show Boxed W w.heap.size (R) (C) D by rw [hW]; exact boxed_new _ _ _ _ _)
    have HB0 := Lib.hid (show Below w.heap.size w W by rw [hW]; exact (Below.refl _ _).alloc (Nat.le_refl _) _)
    have HS0 := Lib.hid (show w.heap.size < W.heap.size by rw [hW]; simp)
    have HW := Lib.hid hW
    clear hW
    go_enter Try.func13, Try.ntmps13
    go_wp2_with fail
    refine (implIsMatrix_any R C D _).mono ?_
    rw [← HO.out]
    rintro e w1 ⟨rfl, hb⟩
    rw [← HW.out] at hb
    have HB1 := Lib.hid (HB0.out.trans (hb.mono HB0.out.size))
    have HS1 := Lib.hid (Nat.lt_of_lt_of_le HS0.out hb.size)
    have HX1 := Lib.hid (HX0.out.below hb HS0.out)
    obtain ⟨c0, c1, c2⟩ := HX1.out
    clear hb
    go_wp2
    go_ret
    exact ⟨rfl, HB1.out⟩
  · rw [Bool.true_and]
    by_cases h0 : 0 ≤ x
    · have hw := wrap64_pow62 (k := n) (by omega)
      have hpn := pow_nat n
      obtain ⟨p, hp⟩ : ∃ p, p = 2 ^ n := ⟨_, rfl⟩
      rw [← hp] at hw hpn
      rw [hpn]
      have HP := Lib.hid hpn
      clear hpn hp
      rw [show decide (0 ≤ x ∧ x ≤ (p : Int) - 1) = decide (x < (p : Int)) from decide_eq_decide.mpr (by omega)]
      obtain ⟨W, hW⟩ : ∃ W, W = w.alloc (.cells #[.int .i64 (R), .int .i64 (C), .bool D] 25) := ⟨_, rfl⟩
      have HX0 := Lib.hid (show Boxed W w.heap.size (R) (C) D by rw [hW]; exact boxed_new _ _ _ _ _)
      have HB0 := Lib.hid (show Below w.heap.size w W by rw [hW]; exact (Below.refl _ _).alloc (Nat.le_refl _) _)
      have HS0 := Lib.hid (show w.heap.size < W.heap.size by rw [hW]; simp)
      have HW := Lib.hid hW
      clear hW
      go_enter Try.func13, Try.ntmps13
      go_wp2_with fail
      refine (implIsMatrix_any R C D _).mono ?_
      rw [← HO.out]
      rintro e w1 ⟨rfl, hb⟩
      rw [← HW.out] at hb
      have HB1 := Lib.hid (HB0.out.trans (hb.mono HB0.out.size))
      have HS1 := Lib.hid (Nat.lt_of_lt_of_le HS0.out hb.size)
      have HX1 := Lib.hid (HX0.out.below hb HS0.out)
      obtain ⟨c0, c1, c2⟩ := HX1.out
      clear hb
      go_wp2_with fail
      refine (implKeyCount_any R C D _).mono ?_
      rw [HN.out]
      rintro e w2 ⟨rfl, hb⟩
      have HB2 := Lib.hid (HB1.out.trans (hb.mono HB1.out.size))
      have HS2 := Lib.hid (Nat.lt_of_lt_of_le HS1.out hb.size)
      have HX2 := Lib.hid (HX1.out.below hb HS1.out)
      obtain ⟨c0, c1, c2⟩ := HX2.out
      clear hb
      go_wp2
      go_ret
      exact ⟨rfl, HB2.out⟩
    · rw [show decide (0 ≤ x ∧ x ≤ (2 : Int) ^ n - 1) = false from decide_eq_false (by omega)]
      obtain ⟨W, hW⟩ : ∃ W, W = w.alloc (.cells #[.int .i64 (R), .int .i64 (C), .bool D] 25) := ⟨_, rfl⟩
      have HX0 := Lib.hid (show Boxed W w.heap.size (R) (C) D by rw [hW]; exact boxed_new _ _ _ _ _)
      have HB0 := Lib.hid (show Below w.heap.size w W by rw [hW]; exact (Below.refl _ _).alloc (Nat.le_refl _) _)
      have HS0 := Lib.hid (show w.heap.size < W.heap.size by rw [hW]; simp)
      have HW := Lib.hid hW
      clear hW
      go_enter Try.func13, Try.ntmps13
      go_wp2_with fail
      refine (implIsMatrix_any R C D _).mono ?_
      rw [← HO.out]
      rintro e w1 ⟨rfl, hb⟩
      rw [← HW.out] at hb
      have HB1 := Lib.hid (HB0.out.trans (hb.mono HB0.out.size))
      have HS1 := Lib.hid (Nat.lt_of_lt_of_le HS0.out hb.size)
      have HX1 := Lib.hid (HX0.out.below hb HS0.out)
      obtain ⟨c0, c1, c2⟩ := HX1.out
      clear hb
      go_wp2
      go_ret
      exact ⟨rfl, HB1.out⟩

theorem rowHas_any (s k : Nat) (w : World) (hs : s < 2 ^ 62) (hk : k < 62) : Calls Try.prog 23 #[.int .i64 s, .int .i64 k] w fun e w' => e = .returned (.bool (s.testBit k)) ∧ w = w' := by
  have hbit := bit_nat s k hs
  obtain ⟨t, ht⟩ : ∃ t, t = s.testBit k := ⟨_, rfl⟩
  rw [← ht] at hbit ⊢
  clear ht
  cases t
  · have hb : bits .and .i64 ((s : Int) / 2 ^ k) 1 = 0 := by rw [hbit]; rfl
    clear hbit
    go_enter Try.func23, Try.ntmps23
    go_wp2
    go_ret
    exact ⟨rfl, rfl⟩
  · have hb : bits .and .i64 ((s : Int) / 2 ^ k) 1 = 1 := by rw [hbit]; rfl
    clear hbit
    go_enter Try.func23, Try.ntmps23
    go_wp2
    go_ret
    exact ⟨rfl, rfl⟩

theorem rowMask_any (R : Int) (s c k : Nat) (D : Bool) (w : World) (hc : c ≤ 6) (hk : k < 4) (hs : s < 2 ^ c) : Calls Try.prog 16 #[.int .i64 s, mx R c D, .int .i64 k] w fun e w' => e = .returned (.int .i64 ((s * 2 ^ (k * c) : Nat) : Int)) ∧ Below w.heap.size w w' := by
  have hp := rc_le hc (show k ≤ 4 by omega)
  have hlt : s * 2 ^ (k * c) < 2 ^ 30 := by
    have h1 : s * 2 ^ (k * c) < 2 ^ c * 2 ^ (k * c) := Nat.mul_lt_mul_of_pos_right hs (Nat.two_pow_pos _)
    have h2 : 2 ^ c * 2 ^ (k * c) ≤ 2 ^ 30 := by
      rw [← Nat.pow_add]
      exact Nat.pow_le_pow_right (by omega) (by omega)
    omega
  obtain ⟨p, hpe⟩ : ∃ p, p = k * c := ⟨_, rfl⟩
  rw [← hpe] at hp hlt ⊢
  have e1 : wrap64 ((k : Int) * (c : Int)) = (p : Int) := by
    rw [IntWalk.wrap64_in _ ⟨by rw [← Int.natCast_mul, ← hpe]; omega, by rw [← Int.natCast_mul, ← hpe]; omega⟩, hpe, Int.natCast_mul]
  have e2 : wrap64 ((s : Int) * 2 ^ p) = ((s * 2 ^ p : Nat) : Int) := by
    have e : ((s : Int) * 2 ^ p) = ((s * 2 ^ p : Nat) : Int) := by simp
    rw [e]
    generalize s * 2 ^ p = q at hlt
    exact IntWalk.wrap64_in _ ⟨by omega, by omega⟩
  have E2 := Lib.hid e2
  clear hpe e2
  obtain ⟨W, hW⟩ : ∃ W, W = w.alloc (.cells #[.int .i64 (R), .int .i64 (c), .bool D] 25) := ⟨_, rfl⟩
  have HX0 := Lib.hid (show Boxed W w.heap.size (R) (c) D by rw [hW]; exact boxed_new _ _ _ _ _)
  have HB0 := Lib.hid (show Below w.heap.size w W by rw [hW]; exact (Below.refl _ _).alloc (Nat.le_refl _) _)
  have HS0 := Lib.hid (show w.heap.size < W.heap.size by rw [hW]; simp)
  have HW := Lib.hid hW
  clear hW
  go_enter Try.func16, Try.ntmps16
  go_wp2
  go_ret
  rw [← HW.out]
  exact ⟨ret_int E2.out, HB0.out⟩

end Go.Proofs.Ytoapbpkhnfbloaa
