/- DERIVED. The program's GhostsOf, IsReading, Alternative, ClearKeys and AcceptReading, each called with any matrix and any numbers: it returns what the plain function says that the reference's returns. -/
import Derived.Test.YtoapbpkhnfbloaaMxImpl2
namespace Go.Proofs.Ytoapbpkhnfbloaa
open Go.RowKit

theorem implIsReading_any (R C : Int) (D : Bool) (x : Int) (w : World) : Calls Try.prog 17 #[mx R C D, .int .i64 x] w fun e w' => e = .returned (.bool (readB R C D x)) ∧ Below w.heap.size w w' := by
  obtain ⟨ok, hok⟩ : ∃ ok, ok = okMask R C x := ⟨_, rfl⟩
  obtain ⟨v, hv⟩ : ∃ v, v = readB R C D x := ⟨_, rfl⟩
  obtain ⟨y, hy⟩ : ∃ y, y = readV R C D x := ⟨_, rfl⟩
  have hv' : v = (ok && (y == x)) := by rw [hv, readB, ← hok, ← hy]; exact congrArg _ (Bool.eq_iff_iff.mpr (by rw [decide_eq_true_eq, beq_iff_eq]))
  rw [← hv]
  have HO := Lib.hid hok
  have HY := Lib.hid hy
  clear hok hv hy
  cases ok
  · obtain rfl : v = false := hv'
    obtain ⟨W, hW⟩ : ∃ W, W = w.alloc (.cells #[.int .i64 (R), .int .i64 (C), .bool D] 25) := ⟨_, rfl⟩
    have HX0 := Lib.hid (show Boxed W w.heap.size (R) (C) D by rw [hW]; exact boxed_new _ _ _ _ _)
    have HB0 := Lib.hid (show Below w.heap.size w W by rw [hW]; exact (Below.refl _ _).alloc (Nat.le_refl _) _)
    have HS0 := Lib.hid (show w.heap.size < W.heap.size by rw [hW]; simp)
    have HW := Lib.hid hW
    clear hW
    go_enter Try.func17, Try.ntmps17
    go_wp2_with fail
    refine (implReadMatrix_any R C D x _).mono ?_
    rw [← HO.out, ← HY.out]
    rintro e w1 ⟨rfl, hb⟩
    rw [← HW.out] at hb
    have HB1 := Lib.hid (HB0.out.trans (hb.mono HB0.out.size))
    have HS1 := Lib.hid (Nat.lt_of_lt_of_le HS0.out hb.size)
    have HX1 := Lib.hid (HX0.out.below hb HS0.out)
    obtain ⟨c0, c1, c2⟩ := HX1.out
    clear hb
    go_wp2
    go_ret
    exact ⟨rfl, HB1.out⟩
  · have HV := Lib.hid (show v = (y == x) from hv')
    clear hv'
    obtain ⟨W, hW⟩ : ∃ W, W = w.alloc (.cells #[.int .i64 (R), .int .i64 (C), .bool D] 25) := ⟨_, rfl⟩
    have HX0 := Lib.hid (show Boxed W w.heap.size (R) (C) D by rw [hW]; exact boxed_new _ _ _ _ _)
    have HB0 := Lib.hid (show Below w.heap.size w W by rw [hW]; exact (Below.refl _ _).alloc (Nat.le_refl _) _)
    have HS0 := Lib.hid (show w.heap.size < W.heap.size by rw [hW]; simp)
    have HW := Lib.hid hW
    clear hW
    go_enter Try.func17, Try.ntmps17
    go_wp2_with fail
    refine (implReadMatrix_any R C D x _).mono ?_
    rw [← HO.out, ← HY.out]
    rintro e w1 ⟨rfl, hb⟩
    rw [← HW.out] at hb
    have HB1 := Lib.hid (HB0.out.trans (hb.mono HB0.out.size))
    have HS1 := Lib.hid (Nat.lt_of_lt_of_le HS0.out hb.size)
    have HX1 := Lib.hid (HX0.out.below hb HS0.out)
    obtain ⟨c0, c1, c2⟩ := HX1.out
    clear hb
    go_wp2
    go_ret
    exact ⟨ret_bool HV.out.symm, HB1.out⟩

set_option maxHeartbeats 1000000 in
theorem implAlternative_any (R C : Int) (D : Bool) (x k : Int) (w : World) : Calls Try.prog 9 #[mx R C D, .int .i64 x, .int .i64 k] w fun e w' => e = .returned (.tuple #[.int .i64 (altV R C D x k), .bool (altB R C D x k)]) ∧ Below w.heap.size w w' := by
  obtain ⟨a, ha⟩ : ∃ a, a = altB R C D x k := ⟨_, rfl⟩
  obtain ⟨v, hv⟩ : ∃ v, v = altV R C D x k := ⟨_, rfl⟩
  rw [← ha, ← hv]
  obtain ⟨rb, hrb⟩ : ∃ rb, rb = readB R C D x := ⟨_, rfl⟩
  cases rb
  · obtain rfl : a = false := by rw [ha, altB, ← hrb]; rfl
    obtain rfl : v = 0 := by rw [hv, altV, ← ha]; rfl
    have HO := Lib.hid hrb
    clear ha hv hrb
    obtain ⟨W, hW⟩ : ∃ W, W = w.alloc (.cells #[.int .i64 (R), .int .i64 (C), .bool D] 25) := ⟨_, rfl⟩
    have HX0 := Lib.hid (show Boxed W w.heap.size (R) (C) D by rw [hW]; exact boxed_new _ _ _ _ _)
    have HB0 := Lib.hid (show Below w.heap.size w W by rw [hW]; exact (Below.refl _ _).alloc (Nat.le_refl _) _)
    have HS0 := Lib.hid (show w.heap.size < W.heap.size by rw [hW]; simp)
    have HW := Lib.hid hW
    clear hW
    go_enter Try.func9, Try.ntmps9
    go_wp2_with fail
    refine (implIsReading_any R C D x _).mono ?_
    rw [← HO.out]
    rintro e w1 ⟨rfl, hb⟩
    rw [← HW.out] at hb
    have HB1 := Lib.hid (HB0.out.trans (hb.mono HB0.out.size))
    have HS1 := Lib.hid (Nat.lt_of_lt_of_le HS0.out hb.size)
    have HX1 := Lib.hid (HX0.out.below hb HS0.out)
    obtain ⟨c0, c1, c2⟩ := HX1.out
    clear hb
    go_wp2
    go_ret2
    exact ⟨rfl, HB1.out⟩
  · obtain ⟨r, c, m, rfl, rfl, rfl, h1, h2, h3, h4, hm, hrd, hok⟩ := readB_nat hrb.symm
    have hkb := keysM_bound r c
    have hkm := keysM_nat h1 h2 h3 h4
    by_cases hk : 0 ≤ k ∧ k < keysM r c
    · obtain ⟨n, rfl⟩ := Int.eq_ofNat_of_zero_le hk.1
      have hn : n < r * c := by have := hk.2; rw [hkm] at this; omega
      have hn24 : n < 24 := Nat.lt_of_lt_of_le hn (rc_le h4 h2)
      have hm62 := lt62 h2 h4 hm
      have hp62 : 2 ^ n < 2 ^ 62 := pow62 (by omega)
      have haN : a = altN r c D m n := by rw [ha, altB, ← hrb, decide_eq_true hk]; simp
      have hvN : v = if a = true then (dif m (2 ^ n) : Int) else 0 := by rw [hv, altV, ← ha]; simp
      have hbit := bit_nat m n hm62
      have hdif := dif_nat m (2 ^ n) hm62 hp62
      have hw : wrap64 ((2 : Int) ^ n) = ((2 ^ n : Nat) : Int) := wrap64_pow62 (by omega)
      have hle := dif_lt (b := 2 ^ n) hm
      have hreadok : okMask r c (dif m (2 ^ n) : Nat) = true := okMask_mk h1 h2 h3 h4 hle
      have hreadv := readV_nat D hreadok
      obtain ⟨y, hy⟩ : ∃ y, y = dif m (2 ^ n) := ⟨_, rfl⟩
      rw [← hy] at hdif hle hvN hreadok hreadv
      obtain ⟨p, hp⟩ : ∃ p, p = 2 ^ n := ⟨_, rfl⟩
      rw [← hp] at hdif hw hp62
      have hkN : (n : Int) < ((r * c : Nat) : Int) := by omega
      obtain ⟨N, hN⟩ : ∃ N, N = r * c := ⟨_, rfl⟩
      rw [← hN] at hkN hkm
      have HKM := Lib.hid hkm
      have HO := Lib.hid hrb
      have HRO := Lib.hid hreadok
      have HRV := Lib.hid hreadv
      have HL := Lib.hid hle
      obtain ⟨hz1, hz2⟩ := hkb
      clear ha hv hrb hk hrd hok hm hkm hle hp hN hreadok hreadv hz1 hz2
      by_cases htb : m.testBit n = true
      · have hr : a = decide (readM r c D y = m) := by rw [haN, altN, htb, Bool.true_and, hy]
        have hbit1 : bits .and .i64 ((m : Int) / 2 ^ n) 1 = 1 := by rw [hbit, if_pos htb]
        clear hbit haN htb hy
        obtain ⟨z, hz⟩ : ∃ z, z = readM r c D y := ⟨_, rfl⟩
        rw [← hz] at hr
        have HZ := Lib.hid hz
        clear hz
        by_cases hzm : z = m
        · obtain rfl : a = true := by rw [hr, decide_eq_true hzm]
          obtain rfl : v = (y : Int) := by rw [hvN, if_pos rfl]
          have e1 : ((z : Int) == (m : Int)) = true := by rw [hzm]; simp
          have e2 : ((z : Int) != (m : Int)) = false := by rw [bne, e1]; rfl
          clear hr hvN hzm
          obtain ⟨W, hW⟩ : ∃ W, W = w.alloc (.cells #[.int .i64 (r), .int .i64 (c), .bool D] 25) := ⟨_, rfl⟩
          have HX0 := Lib.hid (show Boxed W w.heap.size (r) (c) D by rw [hW]; exact boxed_new _ _ _ _ _)
          have HB0 := Lib.hid (show Below w.heap.size w W by rw [hW]; exact (Below.refl _ _).alloc (Nat.le_refl _) _)
          have HS0 := Lib.hid (show w.heap.size < W.heap.size by rw [hW]; simp)
          have HW := Lib.hid hW
          clear hW
          go_enter Try.func9, Try.ntmps9
          go_wp2_with fail
          refine (implIsReading_any r c D m _).mono ?_
          rw [← HO.out]
          rintro e w1 ⟨rfl, hb⟩
          rw [← HW.out] at hb
          have HB1 := Lib.hid (HB0.out.trans (hb.mono HB0.out.size))
          have HS1 := Lib.hid (Nat.lt_of_lt_of_le HS0.out hb.size)
          have HX1 := Lib.hid (HX0.out.below hb HS0.out)
          obtain ⟨c0, c1, c2⟩ := HX1.out
          clear hb
          go_wp2_with fail
          refine (implKeyCount_any r c D _).mono ?_
          rw [HKM.out]
          rintro e w2 ⟨rfl, hb⟩
          have HB2 := Lib.hid (HB1.out.trans (hb.mono HB1.out.size))
          have HS2 := Lib.hid (Nat.lt_of_lt_of_le HS1.out hb.size)
          have HX2 := Lib.hid (HX1.out.below hb HS1.out)
          obtain ⟨c0, c1, c2⟩ := HX2.out
          clear hb
          go_wp2_with fail
          refine (implReadMatrix_any r c D y _).mono ?_
          rw [HRO.out, HRV.out, ← HZ.out]
          rintro e w3 ⟨rfl, hb⟩
          have HB3 := Lib.hid (HB2.out.trans (hb.mono HB2.out.size))
          have HS3 := Lib.hid (Nat.lt_of_lt_of_le HS2.out hb.size)
          have HX3 := Lib.hid (HX2.out.below hb HS2.out)
          obtain ⟨c0, c1, c2⟩ := HX3.out
          clear hb
          go_wp2
          go_ret2
          exact ⟨rfl, HB3.out⟩
        · obtain rfl : a = false := by rw [hr, decide_eq_false hzm]
          obtain rfl : v = 0 := by rw [hvN]; rfl
          have e1 : ((z : Int) == (m : Int)) = false := beq_false_of_ne (by omega)
          have e2 : ((z : Int) != (m : Int)) = true := by rw [bne, e1]; rfl
          clear hr hvN hzm
          obtain ⟨W, hW⟩ : ∃ W, W = w.alloc (.cells #[.int .i64 (r), .int .i64 (c), .bool D] 25) := ⟨_, rfl⟩
          have HX0 := Lib.hid (show Boxed W w.heap.size (r) (c) D by rw [hW]; exact boxed_new _ _ _ _ _)
          have HB0 := Lib.hid (show Below w.heap.size w W by rw [hW]; exact (Below.refl _ _).alloc (Nat.le_refl _) _)
          have HS0 := Lib.hid (show w.heap.size < W.heap.size by rw [hW]; simp)
          have HW := Lib.hid hW
          clear hW
          go_enter Try.func9, Try.ntmps9
          go_wp2_with fail
          refine (implIsReading_any r c D m _).mono ?_
          rw [← HO.out]
          rintro e w1 ⟨rfl, hb⟩
          rw [← HW.out] at hb
          have HB1 := Lib.hid (HB0.out.trans (hb.mono HB0.out.size))
          have HS1 := Lib.hid (Nat.lt_of_lt_of_le HS0.out hb.size)
          have HX1 := Lib.hid (HX0.out.below hb HS0.out)
          obtain ⟨c0, c1, c2⟩ := HX1.out
          clear hb
          go_wp2_with fail
          refine (implKeyCount_any r c D _).mono ?_
          rw [HKM.out]
          rintro e w2 ⟨rfl, hb⟩
          have HB2 := Lib.hid (HB1.out.trans (hb.mono HB1.out.size))
          have HS2 := Lib.hid (Nat.lt_of_lt_of_le HS1.out hb.size)
          have HX2 := Lib.hid (HX1.out.below hb HS1.out)
          obtain ⟨c0, c1, c2⟩ := HX2.out
          clear hb
          go_wp2_with fail
          refine (implReadMatrix_any r c D y _).mono ?_
          rw [HRO.out, HRV.out, ← HZ.out]
          rintro e w3 ⟨rfl, hb⟩
          have HB3 := Lib.hid (HB2.out.trans (hb.mono HB2.out.size))
          have HS3 := Lib.hid (Nat.lt_of_lt_of_le HS2.out hb.size)
          have HX3 := Lib.hid (HX2.out.below hb HS2.out)
          obtain ⟨c0, c1, c2⟩ := HX3.out
          clear hb
          go_wp2
          go_ret2
          exact ⟨rfl, HB3.out⟩
      · obtain rfl : a = false := by rw [haN, altN]; simp [htb]
        obtain rfl : v = 0 := by rw [hvN]; rfl
        have hbit0 : bits .and .i64 ((m : Int) / 2 ^ n) 1 = 0 := by rw [hbit, if_neg htb]
        clear hbit haN htb hy hvN hdif hw
        obtain ⟨W, hW⟩ : ∃ W, W = w.alloc (.cells #[.int .i64 (r), .int .i64 (c), .bool D] 25) := ⟨_, rfl⟩
        have HX0 := Lib.hid (show Boxed W w.heap.size (r) (c) D by rw [hW]; exact boxed_new _ _ _ _ _)
        have HB0 := Lib.hid (show Below w.heap.size w W by rw [hW]; exact (Below.refl _ _).alloc (Nat.le_refl _) _)
        have HS0 := Lib.hid (show w.heap.size < W.heap.size by rw [hW]; simp)
        have HW := Lib.hid hW
        clear hW
        go_enter Try.func9, Try.ntmps9
        go_wp2_with fail
        refine (implIsReading_any r c D m _).mono ?_
        rw [← HO.out]
        rintro e w1 ⟨rfl, hb⟩
        rw [← HW.out] at hb
        have HB1 := Lib.hid (HB0.out.trans (hb.mono HB0.out.size))
        have HS1 := Lib.hid (Nat.lt_of_lt_of_le HS0.out hb.size)
        have HX1 := Lib.hid (HX0.out.below hb HS0.out)
        obtain ⟨c0, c1, c2⟩ := HX1.out
        clear hb
        go_wp2_with fail
        refine (implKeyCount_any r c D _).mono ?_
        rw [HKM.out]
        rintro e w2 ⟨rfl, hb⟩
        have HB2 := Lib.hid (HB1.out.trans (hb.mono HB1.out.size))
        have HS2 := Lib.hid (Nat.lt_of_lt_of_le HS1.out hb.size)
        have HX2 := Lib.hid (HX1.out.below hb HS1.out)
        obtain ⟨c0, c1, c2⟩ := HX2.out
        clear hb
        go_wp2
        go_ret2
        exact ⟨rfl, HB2.out⟩
    · obtain rfl : a = false := by rw [ha, altB, ← hrb, decide_eq_false hk]; rfl
      obtain rfl : v = 0 := by rw [hv, altV, ← ha]; rfl
      have HO := Lib.hid hrb
      obtain ⟨hz1, hz2⟩ := hkb
      by_cases hneg : k < 0
      · clear ha hv hrb hk hrd hok hm hkm
        obtain ⟨W, hW⟩ : ∃ W, W = w.alloc (.cells #[.int .i64 (r), .int .i64 (c), .bool D] 25) := ⟨_, rfl⟩
        have HX0 := Lib.hid (show Boxed W w.heap.size (r) (c) D by rw [hW]; exact boxed_new _ _ _ _ _)
        have HB0 := Lib.hid (show Below w.heap.size w W by rw [hW]; exact (Below.refl _ _).alloc (Nat.le_refl _) _)
        have HS0 := Lib.hid (show w.heap.size < W.heap.size by rw [hW]; simp)
        have HW := Lib.hid hW
        clear hW
        go_enter Try.func9, Try.ntmps9
        go_wp2_with fail
        refine (implIsReading_any r c D m _).mono ?_
        rw [← HO.out]
        rintro e w1 ⟨rfl, hb⟩
        rw [← HW.out] at hb
        have HB1 := Lib.hid (HB0.out.trans (hb.mono HB0.out.size))
        have HS1 := Lib.hid (Nat.lt_of_lt_of_le HS0.out hb.size)
        have HX1 := Lib.hid (HX0.out.below hb HS0.out)
        obtain ⟨c0, c1, c2⟩ := HX1.out
        clear hb
        go_wp2
        go_ret2
        exact ⟨rfl, HB1.out⟩
      · have hge : keysM r c ≤ k := by omega
        clear ha hv hrb hk hrd hok hm hkm
        obtain ⟨W, hW⟩ : ∃ W, W = w.alloc (.cells #[.int .i64 (r), .int .i64 (c), .bool D] 25) := ⟨_, rfl⟩
        have HX0 := Lib.hid (show Boxed W w.heap.size (r) (c) D by rw [hW]; exact boxed_new _ _ _ _ _)
        have HB0 := Lib.hid (show Below w.heap.size w W by rw [hW]; exact (Below.refl _ _).alloc (Nat.le_refl _) _)
        have HS0 := Lib.hid (show w.heap.size < W.heap.size by rw [hW]; simp)
        have HW := Lib.hid hW
        clear hW
        go_enter Try.func9, Try.ntmps9
        go_wp2_with fail
        refine (implIsReading_any r c D m _).mono ?_
        rw [← HO.out]
        rintro e w1 ⟨rfl, hb⟩
        rw [← HW.out] at hb
        have HB1 := Lib.hid (HB0.out.trans (hb.mono HB0.out.size))
        have HS1 := Lib.hid (Nat.lt_of_lt_of_le HS0.out hb.size)
        have HX1 := Lib.hid (HX0.out.below hb HS0.out)
        obtain ⟨c0, c1, c2⟩ := HX1.out
        clear hb
        go_wp2_with fail
        refine (implKeyCount_any r c D _).mono ?_
        rintro e w2 ⟨rfl, hb⟩
        have HB2 := Lib.hid (HB1.out.trans (hb.mono HB1.out.size))
        have HS2 := Lib.hid (Nat.lt_of_lt_of_le HS1.out hb.size)
        have HX2 := Lib.hid (HX1.out.below hb HS1.out)
        obtain ⟨c0, c1, c2⟩ := HX2.out
        clear hb
        go_wp2
        go_ret2
        exact ⟨rfl, HB2.out⟩

set_option maxHeartbeats 2000000 in
theorem implClearKeys_any (R C : Int) (D : Bool) (x : Int) (w : World) : Calls Try.prog 7 #[mx R C D, .int .i64 x] w fun e w' => e = .returned (.int .i64 (clearV R C D x)) ∧ Below w.heap.size w w' := by
  obtain ⟨v, hv⟩ : ∃ v, v = clearV R C D x := ⟨_, rfl⟩
  rw [← hv]
  obtain ⟨rb, hrb⟩ : ∃ rb, rb = readB R C D x := ⟨_, rfl⟩
  cases rb
  · obtain rfl : v = 0 := by rw [hv, clearV, ← hrb]; rfl
    have HO := Lib.hid hrb
    clear hv hrb
    obtain ⟨W, hW⟩ : ∃ W, W = w.alloc (.cells #[.int .i64 (R), .int .i64 (C), .bool D] 25) := ⟨_, rfl⟩
    have HX0 := Lib.hid (show Boxed W w.heap.size (R) (C) D by rw [hW]; exact boxed_new _ _ _ _ _)
    have HB0 := Lib.hid (show Below w.heap.size w W by rw [hW]; exact (Below.refl _ _).alloc (Nat.le_refl _) _)
    have HS0 := Lib.hid (show w.heap.size < W.heap.size by rw [hW]; simp)
    have HW := Lib.hid hW
    clear hW
    go_enter Try.func7, Try.ntmps7
    go_wp2_with fail
    refine (implIsReading_any R C D x _).mono ?_
    rw [← HO.out]
    rintro e w1 ⟨rfl, hb⟩
    rw [← HW.out] at hb
    have HB1 := Lib.hid (HB0.out.trans (hb.mono HB0.out.size))
    have HS1 := Lib.hid (Nat.lt_of_lt_of_le HS0.out hb.size)
    have HX1 := Lib.hid (HX0.out.below hb HS0.out)
    obtain ⟨c0, c1, c2⟩ := HX1.out
    clear hb
    go_wp2
    go_ret
    exact ⟨rfl, HB1.out⟩
  · obtain ⟨r, c, m, rfl, rfl, rfl, h1, h2, h3, h4, hm, hrd, hok⟩ := readB_nat hrb.symm
    rw [clearV_nat hrb.symm] at hv
    have hkm := keysM_nat h1 h2 h3 h4
    have hrc := rc_le h4 h2
    have hm62 := lt62 h2 h4 hm
    obtain ⟨N, hN⟩ : ∃ N, N = r * c := ⟨_, rfl⟩
    rw [← hN] at hkm hrc hm
    have hvN : v = (dropN m (altN r c D m) N : Int) := by rw [hv, clearN, ← hN, keep_drop _ hm]
    have HO := Lib.hid hrb
    have HK := Lib.hid hkm
    have HM := Lib.hid hm
    have HN := Lib.hid hN
    have HV := Lib.hid hvN
    have H62 := Lib.hid hm62
    clear hv hrb hkm hm hN hvN hrd hok hm62
    obtain ⟨W, hW⟩ : ∃ W, W = w.alloc (.cells #[.int .i64 (r), .int .i64 (c), .bool D] 25) := ⟨_, rfl⟩
    have HX0 := Lib.hid (show Boxed W w.heap.size (r) (c) D by rw [hW]; exact boxed_new _ _ _ _ _)
    have HB0 := Lib.hid (show Below w.heap.size w W by rw [hW]; exact (Below.refl _ _).alloc (Nat.le_refl _) _)
    have HS0 := Lib.hid (show w.heap.size < W.heap.size by rw [hW]; simp)
    have HW := Lib.hid hW
    clear hW
    go_enter Try.func7, Try.ntmps7
    go_wp2_with fail
    refine (implIsReading_any r c D m _).mono ?_
    rw [← HO.out]
    rintro e w1 ⟨rfl, hb⟩
    rw [← HW.out] at hb
    have HB1 := Lib.hid (HB0.out.trans (hb.mono HB0.out.size))
    have HS1 := Lib.hid (Nat.lt_of_lt_of_le HS0.out hb.size)
    have HX1 := Lib.hid (HX0.out.below hb HS0.out)
    obtain ⟨c0, c1, c2⟩ := HX1.out
    clear hb
    go_wp2_with fail
    refine (implKeyCount_any r c D _).mono ?_
    rw [HK.out]
    rintro e w2 ⟨rfl, hb⟩
    have HB2 := Lib.hid (HB1.out.trans (hb.mono HB1.out.size))
    have HS2 := Lib.hid (Nat.lt_of_lt_of_le HS1.out hb.size)
    have HX2 := Lib.hid (HX1.out.below hb HS1.out)
    obtain ⟨c0, c1, c2⟩ := HX2.out
    clear hb
    go_wp2
    clear c0 c1 c2
    go_loopw [5, 6, 7, 8, 16] (fun o _ _ _ n wr => ∃ k : Nat, k ≤ N ∧ n = .int .i64 k ∧ o = .int .i64 (dropN m (altN r c D m) k) ∧ Below w.heap.size w wr ∧ w.heap.size < wr.heap.size ∧ Boxed wr w.heap.size r c D) (fun _ _ _ _ n _ => N - (intOf n).toNat)
    case atStart => exact ⟨0, Nat.zero_le _, rfl, rfl, HB2.out, HS2.out, HX2.out⟩
    case round =>
      obtain ⟨k, hk, rfl, rfl, hb, hs, hx⟩ := hrel
      obtain ⟨c0, c1, c2⟩ := hx
      obtain ⟨y, hy⟩ : ∃ y, y = dropN m (altN r c D m) k := ⟨_, rfl⟩
      have hy62 : y < 2 ^ 62 := by rw [hy]; exact dropN_lt _ H62.out k
      rw [← hy]
      have HB0 := Lib.hid hb
      have HS0 := Lib.hid hs
      have HX0 := Lib.hid (show Boxed wr w.heap.size r c D from ⟨c0, c1, c2⟩)
      have HY := Lib.hid hy
      have H6 := Lib.hid hy62
      clear hb hs hy hy62
      by_cases hlt : k < N
      · have hal : altB r c D m k = altN r c D m k := altB_nat HO.out.symm h1 h2 h3 h4 (by rw [← HN.out]; exact hlt)
        obtain ⟨f, hf⟩ : ∃ f, f = altN r c D m k := ⟨_, rfl⟩
        rw [← hf] at hal
        have hnext : dropN m (altN r c D m) (k + 1) = if f = true then dif y (2 ^ k) else y := by rw [hf, HY.out]; rfl
        have HA := Lib.hid hal
        have HF := Lib.hid hf
        clear hal hf
        cases f
        · have hn1 : dropN m (altN r c D m) (k + 1) = y := by rw [hnext]; rfl
          have HE := Lib.hid hn1
          clear hnext hn1
          go_wp2_with fail
          refine (implAlternative_any r c D m k _).mono ?_
          rw [HA.out]
          rintro e w1 ⟨rfl, hb⟩
          have HB1 := Lib.hid (HB0.out.trans (hb.mono HB0.out.size))
          have HS1 := Lib.hid (Nat.lt_of_lt_of_le HS0.out hb.size)
          have HX1 := Lib.hid (HX0.out.below hb HS0.out)
          obtain ⟨c0, c1, c2⟩ := HX1.out
          clear hb
          go_wp2
          go_roundw
          case rel => exact ⟨k + 1, by omega, by go_num, by rw [HE.out], HB1.out, HS1.out, HX1.out⟩
          case measure => simp [intOf]; omega
        · have hn1 : dropN m (altN r c D m) (k + 1) = dif y (2 ^ k) := by rw [hnext]; rfl
          have hw := wrap64_pow62 (k := k) (by omega)
          have hor := dif_nat y (2 ^ k) H6.out (pow62 (by omega))
          obtain ⟨p, hp⟩ : ∃ p, p = 2 ^ k := ⟨_, rfl⟩
          rw [← hp] at hn1 hw hor
          have HE := Lib.hid hn1
          clear hnext hn1 hp
          go_wp2_with fail
          refine (implAlternative_any r c D m k _).mono ?_
          rw [HA.out]
          rintro e w1 ⟨rfl, hb⟩
          have HB1 := Lib.hid (HB0.out.trans (hb.mono HB0.out.size))
          have HS1 := Lib.hid (Nat.lt_of_lt_of_le HS0.out hb.size)
          have HX1 := Lib.hid (HX0.out.below hb HS0.out)
          obtain ⟨c0, c1, c2⟩ := HX1.out
          clear hb
          go_wp2
          go_roundw
          case rel => exact ⟨k + 1, by omega, by go_num, by rw [HE.out], HB1.out, HS1.out, HX1.out⟩
          case measure => simp [intOf]; omega
      · obtain rfl : k = N := by omega
        have HE : Hid (v = (y : Int)) := Lib.hid (by rw [HV.out, HY.out])
        go_wp2
        go_ret
        exact ⟨ret_int HE.out.symm, HB0.out⟩

end Go.Proofs.Ytoapbpkhnfbloaa
