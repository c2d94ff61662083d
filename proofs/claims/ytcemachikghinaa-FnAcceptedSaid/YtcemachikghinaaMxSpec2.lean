/- DERIVED. The reference's Alternative, ClearKeys and AcceptReading, each called with any matrix and any numbers: it returns what a plain function says. -/
import Derived.Test.YtcemachikghinaaMxSpec
namespace Go.Proofs.Ytcemachikghinaa
open Go.RowKit

/-- Is the mask without key k read as the mask is? -/
def altN (r c : Nat) (D : Bool) (m k : Nat) : Bool := m.testBit k && decide (readM r c D (dif m (2 ^ k)) = m)
def altB (R C : Int) (D : Bool) (x k : Int) : Bool := readB R C D x && decide (0 ≤ k ∧ k < keysM R C) && altN R.toNat C.toNat D x.toNat k.toNat
def altV (R C : Int) (D : Bool) (x k : Int) : Int := if altB R C D x k = true then (dif x.toNat (2 ^ k.toNat) : Int) else 0

theorem readB_nat {R C x : Int} {D : Bool} (h : readB R C D x = true) : ∃ r c m : Nat, R = r ∧ C = c ∧ x = m ∧ 1 ≤ r ∧ r ≤ 4 ∧ 1 ≤ c ∧ c ≤ 6 ∧ m < 2 ^ (r * c) ∧ readM r c D m = m ∧ okMask R C x = true := by
  unfold readB at h
  rw [Bool.and_eq_true] at h
  obtain ⟨h0, h9⟩ := h
  obtain ⟨r, c, m, rfl, rfl, rfl, h1, h2, h3, h4, hm⟩ := okMask_nat h0
  refine ⟨r, c, m, rfl, rfl, rfl, h1, h2, h3, h4, hm, ?_, h0⟩
  rw [decide_eq_true_eq, readV_nat D h0] at h9
  omega

theorem bit_eq0 {b : Bool} : ((if b = true then (1 : Int) else 0) == 0) = !b := by cases b <;> rfl
theorem bit_ne0 {b : Bool} : ((if b = true then (1 : Int) else 0) != 0) = b := by cases b <;> rfl
theorem bit_eq1 {b : Bool} : ((if b = true then (1 : Int) else 0) == 1) = b := by cases b <;> rfl

set_option maxHeartbeats 1000000 in
theorem specAlternative_any (R C : Int) (D : Bool) (x k : Int) (w : World) : Calls Try.prog 32 #[mx R C D, .int .i64 x, .int .i64 k] w fun e w' => e = .returned (.tuple #[.int .i64 (altV R C D x k), .bool (altB R C D x k)]) ∧ Below w.heap.size w w' := by
  obtain ⟨a, ha⟩ : ∃ a, a = altB R C D x k := ⟨_, rfl⟩
  obtain ⟨v, hv⟩ : ∃ v, v = altV R C D x k := ⟨_, rfl⟩
  rw [← ha, ← hv]
  obtain ⟨rb, hrb⟩ : ∃ rb, rb = readB R C D x := ⟨_, rfl⟩
  cases rb
  · obtain rfl : a = false := by rw [ha, altB, ← hrb]; rfl
    obtain rfl : v = 0 := by rw [hv, altV, ← ha]; rfl
    have HO := Lib.hid hrb
    clear ha hv hrb
    obtain ⟨W, hW⟩ : ∃ W, W = w.alloc (.cells #[.int .i64 (R), .int .i64 (C), .bool D] 25) := ⟨_, rfl⟩
    have HX0 := Lib.hid (show Boxed W w.heap.size (R) (C) D by rw [hW]; exact boxed_new _ _ _ _ _)
    have HB0 := Lib.hid (show Below w.heap.size w W by rw [hW]; exact (Below.refl _ _).alloc (Nat.le_refl _) _)
    have HS0 := Lib.hid (show w.heap.size < W.heap.size by rw [hW]; simp)
    have HW := Lib.hid hW
    clear hW
    go_enter Try.func32, Try.ntmps32
    go_wp2_with fail
    refine (specIsReading_any R C D x _).mono ?_
    rw [← HO.out]
    rintro e w1 ⟨rfl, hb⟩
    rw [← HW.out] at hb
    have HB1 := Lib.hid (HB0.out.trans (hb.mono HB0.out.size))
    have HS1 := Lib.hid (Nat.lt_of_lt_of_le HS0.out hb.size)
    have HX1 := Lib.hid (HX0.out.below hb HS0.out)
    obtain ⟨c0, c1, c2⟩ := HX1.out
    clear hb
    go_wp2
    go_ret2
    exact ⟨rfl, HB1.out⟩
  · obtain ⟨r, c, m, rfl, rfl, rfl, h1, h2, h3, h4, hm, hrd, hok⟩ := readB_nat hrb.symm
    have hkb := keysM_bound r c
    have hkm := keysM_nat h1 h2 h3 h4
    by_cases hk : 0 ≤ k ∧ k < keysM r c
    · obtain ⟨n, rfl⟩ := Int.eq_ofNat_of_zero_le hk.1
      have hn : n < r * c := by have := hk.2; rw [hkm] at this; omega
      have hn24 : n < 24 := Nat.lt_of_lt_of_le hn (rc_le h4 h2)
      have hm62 := lt62 h2 h4 hm
      have hp62 : 2 ^ n < 2 ^ 62 := pow62 (by omega)
      have haN : a = altN r c D m n := by rw [ha, altB, ← hrb, decide_eq_true hk]; simp
      have hvN : v = if a = true then (dif m (2 ^ n) : Int) else 0 := by rw [hv, altV, ← ha]; simp
      have hbit := bit_nat m n hm62
      have hdif := dif_nat m (2 ^ n) hm62 hp62
      have hw : wrap64 ((2 : Int) ^ n) = ((2 ^ n : Nat) : Int) := wrap64_pow62 (by omega)
      have hle := dif_lt (b := 2 ^ n) hm
      obtain ⟨y, hy⟩ : ∃ y, y = dif m (2 ^ n) := ⟨_, rfl⟩
      rw [← hy] at hdif hle hvN
      obtain ⟨p, hp⟩ : ∃ p, p = 2 ^ n := ⟨_, rfl⟩
      rw [← hp] at hdif hw hp62
      have hf : decide (0 ≤ (n : Int) ∧ (n : Int) ≤ keysM r c - 1) = true := decide_eq_true (by omega)
      have HO := Lib.hid hrb
      have HK := Lib.hid hf
      have HL := Lib.hid hle
      obtain ⟨hz1, hz2⟩ := hkb
      clear ha hv hrb hk hf hrd hok hm hkm hle hp
      by_cases htb : m.testBit n = true
      · have hr : a = decide (readM r c D y = m) := by rw [haN, altN, htb, Bool.true_and, hy]
        have hbit1 : bits .and .i64 ((m : Int) / 2 ^ n) 1 = 1 := by rw [hbit, if_pos htb]
        clear hbit haN htb hy
        obtain ⟨z, hz⟩ : ∃ z, z = readM r c D y := ⟨_, rfl⟩
        rw [← hz] at hr
        have HZ := Lib.hid hz
        clear hz
        by_cases hzm : z = m
        · obtain rfl : a = true := by rw [hr, decide_eq_true hzm]
          obtain rfl : v = (y : Int) := by rw [hvN, if_pos rfl]
          have e1 : ((z : Int) == (m : Int)) = true := by rw [hzm]; simp
          have e2 : ((z : Int) != (m : Int)) = false := by rw [bne, e1]; rfl
          clear hr hvN hzm
          obtain ⟨W, hW⟩ : ∃ W, W = w.alloc (.cells #[.int .i64 (r), .int .i64 (c), .bool D] 25) := ⟨_, rfl⟩
          have HX0 := Lib.hid (show Boxed W w.heap.size (r) (c) D by rw [hW]; exact boxed_new _ _ _ _ _)
          have HB0 := Lib.hid (show Below w.heap.size w W by rw [hW]; exact (Below.refl _ _).alloc (Nat.le_refl _) _)
          have HS0 := Lib.hid (show w.heap.size < W.heap.size by rw [hW]; simp)
          have HW := Lib.hid hW
          clear hW
          go_enter Try.func32, Try.ntmps32
          go_wp2_with fail
          refine (specIsReading_any r c D m _).mono ?_
          rw [← HO.out]
          rintro e w1 ⟨rfl, hb⟩
          rw [← HW.out] at hb
          have HB1 := Lib.hid (HB0.out.trans (hb.mono HB0.out.size))
          have HS1 := Lib.hid (Nat.lt_of_lt_of_le HS0.out hb.size)
          have HX1 := Lib.hid (HX0.out.below hb HS0.out)
          obtain ⟨c0, c1, c2⟩ := HX1.out
          clear hb
          go_wp2_with fail
          refine (specKeyCount_any r c D _).mono ?_
          rintro e w2 ⟨rfl, hb⟩
          have HB2 := Lib.hid (HB1.out.trans (hb.mono HB1.out.size))
          have HS2 := Lib.hid (Nat.lt_of_lt_of_le HS1.out hb.size)
          have HX2 := Lib.hid (HX1.out.below hb HS1.out)
          obtain ⟨c0, c1, c2⟩ := HX2.out
          clear hb
          go_wp2_with fail
          refine (l1In_any n 0 (keysM r c - 1) _).mono ?_
          rw [HK.out]
          rintro e w0 ⟨rfl, rfl⟩
          go_wp2_with fail
          refine (l2Read_any r c y D _ h1 h2 h4 HL.out).mono ?_
          rw [← HZ.out]
          rintro e w3 ⟨rfl, hb⟩
          have HB3 := Lib.hid (HB2.out.trans (hb.mono HB2.out.size))
          have HS3 := Lib.hid (Nat.lt_of_lt_of_le HS2.out hb.size)
          have HX3 := Lib.hid (HX2.out.below hb HS2.out)
          obtain ⟨c0, c1, c2⟩ := HX3.out
          clear hb
          go_wp2
          go_ret2
          exact ⟨rfl, HB3.out⟩
        · obtain rfl : a = false := by rw [hr, decide_eq_false hzm]
          obtain rfl : v = 0 := by rw [hvN]; rfl
          have e1 : ((z : Int) == (m : Int)) = false := beq_false_of_ne (by omega)
          have e2 : ((z : Int) != (m : Int)) = true := by rw [bne, e1]; rfl
          clear hr hvN hzm
          obtain ⟨W, hW⟩ : ∃ W, W = w.alloc (.cells #[.int .i64 (r), .int .i64 (c), .bool D] 25) := ⟨_, rfl⟩
          have HX0 := Lib.hid (show Boxed W w.heap.size (r) (c) D by rw [hW]; exact boxed_new _ _ _ _ _)
          have HB0 := Lib.hid (show Below w.heap.size w W by rw [hW]; exact (Below.refl _ _).alloc (Nat.le_refl _) _)
          have HS0 := Lib.hid (show w.heap.size < W.heap.size by rw [hW]; simp)
          have HW := Lib.hid hW
          clear hW
          go_enter Try.func32, Try.ntmps32
          go_wp2_with fail
          refine (specIsReading_any r c D m _).mono ?_
          rw [← HO.out]
          rintro e w1 ⟨rfl, hb⟩
          rw [← HW.out] at hb
          have HB1 := Lib.hid (HB0.out.trans (hb.mono HB0.out.size))
          have HS1 := Lib.hid (Nat.lt_of_lt_of_le HS0.out hb.size)
          have HX1 := Lib.hid (HX0.out.below hb HS0.out)
          obtain ⟨c0, c1, c2⟩ := HX1.out
          clear hb
          go_wp2_with fail
          refine (specKeyCount_any r c D _).mono ?_
          rintro e w2 ⟨rfl, hb⟩
          have HB2 := Lib.hid (HB1.out.trans (hb.mono HB1.out.size))
          have HS2 := Lib.hid (Nat.lt_of_lt_of_le HS1.out hb.size)
          have HX2 := Lib.hid (HX1.out.below hb HS1.out)
          obtain ⟨c0, c1, c2⟩ := HX2.out
          clear hb
          go_wp2_with fail
          refine (l1In_any n 0 (keysM r c - 1) _).mono ?_
          rw [HK.out]
          rintro e w0 ⟨rfl, rfl⟩
          go_wp2_with fail
          refine (l2Read_any r c y D _ h1 h2 h4 HL.out).mono ?_
          rw [← HZ.out]
          rintro e w3 ⟨rfl, hb⟩
          have HB3 := Lib.hid (HB2.out.trans (hb.mono HB2.out.size))
          have HS3 := Lib.hid (Nat.lt_of_lt_of_le HS2.out hb.size)
          have HX3 := Lib.hid (HX2.out.below hb HS2.out)
          obtain ⟨c0, c1, c2⟩ := HX3.out
          clear hb
          go_wp2
          go_ret2
          exact ⟨rfl, HB3.out⟩
      · obtain rfl : a = false := by rw [haN, altN]; simp [htb]
        obtain rfl : v = 0 := by rw [hvN]; rfl
        have hbit0 : bits .and .i64 ((m : Int) / 2 ^ n) 1 = 0 := by rw [hbit, if_neg htb]
        clear hbit haN htb hy hvN hdif hw
        obtain ⟨W, hW⟩ : ∃ W, W = w.alloc (.cells #[.int .i64 (r), .int .i64 (c), .bool D] 25) := ⟨_, rfl⟩
        have HX0 := Lib.hid (show Boxed W w.heap.size (r) (c) D by rw [hW]; exact boxed_new _ _ _ _ _)
        have HB0 := Lib.hid (show Below w.heap.size w W by rw [hW]; exact (Below.refl _ _).alloc (Nat.le_refl _) _)
        have HS0 := Lib.hid (show w.heap.size < W.heap.size by rw [hW]; simp)
        have HW := Lib.hid hW
        clear hW
        go_enter Try.func32, Try.ntmps32
        go_wp2_with fail
        refine (specIsReading_any r c D m _).mono ?_
        rw [← HO.out]
        rintro e w1 ⟨rfl, hb⟩
        rw [← HW.out] at hb
        have HB1 := Lib.hid (HB0.out.trans (hb.mono HB0.out.size))
        have HS1 := Lib.hid (Nat.lt_of_lt_of_le HS0.out hb.size)
        have HX1 := Lib.hid (HX0.out.below hb HS0.out)
        obtain ⟨c0, c1, c2⟩ := HX1.out
        clear hb
        go_wp2_with fail
        refine (specKeyCount_any r c D _).mono ?_
        rintro e w2 ⟨rfl, hb⟩
        have HB2 := Lib.hid (HB1.out.trans (hb.mono HB1.out.size))
        have HS2 := Lib.hid (Nat.lt_of_lt_of_le HS1.out hb.size)
        have HX2 := Lib.hid (HX1.out.below hb HS1.out)
        obtain ⟨c0, c1, c2⟩ := HX2.out
        clear hb
        go_wp2_with fail
        refine (l1In_any n 0 (keysM r c - 1) _).mono ?_
        rw [HK.out]
        rintro e w0 ⟨rfl, rfl⟩
        go_wp2
        go_ret2
        exact ⟨rfl, HB2.out⟩
    · obtain rfl : a = false := by rw [ha, altB, ← hrb, decide_eq_false hk]; rfl
      obtain rfl : v = 0 := by rw [hv, altV, ← ha]; rfl
      have hf : decide (0 ≤ k ∧ k ≤ keysM r c - 1) = false := decide_eq_false (by omega)
      have HO := Lib.hid hrb
      have HK := Lib.hid hf
      obtain ⟨hz1, hz2⟩ := hkb
      clear ha hv hrb hk hf hrd hok hm hkm
      obtain ⟨W, hW⟩ : ∃ W, W = w.alloc (.cells #[.int .i64 (r), .int .i64 (c), .bool D] 25) := ⟨_, rfl⟩
      have HX0 := Lib.hid (show Boxed W w.heap.size (r) (c) D by rw [hW]; exact boxed_new _ _ _ _ _)
      have HB0 := Lib.hid (show Below w.heap.size w W by rw [hW]; exact (Below.refl _ _).alloc (Nat.le_refl _) _)
      have HS0 := Lib.hid (show w.heap.size < W.heap.size by rw [hW]; simp)
      have HW := Lib.hid hW
      clear hW
      go_enter Try.func32, Try.ntmps32
      go_wp2_with fail
      refine (specIsReading_any r c D m _).mono ?_
      rw [← HO.out]
      rintro e w1 ⟨rfl, hb⟩
      rw [← HW.out] at hb
      have HB1 := Lib.hid (HB0.out.trans (hb.mono HB0.out.size))
      have HS1 := Lib.hid (Nat.lt_of_lt_of_le HS0.out hb.size)
      have HX1 := Lib.hid (HX0.out.below hb HS0.out)
      obtain ⟨c0, c1, c2⟩ := HX1.out
      clear hb
      go_wp2_with fail
      refine (specKeyCount_any r c D _).mono ?_
      rintro e w2 ⟨rfl, hb⟩
      have HB2 := Lib.hid (HB1.out.trans (hb.mono HB1.out.size))
      have HS2 := Lib.hid (Nat.lt_of_lt_of_le HS1.out hb.size)
      have HX2 := Lib.hid (HX1.out.below hb HS1.out)
      obtain ⟨c0, c1, c2⟩ := HX2.out
      clear hb
      go_wp2_with fail
      refine (l1In_any k 0 (keysM r c - 1) _).mono ?_
      rw [HK.out]
      rintro e w0 ⟨rfl, rfl⟩
      go_wp2
      go_ret2
      exact ⟨rfl, HB2.out⟩

/-- The bits of m, up to n, at which f says no: gathered, or the others struck. -/
def keepN (m : Nat) (f : Nat → Bool) : Nat → Nat
  | 0 => 0
  | n + 1 => if (m.testBit n && !f n) = true then keepN m f n ||| 2 ^ n else keepN m f n
def dropN (m : Nat) (f : Nat → Bool) : Nat → Nat
  | 0 => m
  | n + 1 => if f n = true then dif (dropN m f n) (2 ^ n) else dropN m f n
theorem keepN_bit (m : Nat) (f : Nat → Bool) (i : Nat) : ∀ n, (keepN m f n).testBit i = (decide (i < n) && (m.testBit i && !f i))
  | 0 => by simp [keepN]
  | n + 1 => by
    rw [keepN]
    have ih := keepN_bit m f i n
    by_cases hi : i = n
    · subst hi
      cases h : (m.testBit i && !f i)
      · simp [ih]
      · simp [Nat.testBit_two_pow_self]
    · have e : decide (i < n + 1) = decide (i < n) := by simp; omega
      rw [e]
      split
      · rw [Nat.testBit_or, ih, Nat.testBit_two_pow_of_ne (fun h => hi h.symm), Bool.or_false]
      · exact ih
theorem dropN_bit (m : Nat) (f : Nat → Bool) (i : Nat) : ∀ n, (dropN m f n).testBit i = (m.testBit i && !(decide (i < n) && f i))
  | 0 => by simp [dropN]
  | n + 1 => by
    rw [dropN]
    have ih := dropN_bit m f i n
    by_cases hi : i = n
    · subst hi
      cases h : f i
      · simp [ih, h]
      · simp [dif_bit, Nat.testBit_two_pow_self]
    · have e : decide (i < n + 1) = decide (i < n) := by simp; omega
      rw [e]
      split
      · rw [dif_bit, ih, Nat.testBit_two_pow_of_ne (fun h => hi h.symm), Bool.not_false, Bool.and_true]
      · exact ih
theorem keep_drop {m n : Nat} (f : Nat → Bool) (h : m < 2 ^ n) : keepN m f n = dropN m f n := by
  apply Nat.eq_of_testBit_eq
  intro i
  rw [keepN_bit, dropN_bit]
  by_cases hi : i < n
  · simp [hi]
  · rw [Nat.testBit_lt_two_pow (Nat.lt_of_lt_of_le h (Nat.pow_le_pow_right (by omega) (by omega)))]
    simp [hi]
theorem keepN_lt {m : Nat} (f : Nat → Bool) {k : Nat} (h : m < 2 ^ k) : ∀ n, keepN m f n < 2 ^ k := fun n => by
  apply Nat.lt_pow_two_of_testBit
  intro i hi
  rw [keepN_bit, Nat.testBit_lt_two_pow (Nat.lt_of_lt_of_le h (Nat.pow_le_pow_right (by omega) hi))]
  simp
theorem dropN_lt {m : Nat} (f : Nat → Bool) {k : Nat} (h : m < 2 ^ k) : ∀ n, dropN m f n < 2 ^ k := fun n => by
  apply Nat.lt_pow_two_of_testBit
  intro i hi
  rw [dropN_bit, Nat.testBit_lt_two_pow (Nat.lt_of_lt_of_le h (Nat.pow_le_pow_right (by omega) hi))]
  simp
/-- The keys of a reading that are certain. -/
def clearN (r c : Nat) (D : Bool) (m : Nat) : Nat := keepN m (altN r c D m) (r * c)
def clearV (R C : Int) (D : Bool) (x : Int) : Int := if readB R C D x = true then (clearN R.toNat C.toNat D x.toNat : Int) else 0
theorem clearV_nat {r c m : Nat} {D : Bool} (h : readB r c D m = true) : clearV r c D m = (clearN r c D m : Int) := by
  unfold clearV
  rw [if_pos h]
  simp
theorem altB_nat {r c m n : Nat} {D : Bool} (h : readB r c D m = true) (h1 : 1 ≤ r) (h2 : r ≤ 4) (h3 : 1 ≤ c) (h4 : c ≤ 6) (hn : n < r * c) : altB r c D m n = altN r c D m n := by
  have hk : 0 ≤ (n : Int) ∧ (n : Int) < keysM r c := by rw [keysM_nat h1 h2 h3 h4]; omega
  unfold altB
  rw [h, decide_eq_true hk]
  simp

set_option maxHeartbeats 2000000 in
theorem specClearKeys_any (R C : Int) (D : Bool) (x : Int) (w : World) : Calls Try.prog 34 #[mx R C D, .int .i64 x] w fun e w' => e = .returned (.int .i64 (clearV R C D x)) ∧ Below w.heap.size w w' := by
  obtain ⟨v, hv⟩ : ∃ v, v = clearV R C D x := ⟨_, rfl⟩
  rw [← hv]
  obtain ⟨rb, hrb⟩ : ∃ rb, rb = readB R C D x := ⟨_, rfl⟩
  obtain ⟨hz1, hz2⟩ := keysM_bound R C
  cases rb
  · obtain rfl : v = 0 := by rw [hv, clearV, ← hrb]; rfl
    have HO := Lib.hid hrb
    clear hv hrb
    by_cases h0 : 0 < keysM R C
    · obtain ⟨W, hW⟩ : ∃ W, W = w.alloc (.cells #[.int .i64 (R), .int .i64 (C), .bool D] 25) := ⟨_, rfl⟩
      have HX0 := Lib.hid (show Boxed W w.heap.size (R) (C) D by rw [hW]; exact boxed_new _ _ _ _ _)
      have HB0 := Lib.hid (show Below w.heap.size w W by rw [hW]; exact (Below.refl _ _).alloc (Nat.le_refl _) _)
      have HS0 := Lib.hid (show w.heap.size < W.heap.size by rw [hW]; simp)
      have HW := Lib.hid hW
      clear hW
      go_enter Try.func34, Try.ntmps34
      go_wp2
      refine wp_loop_rounds 1 ?_
      rw [rounds_succ]
      go_wp2_with fail
      refine (specKeyCount_any R C D _).mono ?_
      rintro e w1 ⟨rfl, hb⟩
      rw [← HW.out] at hb
      have HB1 := Lib.hid (HB0.out.trans (hb.mono HB0.out.size))
      have HS1 := Lib.hid (Nat.lt_of_lt_of_le HS0.out hb.size)
      have HX1 := Lib.hid (HX0.out.below hb HS0.out)
      obtain ⟨c0, c1, c2⟩ := HX1.out
      clear hb
      go_wp2_with fail
      refine (specIsReading_any R C D x _).mono ?_
      rw [← HO.out]
      rintro e w2 ⟨rfl, hb⟩
      have HB2 := Lib.hid (HB1.out.trans (hb.mono HB1.out.size))
      have HS2 := Lib.hid (Nat.lt_of_lt_of_le HS1.out hb.size)
      have HX2 := Lib.hid (HX1.out.below hb HS1.out)
      obtain ⟨c0, c1, c2⟩ := HX2.out
      clear hb
      go_wp2
      go_ret
      exact ⟨rfl, HB2.out⟩
    · obtain ⟨W, hW⟩ : ∃ W, W = w.alloc (.cells #[.int .i64 (R), .int .i64 (C), .bool D] 25) := ⟨_, rfl⟩
      have HX0 := Lib.hid (show Boxed W w.heap.size (R) (C) D by rw [hW]; exact boxed_new _ _ _ _ _)
      have HB0 := Lib.hid (show Below w.heap.size w W by rw [hW]; exact (Below.refl _ _).alloc (Nat.le_refl _) _)
      have HS0 := Lib.hid (show w.heap.size < W.heap.size by rw [hW]; simp)
      have HW := Lib.hid hW
      clear hW
      go_enter Try.func34, Try.ntmps34
      go_wp2
      refine wp_loop_rounds 1 ?_
      rw [rounds_succ]
      go_wp2_with fail
      refine (specKeyCount_any R C D _).mono ?_
      rintro e w1 ⟨rfl, hb⟩
      rw [← HW.out] at hb
      have HB1 := Lib.hid (HB0.out.trans (hb.mono HB0.out.size))
      have HS1 := Lib.hid (Nat.lt_of_lt_of_le HS0.out hb.size)
      have HX1 := Lib.hid (HX0.out.below hb HS0.out)
      obtain ⟨c0, c1, c2⟩ := HX1.out
      clear hb
      go_wp2
      go_ret
      exact ⟨rfl, HB1.out⟩
  · obtain ⟨r, c, m, rfl, rfl, rfl, h1, h2, h3, h4, hm, hrd, hok⟩ := readB_nat hrb.symm
    rw [clearV_nat hrb.symm] at hv
    have hkm := keysM_nat h1 h2 h3 h4
    have hrc := rc_le h4 h2
    have hm62 := lt62 h2 h4 hm
    obtain ⟨N, hN⟩ : ∃ N, N = r * c := ⟨_, rfl⟩
    rw [← hN] at hkm hrc hm
    have hvN : v = (keepN m (altN r c D m) N : Int) := by rw [hv, clearN, hN]
    have HO := Lib.hid hrb
    have HK := Lib.hid hkm
    have HM := Lib.hid hm
    have HN := Lib.hid hN
    have HV := Lib.hid hvN
    have H62 := Lib.hid hm62
    clear hv hrb hkm hm hN hvN hrd hok hm62 hz1 hz2
    obtain ⟨W, hW⟩ : ∃ W, W = w.alloc (.cells #[.int .i64 (r), .int .i64 (c), .bool D] 25) := ⟨_, rfl⟩
    have HX0 := Lib.hid (show Boxed W w.heap.size (r) (c) D by rw [hW]; exact boxed_new _ _ _ _ _)
    have HB0 := Lib.hid (show Below w.heap.size w W by rw [hW]; exact (Below.refl _ _).alloc (Nat.le_refl _) _)
    have HS0 := Lib.hid (show w.heap.size < W.heap.size by rw [hW]; simp)
    have HW := Lib.hid hW
    clear hW
    go_enter Try.func34, Try.ntmps34
    go_wp2
    rw [← HW.out]
    go_loopw [5, 6] (fun o n wr => ∃ k : Nat, k ≤ N ∧ n = .int .i64 k ∧ o = .int .i64 (keepN m (altN r c D m) k) ∧ Below w.heap.size w wr ∧ w.heap.size < wr.heap.size ∧ Boxed wr w.heap.size r c D) (fun _ n _ => N - (intOf n).toNat)
    case atStart => exact ⟨0, Nat.zero_le _, rfl, rfl, HB0.out, HS0.out, HX0.out⟩
    case round =>
      obtain ⟨k, hk, rfl, rfl, hb, hs, hx⟩ := hrel
      obtain ⟨c0, c1, c2⟩ := hx
      obtain ⟨y, hy⟩ : ∃ y, y = keepN m (altN r c D m) k := ⟨_, rfl⟩
      have hy62 : y < 2 ^ 62 := by rw [hy]; exact keepN_lt _ H62.out k
      rw [← hy]
      have HB0 := Lib.hid hb
      have HS0 := Lib.hid hs
      have HX0 := Lib.hid (show Boxed wr w.heap.size r c D from ⟨c0, c1, c2⟩)
      have HY := Lib.hid hy
      have H6 := Lib.hid hy62
      clear hb hs hy hy62
      by_cases hlt : k < N
      · have hal : altB r c D m k = altN r c D m k := altB_nat HO.out.symm h1 h2 h3 h4 (by rw [← HN.out]; exact hlt)
        have hbit := bit_nat m k H62.out
        obtain ⟨t, ht⟩ : ∃ t, t = m.testBit k := ⟨_, rfl⟩
        obtain ⟨f, hf⟩ : ∃ f, f = altN r c D m k := ⟨_, rfl⟩
        rw [← ht] at hbit
        rw [← hf] at hal
        have hnext : keepN m (altN r c D m) (k + 1) = if (t && !f) = true then y ||| 2 ^ k else y := by rw [ht, hf, HY.out]; rfl
        have HA := Lib.hid hal
        have HT := Lib.hid ht
        have HF := Lib.hid hf
        clear hal ht hf
        cases t
        · have hb0 : bits .and .i64 ((m : Int) / 2 ^ k) 1 = 0 := by rw [hbit]; rfl
          have hn1 : keepN m (altN r c D m) (k + 1) = y := by rw [hnext]; rfl
          have HE := Lib.hid hn1
          clear hbit hnext hn1
          go_wp2_with fail
          refine (specKeyCount_any r c D _).mono ?_
          rw [HK.out]
          rintro e w1 ⟨rfl, hb⟩
          have HB1 := Lib.hid (HB0.out.trans (hb.mono HB0.out.size))
          have HS1 := Lib.hid (Nat.lt_of_lt_of_le HS0.out hb.size)
          have HX1 := Lib.hid (HX0.out.below hb HS0.out)
          obtain ⟨c0, c1, c2⟩ := HX1.out
          clear hb
          go_wp2_with fail
          refine (specIsReading_any r c D m _).mono ?_
          rw [← HO.out]
          rintro e w2 ⟨rfl, hb⟩
          have HB2 := Lib.hid (HB1.out.trans (hb.mono HB1.out.size))
          have HS2 := Lib.hid (Nat.lt_of_lt_of_le HS1.out hb.size)
          have HX2 := Lib.hid (HX1.out.below hb HS1.out)
          obtain ⟨c0, c1, c2⟩ := HX2.out
          clear hb
          go_wp2_with fail
          refine (specAlternative_any r c D m k _).mono ?_
          rw [HA.out]
          rintro e w3 ⟨rfl, hb⟩
          have HB3 := Lib.hid (HB2.out.trans (hb.mono HB2.out.size))
          have HS3 := Lib.hid (Nat.lt_of_lt_of_le HS2.out hb.size)
          have HX3 := Lib.hid (HX2.out.below hb HS2.out)
          obtain ⟨c0, c1, c2⟩ := HX3.out
          clear hb
          go_wp2
          go_roundw
          case rel => exact ⟨k + 1, by omega, by go_num, by rw [HE.out], HB3.out, HS3.out, HX3.out⟩
          case measure => simp [intOf]; omega
        · have hb0 : bits .and .i64 ((m : Int) / 2 ^ k) 1 = 1 := by rw [hbit]; rfl
          cases f
          · have hn1 : keepN m (altN r c D m) (k + 1) = y ||| 2 ^ k := by rw [hnext]; rfl
            have hw := wrap64_pow62 (k := k) (by omega)
            have hor := or_nat y (2 ^ k) H6.out (pow62 (by omega))
            obtain ⟨p, hp⟩ : ∃ p, p = 2 ^ k := ⟨_, rfl⟩
            rw [← hp] at hn1 hw hor
            have HE := Lib.hid hn1
            clear hbit hnext hn1 hp
            go_wp2_with fail
            refine (specKeyCount_any r c D _).mono ?_
            rw [HK.out]
            rintro e w1 ⟨rfl, hb⟩
            have HB1 := Lib.hid (HB0.out.trans (hb.mono HB0.out.size))
            have HS1 := Lib.hid (Nat.lt_of_lt_of_le HS0.out hb.size)
            have HX1 := Lib.hid (HX0.out.below hb HS0.out)
            obtain ⟨c0, c1, c2⟩ := HX1.out
            clear hb
            go_wp2_with fail
            refine (specIsReading_any r c D m _).mono ?_
            rw [← HO.out]
            rintro e w2 ⟨rfl, hb⟩
            have HB2 := Lib.hid (HB1.out.trans (hb.mono HB1.out.size))
            have HS2 := Lib.hid (Nat.lt_of_lt_of_le HS1.out hb.size)
            have HX2 := Lib.hid (HX1.out.below hb HS1.out)
            obtain ⟨c0, c1, c2⟩ := HX2.out
            clear hb
            go_wp2_with fail
            refine (specAlternative_any r c D m k _).mono ?_
            rw [HA.out]
            rintro e w3 ⟨rfl, hb⟩
            have HB3 := Lib.hid (HB2.out.trans (hb.mono HB2.out.size))
            have HS3 := Lib.hid (Nat.lt_of_lt_of_le HS2.out hb.size)
            have HX3 := Lib.hid (HX2.out.below hb HS2.out)
            obtain ⟨c0, c1, c2⟩ := HX3.out
            clear hb
            go_wp2
            go_roundw
            case rel => exact ⟨k + 1, by omega, by go_num, by rw [HE.out], HB3.out, HS3.out, HX3.out⟩
            case measure => simp [intOf]; omega
          · have hn1 : keepN m (altN r c D m) (k + 1) = y := by rw [hnext]; rfl
            have HE := Lib.hid hn1
            clear hbit hnext hn1
            go_wp2_with fail
            refine (specKeyCount_any r c D _).mono ?_
            rw [HK.out]
            rintro e w1 ⟨rfl, hb⟩
            have HB1 := Lib.hid (HB0.out.trans (hb.mono HB0.out.size))
            have HS1 := Lib.hid (Nat.lt_of_lt_of_le HS0.out hb.size)
            have HX1 := Lib.hid (HX0.out.below hb HS0.out)
            obtain ⟨c0, c1, c2⟩ := HX1.out
            clear hb
            go_wp2_with fail
            refine (specIsReading_any r c D m _).mono ?_
            rw [← HO.out]
            rintro e w2 ⟨rfl, hb⟩
            have HB2 := Lib.hid (HB1.out.trans (hb.mono HB1.out.size))
            have HS2 := Lib.hid (Nat.lt_of_lt_of_le HS1.out hb.size)
            have HX2 := Lib.hid (HX1.out.below hb HS1.out)
            obtain ⟨c0, c1, c2⟩ := HX2.out
            clear hb
            go_wp2_with fail
            refine (specAlternative_any r c D m k _).mono ?_
            rw [HA.out]
            rintro e w3 ⟨rfl, hb⟩
            have HB3 := Lib.hid (HB2.out.trans (hb.mono HB2.out.size))
            have HS3 := Lib.hid (Nat.lt_of_lt_of_le HS2.out hb.size)
            have HX3 := Lib.hid (HX2.out.below hb HS2.out)
            obtain ⟨c0, c1, c2⟩ := HX3.out
            clear hb
            go_wp2
            go_roundw
            case rel => exact ⟨k + 1, by omega, by go_num, by rw [HE.out], HB3.out, HS3.out, HX3.out⟩
            case measure => simp [intOf]; omega
      · obtain rfl : k = N := by omega
        have HE : Hid (v = (y : Int)) := Lib.hid (by rw [HV.out, HY.out])
        go_wp2_with fail
        refine (specKeyCount_any r c D _).mono ?_
        rw [HK.out]
        rintro e w1 ⟨rfl, hb⟩
        have HB1 := Lib.hid (HB0.out.trans (hb.mono HB0.out.size))
        have HS1 := Lib.hid (Nat.lt_of_lt_of_le HS0.out hb.size)
        have HX1 := Lib.hid (HX0.out.below hb HS0.out)
        obtain ⟨c0, c1, c2⟩ := HX1.out
        clear hb
        go_wp2
        go_ret
        exact ⟨ret_int HE.out.symm, HB1.out⟩

/-- What is accepted of a reading. -/
def accB (R C : Int) (D : Bool) (o x : Int) : Bool := okMask R C o && readB R C D x
def accV (R C : Int) (D : Bool) (o x : Int) : Int := if accB R C D o x = true then ((x.toNat &&& (o.toNat ||| clearN R.toNat C.toNat D x.toNat) : Nat) : Int) else 0

set_option maxHeartbeats 1000000 in
theorem specAcceptReading_any (R C : Int) (D : Bool) (o x : Int) (w : World) : Calls Try.prog 35 #[mx R C D, .int .i64 o, .int .i64 x] w fun e w' => e = .returned (.tuple #[.int .i64 (accV R C D o x), .bool (accB R C D o x)]) ∧ Below w.heap.size w w' := by
  obtain ⟨a, ha⟩ : ∃ a, a = accB R C D o x := ⟨_, rfl⟩
  obtain ⟨v, hv⟩ : ∃ v, v = accV R C D o x := ⟨_, rfl⟩
  rw [← ha, ← hv]
  obtain ⟨ok, hok⟩ : ∃ ok, ok = okMask R C o := ⟨_, rfl⟩
  obtain ⟨rb, hrb⟩ : ∃ rb, rb = readB R C D x := ⟨_, rfl⟩
  have ha' : a = (ok && rb) := by rw [ha, accB, hok, hrb]
  cases ok
  · obtain rfl : a = false := ha'
    obtain rfl : v = 0 := by rw [hv, accV, ← ha]; rfl
    have HO := Lib.hid hok
    clear hv ha hok hrb
    obtain ⟨W, hW⟩ : ∃ W, W = w.alloc (.cells #[.int .i64 (R), .int .i64 (C), .bool D] 25) := ⟨_, rfl⟩
    have HX0 := Lib.hid (show Boxed W w.heap.size (R) (C) D by rw [hW]; exact boxed_new _ _ _ _ _)
    have HB0 := Lib.hid (show Below w.heap.size w W by rw [hW]; exact (Below.refl _ _).alloc (Nat.le_refl _) _)
    have HS0 := Lib.hid (show w.heap.size < W.heap.size by rw [hW]; simp)
    have HW := Lib.hid hW
    clear hW
    go_enter Try.func35, Try.ntmps35
    go_wp2_with fail
    refine (specIsMask_any R C D o _).mono ?_
    rw [← HO.out]
    rintro e w1 ⟨rfl, hb⟩
    rw [← HW.out] at hb
    have HB1 := Lib.hid (HB0.out.trans (hb.mono HB0.out.size))
    have HS1 := Lib.hid (Nat.lt_of_lt_of_le HS0.out hb.size)
    have HX1 := Lib.hid (HX0.out.below hb HS0.out)
    obtain ⟨c0, c1, c2⟩ := HX1.out
    clear hb
    go_wp2
    go_ret2
    exact ⟨rfl, HB1.out⟩
  · cases rb
    · obtain rfl : a = false := ha'
      obtain rfl : v = 0 := by rw [hv, accV, ← ha]; rfl
      have HO := Lib.hid hok
      have HR := Lib.hid hrb
      clear hv ha hok hrb
      obtain ⟨W, hW⟩ : ∃ W, W = w.alloc (.cells #[.int .i64 (R), .int .i64 (C), .bool D] 25) := ⟨_, rfl⟩
      have HX0 := Lib.hid (show Boxed W w.heap.size (R) (C) D by rw [hW]; exact boxed_new _ _ _ _ _)
      have HB0 := Lib.hid (show Below w.heap.size w W by rw [hW]; exact (Below.refl _ _).alloc (Nat.le_refl _) _)
      have HS0 := Lib.hid (show w.heap.size < W.heap.size by rw [hW]; simp)
      have HW := Lib.hid hW
      clear hW
      go_enter Try.func35, Try.ntmps35
      go_wp2_with fail
      refine (specIsMask_any R C D o _).mono ?_
      rw [← HO.out]
      rintro e w1 ⟨rfl, hb⟩
      rw [← HW.out] at hb
      have HB1 := Lib.hid (HB0.out.trans (hb.mono HB0.out.size))
      have HS1 := Lib.hid (Nat.lt_of_lt_of_le HS0.out hb.size)
      have HX1 := Lib.hid (HX0.out.below hb HS0.out)
      obtain ⟨c0, c1, c2⟩ := HX1.out
      clear hb
      go_wp2_with fail
      refine (specIsReading_any R C D x _).mono ?_
      rw [← HR.out]
      rintro e w2 ⟨rfl, hb⟩
      have HB2 := Lib.hid (HB1.out.trans (hb.mono HB1.out.size))
      have HS2 := Lib.hid (Nat.lt_of_lt_of_le HS1.out hb.size)
      have HX2 := Lib.hid (HX1.out.below hb HS1.out)
      obtain ⟨c0, c1, c2⟩ := HX2.out
      clear hb
      go_wp2
      go_ret2
      exact ⟨rfl, HB2.out⟩
    · obtain ⟨r, c, m, rfl, rfl, rfl, h1, h2, h3, h4, hm, hrd, hokm⟩ := readB_nat hrb.symm
      obtain ⟨r', c', q, hr', hc', rfl, _, _, _, _, hq⟩ := okMask_nat hok.symm
      obtain rfl : r = r' := by omega
      obtain rfl : c = c' := by omega
      obtain rfl : a = true := ha'
      have hvN : v = ((m &&& (q ||| clearN r c D m) : Nat) : Int) := by rw [hv, accV, ← ha]; simp
      have hcl := clearV_nat hrb.symm
      have hq62 := lt62 h2 h4 hq
      have hm62 := lt62 h2 h4 hm
      have hy62 : clearN r c D m < 2 ^ 62 := keepN_lt _ hm62 _
      obtain ⟨y, hy⟩ : ∃ y, y = clearN r c D m := ⟨_, rfl⟩
      rw [← hy] at hvN hcl hy62
      have e1 := or_nat q y hq62 hy62
      have e2 := and_nat m (q ||| y) hm62 (Nat.or_lt_two_pow hq62 hy62)
      have HV := Lib.hid hvN
      have HO := Lib.hid hok
      have HR := Lib.hid hrb
      have HC := Lib.hid hcl
      clear hv ha hok hrb hokm hrd hm hq hy hcl hr' hc' hvN hq62 hm62 hy62
      obtain ⟨W, hW⟩ : ∃ W, W = w.alloc (.cells #[.int .i64 (r), .int .i64 (c), .bool D] 25) := ⟨_, rfl⟩
      have HX0 := Lib.hid (show Boxed W w.heap.size (r) (c) D by rw [hW]; exact boxed_new _ _ _ _ _)
      have HB0 := Lib.hid (show Below w.heap.size w W by rw [hW]; exact (Below.refl _ _).alloc (Nat.le_refl _) _)
      have HS0 := Lib.hid (show w.heap.size < W.heap.size by rw [hW]; simp)
      have HW := Lib.hid hW
      clear hW
      go_enter Try.func35, Try.ntmps35
      go_wp2_with fail
      refine (specIsMask_any r c D q _).mono ?_
      rw [← HO.out]
      rintro e w1 ⟨rfl, hb⟩
      rw [← HW.out] at hb
      have HB1 := Lib.hid (HB0.out.trans (hb.mono HB0.out.size))
      have HS1 := Lib.hid (Nat.lt_of_lt_of_le HS0.out hb.size)
      have HX1 := Lib.hid (HX0.out.below hb HS0.out)
      obtain ⟨c0, c1, c2⟩ := HX1.out
      clear hb
      go_wp2_with fail
      refine (specIsReading_any r c D m _).mono ?_
      rw [← HR.out]
      rintro e w2 ⟨rfl, hb⟩
      have HB2 := Lib.hid (HB1.out.trans (hb.mono HB1.out.size))
      have HS2 := Lib.hid (Nat.lt_of_lt_of_le HS1.out hb.size)
      have HX2 := Lib.hid (HX1.out.below hb HS1.out)
      obtain ⟨c0, c1, c2⟩ := HX2.out
      clear hb
      go_wp2_with fail
      refine (specClearKeys_any r c D m _).mono ?_
      rw [HC.out]
      rintro e w3 ⟨rfl, hb⟩
      have HB3 := Lib.hid (HB2.out.trans (hb.mono HB2.out.size))
      have HS3 := Lib.hid (Nat.lt_of_lt_of_le HS2.out hb.size)
      have HX3 := Lib.hid (HX2.out.below hb HS2.out)
      obtain ⟨c0, c1, c2⟩ := HX3.out
      clear hb
      go_wp2
      go_ret2
      exact ⟨ret_ib HV.out.symm, HB3.out⟩
end Go.Proofs.Ytcemachikghinaa
