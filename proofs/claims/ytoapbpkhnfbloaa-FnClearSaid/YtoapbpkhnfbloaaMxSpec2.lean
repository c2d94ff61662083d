/- DERIVED. The reference's Alternative, ClearKeys and AcceptReading, each called with any matrix and any numbers: it returns what a plain function says. -/
import Derived.Test.YtoapbpkhnfbloaaMxSpec
namespace Go.Proofs.Ytoapbpkhnfbloaa
open Go.RowKit

/-- Is the mask without key k read as the mask is? -/
def altN (r c : Nat) (D : Bool) (m k : Nat) : Bool := m.testBit k && decide (readM r c D (dif m (2 ^ k)) = m)
def altB (R C : Int) (D : Bool) (x k : Int) : Bool := readB R C D x && decide (0 ≤ k ∧ k < keysM R C) && altN R.toNat C.toNat D x.toNat k.toNat
def altV (R C : Int) (D : Bool) (x k : Int) : Int := if altB R C D x k = true then (dif x.toNat (2 ^ k.toNat) : Int) else 0

theorem readB_nat {R C x : Int} {D : Bool} (h : readB R C D x = true) : ∃ r c m : Nat, R = r ∧ C = c ∧ x = m ∧ 1 ≤ r ∧ r ≤ 4 ∧ 1 ≤ c ∧ c ≤ 6 ∧ m < 2 ^ (r * c) ∧ readM r c D m = m ∧ okMask R C x = true := by
  unfold readB at h
  rw [Bool.and_eq_true] at h
  obtain ⟨h0, h9⟩ := h
  obtain ⟨r, c, m, rfl, rfl, rfl, h1, h2, h3, h4, hm⟩ := okMask_nat h0
  refine ⟨r, c, m, rfl, rfl, rfl, h1, h2, h3, h4, hm, ?_, h0⟩
  rw [decide_eq_true_eq, readV_nat D h0] at h9
  omega

theorem bit_eq0 {b : Bool} : ((if b = true then (1 : Int) else 0) == 0) = !b := by cases b <;> rfl
theorem bit_ne0 {b : Bool} : ((if b = true then (1 : Int) else 0) != 0) = b := by cases b <;> rfl
theorem bit_eq1 {b : Bool} : ((if b = true then (1 : Int) else 0) == 1) = b := by cases b <;> rfl

/-- The bits of m, up to n, at which f says no: gathered, or the others struck. -/
def keepN (m : Nat) (f : Nat → Bool) : Nat → Nat
  | 0 => 0
  | n + 1 => if (m.testBit n && !f n) = true then keepN m f n ||| 2 ^ n else keepN m f n
def dropN (m : Nat) (f : Nat → Bool) : Nat → Nat
  | 0 => m
  | n + 1 => if f n = true then dif (dropN m f n) (2 ^ n) else dropN m f n
theorem keepN_bit (m : Nat) (f : Nat → Bool) (i : Nat) : ∀ n, (keepN m f n).testBit i = (decide (i < n) && (m.testBit i && !f i))
  | 0 => by simp [keepN]
  | n + 1 => by
    rw [keepN]
    have ih := keepN_bit m f i n
    by_cases hi : i = n
    · subst hi
      cases h : (m.testBit i && !f i)
      · simp [ih]
      · simp [Nat.testBit_two_pow_self]
    · have e : decide (i < n + 1) = decide (i < n) := by simp; omega
      rw [e]
      split
      · rw [Nat.testBit_or, ih, Nat.testBit_two_pow_of_ne (fun h => hi h.symm), Bool.or_false]
      · exact ih
theorem dropN_bit (m : Nat) (f : Nat → Bool) (i : Nat) : ∀ n, (dropN m f n).testBit i = (m.testBit i && !(decide (i < n) && f i))
  | 0 => by simp [dropN]
  | n + 1 => by
    rw [dropN]
    have ih := dropN_bit m f i n
    by_cases hi : i = n
    · subst hi
      cases h : f i
      · simp [ih, h]
      · simp [dif_bit, Nat.testBit_two_pow_self]
    · have e : decide (i < n + 1) = decide (i < n) := by simp; omega
      rw [e]
      split
      · rw [dif_bit, ih, Nat.testBit_two_pow_of_ne (fun h => hi h.symm), Bool.not_false, Bool.and_true]
      · exact ih
theorem keep_drop {m n : Nat} (f : Nat → Bool) (h : m < 2 ^ n) : keepN m f n = dropN m f n := by
  apply Nat.eq_of_testBit_eq
  intro i
  rw [keepN_bit, dropN_bit]
  by_cases hi : i < n
  · simp [hi]
  · rw [Nat.testBit_lt_two_pow (Nat.lt_of_lt_of_le h (Nat.pow_le_pow_right (by omega) (by omega)))]
    simp [hi]
theorem keepN_lt {m : Nat} (f : Nat → Bool) {k : Nat} (h : m < 2 ^ k) : ∀ n, keepN m f n < 2 ^ k := fun n => by
  apply Nat.lt_pow_two_of_testBit
  intro i hi
  rw [keepN_bit, Nat.testBit_lt_two_pow (Nat.lt_of_lt_of_le h (Nat.pow_le_pow_right (by omega) hi))]
  simp
theorem dropN_lt {m : Nat} (f : Nat → Bool) {k : Nat} (h : m < 2 ^ k) : ∀ n, dropN m f n < 2 ^ k := fun n => by
  apply Nat.lt_pow_two_of_testBit
  intro i hi
  rw [dropN_bit, Nat.testBit_lt_two_pow (Nat.lt_of_lt_of_le h (Nat.pow_le_pow_right (by omega) hi))]
  simp
/-- The keys of a reading that are certain. -/
def clearN (r c : Nat) (D : Bool) (m : Nat) : Nat := keepN m (altN r c D m) (r * c)
def clearV (R C : Int) (D : Bool) (x : Int) : Int := if readB R C D x = true then (clearN R.toNat C.toNat D x.toNat : Int) else 0
theorem clearV_nat {r c m : Nat} {D : Bool} (h : readB r c D m = true) : clearV r c D m = (clearN r c D m : Int) := by
  unfold clearV
  rw [if_pos h]
  simp
theorem altB_nat {r c m n : Nat} {D : Bool} (h : readB r c D m = true) (h1 : 1 ≤ r) (h2 : r ≤ 4) (h3 : 1 ≤ c) (h4 : c ≤ 6) (hn : n < r * c) : altB r c D m n = altN r c D m n := by
  have hk : 0 ≤ (n : Int) ∧ (n : Int) < keysM r c := by rw [keysM_nat h1 h2 h3 h4]; omega
  unfold altB
  rw [h, decide_eq_true hk]
  simp

/-- What is accepted of a reading. -/
def accB (R C : Int) (D : Bool) (o x : Int) : Bool := okMask R C o && readB R C D x
def accV (R C : Int) (D : Bool) (o x : Int) : Int := if accB R C D o x = true then ((x.toNat &&& (o.toNat ||| clearN R.toNat C.toNat D x.toNat) : Nat) : Int) else 0

end Go.Proofs.Ytoapbpkhnfbloaa
