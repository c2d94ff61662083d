/- DERIVED. Chapter 7's words on held keys as plain functions: valid held keys, the layers that they switch on. No condition. -/
import Derived.Test.YtghijkpcmamebaaHd
import Derived.Test.YtghijkpcmamebaaAcs
namespace Go.Proofs.Ytghijkpcmamebaa
open Go.RowKit

/-- One held key that may stand alone. -/
def okOne (e : Hd) : Bool := inB e.h 0 31 && (okAc e.k e.c e.m e.n && (!decide (e.k = 1) && !holdAc e.k e.c e.m e.n))
/-- The keys of the first j, as bits. -/
def seenN (l : List Hd) : Nat → Nat
  | 0 => 0
  | j + 1 => seenN l j ||| 2 ^ (hdD l j).h.toNat
def hdN (l : List Hd) : Nat → Bool
  | 0 => true
  | j + 1 => hdN l j && (okOne (hdD l j) && !(seenN l j).testBit (hdD l j).h.toNat)
def okHd (l : List Hd) : Bool := hdN l l.length
theorem hdN_no {l : List Hd} {j : Nat} (h : (okOne (hdD l j) && !(seenN l j).testBit (hdD l j).h.toNat) = false) : ∀ m, j < m → hdN l m = false
  | 0, hm => absurd hm (Nat.not_lt_zero _)
  | m + 1, hm => by
    rcases Nat.lt_or_ge j m with h2 | h2
    · rw [hdN, hdN_no h m h2, Bool.false_and]
    · obtain rfl : j = m := by omega
      rw [hdN, h, Bool.and_false]
theorem hdN_at {l : List Hd} : ∀ {m : Nat}, hdN l m = true → ∀ j, j < m → okOne (hdD l j) = true ∧ (seenN l j).testBit (hdD l j).h.toNat = false
  | 0, _, j, hj => absurd hj (Nat.not_lt_zero _)
  | m + 1, h, j, hj => by
    rw [hdN, Bool.and_eq_true, Bool.and_eq_true] at h
    rcases Nat.lt_or_ge j m with h2 | h2
    · exact hdN_at h.1 j h2
    · obtain rfl : j = m := by omega
      exact ⟨h.2.1, by simpa using h.2.2⟩
theorem okOne_at {e : Hd} (h : okOne e = true) : (0 ≤ e.h ∧ e.h ≤ 31) ∧ okAc e.k e.c e.m e.n = true ∧ e.k ≠ 1 ∧ holdAc e.k e.c e.m e.n = false := by
  rw [okOne, Bool.and_eq_true, Bool.and_eq_true, Bool.and_eq_true] at h
  obtain ⟨h1, h2, h3, h4⟩ := h
  exact ⟨of_decide_eq_true h1, h2, by simpa using h3, by simpa using h4⟩
theorem seenN_lt {l : List Hd} : ∀ {m : Nat}, hdN l m = true → seenN l m < 2 ^ 32
  | 0, _ => by simp [seenN]
  | m + 1, h => by
    have hm := (hdN_at h m (by omega)).1
    rw [hdN, Bool.and_eq_true] at h
    rw [seenN]
    exact Nat.or_lt_two_pow (seenN_lt h.1) (Nat.pow_lt_pow_right (by omega) (by have := (okOne_at hm).1; omega))
theorem seenN_bit (l : List Hd) (q : Nat) : ∀ m, (seenN l m).testBit q = true ↔ ∃ i, i < m ∧ (hdD l i).h.toNat = q
  | 0 => by simp [seenN]
  | m + 1 => by
    rw [seenN, Nat.testBit_or, Bool.or_eq_true, seenN_bit l q m, Nat.testBit_two_pow, decide_eq_true_eq]
    constructor
    · rintro (⟨i, hi, e⟩ | e)
      · exact ⟨i, by omega, e⟩
      · exact ⟨m, by omega, e⟩
    · rintro ⟨i, hi, e⟩
      rcases Nat.lt_or_ge i m with h | h
      · exact .inl ⟨i, h, e⟩
      · obtain rfl : i = m := by omega
        exact .inr e

/-- The layers that are on. -/
def onStart (fixed : Int) : Nat := if inB fixed 0 15 = true then 1 ||| fixed.toNat else 1
def onN (l : List Hd) (s : Nat) : Nat → Nat
  | 0 => s
  | j + 1 => if (hdD l j).k = 3 then onN l s j ||| 2 ^ (hdD l j).n.toNat else onN l s j
def onV (fixed : Int) (l : List Hd) : Nat := if okHd l = true then onN l (onStart fixed) l.length else onStart fixed
theorem onStart_lt (fixed : Int) : onStart fixed < 2 ^ 4 := by
  rw [onStart]
  split
  · rename_i h
    have := of_decide_eq_true h
    exact Nat.or_lt_two_pow (by decide) (by omega)
  · decide
theorem okAc_mom {c m n : Int} (h : okAc 3 c m n = true) : 1 ≤ n ∧ n ≤ 3 := by
  simp [okAc, inB] at h
  omega
theorem mom_at {l : List Hd} (h : okHd l = true) {j : Nat} (hj : j < l.length) (hk : (hdD l j).k = 3) : 1 ≤ (hdD l j).n ∧ (hdD l j).n ≤ 3 := by
  have h1 := (okOne_at (hdN_at h j hj).1).2.1
  rw [hk] at h1
  exact okAc_mom h1
theorem onN_lt {l : List Hd} {s : Nat} (hs : s < 2 ^ 4) (h : okHd l = true) : ∀ j, j ≤ l.length → onN l s j < 2 ^ 4
  | 0, _ => hs
  | j + 1, hj => by
    rw [onN]
    split
    · rename_i hk
      have := mom_at h (by omega) hk
      exact Nat.or_lt_two_pow (onN_lt hs h j (by omega)) (Nat.pow_lt_pow_right (by omega) (by omega))
    · exact onN_lt hs h j (by omega)


end Go.Proofs.Ytghijkpcmamebaa
