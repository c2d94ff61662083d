/- DERIVED. Chapter 6's words as plain functions: valid keymaps, the layer and the action of a key, an action that is set. No condition. -/
import Derived.Test.YtleheibpgngmiaaKm
import Derived.Test.YtleheibpgngmiaaAcDef
namespace Go.Proofs.Ytleheibpgngmiaa
open Go.RowKit

/-- An action may stand in layer i of n layers. -/
def okA (n i : Nat) (a : Ac) : Bool := okAc a.k a.c a.m a.n && (!(decide (a.k = 1) && decide (i = 0)) && !(!decide (a.k = 9) && decide ((n : Int) ≤ a.n)))
def rowN (n i : Nat) (l : List Ac) : Nat → Bool
  | 0 => true
  | k + 1 => rowN n i l k && okA n i (acD l k)
def layOk (keys : Int) (L : List (List Ac)) (j : Nat) : Bool := decide (((lD L j).length : Int) = keys) && rowN L.length j (lD L j) (lD L j).length
def layN (keys : Int) (L : List (List Ac)) : Nat → Bool
  | 0 => true
  | j + 1 => layN keys L j && layOk keys L j
def okKm (keys : Int) (L : List (List Ac)) : Bool := layN keys L L.length && (inB keys 1 32 && inB L.length 1 4)
theorem rowN_no {n i : Nat} {l : List Ac} {k : Nat} (h : okA n i (acD l k) = false) : ∀ m, k < m → rowN n i l m = false
  | 0, hm => absurd hm (Nat.not_lt_zero _)
  | m + 1, hm => by
    rcases Nat.lt_or_ge k m with h2 | h2
    · rw [rowN, rowN_no h m h2, Bool.false_and]
    · obtain rfl : k = m := by omega
      rw [rowN, h, Bool.and_false]
theorem layN_no {keys : Int} {L : List (List Ac)} {j : Nat} (h : layOk keys L j = false) : ∀ m, j < m → layN keys L m = false
  | 0, hm => absurd hm (Nat.not_lt_zero _)
  | m + 1, hm => by
    rcases Nat.lt_or_ge j m with h2 | h2
    · rw [layN, layN_no h m h2, Bool.false_and]
    · obtain rfl : j = m := by omega
      rw [layN, h, Bool.and_false]
theorem layN_at {keys : Int} {L : List (List Ac)} : ∀ {m : Nat}, layN keys L m = true → ∀ j, j < m → layOk keys L j = true
  | 0, _, j, hj => absurd hj (Nat.not_lt_zero _)
  | m + 1, h, j, hj => by
    rw [layN, Bool.and_eq_true] at h
    rcases Nat.lt_or_ge j m with h2 | h2
    · exact layN_at h.1 j h2
    · obtain rfl : j = m := by omega
      exact h.2
theorem rowN_at {n i : Nat} {l : List Ac} : ∀ {m : Nat}, rowN n i l m = true → ∀ k, k < m → okA n i (acD l k) = true
  | 0, _, j, hj => absurd hj (Nat.not_lt_zero _)
  | m + 1, h, j, hj => by
    rw [rowN, Bool.and_eq_true] at h
    rcases Nat.lt_or_ge j m with h2 | h2
    · exact rowN_at h.1 j h2
    · obtain rfl : j = m := by omega
      exact h.2
theorem okKm_no {keys : Int} {L : List (List Ac)} {j : Nat} (hj : j < L.length) (h : layOk keys L j = false) : okKm keys L = false := by
  rw [okKm, layN_no h _ hj, Bool.false_and]
theorem okKm_at {keys : Int} {L : List (List Ac)} (h : okKm keys L = true) : (1 ≤ keys ∧ keys ≤ 32) ∧ (1 ≤ L.length ∧ L.length ≤ 4) ∧ ∀ j, j < L.length → ((lD L j).length : Int) = keys ∧ ∀ k, k < (lD L j).length → okA L.length j (acD (lD L j) k) = true := by
  unfold okKm inB at h
  simp only [Bool.and_eq_true, decide_eq_true_eq] at h
  refine ⟨h.2.1, by omega, fun j hj => ?_⟩
  have := layN_at h.1 j hj
  unfold layOk at this
  simp only [Bool.and_eq_true, decide_eq_true_eq] at this
  exact ⟨this.1, fun k hk => rowN_at this.2 k hk⟩
/-- Bit i of a mask is set. -/
def bitOn (on : Int) (i : Nat) : Bool := decide (bits .and .i64 (on / 2 ^ i) 1 = 1)
/-- The greatest layer up to i that is on and does not pass, 0 if there is none. -/
def laD (L : List (List Ac)) (on : Int) (key : Nat) : Nat → Nat
  | 0 => 0
  | i + 1 => if (bitOn on (i + 1) && !decide ((acD (lD L (i + 1)) key).k = 1)) = true then i + 1 else laD L on key i
def laV (keys : Int) (L : List (List Ac)) (on key : Int) : Int := if (okKm keys L && inB key 0 (keys - 1)) = true then (laD L on key.toNat (L.length - 1) : Nat) else -1
theorem laD_pos {L : List (List Ac)} {on : Int} {key k : Nat} (h : 0 < k) : laD L on key k = if (bitOn on k && !decide ((acD (lD L k) key).k = 1)) = true then k else laD L on key (k - 1) := by
  obtain ⟨i, rfl⟩ : ∃ i, k = i + 1 := ⟨k - 1, by omega⟩
  rw [laD, Nat.add_sub_cancel]
theorem laD_le (L : List (List Ac)) (on : Int) (key : Nat) : ∀ k, laD L on key k ≤ k
  | 0 => Nat.le_refl _
  | k + 1 => by rw [laD]; have := laD_le L on key k; split <;> omega
def atV (keys : Int) (L : List (List Ac)) (on key : Int) : Ac := if (okKm keys L && inB key 0 (keys - 1)) = true then acD (lD L (laD L on key.toNat (L.length - 1))) key.toNat else ⟨0, 0, 0, 0⟩

end Go.Proofs.Ytleheibpgngmiaa
