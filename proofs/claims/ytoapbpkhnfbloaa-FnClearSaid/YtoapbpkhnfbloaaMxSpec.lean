/- DERIVED. The reference's functions of chapter 2, each called with any matrix and any numbers: it returns what a plain function says. -/
import Derived.Test.YtoapbpkhnfbloaaMxRead
import Derived.Test.YtoapbpkhnfbloaaBits
namespace Go.Proofs.Ytoapbpkhnfbloaa
open Go.RowKit

theorem okMask_nat {R C x : Int} (h : okMask R C x = true) : ∃ r c m : Nat, R = r ∧ C = c ∧ x = m ∧ 1 ≤ r ∧ r ≤ 4 ∧ 1 ≤ c ∧ c ≤ 6 ∧ m < 2 ^ (r * c) := by
  unfold okMask at h
  rw [Bool.and_eq_true, okM_iff, decide_eq_true_eq] at h
  obtain ⟨⟨⟨a, b⟩, c, d⟩, e, f⟩ := h
  obtain ⟨r, rfl⟩ := Int.eq_ofNat_of_zero_le (show 0 ≤ R by omega)
  obtain ⟨k, rfl⟩ := Int.eq_ofNat_of_zero_le (show 0 ≤ C by omega)
  obtain ⟨m, rfl⟩ := Int.eq_ofNat_of_zero_le e
  have hk : keysM (r : Int) (k : Int) = ((r * k : Nat) : Int) := by
    unfold keysM
    rw [if_pos ((okM_iff _ _).mpr ⟨⟨a, b⟩, c, d⟩)]
    simp
  rw [hk] at f
  refine ⟨r, k, m, rfl, rfl, rfl, by omega, by omega, by omega, by omega, ?_⟩
  have e : ((2 ^ (r * k) : Nat) : Int) = (2 : Int) ^ (r * k) := by simp
  simp only [Int.toNat_natCast] at f
  omega
theorem okMask_mk {r c m : Nat} (h1 : 1 ≤ r) (h2 : r ≤ 4) (h3 : 1 ≤ c) (h4 : c ≤ 6) (h : m < 2 ^ (r * c)) : okMask r c m = true := by
  have ho : okM r c = true := (okM_iff _ _).mpr ⟨⟨by omega, by omega⟩, by omega, by omega⟩
  unfold okMask
  rw [ho, Bool.true_and, decide_eq_true_eq]
  have hk : keysM (r : Int) (c : Int) = ((r * c : Nat) : Int) := by
    unfold keysM
    rw [if_pos ho]
    simp
  rw [hk]
  have e : ((2 ^ (r * c) : Nat) : Int) = (2 : Int) ^ (r * c) := by simp
  simp only [Int.toNat_natCast]
  omega
theorem keysM_nat {r c : Nat} (h1 : 1 ≤ r) (h2 : r ≤ 4) (h3 : 1 ≤ c) (h4 : c ≤ 6) : keysM r c = ((r * c : Nat) : Int) := by
  have ho : okM r c = true := (okM_iff _ _).mpr ⟨⟨by omega, by omega⟩, by omega, by omega⟩
  unfold keysM
  rw [if_pos ho]
  simp

/-- What is read of a mask that came in; 0 where it is none. -/
def readV (R C : Int) (D : Bool) (x : Int) : Int := if okMask R C x = true then (readM R.toNat C.toNat D x.toNat : Int) else 0
theorem readV_nat {r c m : Nat} (D : Bool) (h : okMask r c m = true) : readV r c D m = (readM r c D m : Int) := by
  unfold readV
  rw [if_pos h]
  simp

/-- The keys that are read and not pressed. -/
def ghostV (R C : Int) (D : Bool) (x : Int) : Int := if okMask R C x = true then (dif (readM R.toNat C.toNat D x.toNat) x.toNat : Int) else 0
theorem ghostV_nat {r c m : Nat} (D : Bool) (h : okMask r c m = true) : ghostV r c D m = (dif (readM r c D m) m : Int) := by
  unfold ghostV
  rw [if_pos h]
  simp
theorem lt62 {r c m : Nat} (hr : r ≤ 4) (hc : c ≤ 6) (h : m < 2 ^ (r * c)) : m < 2 ^ 62 := by have := top24 hc hr; omega

/-- Is a mask a reading? -/
def readB (R C : Int) (D : Bool) (x : Int) : Bool := okMask R C x && decide (readV R C D x = x)

end Go.Proofs.Ytoapbpkhnfbloaa
