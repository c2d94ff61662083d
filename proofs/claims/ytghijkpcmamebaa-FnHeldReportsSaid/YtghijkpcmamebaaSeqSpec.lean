/- DERIVED. The reference's LastStable, CountChanges and IsSpaced, each called with a slice that reads as known numbers: it returns what a plain function says. -/
import Derived.Test.YtghijkpcmamebaaInts
import Derived.Test.YtghijkpcmamebaaIn
import Derived.Test.YtghijkpcmamebaaCore
namespace Go.Proofs.Ytghijkpcmamebaa
open Go.RowKit

/-- Bit k of a number, as Go asks for it. -/
def bz (z : Int) (k : Nat) : Int := bits .and .i64 (z / 2 ^ k) 1
theorem bz01 (z : Int) (k : Nat) : bz z k = 0 ∨ bz z k = 1 := by
  unfold bz bits
  have e : (BitVec.ofInt 64 1).toNat = 1 := by decide
  have hle : (BitVec.ofInt 64 (z / 2 ^ k) &&& BitVec.ofInt 64 1).toNat ≤ 1 := by
    rw [BitVec.toNat_and, e]; exact Nat.and_le_right
  show IntKind.i64.wrap ((BitVec.ofInt 64 (z / 2 ^ k) &&& BitVec.ofInt 64 1).toNat : Int) = 0 ∨ IntKind.i64.wrap ((BitVec.ofInt 64 (z / 2 ^ k) &&& BitVec.ofInt 64 1).toNat : Int) = 1
  generalize (BitVec.ofInt 64 (z / 2 ^ k) &&& BitVec.ofInt 64 1).toNat = m at hle
  rw [IntWalk.i64_in _ ⟨by omega, by omega⟩]
  omega
theorem rd_ints {w : World} {v : Value} {zs : List Int} (h : Rd w v (zs.map (.int .i64))) :
    (zs = [] ∧ ∃ a cap, v = .slice a 0 cap) ∨ ∃ b off cap, 0 < zs.length ∧ v = .slice (some ⟨b, off, none⟩) zs.length cap ∧ b < w.heap.size ∧ ∀ j, j < zs.length → w.cell? ⟨b, off + j, none⟩ = some (.int .i64 (zs.getD j 0)) := by
  rcases h.cases with ⟨hx, a, cap, rfl⟩ | ⟨hx, b, off, cap, rfl, hlt, hc⟩
  · exact .inl ⟨by simpa using hx, a, cap, rfl⟩
  · refine .inr ⟨b, off, cap, ?_, by rw [List.length_map], hlt, fun j hj => ?_⟩
    · have : zs ≠ [] := fun e => hx (by rw [e]; rfl)
      exact List.length_pos_iff.mpr this
    · rw [hc j (by simpa using hj), getD_map_int]

def keyB (key : Int) : Bool := decide (0 ≤ key ∧ key ≤ 23)
/-- The last bit and the number of changes behind j masks. -/
def ccN (zs : List Int) (k : Nat) : Nat → Int × Nat
  | 0 => (0, 0)
  | j + 1 => if bz (zs.getD j 0) k = (ccN zs k j).1 then ccN zs k j else (1 - (ccN zs k j).1, (ccN zs k j).2 + 1)
theorem ccN_bd (zs : List Int) (k j : Nat) : ((ccN zs k j).1 = 0 ∨ (ccN zs k j).1 = 1) ∧ (ccN zs k j).2 ≤ j := by
  induction j with
  | zero => exact ⟨.inl rfl, Nat.le_refl _⟩
  | succ j ih =>
    rw [ccN]
    split
    · exact ⟨ih.1, by omega⟩
    · constructor
      · simp only; omega
      · simp only; omega
def countV (zs : List Int) (key : Int) : Int := if keyB key = true then ((ccN zs key.toNat zs.length).2 : Int) else 0

/-- Behind j masks: the last bit, where it last changed (-1: nowhere), and whether all changes were spaced. -/
def spN (zs : List Int) (k : Nat) (n : Int) : Nat → Int × Int × Bool
  | 0 => (0, -1, true)
  | j + 1 => if bz (zs.getD j 0) k = (spN zs k n j).1 then spN zs k n j else (1 - (spN zs k n j).1, (j : Int), (spN zs k n j).2.2 && !(decide (0 ≤ (spN zs k n j).2.1) && decide ((j : Int) - (spN zs k n j).2.1 < n)))
theorem spN_bd (zs : List Int) (k : Nat) (n : Int) (j : Nat) : ((spN zs k n j).1 = 0 ∨ (spN zs k n j).1 = 1) ∧ -1 ≤ (spN zs k n j).2.1 ∧ (spN zs k n j).2.1 < j := by
  induction j with
  | zero => exact ⟨.inl rfl, by simp [spN], by simp [spN]⟩
  | succ j ih =>
    rw [spN]
    split
    · exact ⟨ih.1, by omega, by omega⟩
    · refine ⟨?_, ?_, ?_⟩
      · simp only; omega
      · simp only; omega
      · simp only; omega
theorem spN_no {zs : List Int} {k : Nat} {n : Int} {j : Nat} (h : (spN zs k n j).2.2 = false) : ∀ m, j ≤ m → (spN zs k n m).2.2 = false := by
  intro m hm
  induction m with
  | zero => obtain rfl : j = 0 := by omega
            exact h
  | succ m ih =>
    by_cases e : j = m + 1
    · subst e; exact h
    · rw [spN]
      split
      · exact ih (by omega)
      · simp only; rw [ih (by omega)]; rfl
def spacedV (zs : List Int) (key n : Int) : Bool := keyB key && (spN zs key.toNat n zs.length).2.2

/-- Behind j samples: the length of the run, what was last stable, and whether anything was. -/
def lsN (zs : List Int) (time : Int) (k : Nat) : Nat → Nat × Bool × Bool
  | 0 => (0, false, false)
  | j + 1 =>
    if time ≤ ((if 0 < j ∧ bz (zs.getD j 0) k = bz (zs.getD (j - 1) 0) k then (lsN zs time k j).1 + 1 else 1 : Nat) : Int) then
      (if 0 < j ∧ bz (zs.getD j 0) k = bz (zs.getD (j - 1) 0) k then (lsN zs time k j).1 + 1 else 1, bz (zs.getD j 0) k == 1, true)
    else (if 0 < j ∧ bz (zs.getD j 0) k = bz (zs.getD (j - 1) 0) k then (lsN zs time k j).1 + 1 else 1, (lsN zs time k j).2.1, (lsN zs time k j).2.2)
theorem lsN_bd (zs : List Int) (time : Int) (k j : Nat) : (lsN zs time k j).1 ≤ j := by
  induction j with
  | zero => exact Nat.le_refl _
  | succ j ih =>
    have e : (lsN zs time k (j + 1)).1 = if 0 < j ∧ bz (zs.getD j 0) k = bz (zs.getD (j - 1) 0) k then (lsN zs time k j).1 + 1 else 1 := by rw [lsN]; split <;> (split <;> rfl)
    rw [e]
    split <;> omega
def stableOk (time key : Int) : Bool := decide (1 ≤ time ∧ time ≤ 20) && keyB key
def stableV (zs : List Int) (time key : Int) : Bool := stableOk time key && (lsN zs time key.toNat zs.length).2.1
def stableB (zs : List Int) (time key : Int) : Bool := stableOk time key && (lsN zs time key.toNat zs.length).2.2

end Go.Proofs.Ytghijkpcmamebaa
