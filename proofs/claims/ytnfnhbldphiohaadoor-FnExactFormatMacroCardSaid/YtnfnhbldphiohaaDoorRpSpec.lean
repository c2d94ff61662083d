/- DERIVED. Chapter 7's reports: valid ones and alike ones as plain functions; the reference's IsReport and SameReport. · Chapter 7's words on reports as plain functions: the report of held keys, boot bytes, bits. No condition. · The reference's SameReport: two reports are alike. · The reference's BootBytes: a report's boot bytes. -/
import Derived.Test.YtnfnhbldphiohaaDoorRp
import Derived.Test.YtnfnhbldphiohaaDoorDeb
import Derived.Test.YtnfnhbldphiohaaDoorSeqSpec
import Derived.Test.YtnfnhbldphiohaaDoorHd
import Derived.Deep.DeepCutAuto
import Derived.Test.YtnfnhbldphiohaaDoorText
import Derived.Deep.AppendLies
namespace Go.Proofs.YtnfnhbldphiohaaDoor
open Go.RowKit

def rpAt (zs : List Int) (j : Nat) : Bool := inB (zs.getD j 0) 1 56 && (decide (j = 0) || decide (zs.getD (j - 1) 0 < zs.getD j 0))
def rpN (zs : List Int) : Nat → Bool
  | 0 => true
  | j + 1 => rpN zs j && rpAt zs j
def okRp (r : Int) (zs : List Int) : Bool := rpN zs zs.length && inB r 0 15
theorem rpN_no {zs : List Int} {j : Nat} (h : rpAt zs j = false) : ∀ m, j < m → rpN zs m = false
  | 0, hm => absurd hm (Nat.not_lt_zero _)
  | m + 1, hm => by
    rcases Nat.lt_or_ge j m with h2 | h2
    · rw [rpN, rpN_no h m h2, Bool.false_and]
    · obtain rfl : j = m := by omega
      rw [rpN, h, Bool.and_false]
theorem rpN_at {zs : List Int} : ∀ {m : Nat}, rpN zs m = true → ∀ j, j < m → rpAt zs j = true
  | 0, _, j, hj => absurd hj (Nat.not_lt_zero _)
  | m + 1, h, j, hj => by
    rw [rpN, Bool.and_eq_true] at h
    rcases Nat.lt_or_ge j m with h2 | h2
    · exact rpN_at h.1 j h2
    · obtain rfl : j = m := by omega
      exact h.2

/-- The modifiers of the first j held keys. -/
def mdOf (l : List Hd) : Nat → Nat
  | 0 => 0
  | j + 1 => if (hdD l j).k = 2 ∨ (hdD l j).k = 8 then mdOf l j ||| (hdD l j).m.toNat else mdOf l j
/-- One of the first j held keys has the code c. -/
def hasC (l : List Hd) (c : Int) : Nat → Bool
  | 0 => false
  | j + 1 => hasC l c j || decide ((hdD l j).c = c)
/-- The codes up to k that held keys have. -/
def codesN (l : List Hd) : Nat → List Int
  | 0 => []
  | k + 1 => if hasC l ((k + 1 : Nat) : Int) l.length = true then codesN l k ++ [((k + 1 : Nat) : Int)] else codesN l k
def rofM (l : List Hd) : Nat := if okHd l = true then mdOf l l.length else 0
def rofK (l : List Hd) : List Int := if okHd l = true then codesN l 56 else []
theorem hasC_yes {l : List Hd} {c : Int} {j : Nat} (h : (hdD l j).c = c) : ∀ m, j < m → hasC l c m = true
  | 0, hm => absurd hm (Nat.not_lt_zero _)
  | m + 1, hm => by
    rcases Nat.lt_or_ge j m with h2 | h2
    · rw [hasC, hasC_yes h m h2, Bool.true_or]
    · obtain rfl : j = m := by omega
      rw [hasC, decide_eq_true h, Bool.or_true]
theorem codesN_len (l : List Hd) : ∀ k, (codesN l k).length ≤ k
  | 0 => Nat.le_refl _
  | k + 1 => by
    have := codesN_len l k
    rw [codesN]; split
    · simp; omega
    · omega
theorem codesN_mem (l : List Hd) : ∀ k, ∀ z ∈ codesN l k, 1 ≤ z ∧ z ≤ (k : Int)
  | 0, z, h => by simp [codesN] at h
  | k + 1, z, h => by
    rw [codesN] at h
    split at h
    · rcases List.mem_append.1 h with h1 | h1
      · have := codesN_mem l k z h1; omega
      · rw [List.mem_singleton.1 h1]; omega
    · have := codesN_mem l k z h; omega
theorem okOne_mods {e : Hd} (h : okOne e = true) : 0 ≤ e.m ∧ e.m ≤ 15 := by
  have h1 := (okOne_at h).2.1
  unfold okAc inB at h1
  split at h1
  · simp only [Bool.and_eq_true, decide_eq_true_eq] at h1; omega
  split at h1
  · simp only [Bool.and_eq_true, Bool.or_eq_true, decide_eq_true_eq] at h1; omega
  split at h1
  · simp only [Bool.and_eq_true, decide_eq_true_eq] at h1; omega
  split at h1
  · simp only [Bool.and_eq_true, decide_eq_true_eq] at h1; omega
  split at h1
  · simp only [Bool.and_eq_true, decide_eq_true_eq] at h1; omega
  split at h1
  · simp only [Bool.and_eq_true, decide_eq_true_eq] at h1; omega
  split at h1
  · simp only [Bool.and_eq_true, decide_eq_true_eq] at h1; omega
  · exact absurd h1 (by decide)
theorem mdOf_lt {l : List Hd} (h : okHd l = true) : ∀ j, j ≤ l.length → mdOf l j < 2 ^ 4
  | 0, _ => by simp [mdOf]
  | j + 1, hj => by
    have ih := mdOf_lt h j (by omega)
    have hm := okOne_mods (hdN_at h j (by omega)).1
    rw [mdOf]
    split
    · exact Nat.or_lt_two_pow ih (by omega)
    · exact ih

/-- A report's boot bytes. -/
def bootAt (zs : List Int) (i : Nat) : Int := if 6 < zs.length then 1 else if i < zs.length then zs.getD i 0 + 3 else 0
def bbV (r : Int) (zs : List Int) : List Int := if okRp r zs = true then [r, 0] ++ (List.range 6).map (bootAt zs) else []

/-- What is read of boot bytes up to place i (from 2 on): how many ones, the codes, no hole. -/
def bOnes (b : List Int) : Nat → Nat
  | 0 => 0
  | i + 1 => if b.getD (i + 2) 0 = 1 then bOnes b i + 1 else bOnes b i
def bKeys (b : List Int) : Nat → List Int
  | 0 => []
  | i + 1 => if b.getD (i + 2) 0 ≠ 0 then bKeys b i ++ [b.getD (i + 2) 0 - 3] else bKeys b i
def bHole (b : List Int) (i : Nat) : Bool := decide (b.getD (i + 2) 0 ≠ 0) && (decide (b.getD (i + 1) 0 = 0) && decide (0 < i))
def bFine (b : List Int) : Nat → Bool
  | 0 => true
  | i + 1 => bFine b i && !bHole b i
structure Rpr where
  r : Int
  z : List Int
  b : Bool
def rbEnd (b : List Int) (zl : List Int) : Rpr := if bOnes b 6 = 6 then ⟨b.getD 0 0, zl, true⟩ else if okRp (b.getD 0 0) (bKeys b 6) = true then ⟨b.getD 0 0, bKeys b 6, true⟩ else ⟨0, [], false⟩
def rbV (b : List Int) (rl : Int) (zl : List Int) : Rpr := if b.length = 8 ∧ b.getD 0 0 ≤ 15 ∧ b.getD 1 0 = 0 ∧ okRp rl zl = true ∧ bFine b 6 = true then rbEnd b zl else ⟨0, [], false⟩
/-- The codes whose bits are set in bytes. -/
def bitC (b : List Int) (k : Nat) : Bool := (b.getD (1 + k / 8) 0).toNat.testBit (k % 8)
def bitK (b : List Int) : Nat → List Int
  | 0 => []
  | k + 1 => if bitC b k = true then bitK b k ++ [((k + 1 : Nat) : Int)] else bitK b k
def rdV (b : List Int) : Rpr := if b.length = 8 ∧ b.getD 0 0 ≤ 15 then ⟨b.getD 0 0, bitK b 56, true⟩ else ⟨0, [], false⟩
/-- A report's bits: the bytes with the first j codes laid. -/
def biN (r : Int) (zs : List Int) : Nat → List Int
  | 0 => [r, 0, 0, 0, 0, 0, 0, 0]
  | j + 1 =>
    let k := (zs.getD j 0).toNat - 1
    (biN r zs j).set (1 + k / 8) ((((biN r zs j).getD (1 + k / 8) 0).toNat ||| 2 ^ (k % 8) : Nat) : Int)
def biV (r : Int) (zs : List Int) : List Int := if okRp r zs = true then biN r zs zs.length else []
end Go.Proofs.YtnfnhbldphiohaaDoor

namespace Go.Proofs.YtnfnhbldphiohaaDoor
open Go.RowKit

def sameRp (r1 : Int) (z1 : List Int) (r2 : Int) (z2 : List Int) : Bool := decide (r1 = r2 ∧ z1 = z2)

theorem okRp_at {r : Int} {zs : List Int} (h : okRp r zs = true) : (0 ≤ r ∧ r ≤ 15) ∧ ∀ j, j < zs.length → 1 ≤ zs.getD j 0 ∧ zs.getD j 0 ≤ 56 := by
  rw [okRp, Bool.and_eq_true] at h
  refine ⟨of_decide_eq_true h.2, fun j hj => ?_⟩
  have h1 := rpN_at h.1 j hj
  rw [rpAt, Bool.and_eq_true] at h1
  exact of_decide_eq_true h1.1
/-- The shape of a slice of ints, and its numbers. -/
theorem ints_shape {w : World} {u : Value} {zs : List Int} (h : Rd w u (zs.map (.int .i64))) : ∃ a cap, u = .slice a zs.length cap := by
  obtain ⟨a, cap, hu, _⟩ := h
  exact ⟨a, cap, by simpa using hu⟩
theorem ints_at {w : World} {a : Option Addr} {n cap : Nat} {zs : List Int} (h : Rd w (.slice a n cap) (zs.map (.int .i64))) {j : Nat} (hj : j < zs.length) : ∃ b off, a = some ⟨b, off, none⟩ ∧ b < w.heap.size ∧ w.cell? ⟨b, off + j, none⟩ = some (.int .i64 (zs.getD j 0)) := by
  rcases rd_ints h with ⟨rfl, _⟩ | ⟨b, off, cap', _, hs, hlt, hc⟩
  · simp at hj
  · obtain ⟨rfl, _, _⟩ := by simpa using hs
    exact ⟨b, off, rfl, hlt, hc j hj⟩
/-- The boot bytes with the first j codes laid. -/
def bbN (r : Int) (zs : List Int) (j : Nat) : List Int := [r, 0] ++ (List.range j).map (bootAt zs) ++ List.replicate (6 - j) 0
theorem bbN_len (r : Int) (zs : List Int) {j : Nat} (h : j ≤ 6) : (bbN r zs j).length = 8 := by simp [bbN]; omega
theorem bbN_set (r : Int) (zs : List Int) {j : Nat} (h : j < 6) : (bbN r zs j).set (2 + j) (bootAt zs j) = bbN r zs (j + 1) := by
  have : j = 0 ∨ j = 1 ∨ j = 2 ∨ j = 3 ∨ j = 4 ∨ j = 5 := by omega
  rcases this with rfl | rfl | rfl | rfl | rfl | rfl <;> rfl
theorem bbN_same (r : Int) (zs : List Int) {j : Nat} (h : j < 6) (h0 : bootAt zs j = 0) : bbN r zs (j + 1) = bbN r zs j := by
  rw [← bbN_set r zs h, h0]
  have : j = 0 ∨ j = 1 ∨ j = 2 ∨ j = 3 ∨ j = 4 ∨ j = 5 := by omega
  rcases this with rfl | rfl | rfl | rfl | rfl | rfl <;> rfl
theorem bbN_all (r : Int) (zs : List Int) (h : okRp r zs = true) : bbN r zs 6 = bbV r zs := by rw [bbV, if_pos h]; rfl

end Go.Proofs.YtnfnhbldphiohaaDoor
