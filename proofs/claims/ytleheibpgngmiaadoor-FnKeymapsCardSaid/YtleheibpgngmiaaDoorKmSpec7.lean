/- DERIVED. The reference's UnpackKeymap: the keymap whose bytes a list is. -/
import Derived.Test.YtleheibpgngmiaaDoorKmSpec5
namespace Go.Proofs.YtleheibpgngmiaaDoor
open Go.RowKit

def unA (zs : List Int) (p : Nat) : Ac × Bool := unpackV [zs.getD p 0, zs.getD (p + 1) 0, zs.getD (p + 2) 0]
def unRow (zs : List Int) (p : Nat) : Nat → List Ac
  | 0 => []
  | k + 1 => unRow zs p k ++ [(unA zs (p + 3 * k)).1]
def unOkR (zs : List Int) (p : Nat) : Nat → Bool
  | 0 => true
  | k + 1 => unOkR zs p k && (unA zs (p + 3 * k)).2
def unL (zs : List Int) (K : Nat) : Nat → List (List Ac)
  | 0 => []
  | j + 1 => unL zs K j ++ [unRow zs (2 + 3 * K * j) K]
def unOkL (zs : List Int) (K : Nat) : Nat → Bool
  | 0 => true
  | j + 1 => unOkL zs K j && unOkR zs (2 + 3 * K * j) K
def unG (zs : List Int) (K N : Nat) : Kmr := if unOkL zs K N = true ∧ okKm K (unL zs K N) = true then ⟨K, unL zs K N, true⟩ else ⟨0, [], false⟩
def unK (zs : List Int) : Kmr := if 2 ≤ zs.length ∧ zs.length = 2 + 3 * (zs.getD 0 0).toNat * (zs.getD 1 0).toNat then unG zs (zs.getD 0 0).toNat (zs.getD 1 0).toNat else ⟨0, [], false⟩
theorem unRow_len (zs : List Int) (p : Nat) : ∀ k, (unRow zs p k).length = k
  | 0 => rfl
  | k + 1 => by rw [unRow, List.length_append, unRow_len zs p k]; rfl
theorem unL_len (zs : List Int) (K : Nat) : ∀ j, (unL zs K j).length = j
  | 0 => rfl
  | j + 1 => by rw [unL, List.length_append, unL_len zs K j]; rfl
theorem unL_rows (zs : List Int) (K : Nat) : ∀ j, ∀ l ∈ unL zs K j, l.length = K
  | 0, l, h => by simp [unL] at h
  | j + 1, l, h => by
    rw [unL, List.mem_append] at h
    rcases h with h | h
    · exact unL_rows zs K j l h
    · rw [List.mem_singleton.1 h]; exact unRow_len _ _ _
theorem unOkR_no {zs : List Int} {p k : Nat} (h : (unA zs (p + 3 * k)).2 = false) : ∀ m, k < m → unOkR zs p m = false
  | 0, hm => absurd hm (Nat.not_lt_zero _)
  | m + 1, hm => by
    rcases Nat.lt_or_ge k m with h2 | h2
    · rw [unOkR, unOkR_no h m h2, Bool.false_and]
    · obtain rfl : k = m := by omega
      rw [unOkR, h, Bool.and_false]
theorem unOkL_no {zs : List Int} {K j : Nat} (h : unOkR zs (2 + 3 * K * j) K = false) : ∀ m, j < m → unOkL zs K m = false
  | 0, hm => absurd hm (Nat.not_lt_zero _)
  | m + 1, hm => by
    rcases Nat.lt_or_ge j m with h2 | h2
    · rw [unOkL, unOkL_no h m h2, Bool.false_and]
    · obtain rfl : j = m := by omega
      rw [unOkL, h, Bool.and_false]
theorem unG_no {zs : List Int} {K N j : Nat} (hj : j < N) (h : unOkR zs (2 + 3 * K * j) K = false) : unG zs K N = ⟨0, [], false⟩ := by
  unfold unG
  rw [if_neg (fun e => by rw [unOkL_no h N hj] at e; exact absurd e.1 (by decide))]
end Go.Proofs.YtleheibpgngmiaaDoor
