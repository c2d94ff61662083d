/- DERIVED. The reference's LastStable, CountChanges and IsSpaced, each called with a slice that reads as known numbers: it returns what a plain function says. · Bits of numbers of the kind int, negative ones too; the changes of a key in a list of masks, as indices. No condition. -/
import Derived.Test.YteljmfdlegohbaaInts
import Derived.Test.YteljmfdlegohbaaCore
namespace Go.Proofs.Yteljmfdlegohbaa
open Go.RowKit

/-- Bit k of a number, as Go asks for it. -/
def bz (z : Int) (k : Nat) : Int := bits .and .i64 (z / 2 ^ k) 1
theorem bz01 (z : Int) (k : Nat) : bz z k = 0 ∨ bz z k = 1 := by
  unfold bz bits
  have e : (BitVec.ofInt 64 1).toNat = 1 := by decide
  have hle : (BitVec.ofInt 64 (z / 2 ^ k) &&& BitVec.ofInt 64 1).toNat ≤ 1 := by
    rw [BitVec.toNat_and, e]; exact Nat.and_le_right
  show IntKind.i64.wrap ((BitVec.ofInt 64 (z / 2 ^ k) &&& BitVec.ofInt 64 1).toNat : Int) = 0 ∨ IntKind.i64.wrap ((BitVec.ofInt 64 (z / 2 ^ k) &&& BitVec.ofInt 64 1).toNat : Int) = 1
  generalize (BitVec.ofInt 64 (z / 2 ^ k) &&& BitVec.ofInt 64 1).toNat = m at hle
  rw [IntWalk.i64_in _ ⟨by omega, by omega⟩]
  omega
theorem rd_ints {w : World} {v : Value} {zs : List Int} (h : Rd w v (zs.map (.int .i64))) :
    (zs = [] ∧ ∃ a cap, v = .slice a 0 cap) ∨ ∃ b off cap, 0 < zs.length ∧ v = .slice (some ⟨b, off, none⟩) zs.length cap ∧ b < w.heap.size ∧ ∀ j, j < zs.length → w.cell? ⟨b, off + j, none⟩ = some (.int .i64 (zs.getD j 0)) := by
  rcases h.cases with ⟨hx, a, cap, rfl⟩ | ⟨hx, b, off, cap, rfl, hlt, hc⟩
  · exact .inl ⟨by simpa using hx, a, cap, rfl⟩
  · refine .inr ⟨b, off, cap, ?_, by rw [List.length_map], hlt, fun j hj => ?_⟩
    · have : zs ≠ [] := fun e => hx (by rw [e]; rfl)
      exact List.length_pos_iff.mpr this
    · rw [hc j (by simpa using hj), getD_map_int]

def keyB (key : Int) : Bool := decide (0 ≤ key ∧ key ≤ 23)
/-- The last bit and the number of changes behind j masks. -/
def ccN (zs : List Int) (k : Nat) : Nat → Int × Nat
  | 0 => (0, 0)
  | j + 1 => if bz (zs.getD j 0) k = (ccN zs k j).1 then ccN zs k j else (1 - (ccN zs k j).1, (ccN zs k j).2 + 1)
theorem ccN_bd (zs : List Int) (k j : Nat) : ((ccN zs k j).1 = 0 ∨ (ccN zs k j).1 = 1) ∧ (ccN zs k j).2 ≤ j := by
  induction j with
  | zero => exact ⟨.inl rfl, Nat.le_refl _⟩
  | succ j ih =>
    rw [ccN]
    split
    · exact ⟨ih.1, by omega⟩
    · constructor
      · simp only; omega
      · simp only; omega
def countV (zs : List Int) (key : Int) : Int := if keyB key = true then ((ccN zs key.toNat zs.length).2 : Int) else 0

/-- Behind j masks: the last bit, where it last changed (-1: nowhere), and whether all changes were spaced. -/
def spN (zs : List Int) (k : Nat) (n : Int) : Nat → Int × Int × Bool
  | 0 => (0, -1, true)
  | j + 1 => if bz (zs.getD j 0) k = (spN zs k n j).1 then spN zs k n j else (1 - (spN zs k n j).1, (j : Int), (spN zs k n j).2.2 && !(decide (0 ≤ (spN zs k n j).2.1) && decide ((j : Int) - (spN zs k n j).2.1 < n)))
theorem spN_bd (zs : List Int) (k : Nat) (n : Int) (j : Nat) : ((spN zs k n j).1 = 0 ∨ (spN zs k n j).1 = 1) ∧ -1 ≤ (spN zs k n j).2.1 ∧ (spN zs k n j).2.1 < j := by
  induction j with
  | zero => exact ⟨.inl rfl, by simp [spN], by simp [spN]⟩
  | succ j ih =>
    rw [spN]
    split
    · exact ⟨ih.1, by omega, by omega⟩
    · refine ⟨?_, ?_, ?_⟩
      · simp only; omega
      · simp only; omega
      · simp only; omega
theorem spN_no {zs : List Int} {k : Nat} {n : Int} {j : Nat} (h : (spN zs k n j).2.2 = false) : ∀ m, j ≤ m → (spN zs k n m).2.2 = false := by
  intro m hm
  induction m with
  | zero => obtain rfl : j = 0 := by omega
            exact h
  | succ m ih =>
    by_cases e : j = m + 1
    · subst e; exact h
    · rw [spN]
      split
      · exact ih (by omega)
      · simp only; rw [ih (by omega)]; rfl
def spacedV (zs : List Int) (key n : Int) : Bool := keyB key && (spN zs key.toNat n zs.length).2.2

/-- Behind j samples: the length of the run, what was last stable, and whether anything was. -/
def lsN (zs : List Int) (time : Int) (k : Nat) : Nat → Nat × Bool × Bool
  | 0 => (0, false, false)
  | j + 1 =>
    if time ≤ ((if 0 < j ∧ bz (zs.getD j 0) k = bz (zs.getD (j - 1) 0) k then (lsN zs time k j).1 + 1 else 1 : Nat) : Int) then
      (if 0 < j ∧ bz (zs.getD j 0) k = bz (zs.getD (j - 1) 0) k then (lsN zs time k j).1 + 1 else 1, bz (zs.getD j 0) k == 1, true)
    else (if 0 < j ∧ bz (zs.getD j 0) k = bz (zs.getD (j - 1) 0) k then (lsN zs time k j).1 + 1 else 1, (lsN zs time k j).2.1, (lsN zs time k j).2.2)
theorem lsN_bd (zs : List Int) (time : Int) (k j : Nat) : (lsN zs time k j).1 ≤ j := by
  induction j with
  | zero => exact Nat.le_refl _
  | succ j ih =>
    have e : (lsN zs time k (j + 1)).1 = if 0 < j ∧ bz (zs.getD j 0) k = bz (zs.getD (j - 1) 0) k then (lsN zs time k j).1 + 1 else 1 := by rw [lsN]; split <;> (split <;> rfl)
    rw [e]
    split <;> omega
def stableOk (time key : Int) : Bool := decide (1 ≤ time ∧ time ≤ 20) && keyB key
def stableV (zs : List Int) (time key : Int) : Bool := stableOk time key && (lsN zs time key.toNat zs.length).2.1
def stableB (zs : List Int) (time key : Int) : Bool := stableOk time key && (lsN zs time key.toNat zs.length).2.2

theorem sub_pow_bit (r q : Int) (k : Nat) (hk : k < 64) : (r - 2 ^ 64 * q) / 2 ^ k % 2 = r / 2 ^ k % 2 := by
  have e : (2 : Int) ^ 64 * q = 2 ^ k * (2 * (2 ^ (63 - k) * q)) := by
    have : (2 : Int) ^ 64 = 2 ^ k * (2 * 2 ^ (63 - k)) := by
      rw [show (2 : Int) * 2 ^ (63 - k) = 2 ^ (64 - k) by rw [show 64 - k = (63 - k) + 1 by omega, Int.pow_succ, Int.mul_comm], ← Int.pow_add, show k + (64 - k) = 64 by omega]
    rw [this]; simp only [Int.mul_assoc]
  have hp : (2 : Int) ^ k ≠ 0 := by have : (0 : Int) < 2 ^ k := Int.pow_pos (by decide); omega
  rw [e, Int.sub_eq_add_neg, ← Int.mul_neg, Int.add_mul_ediv_left _ _ hp]
  omega
theorem bz_mod (z : Int) (k : Nat) : bz z k = z / 2 ^ k % 2 := by
  unfold bz bits
  have e : (BitVec.ofInt 64 1).toNat = 1 := by decide
  show IntKind.i64.wrap ((BitVec.ofInt 64 (z / 2 ^ k) &&& BitVec.ofInt 64 1).toNat : Int) = _
  rw [BitVec.toNat_and, e, Nat.and_one_is_mod, BitVec.toNat_ofInt]
  generalize z / 2 ^ k = y
  rw [IntWalk.i64_in _ ⟨by omega, by omega⟩]
  omega
theorem bz_zero (k : Nat) : bz 0 k = 0 := by rw [bz_mod]; simp
theorem i64_wrap_sub (x : Int) : ∃ q, IntKind.i64.wrap x = x - 2 ^ 64 * q := by
  have e : IntKind.i64.wrap x = if 2 ^ 63 ≤ x % 2 ^ 64 then x % 2 ^ 64 - 2 ^ 64 else x % 2 ^ 64 := by
    show (if (true && decide (x % 2 ^ 64 ≥ 2 ^ 63)) = true then x % 2 ^ 64 - 2 ^ 64 else x % 2 ^ 64) = _
    by_cases h : (2 : Int) ^ 63 ≤ x % 2 ^ 64
    · rw [if_pos h, if_pos (by simpa using h)]
    · rw [if_neg h, if_neg (by simpa using h)]
  rw [e]
  by_cases h : (2 : Int) ^ 63 ≤ x % 2 ^ 64
  · exact ⟨x / 2 ^ 64 + 1, by rw [if_pos h]; omega⟩
  · exact ⟨x / 2 ^ 64, by rw [if_neg h]; omega⟩
theorem bz_xor (a b : Int) (k : Nat) (hk : k < 64) : bz (bits .xor .i64 a b) k = if bz a k = bz b k then 0 else 1 := by
  rw [bz_mod, bz_mod a, bz_mod b]
  unfold bits
  show IntKind.i64.wrap ((BitVec.ofInt 64 a ^^^ BitVec.ofInt 64 b).toNat : Int) / 2 ^ k % 2 = _
  obtain ⟨q, hq⟩ := i64_wrap_sub ((BitVec.ofInt 64 a ^^^ BitVec.ofInt 64 b).toNat : Int)
  rw [hq, sub_pow_bit _ _ _ hk, BitVec.toNat_xor]
  have hA : ∀ z : Int, (((BitVec.ofInt 64 z).toNat : Int) / 2 ^ k) % 2 = z / 2 ^ k % 2 := by
    intro z
    rw [BitVec.toNat_ofInt]
    have : (((z % ((2 ^ 64 : Nat) : Int)).toNat : Nat) : Int) = z - 2 ^ 64 * (z / 2 ^ 64) := by
      have := Int.emod_def z (2 ^ 64)
      omega
    rw [this, sub_pow_bit _ _ _ hk]
  have h1 := hA a
  have h2 := hA b
  generalize (BitVec.ofInt 64 a).toNat = A at *
  generalize (BitVec.ofInt 64 b).toNat = B at *
  rw [← h1, ← h2]
  have hN : ∀ m : Nat, ((m : Int) / 2 ^ k) % 2 = if m.testBit k then 1 else 0 := by
    intro m
    have e1 : ((m : Int) / 2 ^ k) = ((m / 2 ^ k : Nat) : Int) := by simp
    rw [e1, Nat.testBit_eq_decide_div_mod_eq]
    have := Nat.mod_lt (m / 2 ^ k) (show 0 < 2 by omega)
    by_cases h : m / 2 ^ k % 2 = 1
    · simp [h]; omega
    · simp [h]; omega
  rw [hN, hN, hN, Nat.testBit_xor]
  cases A.testBit k <;> cases B.testBit k <;> simp

/-- Bit k of z is set. -/
def hz (z : Int) (k : Nat) : Bool := decide (bz z k = 1)
theorem hz_nat (a k : Nat) (ha : a < 2 ^ 62) : hz (a : Int) k = a.testBit k := by
  unfold hz bz
  rw [bit_nat a k ha]
  cases a.testBit k <;> rfl
theorem hz_xor (a b : Int) (k : Nat) (hk : k < 64) : hz (bits .xor .i64 a b) k = !decide (bz a k = bz b k) := by
  unfold hz
  rw [bz_xor a b k hk]
  by_cases h : bz a k = bz b k <;> simp [h]

/-- The mask ahead of place j. -/
def prevZ (zs : List Int) : Nat → Int
  | 0 => 0
  | j + 1 => zs.getD j 0
theorem ccN_prev (zs : List Int) (k j : Nat) : (ccN zs k j).1 = bz (prevZ zs j) k := by
  induction j with
  | zero => rw [prevZ, bz_zero]; rfl
  | succ j ih =>
    have h1 := (ccN_bd zs k j).1
    have h2 := bz01 (zs.getD j 0) k
    rw [prevZ, ccN]
    by_cases h : bz (zs.getD j 0) k = (ccN zs k j).1
    · rw [if_pos h]; exact h.symm
    · rw [if_neg h]; show 1 - (ccN zs k j).1 = _; omega

/-- The places ahead of j at which the key changes. -/
def chN (zs : List Int) (k : Nat) : Nat → List Int
  | 0 => []
  | j + 1 => if bz (zs.getD j 0) k = bz (prevZ zs j) k then chN zs k j else chN zs k j ++ [(j : Int)]
theorem chN_len (zs : List Int) (k j : Nat) : (chN zs k j).length = (ccN zs k j).2 := by
  induction j with
  | zero => rfl
  | succ j ih =>
    rw [chN, ccN, ← ccN_prev]
    by_cases h : bz (zs.getD j 0) k = (ccN zs k j).1
    · rw [if_pos h, if_pos h]; exact ih
    · rw [if_neg h, if_neg h]; simp [ih]
theorem chN_bd (zs : List Int) (k j : Nat) : ∀ x ∈ chN zs k j, 0 ≤ x ∧ x < j := by
  induction j with
  | zero => intro x hx; simp [chN] at hx
  | succ j ih =>
    intro x hx
    rw [chN] at hx
    split at hx
    · have := ih x hx; omega
    · rcases List.mem_append.mp hx with hx | hx
      · have := ih x hx; omega
      · simp at hx; omega
/-- Each number is at least n behind the one ahead of it. -/
def SpacedI (l : List Int) (n : Int) : Prop := ∀ i, i + 1 < l.length → n ≤ l.getD (i + 1) 0 - l.getD i 0
def lastI (l : List Int) : Int := if l = [] then -1 else l.getD (l.length - 1) 0
theorem lastI_snoc (l : List Int) (x : Int) : lastI (l ++ [x]) = x := by
  unfold lastI
  rw [if_neg (by simp)]
  simp
theorem spacedI_snoc {l : List Int} {x n : Int} (h : l ≠ []) : SpacedI (l ++ [x]) n ↔ SpacedI l n ∧ n ≤ x - lastI l := by
  have hp : 0 < l.length := List.length_pos_iff.mpr h
  have e1 : ∀ i, i < l.length → (l ++ [x]).getD i 0 = l.getD i 0 := fun i hi => by simp [List.getElem?_append_left hi]
  have e2 : (l ++ [x]).getD l.length 0 = x := by simp
  unfold SpacedI lastI
  rw [if_neg h]
  constructor
  · intro hs
    refine ⟨fun i hi => ?_, ?_⟩
    · have := hs i (by simp; omega)
      rwa [e1 _ hi, e1 _ (by omega)] at this
    · have := hs (l.length - 1) (by simp; omega)
      rw [show l.length - 1 + 1 = l.length by omega, e2, e1 _ (by omega)] at this
      exact this
  · rintro ⟨h1, h2⟩ i hi
    rw [List.length_append, List.length_singleton] at hi
    by_cases hl : i + 1 < l.length
    · rw [e1 _ hl, e1 _ (by omega)]; exact h1 i hl
    · obtain rfl : i = l.length - 1 := by omega
      rw [show l.length - 1 + 1 = l.length by omega, e2, e1 _ (by omega)]
      exact h2
theorem spacedI_one (x n : Int) : SpacedI [x] n := fun i hi => by simp at hi
theorem spacedI_nil (n : Int) : SpacedI [] n := fun i hi => by simp at hi
theorem spN_ch (zs : List Int) (k : Nat) (n : Int) (j : Nat) : (spN zs k n j).1 = (ccN zs k j).1 ∧ (spN zs k n j).2.1 = lastI (chN zs k j) ∧ ((spN zs k n j).2.2 = true ↔ SpacedI (chN zs k j) n) := by
  induction j with
  | zero => exact ⟨rfl, rfl, by simp [spN, chN, spacedI_nil]⟩
  | succ j ih =>
    obtain ⟨h1, h2, h3⟩ := ih
    rw [spN, ccN, chN, h1, ← ccN_prev]
    by_cases h : bz (zs.getD j 0) k = (ccN zs k j).1
    · rw [if_pos h, if_pos h, if_pos h]; exact ⟨h1, h2, h3⟩
    · rw [if_neg h, if_neg h, if_neg h]
      refine ⟨rfl, (lastI_snoc _ _).symm, ?_⟩
      show ((spN zs k n j).2.2 && !(decide (0 ≤ (spN zs k n j).2.1) && decide ((j : Int) - (spN zs k n j).2.1 < n))) = true ↔ _
      rw [h2]
      by_cases hc : chN zs k j = []
      · rw [hc] at h3 ⊢
        have : lastI ([] : List Int) = -1 := rfl
        rw [this]
        simp [h3, spacedI_nil, spacedI_one]
      · rw [spacedI_snoc hc, Bool.and_eq_true, h3]
        have hm : lastI (chN zs k j) ∈ chN zs k j := by
          unfold lastI
          have hp : 0 < (chN zs k j).length := List.length_pos_iff.mpr hc
          rw [if_neg hc, show (chN zs k j).getD ((chN zs k j).length - 1) 0 = (chN zs k j)[(chN zs k j).length - 1] by simp [List.getElem?_eq_getElem (show (chN zs k j).length - 1 < (chN zs k j).length by omega)]]
          exact List.getElem_mem _
        have h0 := (chN_bd zs k j _ hm).1
        simp [h0]
def chV (zs : List Int) (key : Int) : List Int := if keyB key = true then chN zs key.toNat zs.length else []
theorem chV_len (zs : List Int) (key : Int) : ((chV zs key).length : Int) = countV zs key := by
  unfold chV countV
  split
  · rw [chN_len]
  · rfl
theorem spacedV_iff (zs : List Int) (key n : Int) : spacedV zs key n = true ↔ keyB key = true ∧ SpacedI (chV zs key) n := by
  unfold spacedV chV
  by_cases h : keyB key = true
  · rw [if_pos h, h, Bool.true_and, (spN_ch zs key.toNat n zs.length).2.2]; simp
  · simp [h]
theorem chV_bd (zs : List Int) (key : Int) : ∀ i, i < (chV zs key).length → 0 ≤ (chV zs key).getD i 0 ∧ (chV zs key).getD i 0 < zs.length := by
  intro i hi
  have hm : (chV zs key).getD i 0 ∈ chV zs key := by
    rw [show (chV zs key).getD i 0 = (chV zs key)[i] by simp [List.getElem?_eq_getElem hi]]
    exact List.getElem_mem _
  unfold chV at hm ⊢
  split at hm
  · rename_i h
    rw [if_pos h]
    exact chN_bd _ _ _ _ hm
  · simp at hm
theorem chN_count (zs : List Int) (k : Nat) : (chN zs k zs.length).length ≤ zs.length := by rw [chN_len]; exact (ccN_bd zs k zs.length).2
theorem chV_count (zs : List Int) (key : Int) : (chV zs key).length ≤ zs.length := by
  unfold chV
  split
  · exact chN_count _ _
  · simp

end Go.Proofs.Yteljmfdlegohbaa
