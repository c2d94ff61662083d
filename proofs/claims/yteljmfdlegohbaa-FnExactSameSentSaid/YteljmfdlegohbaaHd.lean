/- DERIVED. Helds as data; the laws' own functions on them and on slices of them: the size, a copy, two that are alike, marks. · Chapter 7's words on held keys as plain functions: valid held keys, the layers that they switch on. No condition. -/
import Derived.Test.YteljmfdlegohbaaCore
import Derived.Test.YteljmfdlegohbaaInts
import Derived.WalkSmall
import Derived.Deep.RegionHeld3
import Derived.Deep.DeepCutAuto
import Derived.Test.YteljmfdlegohbaaAcs
namespace Go.Proofs.Yteljmfdlegohbaa
open Go.RowKit

/-- One Held. -/
structure Hd where
  h : Int
  k : Int
  c : Int
  m : Int
  n : Int
abbrev Hd.cells (e : Hd) : List Value := [.int .i64 e.h, .int .i64 e.k, .int .i64 e.c, .int .i64 e.m, .int .i64 e.n]
abbrev hdv (h : Int) (k : Int) (c : Int) (m : Int) (n : Int) : Value := .agg #[.int .i64 h, .int .i64 k, .int .i64 c, .int .i64 m, .int .i64 n]
def flatHd (l : List Hd) : List Value := l.flatMap Hd.cells
theorem flatHd_len (l : List Hd) : (flatHd l).length = l.length * 5 := by
  induction l with
  | nil => rfl
  | cons e l ih => simp [flatHd] at ih ⊢; omega
theorem flatHd_snoc (l : List Hd) (e : Hd) : flatHd (l ++ [e]) = flatHd l ++ e.cells := by simp [flatHd]
theorem flatHd_one (l : List Hd) : ∀ u ∈ flatHd l, u.oneCell' = true := by
  intro u hu
  simp only [flatHd, List.mem_flatMap] at hu
  obtain ⟨e, _, hu⟩ := hu
  simp at hu
  rcases hu with rfl | rfl | rfl | rfl | rfl <;> rfl
def hdD (l : List Hd) (j : Nat) : Hd := l.getD j ⟨0, 0, 0, 0, 0⟩
theorem hdD_take (l : List Hd) (j : Nat) (h : j < l.length) : l.take (j + 1) = l.take j ++ [hdD l j] := by
  rw [List.take_succ_eq_append_getElem h, hdD]; simp [List.getElem?_eq_getElem h]
theorem flatHd_get (l : List Hd) (j f : Nat) (hj : j < l.length) (hf : f < 5) : (flatHd l)[j * 5 + f]? = (hdD l j).cells[f]? := by
  induction l generalizing j with
  | nil => simp at hj
  | cons e l ih =>
    have hc : flatHd (e :: l) = e.cells ++ flatHd l := by simp [flatHd]
    rw [hc]
    cases j with
    | zero => rw [List.getElem?_append_left (by simp; omega)]; simp [hdD]
    | succ j =>
      rw [List.getElem?_append_right (by simp; omega)]
      rw [show (j + 1) * 5 + f - e.cells.length = j * 5 + f by simp; omega, ih j (by simpa using hj)]
      simp [hdD]
/-- What a walk knows of a slice of these. -/
theorem rd_hds {w : World} {v : Value} {l : List Hd} (h : RdN w v l.length (flatHd l)) :
    (l = [] ∧ ∃ a cap, v = .slice a 0 cap) ∨ ∃ b off cap, 0 < l.length ∧ v = .slice (some ⟨b, off, none⟩) l.length cap ∧ b < w.heap.size ∧
      ∀ j, j < l.length → w.cell? ⟨b, off + j * 5, none⟩ = some (.int .i64 (hdD l j).h) ∧ w.cell? ⟨b, off + j * 5 + 1, none⟩ = some (.int .i64 (hdD l j).k) ∧ w.cell? ⟨b, off + j * 5 + 2, none⟩ = some (.int .i64 (hdD l j).c) ∧ w.cell? ⟨b, off + j * 5 + 3, none⟩ = some (.int .i64 (hdD l j).m) ∧ w.cell? ⟨b, off + j * 5 + 4, none⟩ = some (.int .i64 (hdD l j).n) := by
  rcases h.cases with ⟨hx, a, cap, rfl⟩ | ⟨hx, b, off, cap, rfl, hlt, hc⟩
  · exact .inl ⟨List.eq_nil_of_length_eq_zero hx, a, cap, rfl⟩
  · refine .inr ⟨b, off, cap, hx, rfl, hlt, fun j hj => ?_⟩
    have key : ∀ f, f < 5 → w.cell? ⟨b, off + j * 5 + f, none⟩ = (hdD l j).cells[f]? := fun f hf => by
      have hl : j * 5 + f < (flatHd l).length := by rw [flatHd_len]; omega
      rw [Nat.add_assoc, hc _ hl, ← List.getElem?_eq_getElem hl, flatHd_get l j f hj hf]
    exact ⟨by simpa using key 0 (by omega), by simpa using key 1 (by omega), by simpa using key 2 (by omega), by simpa using key 3 (by omega), by simpa using key 4 (by omega)⟩
theorem info_hd : (Try.prog.info? 212).map (fun i => (i.zero, i.size, i.bytes)) = some (some (.agg #[.int .i64 0, .int .i64 0, .int .i64 0, .int .i64 0, .int .i64 0]), 5, 40) := by kernel_rfl

/-- The marks that a law writes into n of them, counted from q on. -/
def marksHd (q : Int) (n : Nat) : List Hd := (List.range n).map fun (j : Nat) => ⟨(q + ((j * 5 + 0 : Nat) : Int)), (q + ((j * 5 + 1 : Nat) : Int)), (q + ((j * 5 + 2 : Nat) : Int)), (q + ((j * 5 + 3 : Nat) : Int)), (q + ((j * 5 + 4 : Nat) : Int))⟩
theorem marksHd_len (q : Int) (n : Nat) : (marksHd q n).length = n := by simp [marksHd]
theorem marksHd_succ (q : Int) (n : Nat) : marksHd q (n + 1) = marksHd q n ++ [⟨(q + ((n * 5 + 0 : Nat) : Int)), (q + ((n * 5 + 1 : Nat) : Int)), (q + ((n * 5 + 2 : Nat) : Int)), (q + ((n * 5 + 3 : Nat) : Int)), (q + ((n * 5 + 4 : Nat) : Int))⟩] := by simp [marksHd, List.range_succ]
theorem marksHd_take (q : Int) (n j : Nat) (h : j ≤ n) : (marksHd q n).take j = marksHd q j := by simp [marksHd, ← List.map_take, List.take_range, Nat.min_eq_left h]
theorem marksHd_D (q : Int) (n j : Nat) (h : j < n) : hdD (marksHd q n) j = ⟨(q + ((j * 5 + 0 : Nat) : Int)), (q + ((j * 5 + 1 : Nat) : Int)), (q + ((j * 5 + 2 : Nat) : Int)), (q + ((j * 5 + 3 : Nat) : Int)), (q + ((j * 5 + 4 : Nat) : Int))⟩ := by simp [hdD, marksHd, h]
/-- One held key that may stand alone. -/
def okOne (e : Hd) : Bool := inB e.h 0 31 && (okAc e.k e.c e.m e.n && (!decide (e.k = 1) && !holdAc e.k e.c e.m e.n))
/-- The keys of the first j, as bits. -/
def seenN (l : List Hd) : Nat → Nat
  | 0 => 0
  | j + 1 => seenN l j ||| 2 ^ (hdD l j).h.toNat
def hdN (l : List Hd) : Nat → Bool
  | 0 => true
  | j + 1 => hdN l j && (okOne (hdD l j) && !(seenN l j).testBit (hdD l j).h.toNat)
def okHd (l : List Hd) : Bool := hdN l l.length
theorem hdN_no {l : List Hd} {j : Nat} (h : (okOne (hdD l j) && !(seenN l j).testBit (hdD l j).h.toNat) = false) : ∀ m, j < m → hdN l m = false
  | 0, hm => absurd hm (Nat.not_lt_zero _)
  | m + 1, hm => by
    rcases Nat.lt_or_ge j m with h2 | h2
    · rw [hdN, hdN_no h m h2, Bool.false_and]
    · obtain rfl : j = m := by omega
      rw [hdN, h, Bool.and_false]
theorem hdN_at {l : List Hd} : ∀ {m : Nat}, hdN l m = true → ∀ j, j < m → okOne (hdD l j) = true ∧ (seenN l j).testBit (hdD l j).h.toNat = false
  | 0, _, j, hj => absurd hj (Nat.not_lt_zero _)
  | m + 1, h, j, hj => by
    rw [hdN, Bool.and_eq_true, Bool.and_eq_true] at h
    rcases Nat.lt_or_ge j m with h2 | h2
    · exact hdN_at h.1 j h2
    · obtain rfl : j = m := by omega
      exact ⟨h.2.1, by simpa using h.2.2⟩
theorem okOne_at {e : Hd} (h : okOne e = true) : (0 ≤ e.h ∧ e.h ≤ 31) ∧ okAc e.k e.c e.m e.n = true ∧ e.k ≠ 1 ∧ holdAc e.k e.c e.m e.n = false := by
  rw [okOne, Bool.and_eq_true, Bool.and_eq_true, Bool.and_eq_true] at h
  obtain ⟨h1, h2, h3, h4⟩ := h
  exact ⟨of_decide_eq_true h1, h2, by simpa using h3, by simpa using h4⟩
theorem seenN_lt {l : List Hd} : ∀ {m : Nat}, hdN l m = true → seenN l m < 2 ^ 32
  | 0, _ => by simp [seenN]
  | m + 1, h => by
    have hm := (hdN_at h m (by omega)).1
    rw [hdN, Bool.and_eq_true] at h
    rw [seenN]
    exact Nat.or_lt_two_pow (seenN_lt h.1) (Nat.pow_lt_pow_right (by omega) (by have := (okOne_at hm).1; omega))
theorem seenN_bit (l : List Hd) (q : Nat) : ∀ m, (seenN l m).testBit q = true ↔ ∃ i, i < m ∧ (hdD l i).h.toNat = q
  | 0 => by simp [seenN]
  | m + 1 => by
    rw [seenN, Nat.testBit_or, Bool.or_eq_true, seenN_bit l q m, Nat.testBit_two_pow, decide_eq_true_eq]
    constructor
    · rintro (⟨i, hi, e⟩ | e)
      · exact ⟨i, by omega, e⟩
      · exact ⟨m, by omega, e⟩
    · rintro ⟨i, hi, e⟩
      rcases Nat.lt_or_ge i m with h | h
      · exact .inl ⟨i, h, e⟩
      · obtain rfl : i = m := by omega
        exact .inr e

/-- The layers that are on. -/
def onStart (fixed : Int) : Nat := if inB fixed 0 15 = true then 1 ||| fixed.toNat else 1
def onN (l : List Hd) (s : Nat) : Nat → Nat
  | 0 => s
  | j + 1 => if (hdD l j).k = 3 then onN l s j ||| 2 ^ (hdD l j).n.toNat else onN l s j
def onV (fixed : Int) (l : List Hd) : Nat := if okHd l = true then onN l (onStart fixed) l.length else onStart fixed
theorem onStart_lt (fixed : Int) : onStart fixed < 2 ^ 4 := by
  rw [onStart]
  split
  · rename_i h
    have := of_decide_eq_true h
    exact Nat.or_lt_two_pow (by decide) (by omega)
  · decide
theorem okAc_mom {c m n : Int} (h : okAc 3 c m n = true) : 1 ≤ n ∧ n ≤ 3 := by
  simp [okAc, inB] at h
  omega
theorem mom_at {l : List Hd} (h : okHd l = true) {j : Nat} (hj : j < l.length) (hk : (hdD l j).k = 3) : 1 ≤ (hdD l j).n ∧ (hdD l j).n ≤ 3 := by
  have h1 := (okOne_at (hdN_at h j hj).1).2.1
  rw [hk] at h1
  exact okAc_mom h1
theorem onN_lt {l : List Hd} {s : Nat} (hs : s < 2 ^ 4) (h : okHd l = true) : ∀ j, j ≤ l.length → onN l s j < 2 ^ 4
  | 0, _ => hs
  | j + 1, hj => by
    rw [onN]
    split
    · rename_i hk
      have := mom_at h (by omega) hk
      exact Nat.or_lt_two_pow (onN_lt hs h j (by omega)) (Nat.pow_lt_pow_right (by omega) (by omega))
    · exact onN_lt hs h j (by omega)


end Go.Proofs.Yteljmfdlegohbaa
