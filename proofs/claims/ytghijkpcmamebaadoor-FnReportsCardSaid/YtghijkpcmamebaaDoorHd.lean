/- DERIVED. Helds as data; the laws' own functions on them and on slices of them: the size, a copy, two that are alike, marks. -/
import Derived.Test.YtghijkpcmamebaaDoorCore
import Derived.Test.YtghijkpcmamebaaDoorInts
import Derived.WalkSmall
import Derived.Deep.RegionHeld3
import Derived.Deep.DeepCutAuto
import Derived.Test.YtghijkpcmamebaaDoorAcs
namespace Go.Proofs.YtghijkpcmamebaaDoor
open Go.RowKit

/-- One Held. -/
structure Hd where
  h : Int
  k : Int
  c : Int
  m : Int
  n : Int
abbrev Hd.cells (e : Hd) : List Value := [.int .i64 e.h, .int .i64 e.k, .int .i64 e.c, .int .i64 e.m, .int .i64 e.n]
abbrev hdv (h : Int) (k : Int) (c : Int) (m : Int) (n : Int) : Value := .agg #[.int .i64 h, .int .i64 k, .int .i64 c, .int .i64 m, .int .i64 n]
def flatHd (l : List Hd) : List Value := l.flatMap Hd.cells
theorem flatHd_len (l : List Hd) : (flatHd l).length = l.length * 5 := by
  induction l with
  | nil => rfl
  | cons e l ih => simp [flatHd] at ih ⊢; omega
theorem flatHd_snoc (l : List Hd) (e : Hd) : flatHd (l ++ [e]) = flatHd l ++ e.cells := by simp [flatHd]
theorem flatHd_one (l : List Hd) : ∀ u ∈ flatHd l, u.oneCell' = true := by
  intro u hu
  simp only [flatHd, List.mem_flatMap] at hu
  obtain ⟨e, _, hu⟩ := hu
  simp at hu
  rcases hu with rfl | rfl | rfl | rfl | rfl <;> rfl
def hdD (l : List Hd) (j : Nat) : Hd := l.getD j ⟨0, 0, 0, 0, 0⟩
theorem hdD_take (l : List Hd) (j : Nat) (h : j < l.length) : l.take (j + 1) = l.take j ++ [hdD l j] := by
  rw [List.take_succ_eq_append_getElem h, hdD]; simp [List.getElem?_eq_getElem h]
theorem flatHd_get (l : List Hd) (j f : Nat) (hj : j < l.length) (hf : f < 5) : (flatHd l)[j * 5 + f]? = (hdD l j).cells[f]? := by
  induction l generalizing j with
  | nil => simp at hj
  | cons e l ih =>
    have hc : flatHd (e :: l) = e.cells ++ flatHd l := by simp [flatHd]
    rw [hc]
    cases j with
    | zero => rw [List.getElem?_append_left (by simp; omega)]; simp [hdD]
    | succ j =>
      rw [List.getElem?_append_right (by simp; omega)]
      rw [show (j + 1) * 5 + f - e.cells.length = j * 5 + f by simp; omega, ih j (by simpa using hj)]
      simp [hdD]
/-- What a walk knows of a slice of these. -/
theorem rd_hds {w : World} {v : Value} {l : List Hd} (h : RdN w v l.length (flatHd l)) :
    (l = [] ∧ ∃ a cap, v = .slice a 0 cap) ∨ ∃ b off cap, 0 < l.length ∧ v = .slice (some ⟨b, off, none⟩) l.length cap ∧ b < w.heap.size ∧
      ∀ j, j < l.length → w.cell? ⟨b, off + j * 5, none⟩ = some (.int .i64 (hdD l j).h) ∧ w.cell? ⟨b, off + j * 5 + 1, none⟩ = some (.int .i64 (hdD l j).k) ∧ w.cell? ⟨b, off + j * 5 + 2, none⟩ = some (.int .i64 (hdD l j).c) ∧ w.cell? ⟨b, off + j * 5 + 3, none⟩ = some (.int .i64 (hdD l j).m) ∧ w.cell? ⟨b, off + j * 5 + 4, none⟩ = some (.int .i64 (hdD l j).n) := by
  rcases h.cases with ⟨hx, a, cap, rfl⟩ | ⟨hx, b, off, cap, rfl, hlt, hc⟩
  · exact .inl ⟨List.eq_nil_of_length_eq_zero hx, a, cap, rfl⟩
  · refine .inr ⟨b, off, cap, hx, rfl, hlt, fun j hj => ?_⟩
    have key : ∀ f, f < 5 → w.cell? ⟨b, off + j * 5 + f, none⟩ = (hdD l j).cells[f]? := fun f hf => by
      have hl : j * 5 + f < (flatHd l).length := by rw [flatHd_len]; omega
      rw [Nat.add_assoc, hc _ hl, ← List.getElem?_eq_getElem hl, flatHd_get l j f hj hf]
    exact ⟨by simpa using key 0 (by omega), by simpa using key 1 (by omega), by simpa using key 2 (by omega), by simpa using key 3 (by omega), by simpa using key 4 (by omega)⟩
/-- The marks that a law writes into n of them, counted from q on. -/
def marksHd (q : Int) (n : Nat) : List Hd := (List.range n).map fun (j : Nat) => ⟨(q + ((j * 5 + 0 : Nat) : Int)), (q + ((j * 5 + 1 : Nat) : Int)), (q + ((j * 5 + 2 : Nat) : Int)), (q + ((j * 5 + 3 : Nat) : Int)), (q + ((j * 5 + 4 : Nat) : Int))⟩
theorem marksHd_len (q : Int) (n : Nat) : (marksHd q n).length = n := by simp [marksHd]
theorem marksHd_succ (q : Int) (n : Nat) : marksHd q (n + 1) = marksHd q n ++ [⟨(q + ((n * 5 + 0 : Nat) : Int)), (q + ((n * 5 + 1 : Nat) : Int)), (q + ((n * 5 + 2 : Nat) : Int)), (q + ((n * 5 + 3 : Nat) : Int)), (q + ((n * 5 + 4 : Nat) : Int))⟩] := by simp [marksHd, List.range_succ]
theorem marksHd_take (q : Int) (n j : Nat) (h : j ≤ n) : (marksHd q n).take j = marksHd q j := by simp [marksHd, ← List.map_take, List.take_range, Nat.min_eq_left h]
theorem marksHd_D (q : Int) (n j : Nat) (h : j < n) : hdD (marksHd q n) j = ⟨(q + ((j * 5 + 0 : Nat) : Int)), (q + ((j * 5 + 1 : Nat) : Int)), (q + ((j * 5 + 2 : Nat) : Int)), (q + ((j * 5 + 3 : Nat) : Int)), (q + ((j * 5 + 4 : Nat) : Int))⟩ := by simp [hdD, marksHd, h]
end Go.Proofs.YtghijkpcmamebaaDoor
