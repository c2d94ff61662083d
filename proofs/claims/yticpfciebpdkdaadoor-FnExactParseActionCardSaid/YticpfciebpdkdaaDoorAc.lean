/- DERIVED. Actions as data; the laws' own functions on them and on slices of them: the size, a copy, two that are alike, marks. -/
import Derived.Test.YticpfciebpdkdaaDoorCore
import Derived.Test.YticpfciebpdkdaaDoorInts
import Derived.WalkSmall
import Derived.Deep.RegionHeld3
import Derived.Deep.DeepCutAuto
namespace Go.Proofs.YticpfciebpdkdaaDoor
open Go.RowKit

/-- One Action. -/
structure Ac where
  k : Int
  c : Int
  m : Int
  n : Int
abbrev Ac.cells (e : Ac) : List Value := [.int .i64 e.k, .int .i64 e.c, .int .i64 e.m, .int .i64 e.n]
abbrev acv (k : Int) (c : Int) (m : Int) (n : Int) : Value := .agg #[.int .i64 k, .int .i64 c, .int .i64 m, .int .i64 n]
def flatAc (l : List Ac) : List Value := l.flatMap Ac.cells
theorem flatAc_len (l : List Ac) : (flatAc l).length = l.length * 4 := by
  induction l with
  | nil => rfl
  | cons e l ih => simp [flatAc] at ih ⊢; omega
theorem flatAc_snoc (l : List Ac) (e : Ac) : flatAc (l ++ [e]) = flatAc l ++ e.cells := by simp [flatAc]
theorem flatAc_one (l : List Ac) : ∀ u ∈ flatAc l, u.oneCell' = true := by
  intro u hu
  simp only [flatAc, List.mem_flatMap] at hu
  obtain ⟨e, _, hu⟩ := hu
  simp at hu
  rcases hu with rfl | rfl | rfl | rfl <;> rfl
def acD (l : List Ac) (j : Nat) : Ac := l.getD j ⟨0, 0, 0, 0⟩
theorem acD_take (l : List Ac) (j : Nat) (h : j < l.length) : l.take (j + 1) = l.take j ++ [acD l j] := by
  rw [List.take_succ_eq_append_getElem h, acD]; simp [List.getElem?_eq_getElem h]
theorem flatAc_get (l : List Ac) (j f : Nat) (hj : j < l.length) (hf : f < 4) : (flatAc l)[j * 4 + f]? = (acD l j).cells[f]? := by
  induction l generalizing j with
  | nil => simp at hj
  | cons e l ih =>
    have hc : flatAc (e :: l) = e.cells ++ flatAc l := by simp [flatAc]
    rw [hc]
    cases j with
    | zero => rw [List.getElem?_append_left (by simp; omega)]; simp [acD]
    | succ j =>
      rw [List.getElem?_append_right (by simp; omega)]
      rw [show (j + 1) * 4 + f - e.cells.length = j * 4 + f by simp; omega, ih j (by simpa using hj)]
      simp [acD]
/-- What a walk knows of a slice of these. -/
theorem rd_acs {w : World} {v : Value} {l : List Ac} (h : RdN w v l.length (flatAc l)) :
    (l = [] ∧ ∃ a cap, v = .slice a 0 cap) ∨ ∃ b off cap, 0 < l.length ∧ v = .slice (some ⟨b, off, none⟩) l.length cap ∧ b < w.heap.size ∧
      ∀ j, j < l.length → w.cell? ⟨b, off + j * 4, none⟩ = some (.int .i64 (acD l j).k) ∧ w.cell? ⟨b, off + j * 4 + 1, none⟩ = some (.int .i64 (acD l j).c) ∧ w.cell? ⟨b, off + j * 4 + 2, none⟩ = some (.int .i64 (acD l j).m) ∧ w.cell? ⟨b, off + j * 4 + 3, none⟩ = some (.int .i64 (acD l j).n) := by
  rcases h.cases with ⟨hx, a, cap, rfl⟩ | ⟨hx, b, off, cap, rfl, hlt, hc⟩
  · exact .inl ⟨List.eq_nil_of_length_eq_zero hx, a, cap, rfl⟩
  · refine .inr ⟨b, off, cap, hx, rfl, hlt, fun j hj => ?_⟩
    have key : ∀ f, f < 4 → w.cell? ⟨b, off + j * 4 + f, none⟩ = (acD l j).cells[f]? := fun f hf => by
      have hl : j * 4 + f < (flatAc l).length := by rw [flatAc_len]; omega
      rw [Nat.add_assoc, hc _ hl, ← List.getElem?_eq_getElem hl, flatAc_get l j f hj hf]
    exact ⟨by simpa using key 0 (by omega), by simpa using key 1 (by omega), by simpa using key 2 (by omega), by simpa using key 3 (by omega)⟩
theorem info_ac : (Tryd.prog.info? 29).map (fun i => (i.zero, i.size, i.bytes)) = some (some (.agg #[.int .i64 0, .int .i64 0, .int .i64 0, .int .i64 0]), 4, 32) := by kernel_rfl

theorem toAction_any (k : Int) (c : Int) (m : Int) (n : Int) (w : World) : Calls Tryd.prog 12 #[acv k c m n] w fun e w' => e = .returned (acv k c m n) ∧ Below w.heap.size w w' := by
  go_enter Tryd.func12, Tryd.ntmps12
  go_wp2
  refine bodyPost_ret (v := acv k c m n) (by simp [results, Tryd.results12, go_sem]) rfl ⟨rfl, ?_⟩
  exact (((Below.refl _ _).alloc (Nat.le_refl _) _).alloc (by simp) _).alloc (by simp; omega) _

theorem eqAction_same (k : Int) (c : Int) (m : Int) (n : Int) (w : World) : Calls Tryd.prog 16 #[acv k c m n, acv k c m n] w fun e w' => e = .returned (.bool true) ∧ Below w.heap.size w w' := by
  go_enter Tryd.func16, Tryd.ntmps16
  go_wp2
  go_ret
  exact ⟨rfl, ((Below.refl _ _).alloc (Nat.le_refl _) _).alloc (by simp) _⟩

/-- The marks that a law writes into n of them, counted from q on. -/
def marksAc (q : Int) (n : Nat) : List Ac := (List.range n).map fun (j : Nat) => ⟨(q + ((j * 4 + 0 : Nat) : Int)), (q + ((j * 4 + 1 : Nat) : Int)), (q + ((j * 4 + 2 : Nat) : Int)), (q + ((j * 4 + 3 : Nat) : Int))⟩
theorem marksAc_len (q : Int) (n : Nat) : (marksAc q n).length = n := by simp [marksAc]
theorem marksAc_succ (q : Int) (n : Nat) : marksAc q (n + 1) = marksAc q n ++ [⟨(q + ((n * 4 + 0 : Nat) : Int)), (q + ((n * 4 + 1 : Nat) : Int)), (q + ((n * 4 + 2 : Nat) : Int)), (q + ((n * 4 + 3 : Nat) : Int))⟩] := by simp [marksAc, List.range_succ]
theorem marksAc_take (q : Int) (n j : Nat) (h : j ≤ n) : (marksAc q n).take j = marksAc q j := by simp [marksAc, ← List.map_take, List.take_range, Nat.min_eq_left h]
theorem marksAc_D (q : Int) (n j : Nat) (h : j < n) : acD (marksAc q n) j = ⟨(q + ((j * 4 + 0 : Nat) : Int)), (q + ((j * 4 + 1 : Nat) : Int)), (q + ((j * 4 + 2 : Nat) : Int)), (q + ((j * 4 + 3 : Nat) : Int))⟩ := by simp [acD, marksAc, h]
end Go.Proofs.YticpfciebpdkdaaDoor
