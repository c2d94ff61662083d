/- DERIVED. The reference's IsKeymap: it tells whether a keymap is valid. · The reference's PackAction, UnpackAction, LayerAt, ActionAt: each returns what a plain function says. · The reference's LayerAt and ActionAt: each returns what a plain function says. -/
import Derived.Test.YtnfnhbldphiohaaDoorKm
import Derived.Test.YtnfnhbldphiohaaDoorAcOk
import Derived.Test.YtnfnhbldphiohaaDoorText
namespace Go.Proofs.YtnfnhbldphiohaaDoor
open Go.RowKit

/-- What a walk knows of one action of a row. -/
theorem row_at {w : World} {ua : Option Addr} {m uc : Nat} {l : List Ac} (h : RdN w (.slice ua m uc) l.length (l.flatMap Ac.cells)) {k : Nat} (hk : k < l.length) : ∃ b off, ua = some ⟨b, off, none⟩ ∧ b < w.heap.size ∧
    w.cell? ⟨b, off + k * 4, none⟩ = some (.int .i64 (acD l k).k) ∧ w.cell? ⟨b, off + k * 4 + 1, none⟩ = some (.int .i64 (acD l k).c) ∧ w.cell? ⟨b, off + k * 4 + 2, none⟩ = some (.int .i64 (acD l k).m) ∧ w.cell? ⟨b, off + k * 4 + 3, none⟩ = some (.int .i64 (acD l k).n) := by
  rcases rd_acs (l := l) h with ⟨rfl, _⟩ | ⟨b, off, cap, _, hs, hlt, hc⟩
  · simp at hk
  · obtain ⟨rfl, rfl, rfl⟩ := by simpa using hs
    exact ⟨b, off, rfl, hlt, hc k hk⟩

/-- The bytes of an action. -/
def packV (a : Ac) : List Int := if okAc a.k a.c a.m a.n = true then [16 * a.k + a.n, a.c, a.m] else []
theorem okAc_lim2 {k c m n : Int} (h : okAc k c m n = true) : (0 ≤ k ∧ k ≤ 10) ∧ (0 ≤ c ∧ c ≤ 56) ∧ (0 ≤ m ∧ m ≤ 15) ∧ 0 ≤ n ∧ n ≤ 3 := by
  unfold okAc inB at h
  split at h
  · simp only [Bool.and_eq_true, decide_eq_true_eq] at h; omega
  split at h
  · simp only [Bool.and_eq_true, Bool.or_eq_true, decide_eq_true_eq] at h; omega
  split at h
  · simp only [Bool.and_eq_true, decide_eq_true_eq] at h; omega
  split at h
  · simp only [Bool.and_eq_true, decide_eq_true_eq] at h; omega
  split at h
  · simp only [Bool.and_eq_true, decide_eq_true_eq] at h; omega
  split at h
  · simp only [Bool.and_eq_true, decide_eq_true_eq] at h; omega
  split at h
  · simp only [Bool.and_eq_true, decide_eq_true_eq] at h; omega
  · exact absurd h (by decide)

/-- An action's bytes, read. -/
def unpackV (zs : List Int) : Ac × Bool :=
  if zs.length = 3 then
    (if okAc (zs.getD 0 0 / 16) (zs.getD 1 0) (zs.getD 2 0) (zs.getD 0 0 % 16) = true then (⟨zs.getD 0 0 / 16, zs.getD 1 0, zs.getD 2 0, zs.getD 0 0 % 16⟩, true) else (⟨0, 0, 0, 0⟩, false))
  else (⟨0, 0, 0, 0⟩, false)

end Go.Proofs.YtnfnhbldphiohaaDoor
