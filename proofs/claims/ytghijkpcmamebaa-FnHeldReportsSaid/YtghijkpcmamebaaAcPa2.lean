/- DERIVED. The reference's ParseAction returns what a plain function reads. Called with any text of at most 1048576 bytes. -/
import Derived.Test.YtghijkpcmamebaaAcTx
import Derived.Deep.DeepCutAuto
namespace Go.Proofs.Ytghijkpcmamebaa
open Go.RowKit

abbrev sNone : ByteArray := ⟨#[110, 111, 110, 101]⟩
abbrev sPass : ByteArray := ⟨#[112, 97, 115, 115]⟩
abbrev sCaps : ByteArray := ⟨#[99, 97, 112, 115]⟩
def pt (s : ByteArray) (c : Int) (j : Nat) : ByteArray := (parts s c).getD j ⟨#[]⟩
/-- What a text could be the action of. -/
def acG (s : ByteArray) : Ac :=
  if s = sNone then ⟨0, 0, 0, 0⟩ else if s = sPass then ⟨1, 0, 0, 0⟩ else if s = sCaps then ⟨10, 0, 0, 0⟩
  else if (parts s 58).length = 2 then leftV 8 (pt s 58 0) (pt s 58 1)
  else if (parts s 47).length = 2 then (if okI (pt s 47 0) = true then ⟨7, codeV (pt s 47 1), 0, pval (pt s 47 0)⟩ else ⟨6, codeV (pt s 47 1), pmV (pt s 47 0), 0⟩)
  else if (parts s 45).length = 2 then ⟨2, codeV (pt s 45 1), pmV (pt s 45 0), 0⟩
  else ⟨2, codeV s, 0, 0⟩
def acP (s : ByteArray) : Ac × Bool := if s = ⟨#[]⟩ ∨ ¬ acS (acG s).k (acG s).c (acG s).m (acG s).n = s then (⟨0, 0, 0, 0⟩, false) else (acG s, true)

/-- An action is stored into block g; block b stays. -/
theorem ac_put {w wk : World} {g b : Nat} {T : TypeId} (x0 x1 x2 x3 : Value) {cur : Array Value} {o : Option Obj} (hg : wk.heap[g]? = some (.cells cur T (0, 0))) (hs : cur.size = 4) (hb : wk.heap[b]? = o) (hne : b ≠ g) {B : Nat} (hB : Below B w wk) (hBg : B ≤ g) :
    ((((wk.setCell ⟨g, 0, none⟩ x0).setCell ⟨g, 1, none⟩ x1).setCell ⟨g, 2, none⟩ x2).setCell ⟨g, 3, none⟩ x3).heap[g]? = some (.cells #[x0, x1, x2, x3] T (0, 0)) ∧ ((((wk.setCell ⟨g, 0, none⟩ x0).setCell ⟨g, 1, none⟩ x1).setCell ⟨g, 2, none⟩ x2).setCell ⟨g, 3, none⟩ x3).heap[b]? = o ∧ Below B w ((((wk.setCell ⟨g, 0, none⟩ x0).setCell ⟨g, 1, none⟩ x1).setCell ⟨g, 2, none⟩ x2).setCell ⟨g, 3, none⟩ x3) :=
  ⟨putW_all [x0, x1, x2, x3] hg (by simp [hs]), (putW_other hne [x0, x1, x2, x3] 0 wk).trans hb, putW_below hBg [x0, x1, x2, x3] 0 wk hB⟩
theorem pt_size (s : ByteArray) (c : Int) (j : Nat) (hl : s.size ≤ 1048576) : (pt s c j).size ≤ 1048576 := Nat.le_trans (parts_sizes s c j) hl
/-- What a walk knows of the parts of a text, behind the call. -/
theorem split_known {s : ByteArray} {c : Int} {w w' : World} {e : Ending} (h : Splitted w.heap.size s c w e w') : ∃ b cap, e = .returned (.slice (some ⟨b, 0, none⟩) (parts s c).length cap) ∧ w.heap.size ≤ b ∧ b < w'.heap.size ∧ (∀ j, j < (parts s c).length → w'.cell? ⟨b, j, none⟩ = some (.string (pt s c j))) ∧ Below w.heap.size w w' := by
  obtain ⟨v, rfl, hown, hb⟩ := h
  obtain ⟨b, cap, rfl, hbW, hlt⟩ := hown.form (by simp [parts])
  refine ⟨b, cap, rfl, hbW, hlt, fun j hj => ?_, hb⟩
  rw [hown.cellAt j (by omega), pt, List.getElem?_map, List.getD_eq_getElem?_getD, List.getElem?_eq_getElem hj]
  rfl
theorem cell_heap {w w' : World} {b j : Nat} (h : w'.heap[b]? = w.heap[b]?) : w'.cell? ⟨b, j, none⟩ = w.cell? ⟨b, j, none⟩ := by simp [World.cell?, h]
theorem acP_no {s : ByteArray} {z : Ac} (hz : z = acG s) (h : s = ⟨#[]⟩ ∨ ¬ acS z.k z.c z.m z.n = s) : acP s = (⟨0, 0, 0, 0⟩, false) := by
  rw [hz] at h; unfold acP; rw [if_pos h]
theorem acP_yes {s : ByteArray} {z : Ac} (hz : z = acG s) (h0 : ¬ s = ⟨#[]⟩) (h : acS z.k z.c z.m z.n = s) : acP s = (z, true) := by
  rw [hz] at h; unfold acP; rw [if_neg (fun e => e.elim h0 (fun e => e h)), hz]
theorem ac_heap {w : World} {b : Nat} {T : TypeId} {z z' : Ac} (h : w.heap[b]? = some (.cells #[.int .i64 z.k, .int .i64 z.c, .int .i64 z.m, .int .i64 z.n] T (0, 0))) (e : z' = z) : w.heap[b]? = some (.cells #[.int .i64 z'.k, .int .i64 z'.c, .int .i64 z'.m, .int .i64 z'.n] T (0, 0)) := by rw [e]; exact h

end Go.Proofs.Ytghijkpcmamebaa
