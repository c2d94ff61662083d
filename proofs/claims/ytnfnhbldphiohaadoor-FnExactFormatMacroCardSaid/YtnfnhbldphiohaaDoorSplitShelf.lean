/- DERIVED. strings.Split at this program: the numbers are this program's. -/
import Derived.Shelf.Lay
import Derived.Shelf.Strings.Split
import Derived.Shelf.Vars
import Derived.Test.YtnfnhbldphiohaaDoorCore
import Derived.Test.YtnfnhbldphiohaaDoorProg
namespace Go.Proofs.YtnfnhbldphiohaaDoor
open Go.Shelf Go.RowKit
/-- The library's variable MaxLen holds some integer. -/
def MaxInt (w : World) : Prop := ∃ m, w.cell? ⟨2, 0, none⟩ = some (.int .i64 m)
theorem maxInt_of {w : World} (h : w.ShapedOpen Tryd.prog) : MaxInt w :=
  cell_of_shapedOpen_int h (t := 3) (zero := #[.int .i64 0]) (of_decide_eq_true (by kernel_rfl)) (by kernel_rfl) rfl (by kernel_rfl) (by kernel_rfl) Tryd.underlying3
theorem MaxInt.below {w w' : World} (h : MaxInt w) (hb : Below w.heap.size w w') : MaxInt w' := by
  obtain ⟨m, hm⟩ := h
  exact ⟨m, (hb.cell (World.block_lt_of_cell? _ _ hm)).trans hm⟩
/-- The pieces of a text between the separators. -/
def pieces (s sep : ByteArray) : List ByteArray := Lib.splitB sep 0 (Lib.countB s sep) s
end Go.Proofs.YtnfnhbldphiohaaDoor
