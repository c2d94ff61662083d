/- DERIVED. The laws' own small functions on slices of bytes, each called with a slice that reads as known numbers: a copy has these numbers, two slices are compared as their numbers are. -/
import Derived.Test.YticpfciebpdkdaaDoorCore
import Derived.Test.YticpfciebpdkdaaDoorProg
namespace Go.Proofs.YticpfciebpdkdaaDoor
open Go.RowKit

theorem info_u8 : (Tryd.prog.info? 5).map (fun i => (i.zero, i.size, i.bytes)) = some (some (.int .u8 0), 1, 1) := by kernel_rfl

theorem ints_done {zs : List Int} {xs : List Value} {k : IntKind} (hl : xs.length = zs.length) (h : ∀ j, j < zs.length → xs[j]? = some (.int k (zs.getD j 0))) : xs = zs.map (.int k) := by
  apply List.ext_getElem?
  intro j
  by_cases hj : j < zs.length
  · rw [h j hj]; simp [List.getElem?_eq_getElem hj]
  · rw [List.getElem?_eq_none (by omega), List.getElem?_eq_none (by simp; omega)]

theorem made_bound {i0 : TypeInfo} {n : Nat} (h : i0.bytes = 1) (hn : n ≤ 1048576) : i0.bytes * n ≤ 281474976710656 := by rw [h]; omega

theorem take_same {za zb : List Int} (hl : za.length = zb.length) (h : ∀ j, j < za.length → za.getD j 0 = zb.getD j 0) : za = zb := by
  apply List.ext_getElem hl
  intro j h1 h2
  have := h j h1
  simpa [List.getElem?_eq_getElem h1, List.getElem?_eq_getElem h2] using this

end Go.Proofs.YticpfciebpdkdaaDoor
