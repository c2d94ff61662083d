/- DERIVED. The laws' own small functions on slices of strings: comparing, writing marks, telling the marks. -/
import Derived.Test.YticpfciebpdkdaaDoorText
import Derived.Test.YticpfciebpdkdaaDoorBytes
import Derived.Test.YticpfciebpdkdaaDoorHex
import Derived.Deep.RegionHeld3
namespace Go.Proofs.YticpfciebpdkdaaDoor
open Go.RowKit

theorem strs_same {za zb : List ByteArray} (hl : za.length = zb.length) (h : ∀ j, j < za.length → za.getD j ByteArray.empty = zb.getD j ByteArray.empty) : za = zb := by
  apply List.ext_getElem hl
  intro j h1 h2
  have := h j h1
  simpa [List.getElem?_eq_getElem h1, List.getElem?_eq_getElem h2] using this
theorem getD_map_str (zs : List ByteArray) (j : Nat) (h : j < (zs.map Value.string).length) : (zs.map Value.string)[j] = .string (zs.getD j ByteArray.empty) := by
  have : j < zs.length := by simpa using h
  simp [List.getElem?_eq_getElem this]
end Go.Proofs.YticpfciebpdkdaaDoor
