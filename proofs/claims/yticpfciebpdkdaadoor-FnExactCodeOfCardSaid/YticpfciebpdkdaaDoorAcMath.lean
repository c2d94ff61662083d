/- DERIVED. What is read of an action's text is the action: names, modifiers and numbers are told apart by their bytes. No condition. -/
import Derived.Test.YticpfciebpdkdaaDoorAcPa2
import Derived.Test.YticpfciebpdkdaaDoorTextBase
namespace Go.Proofs.YticpfciebpdkdaaDoor
open Go.RowKit

def wo (s : ByteArray) (c : UInt8) : Bool := s.data.toList.all (· != c)
theorem wo_without {s : ByteArray} {c : UInt8} (h : wo s c = true) : Without s (c.toNat : Int) := by
  intro j hj e
  have hl : j < s.data.toList.length := by rw [Array.length_toList]; exact hj
  rw [bt_getD, List.getD_eq_getElem?_getD, List.getElem?_map, List.getElem?_eq_getElem hl] at e
  simp only [Option.map_some, Option.getD_some] at e
  have h1 := List.all_eq_true.1 h _ (List.getElem_mem hl)
  have h2 : s.data.toList[j] = c := UInt8.toNat_inj.1 (by omega)
  rw [h2] at h1
  simp at h1
set_option maxRecDepth 1000000 in
theorem nms_plain : nms.all (fun s => wo s 58 && (wo s 47 && wo s 45)) = true := by kernel_rfl
set_option maxRecDepth 1000000 in
theorem mds_plain : (List.range 16).all (fun m => wo (mdN m 4) 58 && (wo (mdN m 4) 47 && wo (mdN m 4) 45)) = true := by kernel_rfl
set_option maxRecDepth 1000000 in
theorem code_back : (List.range 57).all (fun c => decide (codeV (nmV (c : Int)) = c)) = true := by kernel_rfl
set_option maxRecDepth 1000000 in
theorem mods_back : (List.range 16).all (fun m => decide (pmV (mdV (m : Int)) = m)) = true := by kernel_rfl
theorem parts_two (a b : ByteArray) (x : UInt8) (c : Int) (hc : c = (x.toNat : Int)) (ha : Without a c) (hb : Without b c) : parts (a ++ ⟨#[x]⟩ ++ b) c = [a, b] := by
  have hx : byte8 c = x := by rw [hc, byte8]; simp
  have hj : joined [a, b] ⟨#[x]⟩ = a ++ ⟨#[x]⟩ ++ b := by
    apply ba_ext
    simp [joined, jn, ByteArray.data_append]
  rw [← hj]
  exact parts_joined [a, b] ⟨#[x]⟩ c (by omega) (by rw [hc]; have := x.toNat_lt; omega) (by rw [hx]) (by simp) (by
    intro p hp
    simp only [List.mem_cons, List.not_mem_nil, or_false] at hp
    rcases hp with rfl | rfl
    · exact ha
    · exact hb)

end Go.Proofs.YticpfciebpdkdaaDoor
