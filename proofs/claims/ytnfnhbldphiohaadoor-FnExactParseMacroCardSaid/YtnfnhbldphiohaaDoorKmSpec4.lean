/- DERIVED. The reference's PackKeymap: a keymap's bytes. -/
import Derived.Test.YtnfnhbldphiohaaDoorKmSpec
import Derived.Test.YtnfnhbldphiohaaDoorText
namespace Go.Proofs.YtnfnhbldphiohaaDoor
open Go.RowKit

def rowB (l : List Ac) : List Int := l.flatMap packV
/-- A keymap's bytes ahead of action k of layer j. -/
def pkB (keys : Int) (L : List (List Ac)) (j k : Nat) : List Int := [keys, (L.length : Int)] ++ (L.take j).flatMap rowB ++ rowB ((lD L j).take k)
def packK (keys : Int) (L : List (List Ac)) : List Int := if okKm keys L = true then [keys, (L.length : Int)] ++ L.flatMap rowB else []
theorem pkB_zero (keys : Int) (L : List (List Ac)) : pkB keys L 0 0 = [keys, (L.length : Int)] := by simp [pkB, rowB]
theorem pkB_step (keys : Int) (L : List (List Ac)) (j k : Nat) (hk : k < (lD L j).length) : pkB keys L j (k + 1) = pkB keys L j k ++ packV (acD (lD L j) k) := by
  unfold pkB
  rw [acD_take _ _ hk]
  simp [rowB]
theorem pkB_row (keys : Int) (L : List (List Ac)) (j k : Nat) (hj : j < L.length) (hk : k = (lD L j).length) : pkB keys L (j + 1) 0 = pkB keys L j k := by
  unfold pkB
  rw [lD_take L j hj, hk, List.take_length]
  simp [rowB]
theorem pkB_all (keys : Int) (L : List (List Ac)) (h : okKm keys L = true) : pkB keys L L.length 0 = packK keys L := by
  rw [packK, if_pos h, pkB, List.take_length]
  simp [rowB]
theorem packV_len (a : Ac) : (packV a).length ≤ 3 := by unfold packV; split <;> simp

end Go.Proofs.YtnfnhbldphiohaaDoor
