/- DERIVED. The reference's l6Copy: a copy of a valid keymap, in memory of its own. · The reference's SetAction: a keymap with one action anew, in memory of its own. -/
import Derived.Test.YtleheibpgngmiaaDoorKmSpec
import Derived.Deep.AppendLies
import Derived.Deep.RegionLaw
import Derived.BigRegion
namespace Go.Proofs.YtleheibpgngmiaaDoor
open Go.RowKit

/-- A keymap with an action set. -/
def setL (L : List (List Ac)) (i k : Nat) (a : Ac) : List (List Ac) := L.set i ((lD L i).set k a)
def setOk (keys : Int) (L : List (List Ac)) (layer key : Int) (a : Ac) : Bool := okKm keys L && (inB layer 0 ((L.length : Int) - 1) && (inB key 0 (keys - 1) && okKm keys (setL L layer.toNat key.toNat a)))
structure Kmr where
  k : Int
  l : List (List Ac)
  b : Bool
def setV (keys : Int) (L : List (List Ac)) (layer key : Int) (a : Ac) : Kmr := if setOk keys L layer key a = true then ⟨keys, setL L layer.toNat key.toNat a, true⟩ else ⟨0, [], false⟩
/-- What a function returns that makes a keymap. -/
def KmOut (r : Kmr) (w : World) (e : Ending) (w' : World) : Prop := ∃ a cap fp, e = .returned (.tuple #[kmv r.k (.slice a r.l.length cap), .bool r.b]) ∧ LoS w' w.heap.size (.slice a r.l.length cap) r.l fp ∧ Below w.heap.size w w'
theorem flatAc_app (A C : List Ac) : flatAc (A ++ C) = flatAc A ++ flatAc C := by simp [flatAc]
theorem flatAc_cons (a : Ac) (C : List Ac) : flatAc (a :: C) = a.cells ++ flatAc C := by simp [flatAc]
theorem flatAc_set (l : List Ac) (k : Nat) (a : Ac) (hk : k < l.length) : flatAc (l.set k a) = (flatAc l).take (k * 4) ++ a.cells ++ (flatAc l).drop (k * 4 + 4) := by
  have h1 : l.set k a = l.take k ++ a :: l.drop (k + 1) := by rw [List.set_eq_take_append_cons_drop, if_pos hk]
  have h2 : l = l.take k ++ l[k] :: l.drop (k + 1) := by rw [← List.drop_eq_getElem_cons hk, List.take_append_drop]
  have e : flatAc l = flatAc (l.take k) ++ (l[k].cells ++ flatAc (l.drop (k + 1))) := by
    conv => lhs; rw [h2]
    rw [flatAc_app, flatAc_cons]
  have hA : (flatAc (l.take k)).length = k * 4 := by rw [flatAc_len, List.length_take]; omega
  have hB : l[k].cells.length = 4 := rfl
  have hd : ∀ X : List Value, X.drop (k * 4 + 4) = (X.drop (k * 4)).drop 4 := fun X => by rw [List.drop_drop]
  rw [h1, flatAc_app, flatAc_cons, e, List.take_left' hA, List.append_assoc, hd, List.drop_left' hA, List.drop_left' hB]
theorem lD_set {L : List (List Ac)} {i : Nat} (h : i < L.length) (l : List Ac) (j : Nat) : lD (L.set i l) j = if j = i then l else lD L j := by
  unfold lD
  rw [List.getD_eq_getElem?_getD, List.getD_eq_getElem?_getD, List.getElem?_set]
  by_cases h2 : i = j
  · subst h2; simp [h]
  · rw [if_neg h2, if_neg (fun e => h2 e.symm)]

end Go.Proofs.YtleheibpgngmiaaDoor
