/- DERIVED. The reference's l6Copy: a copy of a valid keymap, in memory of its own. · The reference's SetAction: a keymap with one action anew, in memory of its own. · The reference's UnpackKeymap: the keymap whose bytes a list is. -/
import Derived.Test.YtnfnhbldphiohaaDoorKmSpec
import Derived.Deep.AppendLies
import Derived.Deep.RegionLaw
import Derived.BigRegion
namespace Go.Proofs.YtnfnhbldphiohaaDoor
open Go.RowKit

/-- A keymap with an action set. -/
def setL (L : List (List Ac)) (i k : Nat) (a : Ac) : List (List Ac) := L.set i ((lD L i).set k a)
def setOk (keys : Int) (L : List (List Ac)) (layer key : Int) (a : Ac) : Bool := okKm keys L && (inB layer 0 ((L.length : Int) - 1) && (inB key 0 (keys - 1) && okKm keys (setL L layer.toNat key.toNat a)))
structure Kmr where
  k : Int
  l : List (List Ac)
  b : Bool
def setV (keys : Int) (L : List (List Ac)) (layer key : Int) (a : Ac) : Kmr := if setOk keys L layer key a = true then ⟨keys, setL L layer.toNat key.toNat a, true⟩ else ⟨0, [], false⟩
/-- What a function returns that makes a keymap. -/
def KmOut (r : Kmr) (w : World) (e : Ending) (w' : World) : Prop := ∃ a cap fp, e = .returned (.tuple #[kmv r.k (.slice a r.l.length cap), .bool r.b]) ∧ LoS w' w.heap.size (.slice a r.l.length cap) r.l fp ∧ Below w.heap.size w w'
theorem flatAc_app (A C : List Ac) : flatAc (A ++ C) = flatAc A ++ flatAc C := by simp [flatAc]
theorem flatAc_cons (a : Ac) (C : List Ac) : flatAc (a :: C) = a.cells ++ flatAc C := by simp [flatAc]
theorem flatAc_set (l : List Ac) (k : Nat) (a : Ac) (hk : k < l.length) : flatAc (l.set k a) = (flatAc l).take (k * 4) ++ a.cells ++ (flatAc l).drop (k * 4 + 4) := by
  have h1 : l.set k a = l.take k ++ a :: l.drop (k + 1) := by rw [List.set_eq_take_append_cons_drop, if_pos hk]
  have h2 : l = l.take k ++ l[k] :: l.drop (k + 1) := by rw [← List.drop_eq_getElem_cons hk, List.take_append_drop]
  have e : flatAc l = flatAc (l.take k) ++ (l[k].cells ++ flatAc (l.drop (k + 1))) := by
    conv => lhs; rw [h2]
    rw [flatAc_app, flatAc_cons]
  have hA : (flatAc (l.take k)).length = k * 4 := by rw [flatAc_len, List.length_take]; omega
  have hB : l[k].cells.length = 4 := rfl
  have hd : ∀ X : List Value, X.drop (k * 4 + 4) = (X.drop (k * 4)).drop 4 := fun X => by rw [List.drop_drop]
  rw [h1, flatAc_app, flatAc_cons, e, List.take_left' hA, List.append_assoc, hd, List.drop_left' hA, List.drop_left' hB]
theorem lD_set {L : List (List Ac)} {i : Nat} (h : i < L.length) (l : List Ac) (j : Nat) : lD (L.set i l) j = if j = i then l else lD L j := by
  unfold lD
  rw [List.getD_eq_getElem?_getD, List.getD_eq_getElem?_getD, List.getElem?_set]
  by_cases h2 : i = j
  · subst h2; simp [h]
  · rw [if_neg h2, if_neg (fun e => h2 e.symm)]

def unA (zs : List Int) (p : Nat) : Ac × Bool := unpackV [zs.getD p 0, zs.getD (p + 1) 0, zs.getD (p + 2) 0]
def unRow (zs : List Int) (p : Nat) : Nat → List Ac
  | 0 => []
  | k + 1 => unRow zs p k ++ [(unA zs (p + 3 * k)).1]
def unOkR (zs : List Int) (p : Nat) : Nat → Bool
  | 0 => true
  | k + 1 => unOkR zs p k && (unA zs (p + 3 * k)).2
def unL (zs : List Int) (K : Nat) : Nat → List (List Ac)
  | 0 => []
  | j + 1 => unL zs K j ++ [unRow zs (2 + 3 * K * j) K]
def unOkL (zs : List Int) (K : Nat) : Nat → Bool
  | 0 => true
  | j + 1 => unOkL zs K j && unOkR zs (2 + 3 * K * j) K
def unG (zs : List Int) (K N : Nat) : Kmr := if unOkL zs K N = true ∧ okKm K (unL zs K N) = true then ⟨K, unL zs K N, true⟩ else ⟨0, [], false⟩
def unK (zs : List Int) : Kmr := if 2 ≤ zs.length ∧ zs.length = 2 + 3 * (zs.getD 0 0).toNat * (zs.getD 1 0).toNat then unG zs (zs.getD 0 0).toNat (zs.getD 1 0).toNat else ⟨0, [], false⟩
theorem unRow_len (zs : List Int) (p : Nat) : ∀ k, (unRow zs p k).length = k
  | 0 => rfl
  | k + 1 => by rw [unRow, List.length_append, unRow_len zs p k]; rfl
theorem unL_len (zs : List Int) (K : Nat) : ∀ j, (unL zs K j).length = j
  | 0 => rfl
  | j + 1 => by rw [unL, List.length_append, unL_len zs K j]; rfl
theorem unL_rows (zs : List Int) (K : Nat) : ∀ j, ∀ l ∈ unL zs K j, l.length = K
  | 0, l, h => by simp [unL] at h
  | j + 1, l, h => by
    rw [unL, List.mem_append] at h
    rcases h with h | h
    · exact unL_rows zs K j l h
    · rw [List.mem_singleton.1 h]; exact unRow_len _ _ _
theorem unOkR_no {zs : List Int} {p k : Nat} (h : (unA zs (p + 3 * k)).2 = false) : ∀ m, k < m → unOkR zs p m = false
  | 0, hm => absurd hm (Nat.not_lt_zero _)
  | m + 1, hm => by
    rcases Nat.lt_or_ge k m with h2 | h2
    · rw [unOkR, unOkR_no h m h2, Bool.false_and]
    · obtain rfl : k = m := by omega
      rw [unOkR, h, Bool.and_false]
theorem unOkL_no {zs : List Int} {K j : Nat} (h : unOkR zs (2 + 3 * K * j) K = false) : ∀ m, j < m → unOkL zs K m = false
  | 0, hm => absurd hm (Nat.not_lt_zero _)
  | m + 1, hm => by
    rcases Nat.lt_or_ge j m with h2 | h2
    · rw [unOkL, unOkL_no h m h2, Bool.false_and]
    · obtain rfl : j = m := by omega
      rw [unOkL, h, Bool.and_false]
theorem unG_no {zs : List Int} {K N j : Nat} (hj : j < N) (h : unOkR zs (2 + 3 * K * j) K = false) : unG zs K N = ⟨0, [], false⟩ := by
  unfold unG
  rw [if_neg (fun e => by rw [unOkL_no h N hj] at e; exact absurd e.1 (by decide))]
end Go.Proofs.YtnfnhbldphiohaaDoor
