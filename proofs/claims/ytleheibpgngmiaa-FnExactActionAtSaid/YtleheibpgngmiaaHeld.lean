/- DERIVED. What a drawn region knows of a box that it lays ahead of one of its calls. No condition. -/
import Derived.Test.YtleheibpgngmiaaNest
namespace Go.Proofs.Ytleheibpgngmiaa
open Go.RowKit

theorem below_via {w a b : World} (h : Below w.heap.size w a) (hb : Below a.heap.size a b) : Below w.heap.size w b := h.trans (hb.mono h.size)
theorem ky_new {v v' : World} {cs : Array Value} {t : TypeId} {B : Nat} (hB : B ≤ v.heap.size) (hb : Below (v.alloc (.cells cs t)).heap.size (v.alloc (.cells cs t)) v') :
    v'.heap[v.heap.size]? = some (.cells cs t (0, 0)) ∧ v.heap.size < (v.alloc (.cells cs t)).heap.size ∧ B ≤ v.heap.size :=
  ⟨(hb.block v.heap.size (by simp)).trans (heap_alloc_new v _), by simp, hB⟩
theorem ky_drew {v v' : World} {cs : Array Value} {t : TypeId} {B : Nat} (hB : B ≤ v.heap.size) (hb : Below (v.alloc (.cells cs t)).drew.heap.size (v.alloc (.cells cs t)).drew v') :
    v'.heap[v.heap.size]? = some (.cells cs t (0, 0)) ∧ v.heap.size < (v.alloc (.cells cs t)).heap.size ∧ B ≤ v.heap.size :=
  ⟨(hb.block v.heap.size (by show v.heap.size < (v.alloc (.cells cs t)).heap.size; simp)).trans (heap_alloc_new v _), by simp, hB⟩
theorem ky_old {v v' G : World} {y B s : Nat} {cs : Array Value} {t : TypeId} (h : v.heap[y]? = some (.cells cs t (0, 0)) ∧ y < s ∧ B ≤ y) (hb : Below G.heap.size G v') (e : G.heap = v.heap) :
    v'.heap[y]? = some (.cells cs t (0, 0)) ∧ y < G.heap.size ∧ B ≤ y := by
  have h1 : G.heap[y]? = some (.cells cs t (0, 0)) := by rw [e]; exact h.1
  have h2 := (Array.getElem?_eq_some_iff.mp h1).1
  exact ⟨(hb.block y h2).trans h1, h2, h.2.2⟩
theorem OwS.putAt {α : Type} {f : α → List Value} {w : World} {B : Nat} {T1 T2 : TypeId} {c y : Nat} {v : Value} {L : List (List α)} {fp : List Nat} (h : OwS f w B T1 T2 c v L fp) (vs : List Value) (hy : y ∉ fp) (i : Nat) : OwS f (putW w y i vs) B T1 T2 c v L fp :=
  h.turn (Turn.of_grown (putW_grown vs i w)) (fun x hx hm => by rw [List.mem_singleton] at hm; subst hm; exact hy hx)

end Go.Proofs.Ytleheibpgngmiaa
