/- DERIVED. A struct that is stored whole, cell by cell: what its block holds then, and that all other blocks stay. No condition. -/
import Derived.Test.YtkhakelhfnoeoaaBase
namespace Go.Proofs.Ytkhakelhfnoeoaa
open Go.RowKit

/-- The cells of block b from i on get these values. -/
def putW (w : World) (b : Nat) : Nat → List Value → World
  | _, [] => w
  | i, v :: vs => putW (w.setCell ⟨b, i, none⟩ v) b (i + 1) vs
theorem putW_size (b : Nat) : ∀ (vs : List Value) (i : Nat) (w : World), (putW w b i vs).heap.size = w.heap.size
  | [], _, _ => rfl
  | v :: vs, i, w => by rw [putW, putW_size b vs]; simp
theorem putW_other {b j : Nat} (h : j ≠ b) : ∀ (vs : List Value) (i : Nat) (w : World), (putW w b i vs).heap[j]? = w.heap[j]?
  | [], _, _ => rfl
  | v :: vs, i, w => by rw [putW, putW_other h vs]; exact Below.heap_setCell w ⟨b, i, none⟩ v j (by simpa using h)
theorem putW_below {b B : Nat} {w0 : World} (hB : B ≤ b) : ∀ (vs : List Value) (i : Nat) (w : World), Below B w0 w → Below B w0 (putW w b i vs)
  | [], _, _, h => h
  | v :: vs, i, w, h => by rw [putW]; exact putW_below hB vs _ _ (h.setCell hB v)
theorem putW_own {b B e n : Nat} {u : Value} {xs : List Value} (hb : b < B) : ∀ (vs : List Value) (i : Nat) (w : World), w.ownsRow B e 1 u n xs → (putW w b i vs).ownsRow B e 1 u n xs
  | [], _, _, h => h
  | v :: vs, i, w, h => by rw [putW]; exact putW_own hb vs _ _ (ownsRow_setCell_below h (show (⟨b, i, none⟩ : Addr).block < B from hb) v)
theorem take_mid {P D : List Value} {v : Value} {i : Nat} (h : P.length = i) : (P ++ v :: D).take (i + 1) = P ++ [v] := by
  subst h; rw [List.take_append, List.take_of_length_le (by omega), show P.length + 1 - P.length = 1 by omega]; rfl
theorem drop_mid {P D : List Value} {v : Value} {i n : Nat} (h : P.length = i) : (P ++ v :: D).drop (i + 1 + n) = D.drop n := by
  subst h; rw [List.drop_append, List.drop_of_length_le (by omega), List.nil_append, show P.length + 1 + n - P.length = n + 1 by omega, List.drop_succ_cons]
theorem putW_at {b : Nat} {T : TypeId} : ∀ (vs : List Value) (i : Nat) (w : World) (cs : Array Value), w.heap[b]? = some (.cells cs T (0, 0)) → i + vs.length ≤ cs.size →
    (putW w b i vs).heap[b]? = some (.cells (cs.toList.take i ++ vs ++ cs.toList.drop (i + vs.length)).toArray T (0, 0))
  | [], i, w, cs, h, _ => by
    rw [putW, h]; simp
  | v :: vs, i, w, cs, h, hl => by
    rw [List.length_cons] at hl
    have h1 := heap_setCell_same w b i cs T v h
    rw [putW, putW_at vs (i + 1) _ _ h1 (by simp; omega)]
    have hi : i < cs.toList.length := by simp; omega
    have e : (cs.setIfInBounds i v).toList = cs.toList.take i ++ v :: cs.toList.drop (i + 1) := by
      rw [Array.toList_setIfInBounds, List.set_eq_take_append_cons_drop, if_pos hi]
    rw [e]
    have ht : (cs.toList.take i).length = i := List.length_take_of_le (by omega)
    rw [take_mid ht, drop_mid ht, List.drop_drop, List.length_cons, List.append_assoc, List.append_assoc, show i + 1 + vs.length = i + (vs.length + 1) by omega]
    simp
theorem putW_all {b : Nat} {T : TypeId} {w : World} {cs : Array Value} (vs : List Value) (h : w.heap[b]? = some (.cells cs T (0, 0))) (hl : vs.length = cs.size) :
    (putW w b 0 vs).heap[b]? = some (.cells vs.toArray T (0, 0)) := by
  rw [putW_at vs 0 w cs h (by omega)]
  simp [hl]
theorem putW_grown {b : Nat} : ∀ (vs : List Value) (i : Nat) (w : World), w.grownBy (putW w b i vs) (some b)
  | [], _, w => grown_refl w _
  | v :: vs, i, w => by rw [putW]; exact grown_trans (grown_set w b i v) (putW_grown vs _ _)

end Go.Proofs.Ytkhakelhfnoeoaa
