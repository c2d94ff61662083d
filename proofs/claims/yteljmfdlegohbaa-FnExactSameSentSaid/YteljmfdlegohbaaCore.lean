/- DERIVED. What it means that a slice value reads as a list of values, and that it is kept while the memory below a block number is kept; lemmas on lists. No condition. · A struct that is stored whole, cell by cell: what its block holds then, and that all other blocks stay. No condition. · A slice whose elements have several cells: what it reads as, cell after cell, that this stays while its memory stays, and a row of such elements into which an element is stored whole. No condition. · Data of Go, whatever their types: what cells of memory read as, which memory they own, and that both stay while that memory stays. No condition. · A row of elements of several cells that a call owns, with the block that it takes up: it stays while that block stays. No condition. · A row of structs of numbers, Bools and texts that reads as data reads as its cells, one after the other. No condition. · Appending a whole row that a call owns, nil or not, to another one: one law for both. No condition. · A region that draws its order, whose operations read memory that was there, and whose calls lay new memory alone: one walk, in the order of the text. No condition. · The operations on bits of the kind int, on natural numbers below 2^62; a set of bits without another. No condition. -/
import Derived.WalkKit
import Derived.WalkSpells
import Derived.WalkLawsBesides
import Derived.Lib.Hide
import Derived.Deep.QuietTactic
import Derived.BigQuiet
import Derived.Laws.AppendOwnNone
namespace Go.Proofs.Yteljmfdlegohbaa
open Go.RowKit

/-- The slice value 'v' reads, in the world 'w', as the values 'xs', one cell each. -/
def Rd (w : World) (v : Value) (xs : List Value) : Prop :=
  ∃ a cap, v = .slice a xs.length cap ∧ (xs = [] ∨ ∃ b off, a = some ⟨b, off, none⟩ ∧ b < w.heap.size ∧ ∀ j (h : j < xs.length), w.cell? ⟨b, off + j, none⟩ = some xs[j])

/-- What was read below 'B' is read so as long as nothing below 'B' turns. -/
theorem Rd.below {w w' : World} {v : Value} {xs : List Value} (h : Rd w v xs) (hb : Below w.heap.size w w') : Rd w' v xs := by
  obtain ⟨a, cap, hv, h⟩ := h
  refine ⟨a, cap, hv, ?_⟩
  rcases h with h | ⟨b, off, ha, hlt, hc⟩
  · exact .inl h
  · exact .inr ⟨b, off, ha, Nat.lt_of_lt_of_le hlt hb.size, fun j hj => (hb.cell (p := ⟨b, off + j, none⟩) hlt).trans (hc j hj)⟩

/-- A row that the call itself has made reads as what it holds. -/
theorem Rd.of_owns {w : World} {base : Nat} {e : TypeId} {v : Value} {n : Nat} {xs : List Value} (h : w.ownsRow base e 1 v n xs) : Rd w v xs := by
  have hl : xs.length = n := by simpa using h.1
  rcases h.2 with ⟨rfl, hn⟩ | ⟨g, cap, cur, rfl, hg, hh, hnc, hcm, hcs, ht⟩
  · have : xs = [] := List.eq_nil_of_length_eq_zero (by omega)
    subst this
    exact ⟨none, 0, rfl, .inl rfl⟩
  · refine ⟨_, cap, by rw [hl], .inr ⟨g, 0, rfl, ?_, fun j hj => ?_⟩⟩
    · exact (Array.getElem?_eq_some_iff.mp hh).1
    · have := World.ownsRow.cellAt h j (by omega)
      simp only [Nat.zero_add]
      rw [this, List.getElem?_eq_getElem hj]

theorem Rd.len {w : World} {a : Option Addr} {n cap : Nat} {xs : List Value} (h : Rd w (.slice a n cap) xs) : n = xs.length := by
  obtain ⟨a', cap', hv, _⟩ := h
  simp at hv
  exact hv.2.1

/-- The two cases that a walk over a slice knows. -/
theorem Rd.cases {w : World} {v : Value} {xs : List Value} (h : Rd w v xs) :
    (xs = [] ∧ ∃ a cap, v = .slice a 0 cap) ∨ (xs ≠ [] ∧ ∃ b off cap, v = .slice (some ⟨b, off, none⟩) xs.length cap ∧ b < w.heap.size ∧ ∀ j (h : j < xs.length), w.cell? ⟨b, off + j, none⟩ = some xs[j]) := by
  obtain ⟨a, cap, rfl, h⟩ := h
  by_cases hx : xs = []
  · subst hx; exact .inl ⟨rfl, a, cap, rfl⟩
  · rcases h with h | ⟨b, off, rfl, hlt, hc⟩
    · exact absurd h hx
    · exact .inr ⟨hx, b, off, cap, rfl, hlt, hc⟩

theorem getD_map_int (k : IntKind) (zs : List Int) (j : Nat) (h : j < (zs.map (Value.int k)).length) : (zs.map (Value.int k))[j] = .int k (zs.getD j 0) := by
  have : j < zs.length := by simpa using h
  simp [List.getElem?_eq_getElem this]

/-- What a law's frame knows of a slice of integers that came in. -/
theorem rd_of_row {k : IntKind} {w : World} {a : Option Addr} {len cap : Nat} {zs : List Int}
    (h : (a = none ∧ len = 0 ∧ cap = 0 ∧ zs = []) ∨ ∃ x, a = some x ∧ len ≤ cap ∧ cap ≤ maxLen ∧ zs.length = cap ∧ (∀ i, i < zs.length → w.cell? (x.add i) = some (.int k (zs.getD i 0))) ∧ ∀ n ∈ zs, (Lit.int k n).wf = true) :
    Rd w (.slice a len cap) ((zs.take len).map (.int k)) ∧ (∀ n ∈ zs.take len, (Lit.int k n).wf = true) ∧ (zs.take len).length = len ∧ len ≤ maxLen := by
  rcases h with ⟨rfl, rfl, rfl, rfl⟩ | ⟨x, rfl, hlc, hcm, hzc, hcell, hwf⟩
  · exact ⟨⟨none, 0, rfl, .inl rfl⟩, by simp, rfl, Nat.zero_le _⟩
  · have hl : (zs.take len).length = len := by rw [List.length_take]; omega
    refine ⟨⟨some x, cap, by simp; omega, ?_⟩, fun n hn => hwf n (List.mem_of_mem_take hn), hl, Nat.le_trans hlc hcm⟩
    by_cases h0 : len = 0
    · left; subst h0; simp
    · right
      obtain ⟨b, off, spot⟩ := x
      have hc := hcell 0 (by omega)
      have hspot : spot = none := by simpa [Addr.add] using World.cell?_spot hc
      subst hspot
      refine ⟨b, off, rfl, World.block_lt_of_cell? w _ hc, fun j hj => ?_⟩
      have hj' : j < len := by rw [List.length_map, hl] at hj; exact hj
      have := hcell j (by omega)
      have e : (⟨b, off, none⟩ : Addr).add j = ⟨b, off + j, none⟩ := by unfold Addr.add; split <;> simp_all
      rw [e] at this
      rw [this, getD_map_int]
      simp [hj']

/-- What a law's frame knows of a slice of strings that came in. -/
theorem rd_of_strs {w : World} {a : Option Addr} {len cap : Nat} {ss : List ByteArray}
    (h : (a = none ∧ len = 0 ∧ cap = 0 ∧ ss = []) ∨ ∃ x, a = some x ∧ len ≤ cap ∧ cap ≤ maxLen ∧ ss.length = cap ∧ (∀ i, i < ss.length → w.cell? (x.add i) = some (.string (ss.getD i ByteArray.empty))) ∧ ∀ s ∈ ss, s.size ≤ maxLen) :
    Rd w (.slice a len cap) ((ss.take len).map .string) ∧ (∀ s ∈ ss.take len, s.size ≤ maxLen) ∧ (ss.take len).length = len ∧ len ≤ maxLen := by
  rcases h with ⟨rfl, rfl, rfl, rfl⟩ | ⟨x, rfl, hlc, hcm, hzc, hcell, hwf⟩
  · exact ⟨⟨none, 0, rfl, .inl rfl⟩, by simp, rfl, Nat.zero_le _⟩
  · have hl : (ss.take len).length = len := by rw [List.length_take]; omega
    refine ⟨⟨some x, cap, by simp; omega, ?_⟩, fun n hn => hwf n (List.mem_of_mem_take hn), hl, Nat.le_trans hlc hcm⟩
    by_cases h0 : len = 0
    · left; subst h0; simp
    · right
      obtain ⟨b, off, spot⟩ := x
      have hc := hcell 0 (by omega)
      have hspot : spot = none := by simpa [Addr.add] using World.cell?_spot hc
      subst hspot
      refine ⟨b, off, rfl, World.block_lt_of_cell? w _ hc, fun j hj => ?_⟩
      have hj' : j < len := by rw [List.length_map, hl] at hj; exact hj
      have := hcell j (by omega)
      have e : (⟨b, off, none⟩ : Addr).add j = ⟨b, off + j, none⟩ := by unfold Addr.add; split <;> simp_all
      rw [e] at this
      rw [this]
      simp [List.getElem?_eq_getElem (show j < ss.length by omega)]

theorem owns_below {w w' : World} {B e size n : Nat} {v : Value} {xs : List Value} (h : w.ownsRow B e size v n xs) (hb : Below w.heap.size w w') : w'.ownsRow B e size v n xs := by
  obtain ⟨h1, h2⟩ := h
  refine ⟨h1, ?_⟩
  rcases h2 with h2 | ⟨g, cap, cur, hv, hg, hh, r⟩
  · exact .inl h2
  · have hlt : g < w.heap.size := (Array.getElem?_eq_some_iff.mp hh).1
    exact .inr ⟨g, cap, cur, hv, hg, by rw [hb.block g hlt]; exact hh, r⟩
theorem grown_refl (w : World) (r : Option Nat) : w.grownBy w r := ⟨rfl, rfl, rfl, Nat.le_refl _, fun _ _ _ => rfl⟩
theorem grown_set (w : World) (b o : Nat) (z : Value) : w.grownBy (w.setCell ⟨b, o, none⟩ z) (some b) :=
  ⟨rfl, rfl, rfl, by simp, fun k _ hk => Below.heap_setCell w ⟨b, o, none⟩ z k (fun e => hk (by rw [e]))⟩
theorem grown_trans {a b c : World} {r : Option Nat} (h : a.grownBy b r) (k : b.grownBy c r) : a.grownBy c r :=
  ⟨k.os.trans h.os, k.tape.trans h.tape, k.output.trans h.output, Nat.le_trans h.size k.size, fun i hi hr => (k.block i (Nat.lt_of_lt_of_le hi h.size) hr).trans (h.block i hi hr)⟩
theorem grown_drewN (w : World) (n : Nat) (r : Option Nat) : w.grownBy (w.drewN n) r := ⟨rfl, rfl, rfl, Nat.le_refl _, fun _ _ _ => rfl⟩
theorem owns_slice {w : World} {B n : Nat} {t : TypeId} {u : Value} {xs : List Value} (h : w.ownsRow B t 1 u n xs) (hn : 0 < n) : ∃ g cap, u = .slice (some ⟨g, 0, none⟩) n cap ∧ B ≤ g ∧ g < w.heap.size := by
  rcases h.2 with ⟨rfl, h0⟩ | ⟨g, cap, cur, rfl, hg, hh, hnc, hcm, hcs, ht⟩
  · omega
  · exact ⟨g, cap, rfl, hg, (Array.getElem?_eq_some_iff.mp hh).1⟩
theorem cells_of_heap {w : World} {b : Nat} {cs : Array Value} {t : TypeId} (h : w.heap[b]? = some (.cells cs t (0, 0))) (j : Nat) (hj : j < cs.size) : w.cell? ⟨b, j, none⟩ = some cs[j] ∧ w.frozen? ⟨b, j, none⟩ = false := by
  constructor
  · simp [World.cell?, h, Array.getElem?_eq_getElem hj]
  · simp [World.frozen?, h]

theorem owns_shape {w : World} {B n : Nat} {t : TypeId} {size : Nat} {u : Value} {xs : List Value} (h : w.ownsRow B t size u n xs) : ∃ a cap, u = .slice a n cap := by
  rcases h.2 with ⟨rfl, h0⟩ | ⟨g, cap, cur, rfl, _⟩
  · exact ⟨none, 0, by rw [h0]⟩
  · exact ⟨_, cap, rfl⟩
theorem owns_base {w : World} {B B' n : Nat} {t : TypeId} {size : Nat} {u : Value} {xs : List Value} (h : w.ownsRow B t size u n xs) (hB : B' ≤ B) : w.ownsRow B' t size u n xs := by
  refine ⟨h.1, ?_⟩
  rcases h.2 with h2 | ⟨g, cap, cur, hu, hg, r⟩
  · exact .inl h2
  · exact .inr ⟨g, cap, cur, hu, Nat.le_trans hB hg, r⟩
theorem owns_grown {w w' : World} {B n g : Nat} {t : TypeId} {size : Nat} {u : Value} {xs : List Value} (h : w.ownsRow B t size u n xs) (hg : w.grownBy w' (some g)) (hB : g < B) : w'.ownsRow B t size u n xs := by
  refine ⟨h.1, ?_⟩
  rcases h.2 with h2 | ⟨b, cap, cur, hu, hb, hh, r⟩
  · exact .inl h2
  · exact .inr ⟨b, cap, cur, hu, hb, (hg.block b (Array.getElem?_eq_some_iff.mp hh).1 (by simp; omega)).trans hh, r⟩
theorem owns_apart {w w' : World} {B n : Nat} {t : TypeId} {size : Nat} {u : Value} {xs : List Value} {r : Option Nat} (h : w.ownsRow B t size u n xs) (hg : w.grownBy w' r) (hd : ∀ q, u.ownBlock = some q → r ≠ some q) : w'.ownsRow B t size u n xs := by
  refine ⟨h.1, ?_⟩
  rcases h.2 with h2 | ⟨b, cap, cur, hu, hb, hh, r'⟩
  · exact .inl h2
  · exact .inr ⟨b, cap, cur, hu, hb, (hg.block b (Array.getElem?_eq_some_iff.mp hh).1 (fun e => hd b (by rw [hu]; rfl) e.symm)).trans hh, r'⟩
theorem owns_none {w : World} {B : Nat} (t : TypeId) (hB : B ≤ w.heap.size) : (w.alloc (.cells #[] t)).ownsRow B t 1 (.slice (some ⟨w.heap.size, 0, none⟩) 0 0) 0 [] :=
  ⟨rfl, .inr ⟨w.heap.size, 0, #[], rfl, hB, heap_alloc_new w _, Nat.le_refl _, Nat.zero_le _, rfl, rfl⟩⟩
/-- The box of a struct lies at block b. -/
def Bxd (w : World) (b : Nat) (vs : List Value) : Prop := ∀ j (h : j < vs.length), w.cell? ⟨b, j, none⟩ = some vs[j]
theorem Bxd.new (w : World) (vs : List Value) (t : TypeId) : Bxd (w.alloc (.cells vs.toArray t)) w.heap.size vs := fun j h => by
  rw [World.cell?_alloc_at _ _ _ _ rfl]
  simp [h]
theorem Bxd.below {w w' : World} {b B : Nat} {vs : List Value} (h : Bxd w b vs) (hb : Below B w w') (hB : b < B) : Bxd w' b vs := fun j hj => (hb.cell (p := ⟨b, j, none⟩) hB).trans (h j hj)
theorem Bxd.at {w : World} {b : Nat} {vs : List Value} (h : Bxd w b vs) (j : Nat) (v : Value) (hv : vs[j]? = some v) : w.cell? ⟨b, j, none⟩ = some v := by
  obtain ⟨hj, rfl⟩ := List.getElem?_eq_some_iff.mp hv
  exact h j hj
theorem ret_bool {a b : Bool} (h : a = b) : Ending.returned (.bool a) = .returned (.bool b) := by rw [h]
theorem ret_ib {k : IntKind} {a b : Int} {c : Bool} (h : a = b) : Ending.returned (.tuple #[.int k a, .bool c]) = .returned (.tuple #[.int k b, .bool c]) := by rw [h]
theorem ret_bb {a b c d : Bool} (h : a = b) (h' : c = d) : Ending.returned (.tuple #[.bool a, .bool c]) = .returned (.tuple #[.bool b, .bool d]) := by rw [h, h']
theorem ret_int {k : IntKind} {a b : Int} (h : a = b) : Ending.returned (.int k a) = .returned (.int k b) := by rw [h]

end Go.Proofs.Yteljmfdlegohbaa

namespace Go.Proofs.Yteljmfdlegohbaa
open Go.RowKit

/-- The cells of block b from i on get these values. -/
def putW (w : World) (b : Nat) : Nat → List Value → World
  | _, [] => w
  | i, v :: vs => putW (w.setCell ⟨b, i, none⟩ v) b (i + 1) vs
theorem putW_size (b : Nat) : ∀ (vs : List Value) (i : Nat) (w : World), (putW w b i vs).heap.size = w.heap.size
  | [], _, _ => rfl
  | v :: vs, i, w => by rw [putW, putW_size b vs]; simp
theorem putW_other {b j : Nat} (h : j ≠ b) : ∀ (vs : List Value) (i : Nat) (w : World), (putW w b i vs).heap[j]? = w.heap[j]?
  | [], _, _ => rfl
  | v :: vs, i, w => by rw [putW, putW_other h vs]; exact Below.heap_setCell w ⟨b, i, none⟩ v j (by simpa using h)
theorem putW_below {b B : Nat} {w0 : World} (hB : B ≤ b) : ∀ (vs : List Value) (i : Nat) (w : World), Below B w0 w → Below B w0 (putW w b i vs)
  | [], _, _, h => h
  | v :: vs, i, w, h => by rw [putW]; exact putW_below hB vs _ _ (h.setCell hB v)
theorem putW_own {b B e n : Nat} {u : Value} {xs : List Value} (hb : b < B) : ∀ (vs : List Value) (i : Nat) (w : World), w.ownsRow B e 1 u n xs → (putW w b i vs).ownsRow B e 1 u n xs
  | [], _, _, h => h
  | v :: vs, i, w, h => by rw [putW]; exact putW_own hb vs _ _ (ownsRow_setCell_below h (show (⟨b, i, none⟩ : Addr).block < B from hb) v)
theorem take_mid {P D : List Value} {v : Value} {i : Nat} (h : P.length = i) : (P ++ v :: D).take (i + 1) = P ++ [v] := by
  subst h; rw [List.take_append, List.take_of_length_le (by omega), show P.length + 1 - P.length = 1 by omega]; rfl
theorem drop_mid {P D : List Value} {v : Value} {i n : Nat} (h : P.length = i) : (P ++ v :: D).drop (i + 1 + n) = D.drop n := by
  subst h; rw [List.drop_append, List.drop_of_length_le (by omega), List.nil_append, show P.length + 1 + n - P.length = n + 1 by omega, List.drop_succ_cons]
theorem putW_at {b : Nat} {T : TypeId} : ∀ (vs : List Value) (i : Nat) (w : World) (cs : Array Value), w.heap[b]? = some (.cells cs T (0, 0)) → i + vs.length ≤ cs.size →
    (putW w b i vs).heap[b]? = some (.cells (cs.toList.take i ++ vs ++ cs.toList.drop (i + vs.length)).toArray T (0, 0))
  | [], i, w, cs, h, _ => by
    rw [putW, h]; simp
  | v :: vs, i, w, cs, h, hl => by
    rw [List.length_cons] at hl
    have h1 := heap_setCell_same w b i cs T v h
    rw [putW, putW_at vs (i + 1) _ _ h1 (by simp; omega)]
    have hi : i < cs.toList.length := by simp; omega
    have e : (cs.setIfInBounds i v).toList = cs.toList.take i ++ v :: cs.toList.drop (i + 1) := by
      rw [Array.toList_setIfInBounds, List.set_eq_take_append_cons_drop, if_pos hi]
    rw [e]
    have ht : (cs.toList.take i).length = i := List.length_take_of_le (by omega)
    rw [take_mid ht, drop_mid ht, List.drop_drop, List.length_cons, List.append_assoc, List.append_assoc, show i + 1 + vs.length = i + (vs.length + 1) by omega]
    simp
theorem putW_all {b : Nat} {T : TypeId} {w : World} {cs : Array Value} (vs : List Value) (h : w.heap[b]? = some (.cells cs T (0, 0))) (hl : vs.length = cs.size) :
    (putW w b 0 vs).heap[b]? = some (.cells vs.toArray T (0, 0)) := by
  rw [putW_at vs 0 w cs h (by omega)]
  simp [hl]
theorem putW_grown {b : Nat} : ∀ (vs : List Value) (i : Nat) (w : World), w.grownBy (putW w b i vs) (some b)
  | [], _, w => grown_refl w _
  | v :: vs, i, w => by rw [putW]; exact grown_trans (grown_set w b i v) (putW_grown vs _ _)
end Go.Proofs.Yteljmfdlegohbaa

namespace Go.Proofs.Yteljmfdlegohbaa
open Go.RowKit

/-- The slice value 'v' of n elements reads, in the world 'w', as the cells 'xs', one after the other. -/
def RdN (w : World) (v : Value) (n : Nat) (xs : List Value) : Prop :=
  ∃ a cap, v = .slice a n cap ∧ (n = 0 ∨ ∃ b off, a = some ⟨b, off, none⟩ ∧ b < w.heap.size ∧ ∀ j (h : j < xs.length), w.cell? ⟨b, off + j, none⟩ = some xs[j])
theorem RdN.below {w w' : World} {v : Value} {n : Nat} {xs : List Value} (h : RdN w v n xs) (hb : Below w.heap.size w w') : RdN w' v n xs := by
  obtain ⟨a, cap, hv, h⟩ := h
  refine ⟨a, cap, hv, ?_⟩
  rcases h with h | ⟨b, off, ha, hlt, hc⟩
  · exact .inl h
  · exact .inr ⟨b, off, ha, Nat.lt_of_lt_of_le hlt hb.size, fun j hj => (hb.cell (p := ⟨b, off + j, none⟩) hlt).trans (hc j hj)⟩
theorem RdN.of_owns {w : World} {base : Nat} {e : TypeId} {c n : Nat} {v : Value} {xs : List Value} (h : w.ownsRow base e c v n xs) : RdN w v n xs := by
  rcases h.2 with ⟨rfl, hn⟩ | ⟨g, cap, cur, rfl, hg, hh, hnc, hcm, hcs, ht⟩
  · exact ⟨none, 0, by rw [hn], .inl hn⟩
  · refine ⟨_, cap, rfl, .inr ⟨g, 0, rfl, (Array.getElem?_eq_some_iff.mp hh).1, fun j hj => ?_⟩⟩
    have := World.ownsRow.cellAt h j (by rw [← h.1]; exact hj)
    simp only [Nat.zero_add]
    rw [this, List.getElem?_eq_getElem hj]
/-- The two cases that a walk over a slice knows. -/
theorem RdN.cases {w : World} {v : Value} {n : Nat} {xs : List Value} (h : RdN w v n xs) :
    (n = 0 ∧ ∃ a cap, v = .slice a 0 cap) ∨ (0 < n ∧ ∃ b off cap, v = .slice (some ⟨b, off, none⟩) n cap ∧ b < w.heap.size ∧ ∀ j (h : j < xs.length), w.cell? ⟨b, off + j, none⟩ = some xs[j]) := by
  obtain ⟨a, cap, rfl, h⟩ := h
  by_cases h0 : n = 0
  · exact .inl ⟨h0, a, cap, by rw [h0]⟩
  · rcases h with h | ⟨b, off, rfl, hlt, hc⟩
    · exact absurd h h0
    · exact .inr ⟨by omega, b, off, cap, rfl, hlt, hc⟩
theorem owns_put {w : World} {base g n cap c : Nat} {e : TypeId} {xs : List Value} (h : w.ownsRow base e c (.slice (some ⟨g, 0, none⟩) n cap) n xs) (i : Nat) (vs : List Value) (hi : i + vs.length ≤ xs.length) :
    (putW w g i vs).ownsRow base e c (.slice (some ⟨g, 0, none⟩) n cap) n (xs.take i ++ vs ++ xs.drop (i + vs.length)) := by
  obtain ⟨h1, h2⟩ := h
  refine ⟨by simp; omega, ?_⟩
  rcases h2 with ⟨h2, _⟩ | ⟨g', cap', cur, h2, hg, hh, hnc, hcm, hcs, ht⟩
  · simp at h2
  · simp only [Value.slice.injEq, Option.some.injEq, Addr.mk.injEq, and_true, true_and] at h2
    obtain ⟨rfl, rfl⟩ := h2
    have hle : n * c ≤ cur.size := by rw [hcs]; exact Nat.mul_le_mul_right _ hnc
    refine .inr ⟨g, cap, _, rfl, hg, putW_at vs i w cur hh (by omega), hnc, hcm, ?_, ?_⟩
    · simp; omega
    · have hx : xs.length = n * c := h1
      rw [← ht]
      apply List.ext_getElem?
      intro j
      rw [List.getElem?_take]
      simp only [List.getElem?_append, List.length_append, List.length_take, List.getElem?_take, List.getElem?_drop, Array.length_toList]
      by_cases hj : j < n * c
      · rw [if_pos hj]
        by_cases h3 : j < i + vs.length
        · rw [if_pos (show j < min i cur.size + vs.length by omega), if_pos (show j < min i (min (n * c) cur.size) + vs.length by omega)]
          by_cases h4 : j < i
          · rw [if_pos (show j < min i cur.size by omega), if_pos h4, if_pos (show j < min i (min (n * c) cur.size) by omega), if_pos h4, if_pos hj]
          · rw [if_neg (show ¬ j < min i cur.size by omega), if_neg (show ¬ j < min i (min (n * c) cur.size) by omega)]
            congr 1; omega
        · rw [if_neg (show ¬ j < min i cur.size + vs.length by omega), if_neg (show ¬ j < min i (min (n * c) cur.size) + vs.length by omega)]
          rw [if_pos (by omega)]
          congr 1; omega
      · rw [if_neg hj, if_neg (show ¬ j < min i (min (n * c) cur.size) + vs.length by omega), if_neg (by omega)]
theorem take_put {xs vs D : List Value} {i j : Nat} (hi : i ≤ xs.length) (hj : j = i + vs.length) : (xs.take i ++ vs ++ D).take j = xs.take i ++ vs := by
  subst hj
  have h : (xs.take i ++ vs).length = i + vs.length := by rw [List.length_append, List.length_take_of_le hi]
  rw [← h, List.take_left]
theorem owns_noneN {w : World} {B : Nat} (t : TypeId) (c : Nat) (hB : B ≤ w.heap.size) : (w.alloc (.cells #[] t)).ownsRow B t c (.slice (some ⟨w.heap.size, 0, none⟩) 0 0) 0 [] :=
  ⟨by simp, .inr ⟨w.heap.size, 0, #[], rfl, hB, heap_alloc_new w _, Nat.le_refl _, Nat.zero_le _, by simp, by simp⟩⟩
theorem news_of_new {w : World} {cs : List Value} {t : TypeId} : ∀ j u, cs[j]? = some u → (w.alloc (.cells cs.toArray t)).cell? ((⟨w.heap.size, 0, none⟩ : Addr).add j) = some u := by
  intro j u hu
  have hadd : (⟨w.heap.size, 0, none⟩ : Addr).add j = ⟨w.heap.size, j, none⟩ := by unfold Addr.add; split <;> simp_all
  rw [hadd, World.cell?_alloc_at _ _ _ _ rfl]
  simpa using hu
end Go.Proofs.Yteljmfdlegohbaa

namespace Go.Proofs.Yteljmfdlegohbaa
open Go.RowKit

/-- The shape of a cell: a number, a Bool, a text, or a row whose elements have the shapes of their cells. A type is the list of its cells' shapes. -/
inductive Sh where
  | int (k : IntKind)
  | bool
  | str
  | row (es : List Sh)
/-- What a cell holds. -/
inductive Ce where
  | int (n : Int)
  | bool (b : Bool)
  | str (s : ByteArray)
  | row (rs : List (List Ce))

mutual
/-- The value v reads, in the world w, as c. -/
def RdC (w : World) : Sh → Value → Ce → Prop
  | .int k, v, c => ∃ n, v = .int k n ∧ c = .int n
  | .bool, v, c => ∃ b, v = .bool b ∧ c = .bool b
  | .str, v, c => ∃ s, v = .string s ∧ c = .str s
  | .row es, v, c => ∃ (rs : List (List Ce)) (a : Option Addr) (cap : Nat), c = .row rs ∧ v = .slice a rs.length cap ∧ rs.length ≤ maxLen ∧
      (rs = [] ∨ ∃ b off, a = some ⟨b, off, none⟩ ∧ b < w.heap.size ∧ ∀ i (h : i < rs.length), ∃ vs : List Value, vs.length = es.length ∧ (∀ j (hj : j < vs.length), w.cell? ⟨b, off + i * es.length + j, none⟩ = some vs[j]) ∧ RdL w es vs rs[i])
def RdL (w : World) : List Sh → List Value → List Ce → Prop
  | [], vs, cs => vs = [] ∧ cs = []
  | s :: ss, vs, cs => ∃ v vs' c cs', vs = v :: vs' ∧ cs = c :: cs' ∧ RdC w s v c ∧ RdL w ss vs' cs'
end

mutual
/-- The value v reads as c, and the blocks fp, from B on, hold what it leads to, whole. -/
def OwC (w : World) (B : Nat) : Sh → Value → Ce → List Nat → Prop
  | .int k, v, c, fp => fp = [] ∧ ∃ n, v = .int k n ∧ c = .int n
  | .bool, v, c, fp => fp = [] ∧ ∃ b, v = .bool b ∧ c = .bool b
  | .str, v, c, fp => fp = [] ∧ ∃ s, v = .string s ∧ c = .str s
  | .row es, v, c, fp => ∃ (rs : List (List Ce)), c = .row rs ∧ rs.length ≤ maxLen ∧
      ((v = .slice none 0 0 ∧ rs = [] ∧ fp = []) ∨
       ∃ (g cap : Nat) (cur : Array Value) (t : TypeId) (fps : List (List Nat)), v = .slice (some ⟨g, 0, none⟩) rs.length cap ∧ B ≤ g ∧ w.heap[g]? = some (.cells cur t (0, 0)) ∧ rs.length * es.length ≤ cur.size ∧ fp = g :: fps.flatten ∧ fps.length = rs.length ∧
         ∀ i (h : i < rs.length) (h' : i < fps.length), OwL w B es ((cur.toList.drop (i * es.length)).take es.length) rs[i] fps[i])
def OwL (w : World) (B : Nat) : List Sh → List Value → List Ce → List Nat → Prop
  | [], vs, cs, fp => vs = [] ∧ cs = [] ∧ fp = []
  | s :: ss, vs, cs, fp => ∃ v vs' c cs' f f', vs = v :: vs' ∧ cs = c :: cs' ∧ fp = f ++ f' ∧ OwC w B s v c f ∧ OwL w B ss vs' cs' f'
end

mutual
theorem RdC.below {w w' : World} (hb : Below w.heap.size w w') : ∀ (s : Sh) (v : Value) (c : Ce), RdC w s v c → RdC w' s v c
  | .int _, _, _, h => by simp only [RdC] at h ⊢; exact h
  | .bool, _, _, h => by simp only [RdC] at h ⊢; exact h
  | .str, _, _, h => by simp only [RdC] at h ⊢; exact h
  | .row es, v, c, h => by
    simp only [RdC] at h ⊢
    obtain ⟨rs, a, cap, hc, hv, hl, h⟩ := h
    refine ⟨rs, a, cap, hc, hv, hl, ?_⟩
    rcases h with h | ⟨b, off, ha, hlt, h⟩
    · exact .inl h
    · refine .inr ⟨b, off, ha, Nat.lt_of_lt_of_le hlt hb.size, fun i hi => ?_⟩
      obtain ⟨vs, h1, h2, h3⟩ := h i hi
      exact ⟨vs, h1, fun j hj => (hb.cell (p := ⟨b, off + i * es.length + j, none⟩) hlt).trans (h2 j hj), RdL.below hb es vs _ h3⟩
theorem RdL.below {w w' : World} (hb : Below w.heap.size w w') : ∀ (ss : List Sh) (vs : List Value) (cs : List Ce), RdL w ss vs cs → RdL w' ss vs cs
  | [], _, _, h => by simp only [RdL] at h ⊢; exact h
  | s :: ss, _, _, h => by
    simp only [RdL] at h ⊢
    obtain ⟨v, vs', c, cs', h1, h2, h3, h4⟩ := h
    exact ⟨v, vs', c, cs', h1, h2, RdC.below hb s v c h3, RdL.below hb ss vs' cs' h4⟩
end

mutual
/-- What is owned stays so while its own blocks stay. -/
theorem OwC.keep {w w' : World} {B : Nat} : ∀ (s : Sh) (v : Value) (c : Ce) (fp : List Nat), OwC w B s v c fp → (∀ b ∈ fp, w'.heap[b]? = w.heap[b]?) → OwC w' B s v c fp
  | .int _, _, _, _, h, _ => by simp only [OwC] at h ⊢; exact h
  | .bool, _, _, _, h, _ => by simp only [OwC] at h ⊢; exact h
  | .str, _, _, _, h, _ => by simp only [OwC] at h ⊢; exact h
  | .row es, v, c, fp, h, hk => by
    simp only [OwC] at h ⊢
    obtain ⟨rs, hc, hl, h⟩ := h
    refine ⟨rs, hc, hl, ?_⟩
    rcases h with h | ⟨g, cap, cur, t, fps, hv, hB, hh, hs, rfl, hf, h⟩
    · exact .inl h
    · refine .inr ⟨g, cap, cur, t, fps, hv, hB, (hk g (by simp)).trans hh, hs, rfl, hf, fun i hi hi' => ?_⟩
      exact OwL.keep es _ _ _ (h i hi hi') fun b hb => hk b (List.mem_cons_of_mem _ (List.mem_flatten.mpr ⟨_, List.getElem_mem hi', hb⟩))
theorem OwL.keep {w w' : World} {B : Nat} : ∀ (ss : List Sh) (vs : List Value) (cs : List Ce) (fp : List Nat), OwL w B ss vs cs fp → (∀ b ∈ fp, w'.heap[b]? = w.heap[b]?) → OwL w' B ss vs cs fp
  | [], _, _, _, h, _ => by simp only [OwL] at h ⊢; exact h
  | s :: ss, _, _, _, h, hk => by
    simp only [OwL] at h ⊢
    obtain ⟨v, vs', c, cs', f, f', h1, h2, rfl, h4, h5⟩ := h
    exact ⟨v, vs', c, cs', f, f', h1, h2, rfl, OwC.keep s v c f h4 fun b hb => hk b (List.mem_append_left _ hb), OwL.keep ss vs' cs' f' h5 fun b hb => hk b (List.mem_append_right _ hb)⟩
end

mutual
/-- The blocks that are owned lie from B on, and in memory. -/
theorem OwC.range {w : World} {B : Nat} : ∀ (s : Sh) (v : Value) (c : Ce) (fp : List Nat), OwC w B s v c fp → ∀ b ∈ fp, B ≤ b ∧ b < w.heap.size
  | .int _, _, _, _, h => by simp only [OwC] at h; simp [h.1]
  | .bool, _, _, _, h => by simp only [OwC] at h; simp [h.1]
  | .str, _, _, _, h => by simp only [OwC] at h; simp [h.1]
  | .row es, v, c, fp, h => by
    simp only [OwC] at h
    obtain ⟨rs, hc, hl, h⟩ := h
    rcases h with ⟨_, _, rfl⟩ | ⟨g, cap, cur, t, fps, hv, hB, hh, hs, rfl, hf, h⟩
    · simp
    · intro b hb
      rcases List.mem_cons.mp hb with rfl | hb
      · exact ⟨hB, (Array.getElem?_eq_some_iff.mp hh).1⟩
      · obtain ⟨f, hf1, hf2⟩ := List.mem_flatten.mp hb
        obtain ⟨i, hi, rfl⟩ := List.getElem_of_mem hf1
        exact OwL.range es _ _ _ (h i (by omega) hi) b hf2
theorem OwL.range {w : World} {B : Nat} : ∀ (ss : List Sh) (vs : List Value) (cs : List Ce) (fp : List Nat), OwL w B ss vs cs fp → ∀ b ∈ fp, B ≤ b ∧ b < w.heap.size
  | [], _, _, _, h => by simp only [OwL] at h; simp [h.2.2]
  | s :: ss, _, _, _, h => by
    simp only [OwL] at h
    obtain ⟨v, vs', c, cs', f, f', h1, h2, rfl, h4, h5⟩ := h
    intro b hb
    rcases List.mem_append.mp hb with hb | hb
    · exact OwC.range s v c f h4 b hb
    · exact OwL.range ss vs' cs' f' h5 b hb
end

mutual
theorem RdC.lens {w : World} : ∀ (ss : List Sh) (vs : List Value) (cs : List Ce), RdL w ss vs cs → vs.length = ss.length ∧ cs.length = ss.length
  | [], _, _, h => by simp only [RdL] at h; simp [h]
  | s :: ss, _, _, h => by
    simp only [RdL] at h
    obtain ⟨v, vs', c, cs', rfl, rfl, h3, h4⟩ := h
    have := RdC.lens ss vs' cs' h4
    simp [this]
end
theorem OwL.lens {w : World} {B : Nat} : ∀ (ss : List Sh) (vs : List Value) (cs : List Ce) (fp : List Nat), OwL w B ss vs cs fp → vs.length = ss.length ∧ cs.length = ss.length
  | [], _, _, _, h => by simp only [OwL] at h; simp [h]
  | s :: ss, _, _, _, h => by
    simp only [OwL] at h
    obtain ⟨v, vs', c, cs', f, f', rfl, rfl, rfl, h4, h5⟩ := h
    have := OwL.lens ss vs' cs' f' h5
    simp [this]

theorem cell_of_block {w : World} {g : Nat} {cur : Array Value} {t : TypeId} (h : w.heap[g]? = some (.cells cur t (0, 0))) (j : Nat) (hj : j < cur.size) : w.cell? ⟨g, j, none⟩ = some cur[j] := by
  simp [World.cell?, h, Array.getElem?_eq_getElem hj]
theorem free_of_block {w : World} {g : Nat} {cur : Array Value} {t : TypeId} (h : w.heap[g]? = some (.cells cur t (0, 0))) (j : Nat) : w.frozen? ⟨g, j, none⟩ = false := by
  simp [World.frozen?, h]

mutual
/-- What is owned is read. -/
theorem OwC.rd {w : World} {B : Nat} : ∀ (s : Sh) (v : Value) (c : Ce) (fp : List Nat), OwC w B s v c fp → RdC w s v c
  | .int _, _, _, _, h => by simp only [OwC] at h; simp only [RdC]; exact h.2
  | .bool, _, _, _, h => by simp only [OwC] at h; simp only [RdC]; exact h.2
  | .str, _, _, _, h => by simp only [OwC] at h; simp only [RdC]; exact h.2
  | .row es, v, c, fp, h => by
    simp only [OwC] at h
    simp only [RdC]
    obtain ⟨rs, hc, hl, h⟩ := h
    rcases h with ⟨rfl, rfl, rfl⟩ | ⟨g, cap, cur, t, fps, hv, hB, hh, hs, rfl, hf, h⟩
    · exact ⟨[], none, 0, hc, rfl, hl, .inl rfl⟩
    · refine ⟨rs, _, cap, hc, hv, hl, .inr ⟨g, 0, rfl, (Array.getElem?_eq_some_iff.mp hh).1, fun i hi => ?_⟩⟩
      have ho := h i hi (by omega)
      have hll := (OwL.lens es _ _ _ ho).1
      refine ⟨_, hll, fun j hj => ?_, OwL.rd es _ _ _ ho⟩
      have hm : i * es.length + es.length ≤ rs.length * es.length := by
        have := Nat.mul_le_mul_right es.length (show i + 1 ≤ rs.length from hi)
        rw [Nat.add_mul, Nat.one_mul] at this
        exact this
      have hj' : j < es.length := by omega
      rw [Nat.zero_add, cell_of_block hh _ (by omega)]
      simp
theorem OwL.rd {w : World} {B : Nat} : ∀ (ss : List Sh) (vs : List Value) (cs : List Ce) (fp : List Nat), OwL w B ss vs cs fp → RdL w ss vs cs
  | [], _, _, _, h => by simp only [OwL] at h; simp only [RdL]; exact ⟨h.1, h.2.1⟩
  | s :: ss, _, _, _, h => by
    simp only [OwL] at h
    simp only [RdL]
    obtain ⟨v, vs', c, cs', f, f', h1, h2, _, h4, h5⟩ := h
    exact ⟨v, vs', c, cs', h1, h2, OwC.rd s v c f h4, OwL.rd ss vs' cs' f' h5⟩
end

theorem RdL.nil {w : World} : RdL w [] [] [] := by simp only [RdL]; exact ⟨trivial, trivial⟩
theorem RdL.cons {w : World} {s : Sh} {ss : List Sh} {v : Value} {vs : List Value} {c : Ce} {cs : List Ce} (h : RdC w s v c) (k : RdL w ss vs cs) : RdL w (s :: ss) (v :: vs) (c :: cs) := by
  simp only [RdL]; exact ⟨v, vs, c, cs, rfl, rfl, h, k⟩
theorem RdC.mkInt {w : World} (k : IntKind) (n : Int) : RdC w (.int k) (.int k n) (.int n) := by simp only [RdC]; exact ⟨n, rfl, rfl⟩
theorem RdC.mkBool {w : World} (b : Bool) : RdC w .bool (.bool b) (.bool b) := by simp only [RdC]; exact ⟨b, rfl, rfl⟩
theorem RdC.mkStr {w : World} (s : ByteArray) : RdC w .str (.string s) (.str s) := by simp only [RdC]; exact ⟨s, rfl, rfl⟩
theorem RdL.consInv {w : World} {s : Sh} {ss : List Sh} {vs : List Value} {cs : List Ce} (h : RdL w (s :: ss) vs cs) : ∃ v vs' c cs', vs = v :: vs' ∧ cs = c :: cs' ∧ RdC w s v c ∧ RdL w ss vs' cs' := by simpa only [RdL] using h
theorem RdL.nilInv {w : World} {vs : List Value} {cs : List Ce} (h : RdL w [] vs cs) : vs = [] ∧ cs = [] := by simpa only [RdL] using h
theorem RdC.intInv {w : World} {k : IntKind} {v : Value} {c : Ce} (h : RdC w (.int k) v c) : ∃ n, v = .int k n ∧ c = .int n := by simpa only [RdC] using h
theorem RdC.boolInv {w : World} {v : Value} {c : Ce} (h : RdC w .bool v c) : ∃ b, v = .bool b ∧ c = .bool b := by simpa only [RdC] using h
theorem RdC.strInv {w : World} {v : Value} {c : Ce} (h : RdC w .str v c) : ∃ s, v = .string s ∧ c = .str s := by simpa only [RdC] using h
theorem OwL.nil {w : World} {B : Nat} : OwL w B [] [] [] [] := by simp only [OwL]; exact ⟨trivial, trivial, trivial⟩
theorem OwL.cons {w : World} {B : Nat} {s : Sh} {ss : List Sh} {v : Value} {vs : List Value} {c : Ce} {cs : List Ce} {f f' : List Nat} (h : OwC w B s v c f) (k : OwL w B ss vs cs f') : OwL w B (s :: ss) (v :: vs) (c :: cs) (f ++ f') := by
  simp only [OwL]; exact ⟨v, vs, c, cs, f, f', rfl, rfl, rfl, h, k⟩
theorem OwC.mkInt {w : World} {B : Nat} (k : IntKind) (n : Int) : OwC w B (.int k) (.int k n) (.int n) [] := by simp only [OwC]; exact ⟨trivial, n, rfl, rfl⟩
theorem OwC.mkBool {w : World} {B : Nat} (b : Bool) : OwC w B .bool (.bool b) (.bool b) [] := by simp only [OwC]; exact ⟨trivial, b, rfl, rfl⟩
theorem OwC.mkStr {w : World} {B : Nat} (s : ByteArray) : OwC w B .str (.string s) (.str s) [] := by simp only [OwC]; exact ⟨trivial, s, rfl, rfl⟩
theorem OwL.consInv {w : World} {B : Nat} {s : Sh} {ss : List Sh} {vs : List Value} {cs : List Ce} {fp : List Nat} (h : OwL w B (s :: ss) vs cs fp) : ∃ v vs' c cs' f f', vs = v :: vs' ∧ cs = c :: cs' ∧ fp = f ++ f' ∧ OwC w B s v c f ∧ OwL w B ss vs' cs' f' := by simpa only [OwL] using h
theorem OwL.nilInv {w : World} {B : Nat} {vs : List Value} {cs : List Ce} {fp : List Nat} (h : OwL w B [] vs cs fp) : vs = [] ∧ cs = [] ∧ fp = [] := by simpa only [OwL] using h
theorem OwC.intInv {w : World} {B : Nat} {k : IntKind} {v : Value} {c : Ce} {fp : List Nat} (h : OwC w B (.int k) v c fp) : fp = [] ∧ ∃ n, v = .int k n ∧ c = .int n := by simpa only [OwC] using h
theorem OwC.boolInv {w : World} {B : Nat} {v : Value} {c : Ce} {fp : List Nat} (h : OwC w B .bool v c fp) : fp = [] ∧ ∃ b, v = .bool b ∧ c = .bool b := by simpa only [OwC] using h
theorem OwC.strInv {w : World} {B : Nat} {v : Value} {c : Ce} {fp : List Nat} (h : OwC w B .str v c fp) : fp = [] ∧ ∃ s, v = .string s ∧ c = .str s := by simpa only [OwC] using h

theorem RdC.rowInv {w : World} {es : List Sh} {v : Value} {c : Ce} (h : RdC w (.row es) v c) : ∃ (rs : List (List Ce)) (a : Option Addr) (cap : Nat), c = .row rs ∧ v = .slice a rs.length cap ∧ rs.length ≤ maxLen ∧
      (rs = [] ∨ ∃ b off, a = some ⟨b, off, none⟩ ∧ b < w.heap.size ∧ ∀ i (h : i < rs.length), ∃ vs : List Value, vs.length = es.length ∧ (∀ j (hj : j < vs.length), w.cell? ⟨b, off + i * es.length + j, none⟩ = some vs[j]) ∧ RdL w es vs rs[i]) := by
  rw [RdC] at h; exact h
theorem RdC.rowMk {w : World} {es : List Sh} {rs : List (List Ce)} {a : Option Addr} {cap n : Nat} (hn : n = rs.length) (hl : rs.length ≤ maxLen)
    (h : rs = [] ∨ ∃ b off, a = some ⟨b, off, none⟩ ∧ b < w.heap.size ∧ ∀ i (h : i < rs.length), ∃ vs : List Value, vs.length = es.length ∧ (∀ j (hj : j < vs.length), w.cell? ⟨b, off + i * es.length + j, none⟩ = some vs[j]) ∧ RdL w es vs rs[i]) : RdC w (.row es) (.slice a n cap) (.row rs) := by
  rw [RdC]; exact ⟨rs, a, cap, rfl, by rw [hn], hl, h⟩
theorem OwC.rowInv {w : World} {B : Nat} {es : List Sh} {v : Value} {c : Ce} {fp : List Nat} (h : OwC w B (.row es) v c fp) : ∃ (rs : List (List Ce)), c = .row rs ∧ rs.length ≤ maxLen ∧
      ((v = .slice none 0 0 ∧ rs = [] ∧ fp = []) ∨
       ∃ (g cap : Nat) (cur : Array Value) (t : TypeId) (fps : List (List Nat)), v = .slice (some ⟨g, 0, none⟩) rs.length cap ∧ B ≤ g ∧ w.heap[g]? = some (.cells cur t (0, 0)) ∧ rs.length * es.length ≤ cur.size ∧ fp = g :: fps.flatten ∧ fps.length = rs.length ∧
         ∀ i (h : i < rs.length) (h' : i < fps.length), OwL w B es ((cur.toList.drop (i * es.length)).take es.length) rs[i] fps[i]) := by
  rw [OwC] at h; exact h
theorem OwC.rowNil {w : World} {B : Nat} {es : List Sh} : OwC w B (.row es) (.slice none 0 0) (.row []) [] := by
  rw [OwC]; exact ⟨[], rfl, Nat.zero_le _, .inl ⟨rfl, rfl, rfl⟩⟩
theorem OwC.rowMk {w : World} {B : Nat} {es : List Sh} {rs : List (List Ce)} {g cap n : Nat} {cur : Array Value} {t : TypeId} {fps : List (List Nat)} (hn : n = rs.length) (hl : rs.length ≤ maxLen) (hB : B ≤ g) (hh : w.heap[g]? = some (.cells cur t (0, 0)))
    (hs : rs.length * es.length ≤ cur.size) (hf : fps.length = rs.length) (h : ∀ i (h : i < rs.length) (h' : i < fps.length), OwL w B es ((cur.toList.drop (i * es.length)).take es.length) rs[i] fps[i]) : OwC w B (.row es) (.slice (some ⟨g, 0, none⟩) n cap) (.row rs) (g :: fps.flatten) := by
  rw [OwC]; exact ⟨rs, rfl, hl, .inr ⟨g, cap, cur, t, fps, by rw [hn], hB, hh, hs, rfl, hf, h⟩⟩

/-- An owned datum: its blocks are all different. -/
def Own (w : World) (B : Nat) (ss : List Sh) (vs : List Value) (cs : List Ce) : Prop := ∃ fp, fp.Nodup ∧ OwL w B ss vs cs fp
theorem Own.rd {w : World} {B : Nat} {ss : List Sh} {vs : List Value} {cs : List Ce} (h : Own w B ss vs cs) : RdL w ss vs cs := by
  obtain ⟨fp, _, h⟩ := h
  exact h.rd
theorem Own.below {w w' : World} {B : Nat} {ss : List Sh} {vs : List Value} {cs : List Ce} (h : Own w B ss vs cs) (hb : Below w.heap.size w w') : Own w' B ss vs cs := by
  obtain ⟨fp, hn, h⟩ := h
  exact ⟨fp, hn, h.keep _ _ _ _ fun b hm => hb.block b (h.range _ _ _ _ b hm).2⟩

/-- Only the blocks fp have turned, of what was there. -/
structure Turn (w w' : World) (fp : List Nat) : Prop where
  os : w'.os = w.os
  tape : w'.tape = w.tape
  output : w'.output = w.output
  size : w.heap.size ≤ w'.heap.size
  block : ∀ k, k < w.heap.size → k ∉ fp → w'.heap[k]? = w.heap[k]?
theorem Turn.refl (w : World) (fp : List Nat) : Turn w w fp := ⟨rfl, rfl, rfl, Nat.le_refl _, fun _ _ _ => rfl⟩
theorem Turn.trans {a b c : World} {fp : List Nat} (h : Turn a b fp) (k : Turn b c fp) : Turn a c fp :=
  ⟨k.os.trans h.os, k.tape.trans h.tape, k.output.trans h.output, Nat.le_trans h.size k.size, fun i hi hn => (k.block i (Nat.lt_of_lt_of_le hi h.size) hn).trans (h.block i hi hn)⟩
theorem Turn.mono {a b : World} {f f' : List Nat} (h : Turn a b f) (hf : ∀ x ∈ f, x ∈ f') : Turn a b f' := ⟨h.os, h.tape, h.output, h.size, fun i hi hn => h.block i hi (fun hm => hn (hf i hm))⟩
theorem Turn.of_below {w w' : World} (h : Below w.heap.size w w') (fp : List Nat) : Turn w w' fp := ⟨h.os, h.tape, h.output, h.size, fun k hk _ => h.block k hk⟩
theorem Turn.of_grown {w w' : World} {g : Nat} (h : w.grownBy w' (some g)) : Turn w w' [g] := ⟨h.os, h.tape, h.output, h.size, fun k hk hn => h.block k hk (by simp at hn ⊢; exact fun e => hn (by omega))⟩
theorem Turn.below {w w' : World} {fp : List Nat} {B : Nat} (h : Turn w w' fp) (hf : ∀ b ∈ fp, B ≤ b) (hB : B ≤ w.heap.size) : Below B w w' :=
  ⟨h.os, h.tape, h.output, h.size, fun k hk => h.block k (Nat.lt_of_lt_of_le hk hB) (fun hm => Nat.lt_irrefl _ (Nat.lt_of_lt_of_le hk (hf k hm)))⟩
theorem OwL.turn {w w' : World} {B : Nat} {ss : List Sh} {vs : List Value} {cs : List Ce} {fp f' : List Nat} (h : OwL w B ss vs cs fp) (ht : Turn w w' f') (hd : ∀ b ∈ fp, b ∉ f') : OwL w' B ss vs cs fp :=
  h.keep _ _ _ _ fun b hb => ht.block b (h.range _ _ _ _ b hb).2 (hd b hb)
theorem OwC.turn {w w' : World} {B : Nat} {s : Sh} {v : Value} {c : Ce} {fp f' : List Nat} (h : OwC w B s v c fp) (ht : Turn w w' f') (hd : ∀ b ∈ fp, b ∉ f') : OwC w' B s v c fp :=
  h.keep _ _ _ _ fun b hb => ht.block b (h.range _ _ _ _ b hb).2 (hd b hb)
theorem OwL.below {w w' : World} {B : Nat} {ss : List Sh} {vs : List Value} {cs : List Ce} {fp : List Nat} (h : OwL w B ss vs cs fp) (hb : Below w.heap.size w w') : OwL w' B ss vs cs fp :=
  h.keep _ _ _ _ fun b hm => hb.block b (h.range _ _ _ _ b hm).2
theorem OwC.below {w w' : World} {B : Nat} {s : Sh} {v : Value} {c : Ce} {fp : List Nat} (h : OwC w B s v c fp) (hb : Below w.heap.size w w') : OwC w' B s v c fp :=
  h.keep _ _ _ _ fun b hm => hb.block b (h.range _ _ _ _ b hm).2
/-- A block behind a store into one of its cells. -/
theorem block_set {w : World} {g : Nat} {cur : Array Value} {t : TypeId} (h : w.heap[g]? = some (.cells cur t (0, 0))) (j : Nat) (z : Value) : (w.setCell ⟨g, j, none⟩ z).heap[g]? = some (.cells (cur.setIfInBounds j z) t (0, 0)) := heap_setCell_same w g j cur t z h
end Go.Proofs.Yteljmfdlegohbaa

namespace Go.Proofs.Yteljmfdlegohbaa
open Go.RowKit

def ownFp (u : Value) : List Nat := match u.ownBlock with | some g => [g] | none => []
/-- The value u owns n elements of c cells each, xs, and the blocks fp are those that it takes up. -/
def OwF (w : World) (B : Nat) (T : TypeId) (c : Nat) (u : Value) (n : Nat) (xs : List Value) (fp : List Nat) : Prop := w.ownsRow B T c u n xs ∧ fp = ownFp u
theorem OwF.mk' {w : World} {B : Nat} {T : TypeId} {c n : Nat} {u : Value} {xs : List Value} (h : w.ownsRow B T c u n xs) : OwF w B T c u n xs (ownFp u) := ⟨h, rfl⟩
theorem OwF.below {w w' : World} {B : Nat} {T : TypeId} {c n : Nat} {u : Value} {xs : List Value} {fp : List Nat} (h : OwF w B T c u n xs fp) (hb : Below w.heap.size w w') : OwF w' B T c u n xs fp := ⟨owns_below h.1 hb, h.2⟩
theorem OwF.rng {w : World} {B : Nat} {T : TypeId} {c n : Nat} {u : Value} {xs : List Value} {fp : List Nat} (h : OwF w B T c u n xs fp) : ∀ b ∈ fp, B ≤ b ∧ b < w.heap.size := by
  intro b hb
  rw [h.2] at hb
  unfold ownFp at hb
  rcases h.1.2 with ⟨rfl, _⟩ | ⟨g, cap, cur, rfl, hg, hh, _⟩
  · simp [Value.ownBlock] at hb
  · simp [Value.ownBlock] at hb
    subst hb
    exact ⟨hg, (Array.getElem?_eq_some_iff.mp hh).1⟩
theorem OwF.turn {w w' : World} {B : Nat} {T : TypeId} {c n : Nat} {u : Value} {xs : List Value} {fp f' : List Nat} (h : OwF w B T c u n xs fp) (ht : Turn w w' f') (hd : ∀ b ∈ fp, b ∉ f') : OwF w' B T c u n xs fp := by
  refine ⟨?_, h.2⟩
  obtain ⟨⟨h1, h2⟩, h3⟩ := h
  refine ⟨h1, ?_⟩
  rcases h2 with h2 | ⟨g, cap, cur, hu, hg, hh, r⟩
  · exact .inl h2
  · refine .inr ⟨g, cap, cur, hu, hg, ?_, r⟩
    rw [ht.block g (Array.getElem?_eq_some_iff.mp hh).1 (hd g (by rw [h3, hu]; simp [ownFp, Value.ownBlock]))]
    exact hh
theorem OwF.rd {w : World} {B : Nat} {T : TypeId} {c n : Nat} {u : Value} {xs : List Value} {fp : List Nat} (h : OwF w B T c u n xs fp) : RdN w u n xs := RdN.of_owns h.1
theorem OwF.nil {w : World} {B : Nat} {T : TypeId} {c n : Nat} {u : Value} {xs : List Value} {fp : List Nat} (h : OwF w B T c u n xs fp) : ∀ k, u = .slice none 0 k → k = 0 := by
  intro k hk
  rcases h.1.2 with ⟨rfl, _⟩ | ⟨g, cap, cur, rfl, _⟩
  · simp at hk; exact hk.symm
  · simp at hk
theorem OwF.shape {w : World} {B : Nat} {T : TypeId} {c n : Nat} {u : Value} {xs : List Value} (h : w.ownsRow B T c u n xs) : ∃ a k fp, u = .slice a n k ∧ OwF w B T c (.slice a n k) n xs fp := by
  obtain ⟨a, k, rfl⟩ := owns_shape h
  exact ⟨a, k, _, rfl, .mk' h⟩
theorem OwF.marked {w w' : World} {B : Nat} {T : TypeId} {c n : Nat} {u : Value} {xs ys : List Value} {fp : List Nat} (h : OwF w B T c u n xs fp) (h' : w'.ownsRow B T c u n ys) (hg : w.grownBy w' u.ownBlock) : OwF w' B T c u n ys fp ∧ Turn w w' fp := by
  refine ⟨⟨h', h.2⟩, hg.os, hg.tape, hg.output, hg.size, fun k hk hn => hg.block k hk fun e => hn ?_⟩
  rw [h.2, ownFp, ← e]
  simp
theorem OwC.rng {w : World} {B : Nat} {s : Sh} {v : Value} {c : Ce} {fp : List Nat} (h : OwC w B s v c fp) : ∀ b ∈ fp, B ≤ b ∧ b < w.heap.size := h.range _ _ _ _
end Go.Proofs.Yteljmfdlegohbaa

namespace Go.Proofs.Yteljmfdlegohbaa
open Go.RowKit

def flatSh : Sh → Bool
  | .row _ => false
  | _ => true
def ceV : Sh → Ce → Value
  | .int k, .int n => .int k n
  | .bool, .bool b => .bool b
  | .str, .str s => .string s
  | _, _ => .bool false
def cesV : List Sh → List Ce → List Value
  | s :: ss, c :: cs => ceV s c :: cesV ss cs
  | _, _ => []
theorem rdL_flat {w : World} : ∀ (es : List Sh) (vs : List Value) (cs : List Ce), (∀ s ∈ es, flatSh s = true) → RdL w es vs cs → vs = cesV es cs
  | [], vs, cs, _, h => by simp only [RdL] at h; obtain ⟨rfl, rfl⟩ := h; rfl
  | s :: es, vs, cs, hf, h => by
    simp only [RdL] at h
    obtain ⟨v, vs', c, cs', rfl, rfl, h3, h4⟩ := h
    have ih := rdL_flat es vs' cs' (fun s hs => hf s (List.mem_cons_of_mem _ hs)) h4
    rw [cesV, ← ih]
    have hs := hf s List.mem_cons_self
    cases s with
    | int k => simp only [RdC] at h3; obtain ⟨n, rfl, rfl⟩ := h3; rfl
    | bool => simp only [RdC] at h3; obtain ⟨b, rfl, rfl⟩ := h3; rfl
    | str => simp only [RdC] at h3; obtain ⟨b, rfl, rfl⟩ := h3; rfl
    | row es => simp [flatSh] at hs
theorem flat_get {α : Type} {f : α → List Value} {k : Nat} (hk0 : 0 < k) : ∀ (rs : List α), (∀ r ∈ rs, (f r).length = k) → ∀ j (h : j < (rs.flatMap f).length), ∃ i r, ∃ (hi : i < rs.length) (_ : r < k), j = i * k + r ∧ (f rs[i])[r]? = some (rs.flatMap f)[j]
  | [], _, j, h => by simp at h
  | x :: rs, hk, j, h => by
    have hx := hk x List.mem_cons_self
    by_cases hj : j < k
    · refine ⟨0, j, by simp, hj, by simp, ?_⟩
      simp only [List.getElem_cons_zero, List.flatMap_cons]
      rw [List.getElem_append_left (by omega), List.getElem?_eq_getElem (by omega)]
    · have hl : j - k < (rs.flatMap f).length := by
        simp only [List.flatMap_cons, List.length_append] at h; omega
      obtain ⟨i, r, hi, hr, he, hg⟩ := flat_get hk0 rs (fun r hr => hk r (List.mem_cons_of_mem _ hr)) (j - k) hl
      refine ⟨i + 1, r, by simpa using hi, hr, by rw [Nat.succ_mul]; omega, ?_⟩
      simp only [List.getElem_cons_succ, List.flatMap_cons]
      rw [List.getElem_append_right (by omega), hg]
      congr 2
      omega
theorem rdN_of_rdC {w : World} {es : List Sh} {v : Value} {rs : List (List Ce)} (hf : ∀ s ∈ es, flatSh s = true) (h0 : 0 < es.length) (h : RdC w (.row es) v (.row rs)) :
    RdN w v rs.length (rs.flatMap (cesV es)) ∧ rs.length ≤ maxLen ∧ (∀ r ∈ rs, ∃ vs, RdL w es vs r) ∧ ∃ a cap, v = .slice a rs.length cap := by
  simp only [RdC] at h
  obtain ⟨rs', a, cap, hc, hv, hl, h⟩ := h
  obtain rfl : rs = rs' := by simpa using hc
  rcases h with rfl | ⟨b, off, ha, hlt, h⟩
  · exact ⟨⟨a, cap, hv, .inl rfl⟩, hl, by simp, a, cap, hv⟩
  · have hlen : ∀ r ∈ rs, (cesV es r).length = es.length := fun r hr => by
      obtain ⟨i, hi, rfl⟩ := List.getElem_of_mem hr
      obtain ⟨vs, h1, _, h3⟩ := h i hi
      rw [← rdL_flat es vs _ hf h3, h1]
    refine ⟨⟨a, cap, hv, .inr ⟨b, off, ha, hlt, fun j hj => ?_⟩⟩, hl, fun r hr => ?_, a, cap, hv⟩
    · obtain ⟨i, r, hi, hr, he, hg⟩ := flat_get h0 rs hlen j hj
      obtain ⟨vs, h1, h2, h3⟩ := h i hi
      have := h2 r (by omega)
      have e2 : (⟨b, off + j, none⟩ : Addr) = ⟨b, off + i * es.length + r, none⟩ := by rw [he, Nat.add_assoc]
      have e := rdL_flat es vs _ hf h3
      rw [← e, List.getElem?_eq_getElem (by omega), Option.some.injEq] at hg
      rw [e2, this, hg]
    · obtain ⟨i, hi, rfl⟩ := List.getElem_of_mem hr
      obtain ⟨vs, _, _, h3⟩ := h i hi
      exact ⟨vs, h3⟩
end Go.Proofs.Yteljmfdlegohbaa

namespace Go.Proofs.Yteljmfdlegohbaa
open Go.RowKit

theorem wpList_append_owns {P : Program} {w : World} {ops : Array Oper} {rest : List Oper} {o : Oper} {a : Act} {Q : Exit → Act → World → Prop} (hgd : o.guard = none) (s x : Operand) (t : TypeId)
    (ho : o.op = .call { callee := .builtin .append, args := #[s, x], argTypes := #[t, t] })
    (base : Nat) (e : TypeId) (i : TypeInfo) (z : Value) (size bytes : Nat) (ht : P.underlying t = some (.slice e)) (hi : P.info? e = some i) (hz : i.zero = some z)
    (hsize : i.size = size) (hby : i.bytes = bytes) (hzs : z.cells.size = size) (hsz : 0 < size)
    (v : Value) (n : Nat) (xs : List Value) (hs : a.eval s = v) (hown : w.ownsRow base e size v n xs)
    (B : Nat) (u : Value) (m : Nat) (ys : List Value) (hx : a.eval x = u) (hou : w.ownsRow B e size u m ys) (h1 : ∀ u ∈ ys, u.oneCell' = true)
    (h63 : n + m ≤ maxLen) (hbytes : (n + m) * bytes ≤ 140737488355328) (hbase : base ≤ w.heap.size)
    (h : ∀ v' w', w'.ownsRow base e size v' (n + m) (xs ++ ys) → w.grownBy w' v.ownBlock → wpList P ops Q rest (a.put o.dst v') w') : wpList P ops Q (o :: rest) a w := by
  have hou' := hou
  rcases hou.2 with ⟨rfl, rfl⟩ | ⟨g, cap, cur, rfl, hg, hh, _⟩
  · have hnil : ys = [] := List.eq_nil_of_length_eq_zero (by have := hou.1; simpa using this)
    subst hnil
    refine wpList_append_own_none hgd s x t ho base e i size ht hi v n xs hs hown hx ?_
    exact h v w (by simpa using hown) (World.grownBy.refl _ _)
  · refine wpList_append_own _ hgd s x t ho base e i z size bytes ht hi hz hsize hby hzs hsz v n xs hs hown ⟨g, 0, none⟩ m cap ys hx hou.1 ?_ h1 h63 hbytes hbase fun v' w' h2 h3 _ => h v' w' h2 h3
    intro j u hu
    have hj := (List.getElem?_eq_some_iff.mp hu).1
    have hadd : (⟨g, 0, none⟩ : Addr).add j = ⟨g, j, none⟩ := by unfold Addr.add; split <;> simp_all
    rw [hadd, World.ownsRow.cellAt hou' j (by rw [← hou.1]; exact hj), hu]
end Go.Proofs.Yteljmfdlegohbaa

namespace Go.Proofs.Yteljmfdlegohbaa
open Go.RowKit

/-- A world in which all that was there is as it was. -/
structure Far (W : World) where
  val : World
  low : Below W.heap.size W val
instance (W : World) : Nonempty (Far W) := ⟨⟨W, Below.refl _ _⟩⟩
theorem wp_region_far {P : Program} {id : Nat} {Q : Exit → Act → World → Prop} {a : Act} {w : World} {l : List Oper} (hm : P.follows .mixedOrders = true) (hB : Region.lexB .any l.toArray = true)
    (h : wpQuiet P l.toArray (fun w' => ∃ x : Far w, w' = x.val) (fun a' => ∀ w', (∃ x : Far w, w' = x.val) → Q .normal a' w') l a) : (Code.region id l.toArray true).wp P Q a w :=
  wp_region_quiet (C := fun w' => ∃ x : Far w, w' = x.val) hm hB ⟨⟨_, below_drewN (Below.refl w.heap.size w) 1⟩, rfl⟩ (by simpa using h)
/-- A callee's contract, met in such a world. -/
theorem Far.call {P : Program} {f : FuncId} {args : Array Value} {W : World} {x : Far W} {v : Value}
    (h : Calls P f args x.val fun e w' => e = .returned v ∧ Below x.val.heap.size x.val w') : Calls P f args x.val fun e w'' => e = .returned v ∧ ∃ y : Far W, w'' = y.val :=
  h.mono fun _ w' ⟨he, hb⟩ => ⟨he, ⟨w', x.low.trans (hb.mono x.low.size)⟩, rfl⟩
theorem Far.cell {W : World} {b o : Nat} {v : Value} (hb : b < W.heap.size) (h : W.cell? ⟨b, o, none⟩ = some v) : ∀ x : Far W, x.val.cell? ⟨b, o, none⟩ = some v :=
  fun x => (x.low.cell (p := ⟨b, o, none⟩) hb).trans h
end Go.Proofs.Yteljmfdlegohbaa

namespace Go.Proofs.Yteljmfdlegohbaa
open Go.RowKit

theorem wraps62 (n : Int) (h₀ : 0 ≤ n) (h₁ : n < 2 ^ 62) : IntKind.i64.wrap n = n := IntWalk.i64_in _ ⟨by omega, by omega⟩
theorem and_nat (a b : Nat) (ha : a < 2 ^ 62) (hb : b < 2 ^ 62) : bits .and .i64 (a : Int) (b : Int) = ((a &&& b : Nat) : Int) := (bits_nat .i64 62 (by decide) wraps62 a b ha hb).1
theorem or_nat (a b : Nat) (ha : a < 2 ^ 62) (hb : b < 2 ^ 62) : bits .or .i64 (a : Int) (b : Int) = ((a ||| b : Nat) : Int) := (bits_nat .i64 62 (by decide) wraps62 a b ha hb).2
theorem xor_nat (a b : Nat) (ha : a < 2 ^ 62) (hb : b < 2 ^ 62) : bits .xor .i64 (a : Int) (b : Int) = ((a ^^^ b : Nat) : Int) := by
  have hp : 2 ^ 62 ≤ 2 ^ IntKind.i64.bits := Nat.pow_le_pow_right (by decide) (by decide)
  have ha' : a % 2 ^ IntKind.i64.bits = a := Nat.mod_eq_of_lt (Nat.lt_of_lt_of_le ha hp)
  have hb' : b % 2 ^ IntKind.i64.bits = b := Nat.mod_eq_of_lt (Nat.lt_of_lt_of_le hb hp)
  simp only [bits, BitVec.ofInt_natCast, BitVec.toNat_xor, BitVec.toNat_ofNat, ha', hb']
  have := Nat.xor_lt_two_pow ha hb
  exact wraps62 _ (Int.natCast_nonneg _) (by omega)

/-- a without the bits of b. -/
def dif (a b : Nat) : Nat := a ^^^ (a &&& b)
theorem dif_bit (a b i : Nat) : (dif a b).testBit i = (a.testBit i && !b.testBit i) := by
  unfold dif
  rw [Nat.testBit_xor, Nat.testBit_and]
  cases a.testBit i <;> cases b.testBit i <;> rfl
theorem dif_lt {a b n : Nat} (ha : a < 2 ^ n) : dif a b < 2 ^ n := Nat.xor_lt_two_pow ha (Nat.lt_of_le_of_lt Nat.and_le_left ha)
theorem dif_nat (a b : Nat) (ha : a < 2 ^ 62) (hb : b < 2 ^ 62) : bits .andNot .i64 (a : Int) (b : Int) = ((dif a b : Nat) : Int) := by
  have hp : 2 ^ 62 ≤ 2 ^ IntKind.i64.bits := Nat.pow_le_pow_right (by decide) (by decide)
  have ha' : a % 2 ^ IntKind.i64.bits = a := Nat.mod_eq_of_lt (Nat.lt_of_lt_of_le ha hp)
  have hb' : b % 2 ^ IntKind.i64.bits = b := Nat.mod_eq_of_lt (Nat.lt_of_lt_of_le hb hp)
  have e : (BitVec.ofNat IntKind.i64.bits a &&& ~~~BitVec.ofNat IntKind.i64.bits b).toNat = dif a b := by
    apply Nat.eq_of_testBit_eq
    intro i
    rw [dif_bit, BitVec.testBit_toNat, BitVec.getLsbD_and, BitVec.getLsbD_not, ← BitVec.testBit_toNat, ← BitVec.testBit_toNat, BitVec.toNat_ofNat, BitVec.toNat_ofNat, ha', hb']
    by_cases hi : i < IntKind.i64.bits
    · simp [hi]
    · have : a.testBit i = false := Nat.testBit_lt_two_pow (Nat.lt_of_lt_of_le ha (Nat.le_trans hp (Nat.pow_le_pow_right (by decide) (by omega))))
      simp [this]
  simp only [bits, BitVec.ofInt_natCast, e]
  have := dif_lt (b := b) ha
  exact wraps62 _ (Int.natCast_nonneg _) (by omega)
theorem pow_nat (k : Nat) : ((2 : Int) ^ k) = ((2 ^ k : Nat) : Int) := by simp
theorem pow62 {k : Nat} (h : k < 62) : 2 ^ k < 2 ^ 62 := Nat.pow_lt_pow_right (by decide) h
theorem wrap_pow62 {k : Nat} (h : k < 62) : IntKind.i64.wrap ((2 : Int) ^ k) = ((2 ^ k : Nat) : Int) := by
  rw [pow_nat]
  have := pow62 h
  exact wraps62 _ (Int.natCast_nonneg _) (by omega)
theorem wrap64_pow62 {k : Nat} (h : k < 62) : wrap64 ((2 : Int) ^ k) = ((2 ^ k : Nat) : Int) := by
  rw [pow_nat]
  have := pow62 h
  generalize 2 ^ k = p at this
  exact IntWalk.wrap64_in _ ⟨by omega, by omega⟩
/-- Bit k of a number, as the program asks for it. -/
theorem bit_nat (a k : Nat) (ha : a < 2 ^ 62) : bits .and .i64 ((a : Int) / 2 ^ k) 1 = if a.testBit k = true then 1 else 0 := by
  have h1 : ((a : Int) / 2 ^ k) = ((a / 2 ^ k : Nat) : Int) := by simp
  have h2 : a / 2 ^ k < 2 ^ 62 := Nat.lt_of_le_of_lt (Nat.div_le_self _ _) ha
  rw [h1, show (1 : Int) = ((1 : Nat) : Int) from rfl, and_nat _ _ h2 (by decide), Nat.and_one_is_mod, Nat.testBit_eq_decide_div_mod_eq]
  have := Nat.mod_lt (a / 2 ^ k) (show 0 < 2 by omega)
  by_cases h : a / 2 ^ k % 2 = 1
  · rw [h]; simp
  · rw [show a / 2 ^ k % 2 = 0 by omega]; simp

end Go.Proofs.Yteljmfdlegohbaa
