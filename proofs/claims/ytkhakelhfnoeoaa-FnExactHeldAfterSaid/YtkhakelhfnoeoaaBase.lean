/- DERIVED. What it means that a slice value reads as a list of values, and that it is kept while the memory below a block number is kept; lemmas on lists. No condition. -/
import Derived.WalkKit
import Derived.WalkSpells
import Derived.WalkLawsBesides
import Derived.Lib.Hide
import Derived.Deep.QuietTactic
import Derived.BigQuiet
namespace Go.Proofs.Ytkhakelhfnoeoaa
open Go.RowKit

/-- The slice value 'v' reads, in the world 'w', as the values 'xs', one cell each. -/
def Rd (w : World) (v : Value) (xs : List Value) : Prop :=
  ∃ a cap, v = .slice a xs.length cap ∧ (xs = [] ∨ ∃ b off, a = some ⟨b, off, none⟩ ∧ b < w.heap.size ∧ ∀ j (h : j < xs.length), w.cell? ⟨b, off + j, none⟩ = some xs[j])

/-- What was read below 'B' is read so as long as nothing below 'B' turns. -/
theorem Rd.below {w w' : World} {v : Value} {xs : List Value} (h : Rd w v xs) (hb : Below w.heap.size w w') : Rd w' v xs := by
  obtain ⟨a, cap, hv, h⟩ := h
  refine ⟨a, cap, hv, ?_⟩
  rcases h with h | ⟨b, off, ha, hlt, hc⟩
  · exact .inl h
  · exact .inr ⟨b, off, ha, Nat.lt_of_lt_of_le hlt hb.size, fun j hj => (hb.cell (p := ⟨b, off + j, none⟩) hlt).trans (hc j hj)⟩

/-- A row that the call itself has made reads as what it holds. -/
theorem Rd.of_owns {w : World} {base : Nat} {e : TypeId} {v : Value} {n : Nat} {xs : List Value} (h : w.ownsRow base e 1 v n xs) : Rd w v xs := by
  have hl : xs.length = n := by simpa using h.1
  rcases h.2 with ⟨rfl, hn⟩ | ⟨g, cap, cur, rfl, hg, hh, hnc, hcm, hcs, ht⟩
  · have : xs = [] := List.eq_nil_of_length_eq_zero (by omega)
    subst this
    exact ⟨none, 0, rfl, .inl rfl⟩
  · refine ⟨_, cap, by rw [hl], .inr ⟨g, 0, rfl, ?_, fun j hj => ?_⟩⟩
    · exact (Array.getElem?_eq_some_iff.mp hh).1
    · have := World.ownsRow.cellAt h j (by omega)
      simp only [Nat.zero_add]
      rw [this, List.getElem?_eq_getElem hj]

theorem Rd.len {w : World} {a : Option Addr} {n cap : Nat} {xs : List Value} (h : Rd w (.slice a n cap) xs) : n = xs.length := by
  obtain ⟨a', cap', hv, _⟩ := h
  simp at hv
  exact hv.2.1

/-- The two cases that a walk over a slice knows. -/
theorem Rd.cases {w : World} {v : Value} {xs : List Value} (h : Rd w v xs) :
    (xs = [] ∧ ∃ a cap, v = .slice a 0 cap) ∨ (xs ≠ [] ∧ ∃ b off cap, v = .slice (some ⟨b, off, none⟩) xs.length cap ∧ b < w.heap.size ∧ ∀ j (h : j < xs.length), w.cell? ⟨b, off + j, none⟩ = some xs[j]) := by
  obtain ⟨a, cap, rfl, h⟩ := h
  by_cases hx : xs = []
  · subst hx; exact .inl ⟨rfl, a, cap, rfl⟩
  · rcases h with h | ⟨b, off, rfl, hlt, hc⟩
    · exact absurd h hx
    · exact .inr ⟨hx, b, off, cap, rfl, hlt, hc⟩

theorem getD_map_int (k : IntKind) (zs : List Int) (j : Nat) (h : j < (zs.map (Value.int k)).length) : (zs.map (Value.int k))[j] = .int k (zs.getD j 0) := by
  have : j < zs.length := by simpa using h
  simp [List.getElem?_eq_getElem this]

/-- What a law's frame knows of a slice of integers that came in. -/
theorem rd_of_row {k : IntKind} {w : World} {a : Option Addr} {len cap : Nat} {zs : List Int}
    (h : (a = none ∧ len = 0 ∧ cap = 0 ∧ zs = []) ∨ ∃ x, a = some x ∧ len ≤ cap ∧ cap ≤ maxLen ∧ zs.length = cap ∧ (∀ i, i < zs.length → w.cell? (x.add i) = some (.int k (zs.getD i 0))) ∧ ∀ n ∈ zs, (Lit.int k n).wf = true) :
    Rd w (.slice a len cap) ((zs.take len).map (.int k)) ∧ (∀ n ∈ zs.take len, (Lit.int k n).wf = true) ∧ (zs.take len).length = len ∧ len ≤ maxLen := by
  rcases h with ⟨rfl, rfl, rfl, rfl⟩ | ⟨x, rfl, hlc, hcm, hzc, hcell, hwf⟩
  · exact ⟨⟨none, 0, rfl, .inl rfl⟩, by simp, rfl, Nat.zero_le _⟩
  · have hl : (zs.take len).length = len := by rw [List.length_take]; omega
    refine ⟨⟨some x, cap, by simp; omega, ?_⟩, fun n hn => hwf n (List.mem_of_mem_take hn), hl, Nat.le_trans hlc hcm⟩
    by_cases h0 : len = 0
    · left; subst h0; simp
    · right
      obtain ⟨b, off, spot⟩ := x
      have hc := hcell 0 (by omega)
      have hspot : spot = none := by simpa [Addr.add] using World.cell?_spot hc
      subst hspot
      refine ⟨b, off, rfl, World.block_lt_of_cell? w _ hc, fun j hj => ?_⟩
      have hj' : j < len := by rw [List.length_map, hl] at hj; exact hj
      have := hcell j (by omega)
      have e : (⟨b, off, none⟩ : Addr).add j = ⟨b, off + j, none⟩ := by unfold Addr.add; split <;> simp_all
      rw [e] at this
      rw [this, getD_map_int]
      simp [hj']

/-- What a law's frame knows of a slice of strings that came in. -/
theorem rd_of_strs {w : World} {a : Option Addr} {len cap : Nat} {ss : List ByteArray}
    (h : (a = none ∧ len = 0 ∧ cap = 0 ∧ ss = []) ∨ ∃ x, a = some x ∧ len ≤ cap ∧ cap ≤ maxLen ∧ ss.length = cap ∧ (∀ i, i < ss.length → w.cell? (x.add i) = some (.string (ss.getD i ByteArray.empty))) ∧ ∀ s ∈ ss, s.size ≤ maxLen) :
    Rd w (.slice a len cap) ((ss.take len).map .string) ∧ (∀ s ∈ ss.take len, s.size ≤ maxLen) ∧ (ss.take len).length = len ∧ len ≤ maxLen := by
  rcases h with ⟨rfl, rfl, rfl, rfl⟩ | ⟨x, rfl, hlc, hcm, hzc, hcell, hwf⟩
  · exact ⟨⟨none, 0, rfl, .inl rfl⟩, by simp, rfl, Nat.zero_le _⟩
  · have hl : (ss.take len).length = len := by rw [List.length_take]; omega
    refine ⟨⟨some x, cap, by simp; omega, ?_⟩, fun n hn => hwf n (List.mem_of_mem_take hn), hl, Nat.le_trans hlc hcm⟩
    by_cases h0 : len = 0
    · left; subst h0; simp
    · right
      obtain ⟨b, off, spot⟩ := x
      have hc := hcell 0 (by omega)
      have hspot : spot = none := by simpa [Addr.add] using World.cell?_spot hc
      subst hspot
      refine ⟨b, off, rfl, World.block_lt_of_cell? w _ hc, fun j hj => ?_⟩
      have hj' : j < len := by rw [List.length_map, hl] at hj; exact hj
      have := hcell j (by omega)
      have e : (⟨b, off, none⟩ : Addr).add j = ⟨b, off + j, none⟩ := by unfold Addr.add; split <;> simp_all
      rw [e] at this
      rw [this]
      simp [List.getElem?_eq_getElem (show j < ss.length by omega)]

theorem owns_below {w w' : World} {B e size n : Nat} {v : Value} {xs : List Value} (h : w.ownsRow B e size v n xs) (hb : Below w.heap.size w w') : w'.ownsRow B e size v n xs := by
  obtain ⟨h1, h2⟩ := h
  refine ⟨h1, ?_⟩
  rcases h2 with h2 | ⟨g, cap, cur, hv, hg, hh, r⟩
  · exact .inl h2
  · have hlt : g < w.heap.size := (Array.getElem?_eq_some_iff.mp hh).1
    exact .inr ⟨g, cap, cur, hv, hg, by rw [hb.block g hlt]; exact hh, r⟩
theorem grown_refl (w : World) (r : Option Nat) : w.grownBy w r := ⟨rfl, rfl, rfl, Nat.le_refl _, fun _ _ _ => rfl⟩
theorem grown_set (w : World) (b o : Nat) (z : Value) : w.grownBy (w.setCell ⟨b, o, none⟩ z) (some b) :=
  ⟨rfl, rfl, rfl, by simp, fun k _ hk => Below.heap_setCell w ⟨b, o, none⟩ z k (fun e => hk (by rw [e]))⟩
theorem grown_trans {a b c : World} {r : Option Nat} (h : a.grownBy b r) (k : b.grownBy c r) : a.grownBy c r :=
  ⟨k.os.trans h.os, k.tape.trans h.tape, k.output.trans h.output, Nat.le_trans h.size k.size, fun i hi hr => (k.block i (Nat.lt_of_lt_of_le hi h.size) hr).trans (h.block i hi hr)⟩
theorem grown_drewN (w : World) (n : Nat) (r : Option Nat) : w.grownBy (w.drewN n) r := ⟨rfl, rfl, rfl, Nat.le_refl _, fun _ _ _ => rfl⟩
theorem owns_slice {w : World} {B n : Nat} {t : TypeId} {u : Value} {xs : List Value} (h : w.ownsRow B t 1 u n xs) (hn : 0 < n) : ∃ g cap, u = .slice (some ⟨g, 0, none⟩) n cap ∧ B ≤ g ∧ g < w.heap.size := by
  rcases h.2 with ⟨rfl, h0⟩ | ⟨g, cap, cur, rfl, hg, hh, hnc, hcm, hcs, ht⟩
  · omega
  · exact ⟨g, cap, rfl, hg, (Array.getElem?_eq_some_iff.mp hh).1⟩
theorem cells_of_heap {w : World} {b : Nat} {cs : Array Value} {t : TypeId} (h : w.heap[b]? = some (.cells cs t (0, 0))) (j : Nat) (hj : j < cs.size) : w.cell? ⟨b, j, none⟩ = some cs[j] ∧ w.frozen? ⟨b, j, none⟩ = false := by
  constructor
  · simp [World.cell?, h, Array.getElem?_eq_getElem hj]
  · simp [World.frozen?, h]

theorem owns_shape {w : World} {B n : Nat} {t : TypeId} {size : Nat} {u : Value} {xs : List Value} (h : w.ownsRow B t size u n xs) : ∃ a cap, u = .slice a n cap := by
  rcases h.2 with ⟨rfl, h0⟩ | ⟨g, cap, cur, rfl, _⟩
  · exact ⟨none, 0, by rw [h0]⟩
  · exact ⟨_, cap, rfl⟩
theorem owns_base {w : World} {B B' n : Nat} {t : TypeId} {size : Nat} {u : Value} {xs : List Value} (h : w.ownsRow B t size u n xs) (hB : B' ≤ B) : w.ownsRow B' t size u n xs := by
  refine ⟨h.1, ?_⟩
  rcases h.2 with h2 | ⟨g, cap, cur, hu, hg, r⟩
  · exact .inl h2
  · exact .inr ⟨g, cap, cur, hu, Nat.le_trans hB hg, r⟩
theorem owns_grown {w w' : World} {B n g : Nat} {t : TypeId} {size : Nat} {u : Value} {xs : List Value} (h : w.ownsRow B t size u n xs) (hg : w.grownBy w' (some g)) (hB : g < B) : w'.ownsRow B t size u n xs := by
  refine ⟨h.1, ?_⟩
  rcases h.2 with h2 | ⟨b, cap, cur, hu, hb, hh, r⟩
  · exact .inl h2
  · exact .inr ⟨b, cap, cur, hu, hb, (hg.block b (Array.getElem?_eq_some_iff.mp hh).1 (by simp; omega)).trans hh, r⟩
theorem owns_apart {w w' : World} {B n : Nat} {t : TypeId} {size : Nat} {u : Value} {xs : List Value} {r : Option Nat} (h : w.ownsRow B t size u n xs) (hg : w.grownBy w' r) (hd : ∀ q, u.ownBlock = some q → r ≠ some q) : w'.ownsRow B t size u n xs := by
  refine ⟨h.1, ?_⟩
  rcases h.2 with h2 | ⟨b, cap, cur, hu, hb, hh, r'⟩
  · exact .inl h2
  · exact .inr ⟨b, cap, cur, hu, hb, (hg.block b (Array.getElem?_eq_some_iff.mp hh).1 (fun e => hd b (by rw [hu]; rfl) e.symm)).trans hh, r'⟩
theorem owns_none {w : World} {B : Nat} (t : TypeId) (hB : B ≤ w.heap.size) : (w.alloc (.cells #[] t)).ownsRow B t 1 (.slice (some ⟨w.heap.size, 0, none⟩) 0 0) 0 [] :=
  ⟨rfl, .inr ⟨w.heap.size, 0, #[], rfl, hB, heap_alloc_new w _, Nat.le_refl _, Nat.zero_le _, rfl, rfl⟩⟩
/-- The box of a struct lies at block b. -/
def Bxd (w : World) (b : Nat) (vs : List Value) : Prop := ∀ j (h : j < vs.length), w.cell? ⟨b, j, none⟩ = some vs[j]
theorem Bxd.new (w : World) (vs : List Value) (t : TypeId) : Bxd (w.alloc (.cells vs.toArray t)) w.heap.size vs := fun j h => by
  rw [World.cell?_alloc_at _ _ _ _ rfl]
  simp [h]
theorem Bxd.below {w w' : World} {b B : Nat} {vs : List Value} (h : Bxd w b vs) (hb : Below B w w') (hB : b < B) : Bxd w' b vs := fun j hj => (hb.cell (p := ⟨b, j, none⟩) hB).trans (h j hj)
theorem Bxd.at {w : World} {b : Nat} {vs : List Value} (h : Bxd w b vs) (j : Nat) (v : Value) (hv : vs[j]? = some v) : w.cell? ⟨b, j, none⟩ = some v := by
  obtain ⟨hj, rfl⟩ := List.getElem?_eq_some_iff.mp hv
  exact h j hj
theorem ret_bool {a b : Bool} (h : a = b) : Ending.returned (.bool a) = .returned (.bool b) := by rw [h]
theorem ret_ib {k : IntKind} {a b : Int} {c : Bool} (h : a = b) : Ending.returned (.tuple #[.int k a, .bool c]) = .returned (.tuple #[.int k b, .bool c]) := by rw [h]
theorem ret_bb {a b c d : Bool} (h : a = b) (h' : c = d) : Ending.returned (.tuple #[.bool a, .bool c]) = .returned (.tuple #[.bool b, .bool d]) := by rw [h, h']
theorem ret_int {k : IntKind} {a b : Int} (h : a = b) : Ending.returned (.int k a) = .returned (.int k b) := by rw [h]


end Go.Proofs.Ytkhakelhfnoeoaa
