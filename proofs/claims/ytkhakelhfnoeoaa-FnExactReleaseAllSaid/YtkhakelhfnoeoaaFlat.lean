/- DERIVED. A row of elements of several cells that a call owns, with the block that it takes up: it stays while that block stays. No condition. -/
import Derived.Test.YtkhakelhfnoeoaaDat
import Derived.Test.YtkhakelhfnoeoaaWide
namespace Go.Proofs.Ytkhakelhfnoeoaa
open Go.RowKit

def ownFp (u : Value) : List Nat := match u.ownBlock with | some g => [g] | none => []
/-- The value u owns n elements of c cells each, xs, and the blocks fp are those that it takes up. -/
def OwF (w : World) (B : Nat) (T : TypeId) (c : Nat) (u : Value) (n : Nat) (xs : List Value) (fp : List Nat) : Prop := w.ownsRow B T c u n xs ∧ fp = ownFp u
theorem OwF.mk' {w : World} {B : Nat} {T : TypeId} {c n : Nat} {u : Value} {xs : List Value} (h : w.ownsRow B T c u n xs) : OwF w B T c u n xs (ownFp u) := ⟨h, rfl⟩
theorem OwF.below {w w' : World} {B : Nat} {T : TypeId} {c n : Nat} {u : Value} {xs : List Value} {fp : List Nat} (h : OwF w B T c u n xs fp) (hb : Below w.heap.size w w') : OwF w' B T c u n xs fp := ⟨owns_below h.1 hb, h.2⟩
theorem OwF.rng {w : World} {B : Nat} {T : TypeId} {c n : Nat} {u : Value} {xs : List Value} {fp : List Nat} (h : OwF w B T c u n xs fp) : ∀ b ∈ fp, B ≤ b ∧ b < w.heap.size := by
  intro b hb
  rw [h.2] at hb
  unfold ownFp at hb
  rcases h.1.2 with ⟨rfl, _⟩ | ⟨g, cap, cur, rfl, hg, hh, _⟩
  · simp [Value.ownBlock] at hb
  · simp [Value.ownBlock] at hb
    subst hb
    exact ⟨hg, (Array.getElem?_eq_some_iff.mp hh).1⟩
theorem OwF.turn {w w' : World} {B : Nat} {T : TypeId} {c n : Nat} {u : Value} {xs : List Value} {fp f' : List Nat} (h : OwF w B T c u n xs fp) (ht : Turn w w' f') (hd : ∀ b ∈ fp, b ∉ f') : OwF w' B T c u n xs fp := by
  refine ⟨?_, h.2⟩
  obtain ⟨⟨h1, h2⟩, h3⟩ := h
  refine ⟨h1, ?_⟩
  rcases h2 with h2 | ⟨g, cap, cur, hu, hg, hh, r⟩
  · exact .inl h2
  · refine .inr ⟨g, cap, cur, hu, hg, ?_, r⟩
    rw [ht.block g (Array.getElem?_eq_some_iff.mp hh).1 (hd g (by rw [h3, hu]; simp [ownFp, Value.ownBlock]))]
    exact hh
theorem OwF.rd {w : World} {B : Nat} {T : TypeId} {c n : Nat} {u : Value} {xs : List Value} {fp : List Nat} (h : OwF w B T c u n xs fp) : RdN w u n xs := RdN.of_owns h.1
theorem OwF.nil {w : World} {B : Nat} {T : TypeId} {c n : Nat} {u : Value} {xs : List Value} {fp : List Nat} (h : OwF w B T c u n xs fp) : ∀ k, u = .slice none 0 k → k = 0 := by
  intro k hk
  rcases h.1.2 with ⟨rfl, _⟩ | ⟨g, cap, cur, rfl, _⟩
  · simp at hk; exact hk.symm
  · simp at hk
theorem OwF.shape {w : World} {B : Nat} {T : TypeId} {c n : Nat} {u : Value} {xs : List Value} (h : w.ownsRow B T c u n xs) : ∃ a k fp, u = .slice a n k ∧ OwF w B T c (.slice a n k) n xs fp := by
  obtain ⟨a, k, rfl⟩ := owns_shape h
  exact ⟨a, k, _, rfl, .mk' h⟩
theorem OwF.marked {w w' : World} {B : Nat} {T : TypeId} {c n : Nat} {u : Value} {xs ys : List Value} {fp : List Nat} (h : OwF w B T c u n xs fp) (h' : w'.ownsRow B T c u n ys) (hg : w.grownBy w' u.ownBlock) : OwF w' B T c u n ys fp ∧ Turn w w' fp := by
  refine ⟨⟨h', h.2⟩, hg.os, hg.tape, hg.output, hg.size, fun k hk hn => hg.block k hk fun e => hn ?_⟩
  rw [h.2, ownFp, ← e]
  simp
theorem OwC.rng {w : World} {B : Nat} {s : Sh} {v : Value} {c : Ce} {fp : List Nat} (h : OwC w B s v c fp) : ∀ b ∈ fp, B ≤ b ∧ b < w.heap.size := h.range _ _ _ _

end Go.Proofs.Ytkhakelhfnoeoaa
