/- DERIVED. A slice whose elements have several cells: what it reads as, cell after cell, that this stays while its memory stays, and a row of such elements into which an element is stored whole. No condition. -/
import Derived.Test.YtkhakelhfnoeoaaPut
namespace Go.Proofs.Ytkhakelhfnoeoaa
open Go.RowKit

/-- The slice value 'v' of n elements reads, in the world 'w', as the cells 'xs', one after the other. -/
def RdN (w : World) (v : Value) (n : Nat) (xs : List Value) : Prop :=
  ∃ a cap, v = .slice a n cap ∧ (n = 0 ∨ ∃ b off, a = some ⟨b, off, none⟩ ∧ b < w.heap.size ∧ ∀ j (h : j < xs.length), w.cell? ⟨b, off + j, none⟩ = some xs[j])
theorem RdN.below {w w' : World} {v : Value} {n : Nat} {xs : List Value} (h : RdN w v n xs) (hb : Below w.heap.size w w') : RdN w' v n xs := by
  obtain ⟨a, cap, hv, h⟩ := h
  refine ⟨a, cap, hv, ?_⟩
  rcases h with h | ⟨b, off, ha, hlt, hc⟩
  · exact .inl h
  · exact .inr ⟨b, off, ha, Nat.lt_of_lt_of_le hlt hb.size, fun j hj => (hb.cell (p := ⟨b, off + j, none⟩) hlt).trans (hc j hj)⟩
theorem RdN.of_owns {w : World} {base : Nat} {e : TypeId} {c n : Nat} {v : Value} {xs : List Value} (h : w.ownsRow base e c v n xs) : RdN w v n xs := by
  rcases h.2 with ⟨rfl, hn⟩ | ⟨g, cap, cur, rfl, hg, hh, hnc, hcm, hcs, ht⟩
  · exact ⟨none, 0, by rw [hn], .inl hn⟩
  · refine ⟨_, cap, rfl, .inr ⟨g, 0, rfl, (Array.getElem?_eq_some_iff.mp hh).1, fun j hj => ?_⟩⟩
    have := World.ownsRow.cellAt h j (by rw [← h.1]; exact hj)
    simp only [Nat.zero_add]
    rw [this, List.getElem?_eq_getElem hj]
/-- The two cases that a walk over a slice knows. -/
theorem RdN.cases {w : World} {v : Value} {n : Nat} {xs : List Value} (h : RdN w v n xs) :
    (n = 0 ∧ ∃ a cap, v = .slice a 0 cap) ∨ (0 < n ∧ ∃ b off cap, v = .slice (some ⟨b, off, none⟩) n cap ∧ b < w.heap.size ∧ ∀ j (h : j < xs.length), w.cell? ⟨b, off + j, none⟩ = some xs[j]) := by
  obtain ⟨a, cap, rfl, h⟩ := h
  by_cases h0 : n = 0
  · exact .inl ⟨h0, a, cap, by rw [h0]⟩
  · rcases h with h | ⟨b, off, rfl, hlt, hc⟩
    · exact absurd h h0
    · exact .inr ⟨by omega, b, off, cap, rfl, hlt, hc⟩
theorem owns_put {w : World} {base g n cap c : Nat} {e : TypeId} {xs : List Value} (h : w.ownsRow base e c (.slice (some ⟨g, 0, none⟩) n cap) n xs) (i : Nat) (vs : List Value) (hi : i + vs.length ≤ xs.length) :
    (putW w g i vs).ownsRow base e c (.slice (some ⟨g, 0, none⟩) n cap) n (xs.take i ++ vs ++ xs.drop (i + vs.length)) := by
  obtain ⟨h1, h2⟩ := h
  refine ⟨by simp; omega, ?_⟩
  rcases h2 with ⟨h2, _⟩ | ⟨g', cap', cur, h2, hg, hh, hnc, hcm, hcs, ht⟩
  · simp at h2
  · simp only [Value.slice.injEq, Option.some.injEq, Addr.mk.injEq, and_true, true_and] at h2
    obtain ⟨rfl, rfl⟩ := h2
    have hle : n * c ≤ cur.size := by rw [hcs]; exact Nat.mul_le_mul_right _ hnc
    refine .inr ⟨g, cap, _, rfl, hg, putW_at vs i w cur hh (by omega), hnc, hcm, ?_, ?_⟩
    · simp; omega
    · have hx : xs.length = n * c := h1
      rw [← ht]
      apply List.ext_getElem?
      intro j
      rw [List.getElem?_take]
      simp only [List.getElem?_append, List.length_append, List.length_take, List.getElem?_take, List.getElem?_drop, Array.length_toList]
      by_cases hj : j < n * c
      · rw [if_pos hj]
        by_cases h3 : j < i + vs.length
        · rw [if_pos (show j < min i cur.size + vs.length by omega), if_pos (show j < min i (min (n * c) cur.size) + vs.length by omega)]
          by_cases h4 : j < i
          · rw [if_pos (show j < min i cur.size by omega), if_pos h4, if_pos (show j < min i (min (n * c) cur.size) by omega), if_pos h4, if_pos hj]
          · rw [if_neg (show ¬ j < min i cur.size by omega), if_neg (show ¬ j < min i (min (n * c) cur.size) by omega)]
            congr 1; omega
        · rw [if_neg (show ¬ j < min i cur.size + vs.length by omega), if_neg (show ¬ j < min i (min (n * c) cur.size) + vs.length by omega)]
          rw [if_pos (by omega)]
          congr 1; omega
      · rw [if_neg hj, if_neg (show ¬ j < min i (min (n * c) cur.size) + vs.length by omega), if_neg (by omega)]
theorem take_put {xs vs D : List Value} {i j : Nat} (hi : i ≤ xs.length) (hj : j = i + vs.length) : (xs.take i ++ vs ++ D).take j = xs.take i ++ vs := by
  subst hj
  have h : (xs.take i ++ vs).length = i + vs.length := by rw [List.length_append, List.length_take_of_le hi]
  rw [← h, List.take_left]
theorem owns_noneN {w : World} {B : Nat} (t : TypeId) (c : Nat) (hB : B ≤ w.heap.size) : (w.alloc (.cells #[] t)).ownsRow B t c (.slice (some ⟨w.heap.size, 0, none⟩) 0 0) 0 [] :=
  ⟨by simp, .inr ⟨w.heap.size, 0, #[], rfl, hB, heap_alloc_new w _, Nat.le_refl _, Nat.zero_le _, by simp, by simp⟩⟩
theorem news_of_new {w : World} {cs : List Value} {t : TypeId} : ∀ j u, cs[j]? = some u → (w.alloc (.cells cs.toArray t)).cell? ((⟨w.heap.size, 0, none⟩ : Addr).add j) = some u := by
  intro j u hu
  have hadd : (⟨w.heap.size, 0, none⟩ : Addr).add j = ⟨w.heap.size, j, none⟩ := by unfold Addr.add; split <;> simp_all
  rw [hadd, World.cell?_alloc_at _ _ _ _ rfl]
  simpa using hu

end Go.Proofs.Ytkhakelhfnoeoaa
