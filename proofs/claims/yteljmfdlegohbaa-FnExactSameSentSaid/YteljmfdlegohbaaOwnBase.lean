/- DERIVED. What is owned from a block on is owned from any block below it on; and behind stores into a block of another's. · Slices of structs whose last cell is a slice of numbers, the cells ahead of it flat (f tells them, k of them): read, owned with a footprint, built up by appending, turned. No condition. -/
import Derived.Test.YteljmfdlegohbaaCore
import Derived.Test.YteljmfdlegohbaaLawBits
import Derived.Test.YteljmfdlegohbaaKm
namespace Go.Proofs.Yteljmfdlegohbaa
open Go.RowKit

mutual
theorem OwC.base {w : World} {B B' : Nat} : ∀ (s : Sh) (v : Value) (c : Ce) (fp : List Nat), OwC w B' s v c fp → B ≤ B' → OwC w B s v c fp
  | .int _, _, _, _, h, _ => by simp only [OwC] at h ⊢; exact h
  | .bool, _, _, _, h, _ => by simp only [OwC] at h ⊢; exact h
  | .str, _, _, _, h, _ => by simp only [OwC] at h ⊢; exact h
  | .row es, v, c, fp, h, hk => by
    simp only [OwC] at h ⊢
    obtain ⟨rs, hc, hl, h⟩ := h
    refine ⟨rs, hc, hl, ?_⟩
    rcases h with h | ⟨g, cap, cur, t, fps, hv, hB, hh, hs, rfl, hf, h⟩
    · exact .inl h
    · exact .inr ⟨g, cap, cur, t, fps, hv, Nat.le_trans hk hB, hh, hs, rfl, hf, fun i hi hi' => OwL.base es _ _ _ (h i hi hi') hk⟩
theorem OwL.base {w : World} {B B' : Nat} : ∀ (ss : List Sh) (vs : List Value) (cs : List Ce) (fp : List Nat), OwL w B' ss vs cs fp → B ≤ B' → OwL w B ss vs cs fp
  | [], _, _, _, h, _ => by simp only [OwL] at h ⊢; exact h
  | s :: ss, _, _, _, h, hk => by
    simp only [OwL] at h ⊢
    obtain ⟨v, vs', c, cs', f, f', h1, h2, rfl, h4, h5⟩ := h
    exact ⟨v, vs', c, cs', f, f', h1, h2, rfl, OwC.base s v c f h4 hk, OwL.base ss vs' cs' f' h5 hk⟩
end
theorem OwC.putAt {w : World} {B y : Nat} {s : Sh} {v : Value} {c : Ce} {fp : List Nat} (h : OwC w B s v c fp) (vs : List Value) (hy : y ∉ fp) (i : Nat) : OwC (putW w y i vs) B s v c fp :=
  h.turn (Turn.of_grown (putW_grown vs i w)) (fun x hx hm => by rw [List.mem_singleton] at hm; subst hm; exact hy hx)
end Go.Proofs.Yteljmfdlegohbaa

namespace Go.Proofs.Yteljmfdlegohbaa
open Go.RowKit

/-- The cells of the elements L, whose last cells are us. -/
def pC {α : Type} (f : α → List Value) : List (α × List Int) → List Value → List Value
  | [], _ => []
  | p :: L, us => f p.1 ++ us.headD (.bool false) :: pC f L us.tail
def qD {α : Type} [Inhabited α] (L : List (α × List Int)) (j : Nat) : α × List Int := L.getD j default
theorem pC_len {α : Type} {f : α → List Value} {k : Nat} (hf : ∀ a, (f a).length = k) : ∀ (L : List (α × List Int)) (us : List Value), (pC f L us).length = L.length * (k + 1)
  | [], _ => by simp [pC]
  | p :: L, us => by
    rw [pC, List.length_append, List.length_cons, pC_len hf L us.tail, hf, List.length_cons, Nat.add_mul]; omega
theorem pC_append {α : Type} {f : α → List Value} : ∀ (L M : List (α × List Int)) (us vs : List Value), us.length = L.length → pC f (L ++ M) (us ++ vs) = pC f L us ++ pC f M vs
  | [], M, us, vs, h => by
    have : us = [] := List.eq_nil_of_length_eq_zero (by simpa using h)
    subst this; rfl
  | p :: L, M, [], vs, h => by simp at h
  | p :: L, M, u :: us, vs, h => by
    simp only [List.cons_append, pC, List.headD_cons, List.tail_cons, List.append_assoc]
    rw [pC_append L M us vs (by simpa using h)]
theorem pC_snoc {α : Type} {f : α → List Value} (L : List (α × List Int)) (us : List Value) (p : α × List Int) (u : Value) (h : us.length = L.length) : pC f (L ++ [p]) (us ++ [u]) = pC f L us ++ (f p.1 ++ [u]) := by
  rw [pC_append L [p] us [u] h]; simp [pC]
theorem pC_get {α : Type} [Inhabited α] {f : α → List Value} {k : Nat} (hf : ∀ a, (f a).length = k) : ∀ (L : List (α × List Int)) (us : List Value) (j i : Nat), us.length = L.length → j < L.length → i < k + 1 → (pC f L us)[j * (k + 1) + i]? = (f (qD L j).1 ++ [uD us j])[i]?
  | [], us, j, i, _, hj, _ => absurd hj (Nat.not_lt_zero _)
  | p :: L, [], j, i, h, _, _ => by simp at h
  | p :: L, u :: us, 0, i, h, hj, hi => by
    simp only [pC, List.headD_cons, List.tail_cons, Nat.zero_mul, Nat.zero_add]
    rw [show qD (p :: L) 0 = p from rfl, show uD (u :: us) 0 = u from rfl]
    rcases Nat.lt_or_ge i k with h1 | h1
    · rw [List.getElem?_append_left (by rw [hf]; exact h1), List.getElem?_append_left (by rw [hf]; exact h1)]
    · obtain rfl : i = k := by omega
      rw [List.getElem?_append_right (by rw [hf]; exact Nat.le_refl _), List.getElem?_append_right (by rw [hf]; exact Nat.le_refl _), hf]; simp
  | p :: L, u :: us, j + 1, i, h, hj, hi => by
    simp only [pC, List.headD_cons, List.tail_cons]
    have e1 : (f p.1 ++ u :: pC f L us) = (f p.1 ++ [u]) ++ pC f L us := by simp
    have e2 : (j + 1) * (k + 1) + i = (f p.1 ++ [u]).length + (j * (k + 1) + i) := by rw [List.length_append, hf, Nat.add_mul]; simp; omega
    rw [e1, e2, List.getElem?_append_right (Nat.le_add_right _ _), Nat.add_sub_cancel_left, pC_get hf L us j i (by simpa using h) (by simpa using hj) hi]
    rfl
theorem pC_one {α : Type} {f : α → List Value} (h1 : ∀ a, ∀ u ∈ f a, u.oneCell' = true) : ∀ (L : List (α × List Int)) (us : List Value), (∀ u ∈ us, u.oneCell' = true) → ∀ u ∈ pC f L us, u.oneCell' = true
  | [], _, _, u, hu => by simp [pC] at hu
  | p :: L, us, h, u, hu => by
    rw [pC, List.mem_append, List.mem_cons] at hu
    rcases hu with hu | rfl | hu
    · exact h1 _ _ hu
    · cases us with
      | nil => rfl
      | cons a us => exact h a (by simp)
    · exact pC_one h1 L us.tail (fun x hx => h x (List.mem_of_mem_tail hx)) u hu

/-- A row in memory of its own, of whatever length its block is. -/
def lowRow (w : World) (B c : Nat) (v : Value) (n : Nat) (xs : List Value) : Prop :=
  xs.length = n * c ∧ ((v = .slice none 0 0 ∧ n = 0) ∨ ∃ g off cap cur T, v = .slice (some ⟨g, off, none⟩) n cap ∧ B ≤ g ∧ w.heap[g]? = some (.cells cur T (0, 0)) ∧ off + n * c ≤ cur.size ∧ (cur.toList.drop off).take (n * c) = xs)
theorem lowRow_of {w : World} {B c n : Nat} {T : TypeId} {v : Value} {xs : List Value} (h : w.ownsRow B T c v n xs) : lowRow w B c v n xs := by
  refine ⟨h.1, ?_⟩
  rcases h.2 with h2 | ⟨g, cap, cur, hv, hB, hh, hn, _, hs, ht⟩
  · exact .inl h2
  · exact .inr ⟨g, 0, cap, cur, T, hv, hB, hh, by rw [hs, Nat.zero_add]; exact Nat.mul_le_mul_right _ hn, by rw [List.drop_zero]; exact ht⟩
theorem lowRow_rng {w : World} {B c n : Nat} {v : Value} {xs : List Value} (h : lowRow w B c v n xs) : ∀ b ∈ ownFp v, B ≤ b ∧ b < w.heap.size := by
  intro b hb
  rcases h.2 with ⟨rfl, _⟩ | ⟨g, off, cap, cur, T, rfl, hB, hh, _⟩
  · simp [ownFp, Value.ownBlock] at hb
  · simp [ownFp, Value.ownBlock] at hb
    subst hb
    exact ⟨hB, (Array.getElem?_eq_some_iff.mp hh).1⟩
theorem lowRow_keep {w w' : World} {B c n : Nat} {v : Value} {xs : List Value} (h : lowRow w B c v n xs) (hk : ∀ b ∈ ownFp v, w'.heap[b]? = w.heap[b]?) : lowRow w' B c v n xs := by
  refine ⟨h.1, ?_⟩
  rcases h.2 with h2 | ⟨g, off, cap, cur, T, rfl, hB, hh, r⟩
  · exact .inl h2
  · exact .inr ⟨g, off, cap, cur, T, rfl, hB, (hk g (by simp [ownFp, Value.ownBlock])).trans hh, r⟩
theorem lowRow_base {w : World} {B B' c n : Nat} {v : Value} {xs : List Value} (h : lowRow w B' c v n xs) (hB : B ≤ B') : lowRow w B c v n xs := by
  refine ⟨h.1, ?_⟩
  rcases h.2 with h2 | ⟨g, off, cap, cur, T, rfl, hB', r⟩
  · exact .inl h2
  · exact .inr ⟨g, off, cap, cur, T, rfl, Nat.le_trans hB hB', r⟩
theorem lowRow_rd {w : World} {B c n : Nat} {v : Value} {xs : List Value} (h : lowRow w B c v n xs) : RdN w v n xs := by
  rcases h.2 with ⟨rfl, rfl⟩ | ⟨g, off, cap, cur, T, rfl, hB, hh, hs, ht⟩
  · have : xs = [] := List.eq_nil_of_length_eq_zero (by have := h.1; simpa using this)
    subst this
    exact ⟨none, 0, rfl, .inl rfl⟩
  · refine ⟨_, cap, rfl, ?_⟩
    by_cases hx : n = 0
    · exact .inl hx
    · refine .inr ⟨g, off, rfl, (Array.getElem?_eq_some_iff.mp hh).1, fun j hj => ?_⟩
      have hl := h.1
      have hj2 : off + j < cur.size := by omega
      subst ht
      rw [cell_of_block hh (off + j) hj2]
      simp

/-- v reads as the elements L. -/
def RdQ {α : Type} [Inhabited α] (f : α → List Value) (w : World) (v : Value) (L : List (α × List Int)) : Prop :=
  ∃ us : List Value, us.length = L.length ∧ RdN w v L.length (pC f L us) ∧ ∀ j, j < L.length → Rd w (uD us j) ((qD L j).2.map (.int .i64))
/-- v owns the elements L: own holds of the row itself. -/
structure OwQ {α : Type} [Inhabited α] (f : α → List Value) (w : World) (B : Nat) (v : Value) (own : List Value → Prop) (us : List Value) (L : List (α × List Int)) (fps : List (List Nat)) : Prop where
  own : own (pC f L us)
  ulen : us.length = L.length
  len : fps.length = L.length
  row : ∀ j, j < L.length → OwC w B (.row [.int .i64]) (uD us j) (.row (ones (qD L j).2)) (fD fps j)
  nd : (ownFp v ++ fps.flatten).Nodup
/-- v owns the elements L in the blocks fp, in a block of the type T, as long as its capacity tells. -/
def OwP {α : Type} [Inhabited α] (f : α → List Value) (w : World) (B : Nat) (T : TypeId) (k : Nat) (v : Value) (L : List (α × List Int)) (fp : List Nat) : Prop :=
  ∃ us fps, OwQ f w B v (w.ownsRow B T (k + 1) v L.length) us L fps ∧ fp = ownFp v ++ fps.flatten
/-- v owns the elements L in the blocks fp. -/
def OwZ {α : Type} [Inhabited α] (f : α → List Value) (w : World) (B : Nat) (k : Nat) (v : Value) (L : List (α × List Int)) (fp : List Nat) : Prop :=
  ∃ us fps, OwQ f w B v (lowRow w B (k + 1) v L.length) us L fps ∧ fp = ownFp v ++ fps.flatten

section
variable {α : Type} [Inhabited α] {f : α → List Value} {w w' : World} {B B' k n : Nat} {T : TypeId} {v : Value} {us : List Value} {L : List (α × List Int)} {fps : List (List Nat)} {fp f' : List Nat} {own own' : List Value → Prop}

theorem OwQ.rngs (h : OwQ f w B v own us L fps) : ∀ b ∈ fps.flatten, B ≤ b ∧ b < w.heap.size := by
  intro b hb
  obtain ⟨j, hj, hm⟩ := of_mem_flatten hb
  exact (h.row j (by rw [← h.len]; exact hj)).rng b hm
theorem OwQ.turn (h : OwQ f w B v own us L fps) (ho : own' (pC f L us)) (ht : Turn w w' f') (hd : ∀ b ∈ fps.flatten, b ∉ f') : OwQ f w' B v own' us L fps :=
  ⟨ho, h.ulen, h.len, fun j hj => (h.row j hj).turn ht (fun b hb => hd b (mem_fD hb)), h.nd⟩
theorem OwQ.base (h : OwQ f w B' v own us L fps) (ho : own' (pC f L us)) (hB : B ≤ B') : OwQ f w B v own' us L fps :=
  ⟨ho, h.ulen, h.len, fun j hj => OwC.base _ _ _ _ (h.row j hj) hB, h.nd⟩
theorem OwP.low (h : OwP f w B T k v L fp) : OwZ f w B k v L fp := by
  obtain ⟨us, fps, h, rfl⟩ := h
  exact ⟨us, fps, ⟨lowRow_of h.own, h.ulen, h.len, h.row, h.nd⟩, rfl⟩
theorem OwZ.rng (h : OwZ f w B k v L fp) : ∀ b ∈ fp, B ≤ b ∧ b < w.heap.size := by
  obtain ⟨us, fps, h, rfl⟩ := h
  intro b hb
  rcases List.mem_append.1 hb with h1 | h1
  · exact lowRow_rng h.own b h1
  · exact h.rngs b h1
theorem OwP.rng (h : OwP f w B T k v L fp) : ∀ b ∈ fp, B ≤ b ∧ b < w.heap.size := h.low.rng
theorem OwZ.nodup (h : OwZ f w B k v L fp) : fp.Nodup := by
  obtain ⟨us, fps, h, rfl⟩ := h; exact h.nd
theorem OwZ.turn (h : OwZ f w B k v L fp) (ht : Turn w w' f') (hd : ∀ b ∈ fp, b ∉ f') : OwZ f w' B k v L fp := by
  have hr := h.rng
  obtain ⟨us, fps, h, rfl⟩ := h
  exact ⟨us, fps, h.turn (lowRow_keep h.own (fun b hb => ht.block b (hr b (List.mem_append_left _ hb)).2 (hd b (List.mem_append_left _ hb)))) ht (fun b hb => hd b (List.mem_append_right _ hb)), rfl⟩
theorem OwP.turn (h : OwP f w B T k v L fp) (ht : Turn w w' f') (hd : ∀ b ∈ fp, b ∉ f') : OwP f w' B T k v L fp := by
  obtain ⟨us, fps, h, rfl⟩ := h
  exact ⟨us, fps, h.turn ((OwF.mk' h.own).turn ht (fun b hb => hd b (List.mem_append_left _ hb))).1 ht (fun b hb => hd b (List.mem_append_right _ hb)), rfl⟩
theorem OwZ.below (h : OwZ f w B k v L fp) (hb : Below w.heap.size w w') : OwZ f w' B k v L fp := h.turn (Turn.of_below hb []) (fun _ _ hm => by simp at hm)
theorem OwP.below (h : OwP f w B T k v L fp) (hb : Below w.heap.size w w') : OwP f w' B T k v L fp := h.turn (Turn.of_below hb []) (fun _ _ hm => by simp at hm)
theorem OwZ.base (h : OwZ f w B' k v L fp) (hB : B ≤ B') : OwZ f w B k v L fp := by
  obtain ⟨us, fps, h, rfl⟩ := h; exact ⟨us, fps, h.base (lowRow_base h.own hB) hB, rfl⟩
theorem OwP.base (h : OwP f w B' T k v L fp) (hB : B ≤ B') : OwP f w B T k v L fp := by
  obtain ⟨us, fps, h, rfl⟩ := h; exact ⟨us, fps, h.base (owns_base h.own hB) hB, rfl⟩
theorem OwZ.putAt {y : Nat} (h : OwZ f w B k v L fp) (vs : List Value) (hy : y ∉ fp) (i : Nat) : OwZ f (putW w y i vs) B k v L fp :=
  h.turn (Turn.of_grown (putW_grown vs i w)) (fun x hx hm => by rw [List.mem_singleton] at hm; subst hm; exact hy hx)
theorem OwP.putAt {y : Nat} (h : OwP f w B T k v L fp) (vs : List Value) (hy : y ∉ fp) (i : Nat) : OwP f (putW w y i vs) B T k v L fp :=
  h.turn (Turn.of_grown (putW_grown vs i w)) (fun x hx hm => by rw [List.mem_singleton] at hm; subst hm; exact hy hx)
theorem OwQ.rd (h : OwQ f w B v own us L fps) (hr : RdN w v L.length (pC f L us)) : RdQ f w v L := ⟨us, h.ulen, hr, fun j hj => owC_rd (h.row j hj)⟩
theorem OwZ.rd (h : OwZ f w B k v L fp) : RdQ f w v L := by
  obtain ⟨us, fps, h, rfl⟩ := h; exact h.rd (lowRow_rd h.own)
theorem OwP.rd (h : OwP f w B T k v L fp) : RdQ f w v L := h.low.rd
theorem RdQ.below (h : RdQ f w v L) (hb : Below w.heap.size w w') : RdQ f w' v L := by
  obtain ⟨us, h1, h2, h3⟩ := h
  exact ⟨us, h1, h2.below hb, fun j hj => (h3 j hj).below hb⟩
theorem RdQ.shape (h : RdQ f w v L) : ∃ a cap, v = .slice a L.length cap := by
  obtain ⟨us, h1, ⟨a, cap, rfl, _⟩, h3⟩ := h
  exact ⟨a, cap, rfl⟩
/-- What a walk knows of the elements: k cells ahead of the slice of numbers. -/
theorem RdQ.cases (hf : ∀ a, (f a).length = k) (h : RdQ f w v L) : (L = [] ∧ ∃ a cap, v = .slice a 0 cap) ∨ ∃ b off cap us, 0 < L.length ∧ v = .slice (some ⟨b, off, none⟩) L.length cap ∧ b < w.heap.size ∧ us.length = L.length ∧
    ∀ j, j < L.length → (∀ i, i < k + 1 → ∀ x, (f (qD L j).1 ++ [uD us j])[i]? = some x → w.cell? ⟨b, off + j * (k + 1) + i, none⟩ = some x) ∧ Rd w (uD us j) ((qD L j).2.map (.int .i64)) := by
  obtain ⟨us, h1, h2, h3⟩ := h
  obtain ⟨a, cap, rfl, h4⟩ := h2
  by_cases hL : L = []
  · subst hL; exact .inl ⟨rfl, _, _, rfl⟩
  · right
    have hpos : 0 < L.length := List.length_pos_iff.mpr hL
    rcases h4 with h4 | ⟨b, off, rfl, hlt, hc⟩
    · omega
    · refine ⟨b, off, cap, us, hpos, rfl, hlt, h1, fun j hj => ⟨fun i hi x hx => ?_, h3 j hj⟩⟩
      have hg := pC_get hf L us j i h1 hj hi
      rw [hx] at hg
      obtain ⟨hlt2, hx2⟩ := List.getElem?_eq_some_iff.mp hg
      rw [Nat.add_assoc, hc _ hlt2, hx2]
/-- Nothing yet. -/
theorem OwP.start (h : w.ownsRow B T (k + 1) v 0 []) : OwP f w B T k v [] (ownFp v) :=
  ⟨[], [], ⟨h, rfl, rfl, fun j hj => absurd hj (Nat.not_lt_zero _), by
    simp only [List.flatten_nil, List.append_nil]
    unfold ownFp
    split <;> simp⟩, by simp⟩
/-- The row itself. -/
theorem OwP.row' (h : OwP f w B T k v L fp) : ∃ us, w.ownsRow B T (k + 1) v L.length (pC f L us) := by
  obtain ⟨us, fps, h, rfl⟩ := h; exact ⟨us, h.own⟩
theorem qD_snoc (L : List (α × List Int)) (p : α × List Int) (i : Nat) : qD (L ++ [p]) i = if i < L.length then qD L i else if i = L.length then p else default := by
  unfold qD
  rw [List.getD_eq_getElem?_getD, List.getD_eq_getElem?_getD]
  by_cases h : i < L.length
  · rw [if_pos h, List.getElem?_append_left h]
  · rw [if_neg h, List.getElem?_append_right (by omega)]
    by_cases h2 : i = L.length
    · subst h2; simp
    · rw [if_neg h2, List.getElem?_eq_none (by simp; omega)]; rfl
/-- An element is appended. -/
theorem OwP.push {g cap' : Nat} {u : Value} {p : α × List Int} {fq : List Nat} (h : OwQ f w B v (w.ownsRow B T (k + 1) v L.length) us L fps) (hu : OwC w B (.row [.int .i64]) u (.row (ones p.2)) fq) (hn : fq.Nodup) (hd : ∀ b ∈ fq, b ∉ ownFp v ++ fps.flatten)
    (h' : w'.ownsRow B T (k + 1) (.slice (some ⟨g, 0, none⟩) (L.length + 1) cap') (L.length + 1) (pC f L us ++ (f p.1 ++ [u]))) (hg : w.grownBy w' v.ownBlock) (hat : v.ownBlock = some g ∨ g = w.heap.size) :
    OwP f w' B T k (.slice (some ⟨g, 0, none⟩) (L.length + 1) cap') (L ++ [p]) (g :: (fps.flatten ++ fq)) := by
  have ht : Turn w w' (ownFp v) := by
    unfold ownFp
    rcases hv : v.ownBlock with _ | q
    · rw [hv] at hg
      exact ⟨hg.os, hg.tape, hg.output, hg.size, fun k hk _ => hg.block k hk (by simp)⟩
    · rw [hv] at hg
      exact Turn.of_grown hg
  have hnd := List.nodup_append.1 h.nd
  have hrng := h.rngs
  have keep : ∀ {x : Value} {z : List Int} {p : List Nat}, OwC w B (.row [.int .i64]) x (.row (ones z)) p → (∀ b ∈ p, b ∉ ownFp v) → OwC w' B (.row [.int .i64]) x (.row (ones z)) p := fun hx hn => hx.turn ht hn
  refine ⟨us ++ [u], fps ++ [fq], ⟨?_, by simp [h.ulen], by simp [h.len], ?_, ?_⟩, by simp [ownFp, Value.ownBlock]⟩
  · rw [pC_snoc L us p u h.ulen, List.length_append]; exact h'
  · intro j hj
    rw [qD_snoc, fD_snoc, uD_snoc, h.len, h.ulen]
    by_cases hjl : j < L.length
    · rw [if_pos hjl, if_pos hjl, if_pos hjl]
      exact keep (h.row j hjl) (fun b hb hb' => hnd.2.2 b hb' b (mem_fD hb) rfl)
    · have : j = L.length := by simp at hj; omega
      subst this
      rw [if_neg hjl, if_neg hjl, if_neg hjl, if_pos rfl, if_pos rfl, if_pos rfl]
      exact keep hu (fun b hb hb' => hd b hb (List.mem_append_left _ hb'))
  · have hnew : ownFp (.slice (some ⟨g, 0, none⟩) (L.length + 1) cap') = [g] := by simp [ownFp, Value.ownBlock]
    rw [hnew]
    have hall : (fps ++ [fq]).flatten.Nodup := by
      have := nodup_flat_snoc (A := []) (F := fps) (p := fq) (by simpa using hnd.2.1) hn (fun b hb hb' => hd b hb (List.mem_append_right _ (by simpa using hb')))
      simpa using this
    rw [List.nodup_append]
    refine ⟨by simp, hall, ?_⟩
    intro a ha b hb e
    rw [List.mem_singleton] at ha
    subst ha; subst e
    rw [List.flatten_append, List.mem_append] at hb
    rcases hat with h1 | h1
    · have hgm : a ∈ ownFp v := by simp [ownFp, h1]
      rcases hb with hb | hb
      · exact hnd.2.2 a hgm a hb rfl
      · exact hd a (by simpa using hb) (List.mem_append_left _ hgm)
    · rcases hb with hb | hb
      · have := (hrng a hb).2; omega
      · have := (hu.rng a (by simpa using hb)).2; omega
end

end Go.Proofs.Yteljmfdlegohbaa
