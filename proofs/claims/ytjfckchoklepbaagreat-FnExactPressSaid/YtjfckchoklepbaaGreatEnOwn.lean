/- DERIVED. Reports that are owned, one or none; an engine's held keys in their own memory. No condition. -/
import Derived.Test.YtjfckchoklepbaaGreatEnCpy
import Derived.Test.YtjfckchoklepbaaGreatRpsLaw
namespace Go.Proofs.YtjfckchoklepbaaGreat
open Go.RowKit

/-- One owned report in a row of its own. -/
theorem owZ_one {w : World} {B : Nat} {m : Int} {z : List Int} {a : Option Addr} {c : Nat} {fq : List Nat} (h : OwC w B (.row [.int .i64]) (.slice a z.length c) (.row (ones z)) fq) (hn : fq.Nodup) (hB : B ≤ w.heap.size) :
    OwZ rpF (w.alloc (.cells #[.int .i64 m, .slice a z.length c] 47)) B 1 (.slice (some ⟨w.heap.size, 0, none⟩) 1 1) [(m, z)] (w.heap.size :: fq) := by
  have hk := heap_alloc_new w (.cells #[.int .i64 m, .slice a z.length c] 47)
  have hr := h.rng
  refine ⟨[.slice a z.length c], [fq], ⟨⟨rfl, .inr ⟨w.heap.size, 0, 1, _, _, rfl, hB, hk, by simp, rfl⟩⟩, rfl, rfl, ?_, ?_⟩, by simp [ownFp, Value.ownBlock]⟩
  · intro j hj
    obtain rfl : j = 0 := by simpa using hj
    exact h.turn (Turn.of_below (below_alloc1 _ _) []) (fun _ _ hm => by simp at hm)
  · rw [show ownFp (Value.slice (some ⟨w.heap.size, 0, none⟩) 1 1) = [w.heap.size] by simp [ownFp, Value.ownBlock]]
    refine List.nodup_append.2 ⟨by simp, by simpa using hn, fun x hx y hy e => ?_⟩
    rw [List.mem_singleton] at hx
    have := (hr y (by simpa using hy)).2
    omega
theorem owC_ints_nodup {w : World} {B : Nat} {v : Value} {z : List Int} {fp : List Nat} (h : OwC w B (.row [.int .i64]) v (.row (ones z)) fp) : fp.Nodup := by
  simp only [OwC] at h
  obtain ⟨rs, hc, hl, h⟩ := h
  rcases h with ⟨_, _, rfl⟩ | ⟨g, cap, cur, t, fps, hv, hB, hh, hs, rfl, hf, h⟩
  · simp
  · have hall : ∀ f ∈ fps, f = [] := fun f hfm => by
      obtain ⟨i, hi, rfl⟩ := List.getElem_of_mem hfm
      have h2 := h i (by omega) hi
      simp only [OwL] at h2
      obtain ⟨v, vs', c, cs', f, f', -, -, hfe, h3, h4⟩ := h2
      rw [hfe, h3.1, h4.2.2]; rfl
    have : fps.flatten = [] := List.flatten_eq_nil_iff.2 hall
    rw [this]; simp
theorem owZ_nil (w : World) (B : Nat) : OwZ rpF w B 1 (.slice none 0 0) [] [] :=
  ⟨[], [], ⟨⟨rfl, .inl ⟨rfl, rfl⟩⟩, rfl, rfl, fun _ hj => absurd hj (Nat.not_lt_zero _), List.nodup_nil⟩, rfl⟩
theorem OwE.heldIn {w w' : World} {B : Nat} {e : En} {u1 u2 u3 v : Value} {fp : List Nat} {H' : List Hd} (h : OwE w B e u1 u2 u3 fp) (h3 : OwF w' B 43 5 v H'.length (flatHd H') (ownFp u3)) (ht : Turn w w' (ownFp u3)) :
    OwE w' B ⟨e.k, e.L, e.F, e.x, H', e.o, e.p⟩ u1 u2 v fp := by
  obtain ⟨f1, f2, f3, h1, h2, h0, rfl, hn⟩ := h
  obtain rfl : f3 = ownFp u3 := h0.2
  obtain ⟨hn1, hn23, hd1⟩ := List.nodup_append.1 hn
  obtain ⟨hn2, hn3, hd2⟩ := List.nodup_append.1 hn23
  exact ⟨f1, f2, ownFp u3, h1.turn ht (fun b hb hb' => hd1 b hb b (List.mem_append_right _ hb') rfl), h2.turn ht (fun b hb hb' => hd2 b hb b hb' rfl), h3, rfl, hn⟩
theorem OwE.heldFp {w : World} {B : Nat} {e : En} {u1 u2 u3 : Value} {fp : List Nat} (h : OwE w B e u1 u2 u3 fp) : OwF w B 43 5 u3 e.H.length (flatHd e.H) (ownFp u3) ∧ ∀ b ∈ ownFp u3, b ∈ fp := by
  obtain ⟨f1, f2, f3, h1, h2, h3, rfl, hn⟩ := h
  obtain rfl : f3 = ownFp u3 := h3.2
  exact ⟨h3, fun b hb => List.mem_append_right _ (List.mem_append_right _ hb)⟩
/-- A key is appended to an engine's held keys. -/
theorem OwE.heldApp {w w' : World} {B g2 cap : Nat} {e : En} {u1 u2 u3 : Value} {fp : List Nat} {x : Hd} (h : OwE w B e u1 u2 u3 fp)
    (h' : w'.ownsRow B 43 5 (.slice (some ⟨g2, 0, none⟩) (e.H.length + 1) cap) (e.H.length + 1) (flatHd e.H ++ x.cells)) (hg : w.grownBy w' u3.ownBlock) (hat : u3.ownBlock = some g2 ∨ g2 = w.heap.size) :
    ∃ fp', OwE w' B ⟨e.k, e.L, e.F, e.x, e.H ++ [x], e.o, e.p⟩ u1 u2 (.slice (some ⟨g2, 0, none⟩) (e.H.length + 1) cap) fp' ∧ ∀ b ∈ fp', b ∈ fp ∨ b = g2 := by
  obtain ⟨f1, f2, f3, h1, h2, h3, rfl, hn⟩ := h
  obtain ⟨hn1, hn23, hd1⟩ := List.nodup_append.1 hn
  obtain ⟨hn2, hn3, hd2⟩ := List.nodup_append.1 hn23
  have ht : Turn w w' f3 := by
    refine ⟨hg.os, hg.tape, hg.output, hg.size, fun k hk hm => hg.block k hk fun e => hm ?_⟩
    rw [h3.2, ownFp, ← e]; simp
  have hg1 : g2 ∉ f1 := fun hm => by
    rcases hat with ha | ha
    · exact hd1 g2 hm g2 (List.mem_append_right _ (by rw [h3.2, ownFp, ha]; simp)) rfl
    · have := (h1.rng g2 hm).2; omega
  have hg2 : g2 ∉ f2 := fun hm => by
    rcases hat with ha | ha
    · exact hd2 g2 hm g2 (by rw [h3.2, ownFp, ha]; simp) rfl
    · have := (h2.rng g2 hm).2; omega
  refine ⟨f1 ++ (f2 ++ [g2]), ⟨f1, f2, [g2], h1.turn ht (fun b hb hm => hd1 b hb b (List.mem_append_right _ hm) rfl), h2.turn ht (fun b hb hm => hd2 b hb b hm rfl), ⟨?_, by simp [ownFp, Value.ownBlock]⟩, rfl, ?_⟩, fun b hb => ?_⟩
  · have e1 : flatHd (e.H ++ [x]) = flatHd e.H ++ x.cells := by simp [flatHd]
    have e2 : (e.H ++ [x]).length = e.H.length + 1 := by simp
    rw [e1, e2]; exact h'
  · refine List.nodup_append.2 ⟨hn1, List.nodup_append.2 ⟨hn2, by simp, fun a ha b hb hab => ?_⟩, fun a ha b hb hab => ?_⟩
    · rw [List.mem_singleton] at hb; subst hb; subst hab; exact hg2 ha
    · subst hab
      rcases List.mem_append.1 hb with hb | hb
      · exact hd1 a ha a (List.mem_append_left _ hb) rfl
      · rw [List.mem_singleton] at hb; subst hb; exact hg1 ha
  · rcases List.mem_append.1 hb with hb | hb
    · exact .inl (List.mem_append_left _ hb)
    · rcases List.mem_append.1 hb with hb | hb
      · exact .inl (List.mem_append_right _ (List.mem_append_left _ hb))
      · rw [List.mem_singleton] at hb; exact .inr hb
/-- What a press or a release behind a pointer does to an engine that lies first in a box of the type Tb, ahead of the cells rest: the engine's cells, what it owns, the reports, apart. -/
def PtB (rest : List Value) (Tb : TypeId) (e : En) (rs : List Rv) (y B : Nat) (u1 u2 : Value) (fp : List Nat) (w : World) (x : Ending) (w' : World) : Prop := ∃ a3 c3 fp' a4 c4 fq, x = .returned (.slice a4 rs.length c4) ∧
  w'.heap[y]? = some (.cells (.int .i64 e.k :: u1 :: u2 :: .int .i64 e.x :: .slice a3 e.H.length c3 :: .int .i64 e.o :: .bool e.p :: rest).toArray Tb (0, 0)) ∧ OwE w' B e u1 u2 (.slice a3 e.H.length c3) fp' ∧ (∀ b ∈ fp', b ∈ fp ∨ w.heap.size ≤ b) ∧
  OwZ rpF w' w.heap.size 1 (.slice a4 rs.length c4) rs fq ∧ (∀ b ∈ fp', b ∉ fq) ∧ Turn w w' (y :: fp)

end Go.Proofs.YtjfckchoklepbaaGreat
