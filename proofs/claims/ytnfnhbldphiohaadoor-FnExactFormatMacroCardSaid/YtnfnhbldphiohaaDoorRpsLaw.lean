/- DERIVED. The laws' own functions on slices of reports: two that are alike, marks. -/
import Derived.Test.YtnfnhbldphiohaaDoorOwnBase
import Derived.Test.YtnfnhbldphiohaaDoorRpLaw2
import Derived.Test.YtnfnhbldphiohaaDoorMcRep
namespace Go.Proofs.YtnfnhbldphiohaaDoor
open Go.RowKit

/-- How many numbers the first j reports have. -/
def lenQ (L : List Rv) : Nat → Nat
  | 0 => 0
  | j + 1 => lenQ L j + (1 + (qD L j).2.length)
def mkE (q : Int) (L : List Rv) (i : Nat) : Rv := (q + (lenQ L i : Int), marksZ (q + (lenQ L i : Int) + 1) (qD L i).2.length)
/-- Reports whose first j hold marks, counted from q on. -/
def mkQ (q : Int) (L : List Rv) (j : Nat) : List Rv := (List.range L.length).map fun i => if i < j then mkE q L i else qD L i
theorem mkQ_len (q : Int) (L : List Rv) (j : Nat) : (mkQ q L j).length = L.length := by simp [mkQ]
theorem mkQ_D (q : Int) (L : List Rv) (j i : Nat) (h : i < L.length) : qD (mkQ q L j) i = if i < j then mkE q L i else qD L i := by
  rw [qD, mkQ, List.getD_eq_getElem?_getD, List.getElem?_map, List.getElem?_range h]
  rfl
theorem mkQ_zero (q : Int) (L : List Rv) : mkQ q L 0 = L := by
  apply List.ext_getElem (mkQ_len _ _ _)
  intro i h1 h2
  simp [mkQ, qD, List.getD_eq_getElem?_getD, List.getElem?_eq_getElem h2]
theorem mkQ_succ (q : Int) (L : List Rv) (j : Nat) : (mkQ q L j).set j (mkE q L j) = mkQ q L (j + 1) := by
  apply List.ext_getElem (by simp [mkQ])
  intro i h1 h2
  rw [List.getElem_set]
  simp only [mkQ, List.getElem_map, List.getElem_range]
  by_cases e : j = i
  · subst e; rw [if_pos rfl, if_pos (by omega)]
  · rw [if_neg e]
    by_cases hi : i < j
    · rw [if_pos hi, if_pos (by omega)]
    · rw [if_neg hi, if_neg (by omega)]
theorem lenQ_mono (L : List Rv) {i j : Nat} (h : i ≤ j) : lenQ L i ≤ lenQ L j := by
  induction j with
  | zero => obtain rfl : i = 0 := by omega
            exact Nat.le_refl _
  | succ j ih =>
    rcases Nat.lt_or_ge j i with h1 | h1
    · obtain rfl : i = j + 1 := by omega
      exact Nat.le_refl _
    · exact Nat.le_trans (ih h1) (Nat.le_add_right _ _)
theorem pC_set : ∀ (L : List Rv) (us : List Value) (j : Nat) (p : Rv), us.length = L.length → pC rpF (L.set j p) us = if j < L.length then (pC rpF L us).set (j * 2) (.int .i64 p.1) else pC rpF L us
  | [], us, j, p, _ => by simp [pC]
  | x :: L, [], j, p, h => by simp at h
  | x :: L, u :: us, 0, p, _ => by simp [pC]
  | x :: L, u :: us, j + 1, p, h => by
    have ih := pC_set L us j p (by simpa using h)
    have e : (j + 1) * 2 = j * 2 + 1 + 1 := by omega
    simp only [List.set_cons_succ, pC, List.headD_cons, List.tail_cons, ih, List.length_cons, e]
    by_cases hj : j < L.length
    · rw [if_pos hj, if_pos (by omega)]; simp
    · rw [if_neg hj, if_neg (by omega)]
/-- A report of the row is written anew: its modifiers, then its codes in their own blocks. -/
theorem OwZ.remark {wr w3 : World} {B j n cap g : Nat} {us : List Value} {M : List Rv} {fps : List (List Nat)} {p : Int} {z : List Int}
    (h : OwQ rpF wr B (.slice (some ⟨g, 0, none⟩) n cap) (lowRow wr B (1 + 1) (.slice (some ⟨g, 0, none⟩) n cap) n) us M fps) (hj : j < M.length)
    (hz : OwC w3 B (.row [.int .i64]) (uD us j) (.row (ones z)) (fD fps j)) (ht : Turn (wr.setCell ⟨g, j * 2, none⟩ (.int .i64 p)) w3 (fD fps j)) :
    OwQ rpF w3 B (.slice (some ⟨g, 0, none⟩) n cap) (lowRow w3 B (1 + 1) (.slice (some ⟨g, 0, none⟩) n cap) n) us (M.set j (p, z)) fps := by
  have hd := List.nodup_append.1 h.nd
  have hgm : g ∈ ownFp (.slice (some ⟨g, 0, none⟩) n cap) := by simp [ownFp, Value.ownBlock]
  have hgn : g ∉ fps.flatten := fun hm => hd.2.2 g hgm g hm rfl
  have hgr := grown_set wr g (j * 2) (.int .i64 p)
  refine ⟨?_, by simpa using h.ulen, by simpa using h.len, ?_, h.nd⟩
  · have hown := h.own
    rw [pC_set M us j (p, z) h.ulen, if_pos hj]
    rcases hown.2 with ⟨e, _⟩ | ⟨g', cap', cur, T, e, hB, hh, hs, hta⟩
    · simp at e
    · simp only [Value.slice.injEq] at e
      obtain ⟨e1, _, rfl⟩ := e
      obtain rfl : g = g' := by simpa using e1
      have h2 := block_set hh (j * 2) (.int .i64 p)
      have h3 := (ht.block g (by rw [World.size_setCell]; exact (Array.getElem?_eq_some_iff.mp hh).1) (fun hm => hgn (mem_fD hm))).trans h2
      refine ⟨by rw [List.length_set]; exact hown.1, .inr ⟨g, cap, _, T, rfl, hB, h3, by simpa using hs, ?_⟩⟩
      rw [← hta]
      simp only [Array.toList_setIfInBounds]
      rw [List.take_set]
  · intro i hi
    have hi' : i < M.length := by simpa using hi
    have hq : qD (M.set j (p, z)) i = if i = j then (p, z) else qD M i := by
      rw [qD, qD, List.getD_eq_getElem?_getD, List.getD_eq_getElem?_getD, List.getElem?_set]
      by_cases e : j = i
      · subst e; simp [hj]
      · rw [if_neg e, if_neg (fun e2 => e e2.symm)]
    rw [hq]
    by_cases e : i = j
    · subst e; rw [if_pos rfl]; exact hz
    · rw [if_neg e]
      refine ((h.row i hi').turn (Turn.of_grown hgr) (fun b hb hb' => ?_)).turn ht (fun b hb hb' => ?_)
      · rw [List.mem_singleton] at hb'; subst hb'; exact hgn (mem_fD hb)
      · have hp := List.pairwise_flatten.1 hd.2.1
        have hil : i < fps.length := by rw [h.len]; exact hi'
        have hjl : j < fps.length := by rw [h.len]; exact hj
        have hfi : fD fps i = fps[i] := by unfold fD; rw [List.getD_eq_getElem?_getD, List.getElem?_eq_getElem hil]; rfl
        have hfj : fD fps j = fps[j] := by unfold fD; rw [List.getD_eq_getElem?_getD, List.getElem?_eq_getElem hjl]; rfl
        rw [hfi] at hb
        rw [hfj] at hb'
        rcases Nat.lt_or_gt_of_ne e with hlt | hgt
        · exact (List.pairwise_iff_getElem.1 hp.2 i j hil hjl hlt) b hb b hb' rfl
        · exact (List.pairwise_iff_getElem.1 hp.2 j i hjl hil hgt) b hb' b hb rfl
theorem qD_le {L : List Rv} {n : Nat} (h : ∀ r ∈ L, r.2.length ≤ n) (j : Nat) : (qD L j).2.length ≤ n := by
  rw [qD, List.getD_eq_getElem?_getD]
  rcases hc : L[j]? with _ | p
  · exact Nat.zero_le _
  · exact h p (List.mem_of_getElem? hc)
/-- What a walk knows of one report of the row. -/
theorem RdQ.at {w : World} {v : Value} {L : List Rv} (h : RdQ rpF w v L) : (L = [] ∧ ∃ a cap, v = .slice a 0 cap) ∨ ∃ b off cap, 0 < L.length ∧ v = .slice (some ⟨b, off, none⟩) L.length cap ∧ b < w.heap.size ∧
    ∀ j, j < L.length → ∃ a c, w.cell? ⟨b, off + j * 2, none⟩ = some (.int .i64 (qD L j).1) ∧ w.cell? ⟨b, off + j * 2 + 1, none⟩ = some (.slice a (qD L j).2.length c) ∧ Rd w (.slice a (qD L j).2.length c) ((qD L j).2.map (.int .i64)) := by
  rcases RdQ.cases (k := 1) rpF_len h with h1 | ⟨b, off, cap, us, hp, hv, hlt, hul, hc⟩
  · exact .inl h1
  · refine .inr ⟨b, off, cap, hp, hv, hlt, fun j hj => ?_⟩
    obtain ⟨h1, h2⟩ := hc j hj
    obtain ⟨a, c, hu⟩ := ints_shape h2
    refine ⟨a, c, ?_, ?_, by rw [← hu]; exact h2⟩
    · have := h1 0 (by omega) (.int .i64 (qD L j).1) rfl
      simpa using this
    · rw [← hu]; exact h1 1 (by omega) _ rfl

end Go.Proofs.YtnfnhbldphiohaaDoor
