/- DERIVED. The moves of a macro's steps as the program makes them, as plain functions, and what its memory holds on the way: what is down and the stacks behind each report. No condition. -/
import Derived.Test.YtnfnhbldphiohaaMcStk3
import Derived.Test.YtnfnhbldphiohaaKm
namespace Go.Proofs.Ytnfnhbldphiohaa
open Go.RowKit

def mvOne (f : FuncId) (l : List Ac) (a : Ac) : Option (List Ac) := if f = 50 then putV l a else takeV l a
/-- What is down behind the first i moves; none if one of them fails. -/
def mvN (a : Ac) (fs : List FuncId) (D : List Ac) : Nat → Option (List Ac)
  | 0 => some D
  | i + 1 => (mvN a fs D i).bind fun l => mvOne (fs.getD i 0) l a
/-- The lists behind the first i moves. -/
def mvT (a : Ac) (fs : List FuncId) (D : List Ac) : Nat → List (List Ac)
  | 0 => []
  | i + 1 => mvT a fs D i ++ [(mvN a fs D (i + 1)).getD []]
theorem mvT_len (a : Ac) (fs : List FuncId) (D : List Ac) : ∀ i, (mvT a fs D i).length = i
  | 0 => rfl
  | i + 1 => by rw [mvT, List.length_append, mvT_len]; rfl
theorem mvN_no {a : Ac} {fs : List FuncId} {D : List Ac} {i : Nat} (h : mvN a fs D i = none) : ∀ m, i ≤ m → mvN a fs D m = none
  | 0, hm => by have : i = 0 := by omega
                subst this; exact h
  | m + 1, hm => by
    rcases Nat.lt_or_ge i (m + 1) with h2 | h2
    · rw [mvN, mvN_no h m (by omega)]; rfl
    · obtain rfl : i = m + 1 := by omega
      exact h
theorem mvOne_len {f : FuncId} {l : List Ac} {a : Ac} {r : List Ac} (h : mvOne f l a = some r) : r.length ≤ l.length + 1 := by
  unfold mvOne putV takeV at h
  split at h
  · split at h
    · exact absurd h (by simp)
    · rw [← Option.some.inj h]; simp
  · split at h
    · rw [← Option.some.inj h]; have := List.length_eraseIdx_le l (fiA l a); omega
    · exact absurd h (by simp)
theorem fiA_snoc {D : List Ac} {a : Ac} (h : ¬ 0 ≤ fiAI D a) : fiA (D ++ [a]) a = D.length := by
  rcases fiAI_cases D a with ⟨_, h2⟩ | ⟨h1, _⟩
  · unfold fiA at h2 ⊢
    rw [List.findIdx_append, h2, if_neg (Nat.lt_irrefl _)]
    have : List.findIdx (eqA a) [a] = 0 := by simp [List.findIdx_cons, eqA]
    rw [this]; simp
  · rw [h1] at h; exact absurd (Int.natCast_nonneg _) h
theorem put_ne_take : ¬ (51 : FuncId) = 50 := by decide
theorem mv_put (l : List Ac) (a : Ac) : mvOne 50 l a = putV l a := if_pos rfl
theorem mv_take (l : List Ac) (a : Ac) : mvOne 51 l a = takeV l a := if_neg put_ne_take
/-- All moves of a step: they fail just where the step may not come; else they lead to what is down behind it. -/
theorem mv_all (d : List Hd) (x : St) (hk : mvF x.k ≠ []) (ha : okAc 2 x.c x.m 0 = true) :
    (okX d x = false → mvN (pA x) (mvF x.k) (dA d) (mvF x.k).length = none) ∧
    (okX d x = true → mvN (pA x) (mvF x.k) (dA d) (mvF x.k).length = some (dA (nxS d x)) ∧ mvT (pA x) (mvF x.k) (dA d) (mvF x.k).length = skX d x) := by
  have hI := fiAI_dA d x
  have hok : okX d x = (inB x.k 0 2 && (true && (decide (x.k = 2) == decide (0 ≤ fiI d x)))) := by rw [okX, ha]
  by_cases h0 : x.k = 0
  · have e : mvF x.k = [50, 51] := by rw [mvF, if_pos h0]
    rw [e]
    have hV : inB x.k 0 2 = true := by rw [h0]; rfl
    have h2 : decide (x.k = 2) = false := by rw [h0]; rfl
    rw [hV, h2] at hok
    by_cases hf : 0 ≤ fiI d x
    · rw [decide_eq_true hf] at hok
      refine ⟨fun _ => mvN_no (i := 1) ?_ 2 (by decide), fun h => by rw [hok] at h; exact absurd h (by decide)⟩
      show mvOne 50 (dA d) (pA x) = none
      rw [mv_put, putV, if_pos (by rw [hI]; exact hf)]
    · rw [decide_eq_false hf] at hok
      have hn : ¬ 0 ≤ fiAI (dA d) (pA x) := by rw [hI]; exact hf
      have e1 : mvN (pA x) [50, 51] (dA d) 1 = some (dA d ++ [pA x]) := by
        show mvOne 50 (dA d) (pA x) = _
        rw [mv_put, putV, if_neg hn]
      have e2 : mvN (pA x) [50, 51] (dA d) 2 = some (dA d) := by
        rw [mvN, e1]
        show mvOne 51 (dA d ++ [pA x]) (pA x) = _
        have h3 := fiA_snoc hn
        rw [mv_take, takeV, fiAI, h3, if_pos (by rw [if_pos (by simp)]; exact Int.natCast_nonneg _)]
        simp [List.eraseIdx_append_of_length_le]
      refine ⟨fun h => by rw [hok] at h; exact absurd h (by decide), fun _ => ⟨?_, ?_⟩⟩
      · show mvN _ _ _ 2 = _
        rw [e2, nxS_zero h0]
      · show mvT _ _ _ 2 = _
        rw [mvT, mvT, mvT, e1, e2, skX, if_pos h0, dA_snoc]
        rfl
  · by_cases h1 : x.k = 1
    · have e : mvF x.k = [50] := by rw [mvF, if_neg h0, if_pos h1]
      rw [e]
      have hV : inB x.k 0 2 = true := by rw [h1]; rfl
      have h2 : decide (x.k = 2) = false := by rw [h1]; rfl
      rw [hV, h2] at hok
      by_cases hf : 0 ≤ fiI d x
      · rw [decide_eq_true hf] at hok
        refine ⟨fun _ => ?_, fun h => by rw [hok] at h; exact absurd h (by decide)⟩
        show mvOne 50 (dA d) (pA x) = none
        rw [mv_put, putV, if_pos (by rw [hI]; exact hf)]
      · rw [decide_eq_false hf] at hok
        have hn : ¬ 0 ≤ fiAI (dA d) (pA x) := by rw [hI]; exact hf
        have e1 : mvN (pA x) [50] (dA d) 1 = some (dA d ++ [pA x]) := by
          show mvOne 50 (dA d) (pA x) = _
          rw [mv_put, putV, if_neg hn]
        refine ⟨fun h => by rw [hok] at h; exact absurd h (by decide), fun _ => ⟨?_, ?_⟩⟩
        · show mvN _ _ _ 1 = _
          rw [e1, nxS_one h1, dA_snoc]
        · show mvT _ _ _ 1 = _
          rw [mvT, mvT, e1, skX, if_neg h0, if_pos h1, dA_snoc]
          rfl
    · by_cases h2 : x.k = 2
      · have e : mvF x.k = [51] := by rw [mvF, if_neg h0, if_neg h1, if_pos h2]
        rw [e]
        have hV : inB x.k 0 2 = true := by rw [h2]; rfl
        have h3 : decide (x.k = 2) = true := by rw [h2]; rfl
        rw [hV, h3] at hok
        by_cases hf : 0 ≤ fiI d x
        · rw [decide_eq_true hf] at hok
          have hn : 0 ≤ fiAI (dA d) (pA x) := by rw [hI]; exact hf
          have e1 : mvN (pA x) [51] (dA d) 1 = some ((dA d).eraseIdx (fiH d x)) := by
            show mvOne 51 (dA d) (pA x) = _
            rw [mv_take, takeV, if_pos hn, fiA_dA]
          refine ⟨fun h => by rw [hok] at h; exact absurd h (by decide), fun _ => ⟨?_, ?_⟩⟩
          · show mvN _ _ _ 1 = _
            rw [e1, nxS_two h2, dA_erase]
          · show mvT _ _ _ 1 = _
            rw [mvT, mvT, e1, skX, if_neg h0, if_neg h1, dA_erase]
            rfl
        · rw [decide_eq_false hf] at hok
          refine ⟨fun _ => ?_, fun h => by rw [hok] at h; exact absurd h (by decide)⟩
          show mvOne 51 (dA d) (pA x) = none
          rw [mv_take, takeV, if_neg (by rw [hI]; exact hf)]
      · exact absurd (by rw [mvF, if_neg h0, if_neg h1, if_neg h2]) hk
theorem mvF_no {d : List Hd} {x : St} (h : mvF x.k = []) : okX d x = false := by
  have : inB x.k 0 2 = false := by
    unfold mvF at h
    by_cases h0 : x.k = 0
    · rw [if_pos h0] at h; exact absurd h (by simp)
    · rw [if_neg h0] at h
      by_cases h1 : x.k = 1
      · rw [if_pos h1] at h; exact absurd h (by simp)
      · rw [if_neg h1] at h
        by_cases h2 : x.k = 2
        · rw [if_pos h2] at h; exact absurd h (by simp)
        · exact decide_eq_false (by omega)
  rw [okX, this, Bool.false_and]
theorem mvF_len (k : Int) : (mvF k).length ≤ 2 := by
  unfold mvF
  split
  · simp
  · split
    · simp
    · split <;> simp
theorem mvF_mem (k : Int) {q : Nat} (h : q < (mvF k).length) : (mvF k).getD q 0 = 50 ∨ (mvF k).getD q 0 = 51 := by
  unfold mvF at h ⊢
  split at h
  · rename_i h0; rw [if_pos h0]
    rcases q with _ | _ | q
    · exact .inl rfl
    · exact .inr rfl
    · simp only [List.length_cons, List.length_nil] at h; omega
  · rename_i h0; rw [if_neg h0]
    split at h
    · rename_i h1; rw [if_pos h1]
      rcases q with _ | q
      · exact .inl rfl
      · simp only [List.length_cons, List.length_nil] at h; omega
    · rename_i h1; rw [if_neg h1]
      split at h
      · rename_i h2; rw [if_pos h2]
        rcases q with _ | q
        · exact .inr rfl
        · simp only [List.length_cons, List.length_nil] at h; omega
      · simp at h

theorem info_stk : (Try.prog.info? 69).map (fun i => (i.zero, i.size, i.bytes)) = some (some (.slice none 0 0), 1, 24) := by kernel_rfl
/-- What memory holds while the steps are followed: what is down, and the stacks so far. -/
structure FoW (w : World) (B : Nat) (vd vs : Value) (D : List Ac) (S : List (List Ac)) : Prop where
  nil : NilOr vd D.length
  dn : RdN w vd D.length (flatAc D)
  st : ∃ us fps, OwB Ac.cells w B 69 47 4 vs S.length us S fps
theorem FoW.below {w w' : World} {B : Nat} {vd vs : Value} {D : List Ac} {S : List (List Ac)} (h : FoW w B vd vs D S) (hb : Below w.heap.size w w') : FoW w' B vd vs D S :=
  ⟨h.nil, h.dn.below hb, by obtain ⟨us, fps, h⟩ := h.st; exact ⟨us, fps, h.below hb⟩⟩
theorem FoW.start (w : World) (B : Nat) : FoW w B (.slice none 0 0) (.slice none 0 0) [] [] :=
  ⟨.inl rfl, ⟨none, 0, rfl, .inl rfl⟩, [], [], OwB.start ⟨rfl, .inl ⟨rfl, rfl⟩⟩⟩
/-- The next list is laid and appended to the stacks. -/
theorem FoW.push {w w1 w2 : World} {B g c g2 c2 : Nat} {vs : Value} {l : List Ac} {S : List (List Ac)} {us : List Value} {fps : List (List Nat)} (h : OwB Ac.cells w B 69 47 4 vs S.length us S fps) (hB : B ≤ w.heap.size) (hb : Below w.heap.size w w1)
    (ho : w1.ownsRow w.heap.size 47 4 (.slice (some ⟨g, 0, none⟩) l.length c) l.length (flatAc l))
    (h' : w2.ownsRow B 69 1 (.slice (some ⟨g2, 0, none⟩) (S.length + 1) c2) (S.length + 1) (us ++ [.slice (some ⟨g, 0, none⟩) l.length c])) (hg : w1.grownBy w2 vs.ownBlock) (hat : vs.ownBlock = some g2 ∨ g2 = w1.heap.size) :
    FoW w2 B (.slice (some ⟨g, 0, none⟩) l.length c) (.slice (some ⟨g2, 0, none⟩) (S.length + 1) c2) l (S ++ [l]) := by
  have h1 := h.below hb
  have hf := OwF.mk' ho
  have hd : ∀ b ∈ ownFp (.slice (some ⟨g, 0, none⟩) l.length c), b ∉ ownFp vs ++ fps.flatten := fun b hb1 hb2 => by
    have := (hf.rng b hb1).1
    have := (h.rng b hb2).2
    omega
  have hp := h1.push rfl (owF_base hf hB) hd h' hg hat
  refine ⟨.inr ⟨g, 0, c, rfl⟩, ?_, _, _, by rw [List.length_append]; exact hp⟩
  have ht : Turn w1 w2 (ownFp vs) := by
    unfold ownFp
    rcases hv : vs.ownBlock with _ | q
    · rw [hv] at hg
      exact ⟨hg.os, hg.tape, hg.output, hg.size, fun k hk _ => hg.block k hk (by simp)⟩
    · rw [hv] at hg
      exact Turn.of_grown hg
  exact (hf.turn ht (fun b hb1 hb2 => hd b hb1 (List.mem_append_left _ hb2))).rd

end Go.Proofs.Ytnfnhbldphiohaa
