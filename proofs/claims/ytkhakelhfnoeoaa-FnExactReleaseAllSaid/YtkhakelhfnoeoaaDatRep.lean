/- DERIVED. A struct's type has the shapes of its fields, one after the other. No condition. -/
import Derived.Test.YtkhakelhfnoeoaaDatOpen
namespace Go.Proofs.Ytkhakelhfnoeoaa
open Go.RowKit Go.ChangeShapes Go.WideShapes Go.Deep

/-- The fields fs, the first at the offset o, have the shapes sss. -/
inductive RepF (P : Program) : List Field → List (List Sh) → Nat → Prop where
  | nil {o : Nat} : RepF P [] [] o
  | cons {f : Field} {fs : List Field} {ss : List Sh} {sss : List (List Sh)} {o o' : Nat} : f.offset = o → P.cellsOf f.type = ss.length → o' = o + ss.length → Rep P f.type ss → RepF P fs sss o' → RepF P (f :: fs) (ss :: sss) o
theorem RepF.len {P : Program} {fs : List Field} {sss : List (List Sh)} {o : Nat} (h : RepF P fs sss o) : sss.length = fs.length := by
  induction h with
  | nil => rfl
  | cons _ _ _ _ _ ih => simp [ih]
theorem RepF.at {P : Program} {fs : List Field} {sss : List (List Sh)} {o : Nat} (h : RepF P fs sss o) : ∀ (i : Nat) (f : Field) (ss : List Sh), fs[i]? = some f → sss[i]? = some ss → f.offset = o + (sss.take i).flatten.length ∧ P.cellsOf f.type = ss.length ∧ Rep P f.type ss := by
  induction h with
  | nil => intro i f ss hf; simp at hf
  | @cons f0 fs ss0 sss o o' h1 h2 h3 h4 h5 ih =>
    intro i f ss hf hs
    cases i with
    | zero =>
      simp at hf hs
      subst hf; subst hs
      exact ⟨by simp [h1], h2, h4⟩
    | succ i =>
      simp at hf hs
      obtain ⟨a, b, c⟩ := ih i f ss hf hs
      exact ⟨by rw [a, h3]; simp; omega, b, c⟩
theorem Rep.of_fields {P : Program} {t : TypeId} {fs : Array Field} {sss : List (List Sh)} (hu : P.underlying t = some (.struct fs)) (hc : P.cellsOf t = sss.flatten.length) (h : RepF P fs.toList sss 0) : Rep P t sss.flatten := by
  refine Rep.struct hu (by rw [h.len]; simp) hc (fun i f ss hf hs => ?_) fun i f ss hf hs => ?_
  · obtain ⟨a, b, _⟩ := h.at i f ss (by simpa using hf) hs
    exact ⟨by simpa using a, b⟩
  · exact (h.at i f ss (by simpa using hf) hs).2.2

end Go.Proofs.Ytkhakelhfnoeoaa
