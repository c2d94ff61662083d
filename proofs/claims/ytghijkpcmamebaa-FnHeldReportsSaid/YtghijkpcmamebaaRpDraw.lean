/- DERIVED. The reference's draw of a report. · MakeReport of the reference: a valid report. -/
import Derived.Test.YtghijkpcmamebaaRpSpec
import Derived.Test.YtghijkpcmamebaaDraw
import Derived.Test.YtghijkpcmamebaaAcDraw
import Derived.Deep.DeepCutAuto
namespace Go.Proofs.Ytghijkpcmamebaa
open Go.RowKit

theorem owns_keep7 {w w' : World} {B c n : Nat} {e : TypeId} {v : Value} {xs : List Value} (h : w.ownsRow B e c v n xs) (hk : ∀ q, v.ownBlock = some q → w'.heap[q]? = w.heap[q]?) : w'.ownsRow B e c v n xs := by
  obtain ⟨h1, h2⟩ := h
  refine ⟨h1, ?_⟩
  rcases h2 with h2 | ⟨g, cap, cur, rfl, hg, hh, r⟩
  · exact .inl h2
  · exact .inr ⟨g, cap, cur, rfl, hg, (hk g rfl).trans hh, r⟩
theorem okRp_of {r : Int} {zs : List Int} (h0 : 0 ≤ r ∧ r ≤ 15) (ha : zs.Pairwise (· < ·)) (hm : ∀ z ∈ zs, 1 ≤ z ∧ z ≤ 56) : okRp r zs = true := by
  have key : ∀ m, m ≤ zs.length → rpN zs m = true := by
    intro m
    induction m with
    | zero => intro _; rfl
    | succ m ih =>
      intro h
      rw [rpN, ih (by omega), Bool.true_and, rpAt, Bool.and_eq_true, Bool.or_eq_true]
      have e : zs.getD m 0 = zs[m] := by rw [List.getD_eq_getElem?_getD, List.getElem?_eq_getElem (by omega)]; rfl
      refine ⟨by rw [e]; exact decide_eq_true (hm _ (List.getElem_mem _)), ?_⟩
      rcases Nat.eq_zero_or_pos m with rfl | hp
      · exact .inl (by decide)
      · right
        have e2 : zs.getD (m - 1) 0 = zs[m - 1] := by rw [List.getD_eq_getElem?_getD, List.getElem?_eq_getElem (by omega)]; rfl
        rw [e, e2]
        exact decide_eq_true ((List.pairwise_iff_getElem.1 ha) (m - 1) m (by omega) (by omega) (by omega))
  rw [okRp, key zs.length (Nat.le_refl _), Bool.true_and]
  exact decide_eq_true h0
/-- What is known of a report that is drawn. -/
def RpDrawn (B b : Nat) (v : Value) (n : Nat) (zs : List Int) (w : World) (e : Ending) (w' : World) : Prop :=
  ∃ (M : Int) (Z : List Int) (ga cap : Nat), e = .returned (rpv M (.slice (some ⟨ga, 0, none⟩) Z.length cap)) ∧ okRp M Z = true ∧ w'.ownsRow w.heap.size 3 1 (.slice (some ⟨ga, 0, none⟩) Z.length cap) Z.length (Z.map (.int .i64)) ∧ Draws B b v n zs w' ∧ w.grownBy w' (some b)

/-- A valid report, in memory of its own. -/
def RpMade (w : World) (e : Ending) (w' : World) : Prop :=
  ∃ (M : Int) (Z : List Int) (ga cap : Nat), e = .returned (rpv M (.slice (some ⟨ga, 0, none⟩) Z.length cap)) ∧ okRp M Z = true ∧ w'.ownsRow w.heap.size 3 1 (.slice (some ⟨ga, 0, none⟩) Z.length cap) Z.length (Z.map (.int .i64)) ∧ Below w.heap.size w w'
end Go.Proofs.Ytghijkpcmamebaa
