/- DERIVED. What is owned from a block on is owned from any block below it on; and behind stores into a block of another's. -/
import Derived.Test.YtghijkpcmamebaaCore
namespace Go.Proofs.Ytghijkpcmamebaa
open Go.RowKit

mutual
theorem OwC.base {w : World} {B B' : Nat} : ∀ (s : Sh) (v : Value) (c : Ce) (fp : List Nat), OwC w B' s v c fp → B ≤ B' → OwC w B s v c fp
  | .int _, _, _, _, h, _ => by simp only [OwC] at h ⊢; exact h
  | .bool, _, _, _, h, _ => by simp only [OwC] at h ⊢; exact h
  | .str, _, _, _, h, _ => by simp only [OwC] at h ⊢; exact h
  | .row es, v, c, fp, h, hk => by
    simp only [OwC] at h ⊢
    obtain ⟨rs, hc, hl, h⟩ := h
    refine ⟨rs, hc, hl, ?_⟩
    rcases h with h | ⟨g, cap, cur, t, fps, hv, hB, hh, hs, rfl, hf, h⟩
    · exact .inl h
    · exact .inr ⟨g, cap, cur, t, fps, hv, Nat.le_trans hk hB, hh, hs, rfl, hf, fun i hi hi' => OwL.base es _ _ _ (h i hi hi') hk⟩
theorem OwL.base {w : World} {B B' : Nat} : ∀ (ss : List Sh) (vs : List Value) (cs : List Ce) (fp : List Nat), OwL w B' ss vs cs fp → B ≤ B' → OwL w B ss vs cs fp
  | [], _, _, _, h, _ => by simp only [OwL] at h ⊢; exact h
  | s :: ss, _, _, _, h, hk => by
    simp only [OwL] at h ⊢
    obtain ⟨v, vs', c, cs', f, f', h1, h2, rfl, h4, h5⟩ := h
    exact ⟨v, vs', c, cs', f, f', h1, h2, rfl, OwC.base s v c f h4 hk, OwL.base ss vs' cs' f' h5 hk⟩
end
theorem OwC.putAt {w : World} {B y : Nat} {s : Sh} {v : Value} {c : Ce} {fp : List Nat} (h : OwC w B s v c fp) (vs : List Value) (hy : y ∉ fp) (i : Nat) : OwC (putW w y i vs) B s v c fp :=
  h.turn (Turn.of_grown (putW_grown vs i w)) (fun x hx hm => by rw [List.mem_singleton] at hm; subst hm; exact hy hx)

end Go.Proofs.Ytghijkpcmamebaa
