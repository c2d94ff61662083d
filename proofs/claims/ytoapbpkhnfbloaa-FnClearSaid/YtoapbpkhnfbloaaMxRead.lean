/- DERIVED. The reference's l2Read: called with a valid matrix and a mask of it, it returns what is read of the mask. -/
import Derived.Test.YtoapbpkhnfbloaaMx
namespace Go.Proofs.Ytoapbpkhnfbloaa
open Go.RowKit

theorem readS_succ (C r m n : Nat) : readS C r m (n + 1) = mrg C r n (readS C r m n) := rfl
theorem readR_succ (C R m n : Nat) : readR C R m (n + 1) = readS C n (readR C R m n) R := rfl
theorem readN_succ (C R m n : Nat) : readN C R m (n + 1) = readR C R (readN C R m n) R := rfl

theorem box_keep {b : Nat} {R C : Int} {D : Bool} {W w1 w2 : World} (hb : b < W.heap.size) (h0 : w1.cell? ⟨b, 0, none⟩ = some (.int .i64 R)) (h1 : w1.cell? ⟨b, 1, none⟩ = some (.int .i64 C)) (h2 : w1.cell? ⟨b, 2, none⟩ = some (.bool D)) (h3 : Below W.heap.size W w1) (h : Below w1.heap.size w1 w2) :
    w2.cell? ⟨b, 0, none⟩ = some (.int .i64 R) ∧ w2.cell? ⟨b, 1, none⟩ = some (.int .i64 C) ∧ w2.cell? ⟨b, 2, none⟩ = some (.bool D) ∧ Below W.heap.size W w2 := by
  have hs := h3.size
  refine ⟨?_, ?_, ?_, h3.trans (h.mono hs)⟩
  · rw [h.cell (p := ⟨b, 0, none⟩) (Nat.lt_of_lt_of_le hb hs)]; exact h0
  · rw [h.cell (p := ⟨b, 1, none⟩) (Nat.lt_of_lt_of_le hb hs)]; exact h1
  · rw [h.cell (p := ⟨b, 2, none⟩) (Nat.lt_of_lt_of_le hb hs)]; exact h2

end Go.Proofs.Ytoapbpkhnfbloaa
