/- DERIVED. The reference's ReadBoot: the report whose boot bytes are bytes. -/
import Derived.Test.YtghijkpcmamebaaRpSpec5
import Derived.Deep.DeepCutAuto
import Derived.Deep.RegionLaw
import Derived.BigRegion
namespace Go.Proofs.Ytghijkpcmamebaa
open Go.RowKit

theorem bKeys_len (b : List Int) : ∀ k, (bKeys b k).length ≤ k
  | 0 => Nat.le_refl _
  | k + 1 => by
    have := bKeys_len b k
    rw [bKeys]; split
    · simp; omega
    · omega
theorem bOnes_le (b : List Int) : ∀ k, bOnes b k ≤ k
  | 0 => Nat.le_refl _
  | k + 1 => by
    have := bOnes_le b k
    rw [bOnes]; split <;> omega
theorem bFine_no {b : List Int} {i : Nat} (h : bHole b i = true) : ∀ m, i < m → bFine b m = false
  | 0, hm => absurd hm (Nat.not_lt_zero _)
  | m + 1, hm => by
    rcases Nat.lt_or_ge i m with h2 | h2
    · rw [bFine, bFine_no h m h2, Bool.false_and]
    · obtain rfl : i = m := by omega
      rw [bFine, h, Bool.not_true, Bool.and_false]
/-- Behind 'app_box' the elder blocks are as they were. -/
theorem app_keep {w w4 : World} {gw gm ga cap g2 : Nat} {X : List Int} {x : Int}
    (ho : w.ownsRow (gw + 1) 3 1 (.slice (some ⟨ga, 0, none⟩) X.length cap) X.length (X.map (.int .i64)))
    (hgs : gm < w.heap.size) (hlt : gw < gm) {cap1 : Nat}
    (_hown2 : w4.ownsRow (gw + 1) 3 1 (.slice (some ⟨g2, 0, none⟩) (X.length + 1) cap1) (X.length + 1) (X.map (.int .i64) ++ [.int .i64 x]))
    (hgrow2 : (w.alloc (.cells #[.int .i64 x] 3)).grownBy w4 (Value.slice (some ⟨ga, 0, none⟩) X.length cap).ownBlock) (cap2 : Nat) (q : Nat) (hq : q < gw) :
    (w4.setCell ⟨gm, 1, none⟩ (.slice (some ⟨g2, 0, none⟩) (X.length + 1) cap2)).heap[q]? = w.heap[q]? := by
  have hba : Below w.heap.size w (w.alloc (.cells #[.int .i64 x] 3)) := (Below.refl _ _).alloc (Nat.le_refl _) _
  have hb4 : Below (gw + 1) w w4 := (hba.mono (by omega)).grown hgrow2 (by simp; omega) (fun q hq => (ho.lt q hq).1)
  rw [heap_setCell_other w4 ⟨gm, 1, none⟩ q _ (by show ¬ q = gm; omega)]
  exact hb4.block q (by omega)

end Go.Proofs.Ytghijkpcmamebaa
