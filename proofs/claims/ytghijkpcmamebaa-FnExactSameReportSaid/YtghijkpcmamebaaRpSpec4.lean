/- DERIVED. The reference's BootBytes: a report's boot bytes. -/
import Derived.Test.YtghijkpcmamebaaRpDef
import Derived.Test.YtghijkpcmamebaaRp
import Derived.Test.YtghijkpcmamebaaText
import Derived.Deep.AppendLies
namespace Go.Proofs.Ytghijkpcmamebaa
open Go.RowKit

theorem specIsReport_q (r : Int) (u : Value) (zs : List Int) (o : Bool) (ho : o = okRp r zs) (w : World) (hl : zs.length ≤ maxLen) (h : Rd w u (zs.map (.int .i64))) :
    Calls Try.prog 30 #[rpv r u] w fun e w' => e = .returned (.bool o) ∧ Below w.heap.size w w' := by
  rw [ho]; exact specIsReport_any r u zs w hl h
theorem okRp_at {r : Int} {zs : List Int} (h : okRp r zs = true) : (0 ≤ r ∧ r ≤ 15) ∧ ∀ j, j < zs.length → 1 ≤ zs.getD j 0 ∧ zs.getD j 0 ≤ 56 := by
  rw [okRp, Bool.and_eq_true] at h
  refine ⟨of_decide_eq_true h.2, fun j hj => ?_⟩
  have h1 := rpN_at h.1 j hj
  rw [rpAt, Bool.and_eq_true] at h1
  exact of_decide_eq_true h1.1
/-- The shape of a slice of ints, and its numbers. -/
theorem ints_shape {w : World} {u : Value} {zs : List Int} (h : Rd w u (zs.map (.int .i64))) : ∃ a cap, u = .slice a zs.length cap := by
  obtain ⟨a, cap, hu, _⟩ := h
  exact ⟨a, cap, by simpa using hu⟩
theorem ints_at {w : World} {a : Option Addr} {n cap : Nat} {zs : List Int} (h : Rd w (.slice a n cap) (zs.map (.int .i64))) {j : Nat} (hj : j < zs.length) : ∃ b off, a = some ⟨b, off, none⟩ ∧ b < w.heap.size ∧ w.cell? ⟨b, off + j, none⟩ = some (.int .i64 (zs.getD j 0)) := by
  rcases rd_ints h with ⟨rfl, _⟩ | ⟨b, off, cap', _, hs, hlt, hc⟩
  · simp at hj
  · obtain ⟨rfl, _, _⟩ := by simpa using hs
    exact ⟨b, off, rfl, hlt, hc j hj⟩
/-- The boot bytes with the first j codes laid. -/
def bbN (r : Int) (zs : List Int) (j : Nat) : List Int := [r, 0] ++ (List.range j).map (bootAt zs) ++ List.replicate (6 - j) 0
theorem bbN_len (r : Int) (zs : List Int) {j : Nat} (h : j ≤ 6) : (bbN r zs j).length = 8 := by simp [bbN]; omega
theorem bbN_set (r : Int) (zs : List Int) {j : Nat} (h : j < 6) : (bbN r zs j).set (2 + j) (bootAt zs j) = bbN r zs (j + 1) := by
  have : j = 0 ∨ j = 1 ∨ j = 2 ∨ j = 3 ∨ j = 4 ∨ j = 5 := by omega
  rcases this with rfl | rfl | rfl | rfl | rfl | rfl <;> rfl
theorem bbN_same (r : Int) (zs : List Int) {j : Nat} (h : j < 6) (h0 : bootAt zs j = 0) : bbN r zs (j + 1) = bbN r zs j := by
  rw [← bbN_set r zs h, h0]
  have : j = 0 ∨ j = 1 ∨ j = 2 ∨ j = 3 ∨ j = 4 ∨ j = 5 := by omega
  rcases this with rfl | rfl | rfl | rfl | rfl | rfl <;> rfl
theorem bbN_all (r : Int) (zs : List Int) (h : okRp r zs = true) : bbN r zs 6 = bbV r zs := by rw [bbV, if_pos h]; rfl

end Go.Proofs.Ytghijkpcmamebaa
