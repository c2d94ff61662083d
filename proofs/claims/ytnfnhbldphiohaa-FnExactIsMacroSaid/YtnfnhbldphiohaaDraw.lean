/- DERIVED. The reference's cursor, from which the laws draw their arguments: what it holds, and that each draw keeps it and hands back a number in its range. · The reference's cursor behind other calls, and a cursor for a place: l24New, l1Once. · Picking one of a list of numbers by the reference's cursor: one of the list. · The laws' bound on a text's length, and the reference's number for a law: called with any text, a number below the given one. -/
import Derived.Test.YtnfnhbldphiohaaCore
import Derived.Test.YtnfnhbldphiohaaProg
import Derived.Deep.RegionHeld3
namespace Go.Proofs.Ytnfnhbldphiohaa
open Go.RowKit

/-- The slice value 'v' reads as 'xs', in memory below block number B. -/
def RdLow (B : Nat) (w : World) (v : Value) (xs : List Value) : Prop :=
  ∃ a cap, v = .slice a xs.length cap ∧ (xs = [] ∨ ∃ b off, a = some ⟨b, off, none⟩ ∧ b < B ∧ ∀ j (h : j < xs.length), w.cell? ⟨b, off + j, none⟩ = some xs[j])
theorem RdLow.of {w : World} {v : Value} {xs : List Value} (h : Rd w v xs) : RdLow w.heap.size w v xs := h
theorem RdLow.below {B : Nat} {w w' : World} {v : Value} {xs : List Value} (h : RdLow B w v xs) (hb : Below B w w') : RdLow B w' v xs := by
  obtain ⟨a, cap, hv, h⟩ := h
  refine ⟨a, cap, hv, ?_⟩
  rcases h with h | ⟨b, off, ha, hlt, hc⟩
  · exact .inl h
  · exact .inr ⟨b, off, ha, hlt, fun j hj => (hb.cell (p := ⟨b, off + j, none⟩) hlt).trans (hc j hj)⟩

theorem and255 (y : Int) : 0 ≤ bits .and .i64 y 255 ∧ bits .and .i64 y 255 ≤ 255 := by
  unfold bits
  have e : (BitVec.ofInt 64 255).toNat = 255 := by decide
  have hle : (BitVec.ofInt 64 y &&& BitVec.ofInt 64 255).toNat ≤ 255 := by
    rw [BitVec.toNat_and, e]; exact Nat.and_le_right
  show 0 ≤ IntKind.i64.wrap ((BitVec.ofInt 64 y &&& BitVec.ofInt 64 255).toNat : Int) ∧ IntKind.i64.wrap ((BitVec.ofInt 64 y &&& BitVec.ofInt 64 255).toNat : Int) ≤ 255
  generalize (BitVec.ofInt 64 y &&& BitVec.ofInt 64 255).toNat = m at hle
  rw [IntWalk.i64_in _ ⟨by omega, by omega⟩]
  omega

/-- A block of three cells behind a store into its last cell or its middle one. -/
theorem cur_set2 {w : World} {b : Nat} {v x y z : Value} {t : TypeId} (h : w.heap[b]? = some (.cells #[v, x, y] t (0, 0))) : (w.setCell ⟨b, 2, none⟩ z).heap[b]? = some (.cells #[v, x, z] t (0, 0)) := heap_setCell_same w b 2 _ t z h
theorem cur_set1 {w : World} {b : Nat} {v x y z : Value} {t : TypeId} (h : w.heap[b]? = some (.cells #[v, x, y] t (0, 0))) : (w.setCell ⟨b, 1, none⟩ z).heap[b]? = some (.cells #[v, z, y] t (0, 0)) := heap_setCell_same w b 1 _ t z h
theorem low_of_grown {B : Nat} {w w' : World} {b : Nat} (h : w.grownBy w' (some b)) (hB : B ≤ b) (hs : B ≤ w.heap.size) : Below B w w' :=
  ⟨h.os, h.tape, h.output, h.size, fun k hk => h.block k (by omega) (by simp; omega)⟩

theorem grown_alloc (w : World) (o : Obj) (r : Option Nat) : w.grownBy (w.alloc o) r :=
  let h : Below w.heap.size w (w.alloc o) := (Below.refl _ _).alloc (Nat.le_refl _) _
  ⟨h.os, h.tape, h.output, h.size, fun k hk _ => h.block k hk⟩
theorem grown_of_below {w w' : World} (h : Below w.heap.size w w') (r : Option Nat) : w.grownBy w' r := ⟨h.os, h.tape, h.output, h.size, fun k hk _ => h.block k hk⟩
theorem grown_new {w0 w : World} {r : Option Nat} (h : w0.grownBy w r) (b o : Nat) (z : Value) (hb : w0.heap.size ≤ b) : w0.grownBy (w.setCell ⟨b, o, none⟩ z) r :=
  ⟨h.os, h.tape, h.output, by simpa using h.size, fun k hk hr => (Below.heap_setCell w ⟨b, o, none⟩ z k (fun e => by simp at e; omega)).trans (h.block k hk hr)⟩
theorem grown_size {w w' : World} {r : Option Nat} {x : Nat} (h : w.grownBy w' r) (hx : x < w.heap.size) : x < w'.heap.size := Nat.lt_of_lt_of_le hx h.size
theorem grown_high {w0 w w' : World} {r r' : Option Nat} (h : w0.grownBy w r) (hg : w.grownBy w' r') (hr : ∀ q, r' = some q → w0.heap.size ≤ q) : w0.grownBy w' r :=
  ⟨hg.os.trans h.os, hg.tape.trans h.tape, hg.output.trans h.output, Nat.le_trans h.size hg.size, fun k hk hn => (hg.block k (Nat.lt_of_lt_of_le hk h.size) (fun e => by have := hr k e.symm; omega)).trans (h.block k hk hn)⟩
theorem wf_byte {n : Int} (h : (Lit.int .u8 n).wf = true) : 0 ≤ n ∧ n < 256 := by
  simp [Lit.wf, IntKind.min, IntKind.max, IntKind.signed, IntKind.bits] at h
  omega

end Go.Proofs.Ytnfnhbldphiohaa
