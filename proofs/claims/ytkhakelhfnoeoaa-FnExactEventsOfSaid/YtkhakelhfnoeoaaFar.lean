/- DERIVED. A region that draws its order, whose operations read memory that was there, and whose calls lay new memory alone: one walk, in the order of the text. No condition. -/
import Derived.Test.YtkhakelhfnoeoaaBase
namespace Go.Proofs.Ytkhakelhfnoeoaa
open Go.RowKit

/-- A world in which all that was there is as it was. -/
structure Far (W : World) where
  val : World
  low : Below W.heap.size W val
instance (W : World) : Nonempty (Far W) := ⟨⟨W, Below.refl _ _⟩⟩
theorem wp_region_far {P : Program} {id : Nat} {Q : Exit → Act → World → Prop} {a : Act} {w : World} {l : List Oper} (hm : P.follows .mixedOrders = true) (hB : Region.lexB .any l.toArray = true)
    (h : wpQuiet P l.toArray (fun w' => ∃ x : Far w, w' = x.val) (fun a' => ∀ w', (∃ x : Far w, w' = x.val) → Q .normal a' w') l a) : (Code.region id l.toArray true).wp P Q a w :=
  wp_region_quiet (C := fun w' => ∃ x : Far w, w' = x.val) hm hB ⟨⟨_, below_drewN (Below.refl w.heap.size w) 1⟩, rfl⟩ (by simpa using h)
/-- A callee's contract, met in such a world. -/
theorem Far.call {P : Program} {f : FuncId} {args : Array Value} {W : World} {x : Far W} {v : Value}
    (h : Calls P f args x.val fun e w' => e = .returned v ∧ Below x.val.heap.size x.val w') : Calls P f args x.val fun e w'' => e = .returned v ∧ ∃ y : Far W, w'' = y.val :=
  h.mono fun _ w' ⟨he, hb⟩ => ⟨he, ⟨w', x.low.trans (hb.mono x.low.size)⟩, rfl⟩
theorem Far.cell {W : World} {b o : Nat} {v : Value} (hb : b < W.heap.size) (h : W.cell? ⟨b, o, none⟩ = some v) : ∀ x : Far W, x.val.cell? ⟨b, o, none⟩ = some v :=
  fun x => (x.low.cell (p := ⟨b, o, none⟩) hb).trans h

end Go.Proofs.Ytkhakelhfnoeoaa
