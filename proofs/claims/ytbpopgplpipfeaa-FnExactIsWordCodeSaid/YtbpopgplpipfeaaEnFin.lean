/- DERIVED. The exact laws of IsEngine, HeldAt and IsWordCode, over the program's own functions. Called with any arguments, each returns true and changes nothing that was there. -/
import Derived.Test.YtbpopgplpipfeaaEnImplE
import Derived.Test.YtbpopgplpipfeaaEnLaw
import Derived.Test.YtbpopgplpipfeaaEnOpen
namespace Go.Proofs.Ytbpopgplpipfeaa
open Go.RowKit

theorem lawIsEngine_all (e : En) (u1 u2 u3 : Value) (w : World) (hn1 : e.L.length ≤ maxLen ∧ ∀ l ∈ e.L, l.length ≤ maxLen) (hn2 : e.F.length ≤ maxLen ∧ ∀ l ∈ e.F, l.length ≤ maxLen) (hn3 : e.H.length ≤ maxLen) (h : RdE w e u1 u2 u3) :
    Calls Try.prog 4 #[env e.k u1 u2 e.x u3 e.o e.p] w fun r w' => r = .returned (.bool true) ∧ Below w.heap.size w w' :=
  lawIsEngine_walk e u1 u2 u3 w hn1 hn2 hn3 h (fun w' v1 v2 v3 hz _ hr => implIsEngine_any e v1 v2 v3 w' hz hr)
theorem lawHeldAt_all (e : En) (u1 u2 u3 : Value) (key : Int) (w : World) (hn1 : e.L.length ≤ maxLen ∧ ∀ l ∈ e.L, l.length ≤ maxLen) (hn2 : e.F.length ≤ maxLen ∧ ∀ l ∈ e.F, l.length ≤ maxLen) (hn3 : e.H.length ≤ maxLen) (h : RdE w e u1 u2 u3) :
    Calls Try.prog 7 #[env e.k u1 u2 e.x u3 e.o e.p, .int .i64 key] w fun r w' => r = .returned (.bool true) ∧ Below w.heap.size w w' :=
  lawHeldAt_walk e u1 u2 u3 key w hn1 hn2 hn3 h (fun w' v1 v2 v3 _ _ hr => implHeldAt_any e.k v1 v2 e.x v3 e.o e.p e.H key w' hn3 hr.held)
set_option maxRecDepth 100000 in
theorem lawIsWordCode_all (c : Int) (w : World) : Calls Try.prog 6 #[.int .i64 c] w fun e w' => e = .returned (.bool true) ∧ Below w.heap.size w w' := by
  obtain ⟨o, ho⟩ : ∃ o, o = wordC c := ⟨_, rfl⟩
  have HO := Lib.hid ho
  clear ho
  go_enter Try.func6, Try.ntmps6
  go_wp2_with fail
  refine (specIsWordCode_q c o HO.out _).mono ?_
  rintro e w0 ⟨rfl, rfl⟩
  go_wp2_with fail
  refine (implIsWordCode_q c o HO.out _).mono ?_
  rintro e w0 ⟨rfl, rfl⟩
  cases o
  · go_wp2
    go_ret
    exact ⟨rfl, Below.refl _ _⟩
  · go_wp2
    go_ret
    exact ⟨rfl, Below.refl _ _⟩

end Go.Proofs.Ytbpopgplpipfeaa
