/- DERIVED. The laws' own functions on reports: the size of one, a copy of it, two that are alike, its marks. Called with a report whose keys read as known numbers. -/
import Derived.Test.YtjfckchoklepbaaGreatInts
import Derived.Test.YtjfckchoklepbaaGreatDeb
import Derived.Test.YtjfckchoklepbaaGreatLawBits
import Derived.WalkSmall
namespace Go.Proofs.YtjfckchoklepbaaGreat
open Go.RowKit

abbrev rpv (r : Int) (u : Value) : Value := .agg #[.int .i64 r, u]
def rpS : List Sh := [.int .i64, .row [.int .i64]]
def rpC (r : Int) (zs : List Int) : List Ce := [.int r, .row (ones zs)]

set_option maxHeartbeats 400000 in
theorem eqReport_same (r : Int) (ua ub : Value) (zs : List Int) (w : World) (hl : zs.length ≤ 1000000000000) (ha : Rd w ua (zs.map (.int .i64))) (hb : Rd w ub (zs.map (.int .i64))) :
    Calls Tryz.prog 135 #[rpv r ua, rpv r ub] w fun e w' => e = .returned (.bool true) ∧ Below w.heap.size w w' := by
  obtain ⟨W, hW⟩ : ∃ W, W = (w.alloc (.cells #[.int .i64 r, ua] 47)).alloc (.cells #[.int .i64 r, ub] 47) := ⟨_, rfl⟩
  have hB0 : Below w.heap.size w W := by rw [hW]; exact ((Below.refl _ _).alloc (Nat.le_refl _) _).alloc (by simp) _
  have HA := Lib.hid (ha.below hB0)
  have HB := Lib.hid (hb.below hB0)
  have HB0 := Lib.hid hB0
  have HW := Lib.hid hW
  clear hW hB0 ha hb
  go_enter Tryz.func135, Tryz.ntmps135
  go_wp2_with fail
  rw [← HW.out]
  refine (eqIntS_same ua ub zs W hl HA.out HB.out).mono ?_
  rintro e w1 ⟨rfl, n1, rfl⟩
  go_wp2
  go_ret
  exact ⟨rfl, below_drewN HB0.out _⟩

end Go.Proofs.YtjfckchoklepbaaGreat
