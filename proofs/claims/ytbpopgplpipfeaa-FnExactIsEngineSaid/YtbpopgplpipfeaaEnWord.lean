/- DERIVED. The reference's IsWordCode tells what a plain function says. Called with any code. -/
import Derived.Test.YtbpopgplpipfeaaEnFn
import Derived.Test.YtbpopgplpipfeaaKmSpec
namespace Go.Proofs.Ytbpopgplpipfeaa
open Go.RowKit

set_option maxRecDepth 100000 in
theorem specIsWordCode_q (c : Int) (o : Bool) (ho : o = wordC c) (w : World) : Calls Try.prog 32 #[.int .i64 c] w fun e w' => e = .returned (.bool o) ∧ w = w' := by
  obtain ⟨q, hq⟩ : ∃ q, q = inB c 1 36 := ⟨_, rfl⟩
  rw [wordC, ← hq] at ho
  have HQ := Lib.hid hq
  have HO := Lib.hid ho
  clear hq ho
  go_enter Try.func32, Try.ntmps32
  go_wp2_with fail
  refine (inB_q c 1 36 q HQ.out _).mono ?_
  rintro e w0 ⟨rfl, rfl⟩
  cases q
  · by_cases h39 : c = 39
    · obtain rfl : o = true := by rw [HO.out]; simp [h39]
      go_wp2
      go_ret
      exact ⟨rfl, rfl⟩
    · by_cases h42 : c = 42
      · obtain rfl : o = true := by rw [HO.out]; simp [h42]
        go_wp2
        go_ret
        exact ⟨rfl, rfl⟩
      · obtain rfl : o = false := by rw [HO.out]; simp [h39, h42]
        go_wp2
        go_ret
        exact ⟨by simp [h39, h42], rfl⟩
  · obtain rfl : o = true := by rw [HO.out]; rfl
    go_wp2
    go_ret
    exact ⟨rfl, rfl⟩

end Go.Proofs.Ytbpopgplpipfeaa
