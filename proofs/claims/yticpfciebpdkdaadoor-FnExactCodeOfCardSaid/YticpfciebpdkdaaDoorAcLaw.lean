/- DERIVED. The exact laws of chapter 5: each, called with any arguments, returns true and changes nothing that was there, where the program's function answers as the plain function. -/
import Derived.Test.YticpfciebpdkdaaDoorAcTap
import Derived.Test.YticpfciebpdkdaaDoorAcSpec
import Derived.Test.YticpfciebpdkdaaDoorIntsLaw
namespace Go.Proofs.YticpfciebpdkdaaDoor
open Go.RowKit

set_option maxHeartbeats 1000000 in
set_option maxRecDepth 100000 in
theorem lawCodeName_walk (c : Int) (w : World) (hI : ∀ w', Below w.heap.size w w' → Calls Tryd.prog 8 #[.int .i64 c] w' fun e w'' => e = .returned (.string (nmV c)) ∧ Below w'.heap.size w' w'') : Calls Tryd.prog 3 #[.int .i64 c] w fun e w' => e = .returned (.bool true) ∧ Below w.heap.size w w' := by
  obtain ⟨r, hr⟩ : ∃ x, x = nmV c := ⟨_, rfl⟩
  rw [← hr] at hI
  have HRR := Lib.hid hr
  have HI := Lib.hid hI
  clear hr hI
  have b0 : (!(r.toList == r.toList)) = false := by simp
  have HB0 := Lib.hid (Below.refl w.heap.size w)
  go_enter Tryd.func3, Tryd.ntmps3
  go_wp2_with fail
  refine (specCodeName_any c _).mono ?_
  rw [← HRR.out]
  rintro e w1 ⟨rfl, hb⟩
  have HB1 := Lib.hid (HB0.out.trans (hb.mono HB0.out.size))
  have HS1 := Lib.hid hb.size
  clear hb
  go_wp2_with fail
  refine (HI.out _ HB1.out).mono ?_
  rintro e w2 ⟨rfl, hb⟩
  have HB2 := Lib.hid (HB1.out.trans (hb.mono HB1.out.size))
  have HS2 := Lib.hid hb.size
  clear hb
  go_wp2
  go_ret
  exact ⟨rfl, HB2.out⟩

set_option maxHeartbeats 1000000 in
set_option maxRecDepth 100000 in
theorem lawCodeOf_walk (s : ByteArray) (w : World) (hI : s.size ≤ 1048576 → ∀ w', Below w.heap.size w w' → Calls Tryd.prog 10 #[.string s] w' fun e w'' => e = .returned (.int .i64 (codeV s : Nat)) ∧ Below w'.heap.size w' w'') : Calls Tryd.prog 4 #[.string s] w fun e w' => e = .returned (.bool true) ∧ Below w.heap.size w w' := by
  by_cases hl : s.size ≤ 1048576
  · obtain ⟨r, hr⟩ : ∃ x, x = codeV s := ⟨_, rfl⟩
    have hl2 : ¬ (1048576 : Int) < (s.size : Int) := by omega
    have hI := hI hl
    rw [← hr] at hI
    have HRR := Lib.hid hr
    have HI := Lib.hid hI
    clear hr hI hl
    have HB0 := Lib.hid (Below.refl w.heap.size w)
    go_enter Tryd.func4, Tryd.ntmps4
    go_wp2_with fail
    refine (specCodeOf_any s _).mono ?_
    rw [← HRR.out]
    rintro e w1 ⟨rfl, hb⟩
    have HB1 := Lib.hid (HB0.out.trans (hb.mono HB0.out.size))
    have HS1 := Lib.hid hb.size
    clear hb
    go_wp2_with fail
    refine (HI.out _ HB1.out).mono ?_
    rintro e w2 ⟨rfl, hb⟩
    have HB2 := Lib.hid (HB1.out.trans (hb.mono HB1.out.size))
    have HS2 := Lib.hid hb.size
    clear hb
    go_wp2
    go_ret
    exact ⟨rfl, HB2.out⟩
  · have hl' : (1048576 : Int) < (s.size : Int) := by omega
    clear hl hI
    go_enter Tryd.func4, Tryd.ntmps4
    go_wp2
    go_ret
    exact ⟨rfl, Below.refl _ _⟩

end Go.Proofs.YticpfciebpdkdaaDoor
