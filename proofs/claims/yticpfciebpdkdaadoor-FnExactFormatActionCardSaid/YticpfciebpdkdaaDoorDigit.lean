/- DERIVED. The value of a hexadecimal digit, the program's and the reference's, called with any byte or rune from 0 on. -/
import Derived.Test.YticpfciebpdkdaaDoorCore
import Derived.Test.YticpfciebpdkdaaDoorProg
namespace Go.Proofs.YticpfciebpdkdaaDoor
open Go.RowKit

/-- The value of a digit to the base 'base' (10 or 16); -1 if it is none. -/
def digVal (base c : Int) : Int :=
  if 48 ≤ c ∧ c ≤ 57 then c - 48 else if 97 ≤ c ∧ c < 87 + base then c - 87 else -1

theorem digVal_lt (base c : Int) (h : 10 ≤ base) : digVal base c < base := by unfold digVal; split <;> try split
                                                                              all_goals omega
theorem digVal_ge (base c : Int) : -1 ≤ digVal base c := by unfold digVal; split <;> try split
                                                            all_goals omega
theorem digVal_high (base c : Int) (hb : base ≤ 16) (h : 128 ≤ c) : digVal base c = -1 := by unfold digVal; rw [if_neg (by omega), if_neg (by omega)]

/-- What digitValue returns. -/
def digRes (base c : Int) : Value := if digVal base c < 0 then .tuple #[.int .i64 0, .bool false] else .tuple #[.int .i64 (digVal base c), .bool true]

theorem digRes_no {b c : Int} (h : digVal b c < 0) : digRes b c = .tuple #[.int .i64 0, .bool false] := by rw [digRes, if_pos h]
theorem digRes_yes {b c : Int} (h : ¬ digVal b c < 0) : digRes b c = .tuple #[.int .i64 (digVal b c), .bool true] := by rw [digRes, if_neg h]

set_option maxHeartbeats 1000000 in
theorem digitValue_any (c base : Int) (w : World) (h0 : 0 ≤ c) (h1 : c ≤ 2147483647) (hb : 10 ≤ base) (hb' : base ≤ 16) :
    Calls Tryd.prog 41 #[.int .i32 c, .int .i64 base] w fun e w' => e = .returned (digRes base c) ∧ w = w' := by
  by_cases a : 48 ≤ c ∧ c ≤ 57
  · obtain ⟨a1, a2⟩ := a
    have v : digVal base c = c - 48 := by unfold digVal; rw [if_pos ⟨a1, a2⟩]
    have r : digRes base c = .tuple #[.int .i64 (c - 48), .bool true] := by unfold digRes; rw [if_neg (by omega), v]
    rw [r]
    clear r v
    have n : ¬ base ≤ c - 48 := by omega
    go_enter Tryd.func41, Tryd.ntmps41
    go_wp2
    go_ret2
    exact ⟨rfl, rfl⟩
  · by_cases d : 97 ≤ c ∧ c < 87 + base
    · obtain ⟨d1, d2⟩ := d
      have v : digVal base c = c - 87 := by unfold digVal; rw [if_neg (by omega), if_pos ⟨d1, d2⟩]
      have r : digRes base c = .tuple #[.int .i64 (c - 97 + 10), .bool true] := by unfold digRes; rw [if_neg (by omega), v, show c - 87 = c - 97 + 10 from by omega]
      rw [r]
      clear r v
      have n : ¬ base ≤ c - 97 + 10 := by omega
      have u : c ≤ 122 := by omega
      have t : 48 ≤ c := by omega
      have t2 : ¬ c ≤ 57 := by omega
      go_enter Tryd.func41, Tryd.ntmps41
      go_wp2
      go_ret2
      exact ⟨rfl, rfl⟩
    · have v : digVal base c = -1 := by unfold digVal; rw [if_neg a, if_neg d]
      have r : digRes base c = .tuple #[.int .i64 0, .bool false] := by unfold digRes; rw [if_pos (by omega)]
      rw [r]
      clear r v
      by_cases t : 48 ≤ c
      · have t2 : ¬ c ≤ 57 := by omega
        by_cases u : 97 ≤ c
        · by_cases u2 : c ≤ 122
          · have n : base ≤ c - 97 + 10 := by omega
            go_enter Tryd.func41, Tryd.ntmps41
            go_wp2
            go_ret2
            exact ⟨rfl, rfl⟩
          · have n : base ≤ base := by omega
            go_enter Tryd.func41, Tryd.ntmps41
            go_wp2
            go_ret2
            exact ⟨rfl, rfl⟩
        · have n : base ≤ base := by omega
          go_enter Tryd.func41, Tryd.ntmps41
          go_wp2
          go_ret2
          exact ⟨rfl, rfl⟩
      · have n : base ≤ base := by omega
        go_enter Tryd.func41, Tryd.ntmps41
        go_wp2
        go_ret2
        exact ⟨rfl, rfl⟩

end Go.Proofs.YticpfciebpdkdaaDoor
