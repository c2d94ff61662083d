/- DERIVED. Timings: both sides' IsTiming. No condition. -/
import Derived.Test.YtjfckchoklepbaaTmDef
import Derived.Test.YtjfckchoklepbaaInts
namespace Go.Proofs.Ytjfckchoklepbaa
open Go.RowKit

abbrev tmv (t q f : Int) : Value := .agg #[.int .i64 t, .int .i64 q, .int .i64 f]
theorem between_q (n a b : Int) (v : Bool) (hv : v = inB n a b) (w : World) : Calls Try.prog 58 #[.int .i64 n, .int .i64 a, .int .i64 b] w fun e w' => e = .returned (.bool v) ∧ w = w' := by
  unfold inB at hv
  by_cases h0 : a ≤ n
  · by_cases h1 : n ≤ b
    · rw [decide_eq_true ⟨h0, h1⟩] at hv
      subst hv
      go_enter Try.func58, Try.ntmps58
      go_wp2
      go_ret
      exact ⟨rfl, rfl⟩
    · rw [decide_eq_false (by omega)] at hv
      subst hv
      go_enter Try.func58, Try.ntmps58
      go_wp2
      go_ret
      exact ⟨rfl, rfl⟩
  · rw [decide_eq_false (by omega)] at hv
    subst hv
    go_enter Try.func58, Try.ntmps58
    go_wp2
    go_ret
    exact ⟨rfl, rfl⟩

set_option maxRecDepth 100000 in
set_option maxHeartbeats 2000000 in
theorem specIsTiming_any (t q f : Int) (w : World) : Calls Try.prog 20 #[tmv t q f] w fun e w' => e = .returned (.bool (okTm ⟨t, q, f⟩)) ∧ Below w.heap.size w w' := by
  obtain ⟨o, ho⟩ : ∃ o, o = okTm ⟨t, q, f⟩ := ⟨_, rfl⟩
  rw [← ho]
  rw [okTm] at ho
  simp only at ho
  obtain ⟨b1, h1⟩ : ∃ b, b = inB t 1 1000 := ⟨_, rfl⟩
  obtain ⟨b2, h2⟩ : ∃ b, b = inB q 0 1000 := ⟨_, rfl⟩
  obtain ⟨b3, h3⟩ : ∃ b, b = inB f 0 2 := ⟨_, rfl⟩
  rw [← h1, ← h2, ← h3] at ho
  have HO := Lib.hid ho
  have H1 := Lib.hid h1
  have H2 := Lib.hid h2
  have H3 := Lib.hid h3
  clear ho h1 h2 h3
  obtain ⟨W, hW⟩ : ∃ W, W = w.alloc (.cells #[.int .i64 t, .int .i64 q, .int .i64 f] 47) := ⟨_, rfl⟩
  have HX0 := Lib.hid (show Bxd W w.heap.size [.int .i64 t, .int .i64 q, .int .i64 f] by rw [hW]; exact Bxd.new _ _ _)
  have HB0 := Lib.hid (show Below w.heap.size w W by rw [hW]; exact (Below.refl _ _).alloc (Nat.le_refl _) _)
  have HS0 := Lib.hid (show w.heap.size < W.heap.size by rw [hW]; simp)
  have HW := Lib.hid hW
  clear hW
  go_enter Try.func20, Try.ntmps20
  go_upto_region 1 with (fail)
  rw [← HW.out]
  have c0 := HX0.out.at 0 _ rfl
  have c1 := HX0.out.at 1 _ rfl
  have c2 := HX0.out.at 2 _ rfl
  go_wp2_with fail
  refine (inB_q t 1 1000 b1 H1.out _).mono ?_
  rintro e w0 ⟨rfl, hww⟩
  rw [hww]
  clear hww
  cases b1
  · obtain rfl : o = false := HO.out
    go_wp2
    go_ret
    exact ⟨rfl, HB0.out⟩
  · go_wp2_with fail
    refine (inB_q q 0 1000 b2 H2.out _).mono ?_
    rintro e w0 ⟨rfl, hww⟩
    rw [hww]
    clear hww
    cases b2
    · obtain rfl : o = false := HO.out
      go_wp2
      go_ret
      exact ⟨rfl, HB0.out⟩
    · go_wp2_with fail
      refine (inB_q f 0 2 b3 H3.out _).mono ?_
      rintro e w0 ⟨rfl, hww⟩
      rw [hww]
      clear hww
      obtain rfl : o = b3 := HO.out.trans (by simp)
      go_wp2
      go_ret
      exact ⟨rfl, HB0.out⟩
theorem specIsTiming_q (t q f : Int) (o : Bool) (ho : o = okTm ⟨t, q, f⟩) (w : World) : Calls Try.prog 20 #[tmv t q f] w fun e w' => e = .returned (.bool o) ∧ Below w.heap.size w w' := by
  rw [ho]; exact specIsTiming_any t q f w
set_option maxRecDepth 100000 in
set_option maxHeartbeats 2000000 in
theorem implIsTiming_any (t q f : Int) (w : World) : Calls Try.prog 23 #[tmv t q f] w fun e w' => e = .returned (.bool (okTm ⟨t, q, f⟩)) ∧ Below w.heap.size w w' := by
  obtain ⟨o, ho⟩ : ∃ o, o = okTm ⟨t, q, f⟩ := ⟨_, rfl⟩
  rw [← ho]
  rw [okTm] at ho
  simp only at ho
  obtain ⟨b1, h1⟩ : ∃ b, b = inB t 1 1000 := ⟨_, rfl⟩
  obtain ⟨b2, h2⟩ : ∃ b, b = inB q 0 1000 := ⟨_, rfl⟩
  obtain ⟨b3, h3⟩ : ∃ b, b = inB f 0 2 := ⟨_, rfl⟩
  rw [← h1, ← h2, ← h3] at ho
  have HO := Lib.hid ho
  have H1 := Lib.hid h1
  have H2 := Lib.hid h2
  have H3 := Lib.hid h3
  clear ho h1 h2 h3
  obtain ⟨W, hW⟩ : ∃ W, W = w.alloc (.cells #[.int .i64 t, .int .i64 q, .int .i64 f] 47) := ⟨_, rfl⟩
  have HX0 := Lib.hid (show Bxd W w.heap.size [.int .i64 t, .int .i64 q, .int .i64 f] by rw [hW]; exact Bxd.new _ _ _)
  have HB0 := Lib.hid (show Below w.heap.size w W by rw [hW]; exact (Below.refl _ _).alloc (Nat.le_refl _) _)
  have HS0 := Lib.hid (show w.heap.size < W.heap.size by rw [hW]; simp)
  have HW := Lib.hid hW
  clear hW
  go_enter Try.func23, Try.ntmps23
  go_upto_region 1 with (fail)
  rw [← HW.out]
  have c0 := HX0.out.at 0 _ rfl
  have c1 := HX0.out.at 1 _ rfl
  have c2 := HX0.out.at 2 _ rfl
  go_wp2_with fail
  refine (between_q t 1 1000 b1 H1.out _).mono ?_
  rintro e w0 ⟨rfl, hww⟩
  rw [← hww]
  clear hww
  cases b1
  · obtain rfl : o = false := HO.out
    go_wp2
    go_ret
    exact ⟨rfl, HB0.out⟩
  · go_wp2_with fail
    refine (between_q q 0 1000 b2 H2.out _).mono ?_
    rintro e w0 ⟨rfl, hww⟩
    rw [← hww]
    clear hww
    cases b2
    · obtain rfl : o = false := HO.out
      go_wp2
      go_ret
      exact ⟨rfl, HB0.out⟩
    · go_wp2_with fail
      refine (between_q f 0 2 b3 H3.out _).mono ?_
      rintro e w0 ⟨rfl, hww⟩
      rw [← hww]
      clear hww
      obtain rfl : o = b3 := HO.out.trans (by simp)
      go_wp2
      go_ret
      exact ⟨rfl, HB0.out⟩
theorem implIsTiming_q (t q f : Int) (o : Bool) (ho : o = okTm ⟨t, q, f⟩) (w : World) : Calls Try.prog 23 #[tmv t q f] w fun e w' => e = .returned (.bool o) ∧ Below w.heap.size w w' := by
  rw [ho]; exact implIsTiming_any t q f w

end Go.Proofs.Ytjfckchoklepbaa
