/- DERIVED. The exact law of IsTiming: called with any timing, it returns true. No condition. -/
import Derived.Test.YtjfckchoklepbaaTm
namespace Go.Proofs.Ytjfckchoklepbaa
open Go.RowKit

theorem toTiming_any (t q f : Int) (w : World) : Calls Try.prog 22 #[tmv t q f] w fun e w' => e = .returned (tmv t q f) ∧ Below w.heap.size w w' := by
  go_enter Try.func22, Try.ntmps22
  go_wp2
  refine bodyPost_ret (v := tmv t q f) (by simp [results, Try.results22, go_sem]) rfl ⟨rfl, ?_⟩
  exact (((Below.refl _ _).alloc (Nat.le_refl _) _).alloc (by simp) _).alloc (by simp; omega) _
set_option maxRecDepth 100000 in
set_option maxHeartbeats 2000000 in
theorem lawIsTiming_all (t q f : Int) (w : World) : Calls Try.prog 6 #[tmv t q f] w fun e w' => e = .returned (.bool true) ∧ Below w.heap.size w w' := by
  obtain ⟨o, ho⟩ : ∃ o, o = okTm ⟨t, q, f⟩ := ⟨_, rfl⟩
  have HO := Lib.hid ho
  clear ho
  obtain ⟨W, hW⟩ : ∃ W, W = w.alloc (.cells #[.int .i64 t, .int .i64 q, .int .i64 f] 57) := ⟨_, rfl⟩
  have HX0 := Lib.hid (show Bxd W w.heap.size [.int .i64 t, .int .i64 q, .int .i64 f] by rw [hW]; exact Bxd.new _ _ _)
  have HB0 := Lib.hid (show Below w.heap.size w W by rw [hW]; exact (Below.refl _ _).alloc (Nat.le_refl _) _)
  have HS0 := Lib.hid (show w.heap.size < W.heap.size by rw [hW]; simp)
  have HW := Lib.hid hW
  clear hW
  go_enter Try.func6, Try.ntmps6
  go_wp2_with fail
  refine (toTiming_any t q f _).mono ?_
  rintro e w1 ⟨rfl, hb⟩
  rw [← HW.out] at hb
  have HB1 := Lib.hid (HB0.out.trans (hb.mono HB0.out.size))
  have HS1 := Lib.hid (Nat.lt_of_lt_of_le HS0.out hb.size)
  have HX1 := Lib.hid (HX0.out.below hb HS0.out)
  have c0 := HX1.out.at 0 _ rfl
  have c1 := HX1.out.at 1 _ rfl
  have c2 := HX1.out.at 2 _ rfl
  clear hb
  go_wp2_with fail
  refine (specIsTiming_q t q f o HO.out _).mono ?_
  rintro e w2 ⟨rfl, hb⟩
  have HB2 := Lib.hid (HB1.out.trans (hb.mono HB1.out.size))
  have HS2 := Lib.hid (Nat.lt_of_lt_of_le HS1.out hb.size)
  have HX2 := Lib.hid (HX1.out.below hb HS1.out)
  have c0 := HX2.out.at 0 _ rfl
  have c1 := HX2.out.at 1 _ rfl
  have c2 := HX2.out.at 2 _ rfl
  clear hb
  go_wp2_with fail
  refine (toTiming_any t q f _).mono ?_
  rintro e w3 ⟨rfl, hb⟩
  have HB3 := Lib.hid (HB2.out.trans (hb.mono HB2.out.size))
  have HS3 := Lib.hid (Nat.lt_of_lt_of_le HS2.out hb.size)
  have HX3 := Lib.hid (HX2.out.below hb HS2.out)
  have c0 := HX3.out.at 0 _ rfl
  have c1 := HX3.out.at 1 _ rfl
  have c2 := HX3.out.at 2 _ rfl
  clear hb
  go_wp2_with fail
  refine (implIsTiming_q t q f o HO.out _).mono ?_
  rintro e w4 ⟨rfl, hb⟩
  have HB4 := Lib.hid (HB3.out.trans (hb.mono HB3.out.size))
  have HS4 := Lib.hid (Nat.lt_of_lt_of_le HS3.out hb.size)
  have HX4 := Lib.hid (HX3.out.below hb HS3.out)
  have c0 := HX4.out.at 0 _ rfl
  have c1 := HX4.out.at 1 _ rfl
  have c2 := HX4.out.at 2 _ rfl
  clear hb
  go_wp2
  go_ret
  exact ⟨rfl, HB4.out⟩

end Go.Proofs.Ytjfckchoklepbaa
