/- DERIVED. The exact law of ChoiceOf: called with any timing, key, times and events, it returns true. No condition. -/
import Derived.Test.YtjfckchoklepbaaTmChcI
import Derived.Test.YtjfckchoklepbaaTmLaw
import Derived.Test.YtjfckchoklepbaaEvLawC
import Derived.Test.YtjfckchoklepbaaEvOpen
namespace Go.Proofs.Ytjfckchoklepbaa
open Go.RowKit

set_option maxHeartbeats 4000000 in
set_option maxRecDepth 100000 in
theorem lawChoiceOf_all (t q f key time now : Int) (a : Option Addr) (n cap : Nat) (l : List Ev) (w : World) (hn : l.length = n) (hm : n ≤ maxLen) (h : RdN w (.slice a n cap) l.length (flatEv l)) : Calls Try.prog 8 #[tmv t q f, .int .i64 key, .int .i64 time, .slice a n cap, .int .i64 now] w fun e w' => e = .returned (.bool true) ∧ Below w.heap.size w w' := by
  subst hn
  have HR := Lib.hid h
  have HM := Lib.hid hm
  clear h hm
  by_cases hl : l.length ≤ 1048576
  · have hsz : (if (1048576 : Int) < (l.length : Int) then -1 else (1048576 : Int) - (l.length : Int)) = 1048576 - (l.length : Int) := if_neg (by omega)
    have hsz0 : ¬ (1048576 : Int) - (l.length : Int) < 0 := by omega
    have HSZ := Lib.hid hsz
    have HLM := Lib.hid (show l.length ≤ maxLen by unfold maxLen; omega)
    clear hsz
    obtain ⟨⟨r1, r2⟩, hR⟩ : ∃ c, c = chcV ⟨t, q, f⟩ key time l now := ⟨_, rfl⟩
    have HRR := Lib.hid hR
    clear hR
    obtain ⟨w0, hw0⟩ : ∃ x, x = (w.alloc (.cells #[.int .i64 t, .int .i64 q, .int .i64 f] 57)) := ⟨_, rfl⟩
    have HB0 := Lib.hid (show Below w.heap.size w w0 by rw [hw0]; exact (Below.refl _ _).alloc (Nat.le_refl _) _)
    have Kd_0 := Lib.hid (show w0.heap[w.heap.size]? = some (.cells #[.int .i64 t, .int .i64 q, .int .i64 f] 57 (0, 0)) by rw [hw0]; exact heap_alloc_new w _)
    have SZ0 := Lib.hid (show w0.heap.size = w.heap.size + 1 by rw [hw0]; simp)
    have HW := Lib.hid hw0
    clear hw0
    go_enter Try.func8, Try.ntmps8
    have cd0 := (cells_of_heap Kd_0.out 0 (by simp)).1
    have cd1 := (cells_of_heap Kd_0.out 1 (by simp)).1
    have cd2 := (cells_of_heap Kd_0.out 2 (by simp)).1
    go_wp2_with fail
    rw [← HW.out]
    refine (szEventS_any a l.length cap 1048576 _ (by omega) (by omega) HM.out).mono ?_
    rw [HSZ.out]
    rintro e v0 ⟨rfl, rfl⟩
    clear cd0 cd1 cd2
    have cd0 := (cells_of_heap Kd_0.out 0 (by simp)).1
    have cd1 := (cells_of_heap Kd_0.out 1 (by simp)).1
    have cd2 := (cells_of_heap Kd_0.out 2 (by simp)).1
    go_wp2_with fail
    refine (toTiming_any t q f _).mono ?_
    rintro e w1 ⟨rfl, hb⟩
    clear cd0 cd1 cd2
    have HB1 := Lib.hid (HB0.out.trans (hb.mono HB0.out.size))
    have HS1 := Lib.hid hb.size
    have Kd_1 := Lib.hid (blk_below Kd_0.out hb)
    clear Kd_0
    clear hb
    have cd0 := (cells_of_heap Kd_1.out 0 (by simp)).1
    have cd1 := (cells_of_heap Kd_1.out 1 (by simp)).1
    have cd2 := (cells_of_heap Kd_1.out 2 (by simp)).1
    go_wp2_with fail
    refine (toEventS_law _ l _ hl (HR.out.below HB1.out)).mono ?_
    rintro e w2 ⟨atz, ctz, ftz, rfl, htz, hb⟩
    clear cd0 cd1 cd2
    have HB2 := Lib.hid (HB1.out.trans (hb.mono HB1.out.size))
    have HS2 := Lib.hid hb.size
    have Kd_2 := Lib.hid (blk_below Kd_1.out hb)
    clear Kd_1
    have Rt := Lib.hid (htz.rng)
    have Ot_2 := Lib.hid htz
    clear hb htz
    go_wp2_with fail
    refine (specChoiceOf_any ⟨t, q, f⟩ key time now _ l _ HLM.out Ot_2.out.rd).mono ?_
    rw [← HRR.out]
    rintro e w3 ⟨rfl, hb⟩
    have HB3 := Lib.hid (HB2.out.trans (hb.mono HB2.out.size))
    have HS3 := Lib.hid hb.size
    have Kd_3 := Lib.hid (blk_below Kd_2.out hb)
    have Ot_3 := Lib.hid (Ot_2.out.below hb)
    clear Kd_2 Ot_2
    clear hb
    have cd0 := (cells_of_heap Kd_3.out 0 (by simp)).1
    have cd1 := (cells_of_heap Kd_3.out 1 (by simp)).1
    have cd2 := (cells_of_heap Kd_3.out 2 (by simp)).1
    go_wp2_with fail
    refine (toEventS_law _ l _ hl (HR.out.below HB3.out)).mono ?_
    rintro e w4 ⟨ax, cx, fx, rfl, hx, hb⟩
    clear cd0 cd1 cd2
    have HB4 := Lib.hid (HB3.out.trans (hb.mono HB3.out.size))
    have HS4 := Lib.hid hb.size
    have Kd_4 := Lib.hid (blk_below Kd_3.out hb)
    have Ot_4 := Lib.hid (Ot_3.out.below hb)
    clear Kd_3 Ot_3
    have Rx := Lib.hid (hx.rng)
    have Ox_4 := Lib.hid hx
    clear hb hx
    have cd0 := (cells_of_heap Kd_4.out 0 (by simp)).1
    have cd1 := (cells_of_heap Kd_4.out 1 (by simp)).1
    have cd2 := (cells_of_heap Kd_4.out 2 (by simp)).1
    go_wp2_with fail
    refine (toTiming_any t q f _).mono ?_
    rintro e w5 ⟨rfl, hb⟩
    clear cd0 cd1 cd2
    have HB5 := Lib.hid (HB4.out.trans (hb.mono HB4.out.size))
    have HS5 := Lib.hid hb.size
    have Kd_5 := Lib.hid (blk_below Kd_4.out hb)
    have Ot_5 := Lib.hid (Ot_4.out.below hb)
    have Ox_5 := Lib.hid (Ox_4.out.below hb)
    clear Kd_4 Ot_4 Ox_4
    clear hb
    go_wp2_with fail
    refine (implChoiceOf_any ⟨t, q, f⟩ key time now _ l _ HLM.out Ox_5.out.rd).mono ?_
    rw [← HRR.out]
    rintro e w6 ⟨rfl, hb⟩
    have HB6 := Lib.hid (HB5.out.trans (hb.mono HB5.out.size))
    have HS6 := Lib.hid hb.size
    have Kd_6 := Lib.hid (blk_below Kd_5.out hb)
    have Ot_6 := Lib.hid (Ot_5.out.below hb)
    have Ox_6 := Lib.hid (Ox_5.out.below hb)
    clear Kd_5 Ot_5 Ox_5
    clear hb
    have cd0 := (cells_of_heap Kd_6.out 0 (by simp)).1
    have cd1 := (cells_of_heap Kd_6.out 1 (by simp)).1
    have cd2 := (cells_of_heap Kd_6.out 2 (by simp)).1
    go_wp2_with fail
    refine (toEventS_law _ l _ hl (HR.out.below HB6.out)).mono ?_
    rintro e w7 ⟨ay, cy, fy, rfl, hy, hb⟩
    clear cd0 cd1 cd2
    have HB7 := Lib.hid (HB6.out.trans (hb.mono HB6.out.size))
    have HS7 := Lib.hid hb.size
    have Kd_7 := Lib.hid (blk_below Kd_6.out hb)
    have Ot_7 := Lib.hid (Ot_6.out.below hb)
    have Ox_7 := Lib.hid (Ox_6.out.below hb)
    clear Kd_6 Ot_6 Ox_6
    have Ry := Lib.hid (hy.rng)
    have Oy_7 := Lib.hid hy
    clear hb hy
    go_wp2_with fail
    refine (eqEventS_same _ _ l _ (Nat.le_trans hl (by decide)) Ox_7.out.rd Oy_7.out.rd).mono ?_
    rintro e w8 ⟨rfl, hb⟩
    have HB8 := Lib.hid (HB7.out.trans (hb.mono HB7.out.size))
    have HS8 := Lib.hid hb.size
    have Kd_8 := Lib.hid (blk_below Kd_7.out hb)
    have Ot_8 := Lib.hid (Ot_7.out.below hb)
    have Ox_8 := Lib.hid (Ox_7.out.below hb)
    have Oy_8 := Lib.hid (Oy_7.out.below hb)
    clear Kd_7 Ot_7 Ox_7 Oy_7
    clear hb
    go_wp2
    go_ret
    exact ⟨rfl, HB8.out⟩
  · have hsz : (if (1048576 : Int) < (l.length : Int) then -1 else (1048576 : Int) - (l.length : Int)) = -1 := if_pos (by omega)
    have HSZ := Lib.hid hsz
    clear hsz hl
    obtain ⟨w0, hw0⟩ : ∃ x, x = (w.alloc (.cells #[.int .i64 t, .int .i64 q, .int .i64 f] 57)) := ⟨_, rfl⟩
    have HB0 := Lib.hid (show Below w.heap.size w w0 by rw [hw0]; exact (Below.refl _ _).alloc (Nat.le_refl _) _)
    have Kd_0 := Lib.hid (show w0.heap[w.heap.size]? = some (.cells #[.int .i64 t, .int .i64 q, .int .i64 f] 57 (0, 0)) by rw [hw0]; exact heap_alloc_new w _)
    have SZ0 := Lib.hid (show w0.heap.size = w.heap.size + 1 by rw [hw0]; simp)
    have HW := Lib.hid hw0
    clear hw0
    go_enter Try.func8, Try.ntmps8
    have cd0 := (cells_of_heap Kd_0.out 0 (by simp)).1
    have cd1 := (cells_of_heap Kd_0.out 1 (by simp)).1
    have cd2 := (cells_of_heap Kd_0.out 2 (by simp)).1
    go_wp2_with fail
    rw [← HW.out]
    refine (szEventS_any a l.length cap 1048576 _ (by omega) (by omega) HM.out).mono ?_
    rw [HSZ.out]
    rintro e v0 ⟨rfl, rfl⟩
    clear cd0 cd1 cd2
    go_wp2
    go_ret
    exact ⟨rfl, HB0.out⟩

end Go.Proofs.Ytjfckchoklepbaa
