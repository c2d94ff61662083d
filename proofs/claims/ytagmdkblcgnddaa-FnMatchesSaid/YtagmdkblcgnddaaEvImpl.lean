/- DERIVED. The program's own small functions on events: isTime, IsEvent, changeOf, followEvents and what leans on them: each, called with whatever values, returns what a plain function says. -/
import Derived.Test.YtagmdkblcgnddaaDebImpl
import Derived.Test.YtagmdkblcgnddaaEvSpec
import Derived.Test.YtagmdkblcgnddaaCore
import Derived.Deep.RegionHeld3
import Derived.Deep.DeepCutAuto
namespace Go.Proofs.Ytagmdkblcgnddaa
open Go.RowKit

theorem isTime_any (t : Int) (w : World) : Calls Try.prog 72 #[.int .i64 t] w fun e w' => e = .returned (.bool (inB t 0 1000000)) ∧ w = w' := by
  obtain ⟨v, hv⟩ : ∃ v, v = inB t 0 1000000 := ⟨_, rfl⟩
  rw [← hv]
  unfold inB at hv
  by_cases h0 : 0 ≤ t
  · by_cases h1 : t ≤ 1000000
    · rw [decide_eq_true ⟨h0, h1⟩] at hv
      subst hv
      go_enter Try.func72, Try.ntmps72
      go_wp2
      go_ret
      exact ⟨rfl, rfl⟩
    · rw [decide_eq_false (by omega)] at hv
      subst hv
      go_enter Try.func72, Try.ntmps72
      go_wp2
      go_ret
      exact ⟨rfl, rfl⟩
  · rw [decide_eq_false (by omega)] at hv
    subst hv
    go_enter Try.func72, Try.ntmps72
    go_wp2
    go_ret
    exact ⟨rfl, rfl⟩

theorem implIsEvent_any (t k : Int) (d : Bool) (w : World) : Calls Try.prog 34 #[evv t k d] w fun e w' => e = .returned (.bool (okEv ⟨t, k, d⟩)) ∧ Below w.heap.size w w' := by
  obtain ⟨a1, h1⟩ : ∃ a, a = inB t 0 1000000 := ⟨_, rfl⟩
  obtain ⟨v, hv⟩ : ∃ v, v = okEv ⟨t, k, d⟩ := ⟨_, rfl⟩
  have hv2 : v = (a1 && decide (0 ≤ k ∧ k ≤ 31)) := by rw [hv, h1]; rfl
  rw [← hv]
  have H1 := Lib.hid h1
  clear h1 hv
  cases a1
  · subst hv2
    obtain ⟨W, hW⟩ : ∃ W, W = w.alloc (.cells #[.int .i64 t, .int .i64 k, .bool d] 36) := ⟨_, rfl⟩
    have HX0 := Lib.hid (show Bxd W w.heap.size [.int .i64 t, .int .i64 k, .bool d] by rw [hW]; exact Bxd.new _ _ _)
    have HB0 := Lib.hid (show Below w.heap.size w W by rw [hW]; exact (Below.refl _ _).alloc (Nat.le_refl _) _)
    have HS0 := Lib.hid (show w.heap.size < W.heap.size by rw [hW]; simp)
    have HW := Lib.hid hW
    clear hW
    go_enter Try.func34, Try.ntmps34
    go_wp2_with fail
    rw [← HW.out]
    refine (isTime_any t _).mono ?_
    rw [← H1.out]
    rintro e w0 ⟨rfl, rfl⟩
    go_wp2
    go_ret
    exact ⟨rfl, HB0.out⟩
  · by_cases h0 : 0 ≤ k
    · by_cases h2 : k ≤ 31
      · rw [decide_eq_true ⟨h0, h2⟩] at hv2
        subst hv2
        obtain ⟨W, hW⟩ : ∃ W, W = w.alloc (.cells #[.int .i64 t, .int .i64 k, .bool d] 36) := ⟨_, rfl⟩
        have HX0 := Lib.hid (show Bxd W w.heap.size [.int .i64 t, .int .i64 k, .bool d] by rw [hW]; exact Bxd.new _ _ _)
        have HB0 := Lib.hid (show Below w.heap.size w W by rw [hW]; exact (Below.refl _ _).alloc (Nat.le_refl _) _)
        have HS0 := Lib.hid (show w.heap.size < W.heap.size by rw [hW]; simp)
        have HW := Lib.hid hW
        clear hW
        go_enter Try.func34, Try.ntmps34
        go_wp2_with fail
        rw [← HW.out]
        refine (isTime_any t _).mono ?_
        rw [← H1.out]
        rintro e w0 ⟨rfl, rfl⟩
        have c1 := HX0.out.at 1 _ rfl
        go_wp2
        go_ret
        exact ⟨rfl, HB0.out⟩
      · rw [decide_eq_false (by omega)] at hv2
        subst hv2
        have d2 : decide (k ≤ 31) = false := decide_eq_false h2
        obtain ⟨W, hW⟩ : ∃ W, W = w.alloc (.cells #[.int .i64 t, .int .i64 k, .bool d] 36) := ⟨_, rfl⟩
        have HX0 := Lib.hid (show Bxd W w.heap.size [.int .i64 t, .int .i64 k, .bool d] by rw [hW]; exact Bxd.new _ _ _)
        have HB0 := Lib.hid (show Below w.heap.size w W by rw [hW]; exact (Below.refl _ _).alloc (Nat.le_refl _) _)
        have HS0 := Lib.hid (show w.heap.size < W.heap.size by rw [hW]; simp)
        have HW := Lib.hid hW
        clear hW
        go_enter Try.func34, Try.ntmps34
        go_wp2_with fail
        rw [← HW.out]
        refine (isTime_any t _).mono ?_
        rw [← H1.out]
        rintro e w0 ⟨rfl, rfl⟩
        have c1 := HX0.out.at 1 _ rfl
        go_wp2
        go_ret
        exact ⟨rfl, HB0.out⟩
    · rw [decide_eq_false (by omega)] at hv2
      subst hv2
      obtain ⟨W, hW⟩ : ∃ W, W = w.alloc (.cells #[.int .i64 t, .int .i64 k, .bool d] 36) := ⟨_, rfl⟩
      have HX0 := Lib.hid (show Bxd W w.heap.size [.int .i64 t, .int .i64 k, .bool d] by rw [hW]; exact Bxd.new _ _ _)
      have HB0 := Lib.hid (show Below w.heap.size w W by rw [hW]; exact (Below.refl _ _).alloc (Nat.le_refl _) _)
      have HS0 := Lib.hid (show w.heap.size < W.heap.size by rw [hW]; simp)
      have HW := Lib.hid hW
      clear hW
      go_enter Try.func34, Try.ntmps34
      go_wp2_with fail
      rw [← HW.out]
      refine (isTime_any t _).mono ?_
      rw [← H1.out]
      rintro e w0 ⟨rfl, rfl⟩
      have c1 := HX0.out.at 1 _ rfl
      go_wp2
      go_ret
      exact ⟨rfl, HB0.out⟩
theorem implIsEvent_q (t k : Int) (d v : Bool) (hv : v = okEv ⟨t, k, d⟩) (w : World) : Calls Try.prog 34 #[evv t k d] w fun e w' => e = .returned (.bool v) ∧ Below w.heap.size w w' := by
  rw [hv]; exact implIsEvent_any t k d w

theorem changeOf_any (z : Int) (k : Nat) (t : Int) (w : World) (hk : k < 62) : Calls Try.prog 123 #[.int .i64 z, .int .i64 k, .int .i64 t] w fun e w' => e = .returned (evv t k (!hz z k)) ∧ Below w.heap.size w w' := by
  obtain ⟨h, hh⟩ : ∃ h, h = hz z k := ⟨_, rfl⟩
  rw [← hh]
  have HH := Lib.hid hh
  clear hh
  go_enter Try.func123, Try.ntmps123
  go_wp2_with fail
  refine (hasKey_any z k _ hk).mono ?_
  rw [← HH.out]
  rintro e w0 ⟨rfl, rfl⟩
  go_wp2
  refine bodyPost_ret (v := evv t k (!h)) (by simp [results, Try.results123, go_sem]) rfl ⟨rfl, ?_⟩
  exact (Below.refl _ _).alloc (Nat.le_refl _) _
theorem changeOf_q (z : Int) (k : Nat) (t : Int) (v : Bool) (hv : v = hz z k) (hk : k < 62) (w : World) : Calls Try.prog 123 #[.int .i64 z, .int .i64 k, .int .i64 t] w fun e w' => e = .returned (evv t k (!v)) ∧ Below w.heap.size w w' := by
  rw [hv]; exact changeOf_any z k t w hk
theorem changeOf_r (z : Int) (k : Nat) (t : Int) (v : Bool) (hv : v = !hz z k) (hk : k < 62) (w : World) : Calls Try.prog 123 #[.int .i64 z, .int .i64 k, .int .i64 t] w fun e w' => e = .returned (evv t k v) ∧ Below w.heap.size w w' := by
  rw [hv]; exact changeOf_any z k t w hk

end Go.Proofs.Ytagmdkblcgnddaa
