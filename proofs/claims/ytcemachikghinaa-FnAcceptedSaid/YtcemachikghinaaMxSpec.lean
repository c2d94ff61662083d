/- DERIVED. The reference's functions of chapter 2, each called with any matrix and any numbers: it returns what a plain function says. -/
import Derived.Test.YtcemachikghinaaMxRead
import Derived.Test.YtcemachikghinaaBits
namespace Go.Proofs.Ytcemachikghinaa
open Go.RowKit

theorem okMask_nat {R C x : Int} (h : okMask R C x = true) : ∃ r c m : Nat, R = r ∧ C = c ∧ x = m ∧ 1 ≤ r ∧ r ≤ 4 ∧ 1 ≤ c ∧ c ≤ 6 ∧ m < 2 ^ (r * c) := by
  unfold okMask at h
  rw [Bool.and_eq_true, okM_iff, decide_eq_true_eq] at h
  obtain ⟨⟨⟨a, b⟩, c, d⟩, e, f⟩ := h
  obtain ⟨r, rfl⟩ := Int.eq_ofNat_of_zero_le (show 0 ≤ R by omega)
  obtain ⟨k, rfl⟩ := Int.eq_ofNat_of_zero_le (show 0 ≤ C by omega)
  obtain ⟨m, rfl⟩ := Int.eq_ofNat_of_zero_le e
  have hk : keysM (r : Int) (k : Int) = ((r * k : Nat) : Int) := by
    unfold keysM
    rw [if_pos ((okM_iff _ _).mpr ⟨⟨a, b⟩, c, d⟩)]
    simp
  rw [hk] at f
  refine ⟨r, k, m, rfl, rfl, rfl, by omega, by omega, by omega, by omega, ?_⟩
  have e : ((2 ^ (r * k) : Nat) : Int) = (2 : Int) ^ (r * k) := by simp
  simp only [Int.toNat_natCast] at f
  omega
theorem okMask_mk {r c m : Nat} (h1 : 1 ≤ r) (h2 : r ≤ 4) (h3 : 1 ≤ c) (h4 : c ≤ 6) (h : m < 2 ^ (r * c)) : okMask r c m = true := by
  have ho : okM r c = true := (okM_iff _ _).mpr ⟨⟨by omega, by omega⟩, by omega, by omega⟩
  unfold okMask
  rw [ho, Bool.true_and, decide_eq_true_eq]
  have hk : keysM (r : Int) (c : Int) = ((r * c : Nat) : Int) := by
    unfold keysM
    rw [if_pos ho]
    simp
  rw [hk]
  have e : ((2 ^ (r * c) : Nat) : Int) = (2 : Int) ^ (r * c) := by simp
  simp only [Int.toNat_natCast]
  omega
theorem keysM_nat {r c : Nat} (h1 : 1 ≤ r) (h2 : r ≤ 4) (h3 : 1 ≤ c) (h4 : c ≤ 6) : keysM r c = ((r * c : Nat) : Int) := by
  have ho : okM r c = true := (okM_iff _ _).mpr ⟨⟨by omega, by omega⟩, by omega, by omega⟩
  unfold keysM
  rw [if_pos ho]
  simp

/-- What is read of a mask that came in; 0 where it is none. -/
def readV (R C : Int) (D : Bool) (x : Int) : Int := if okMask R C x = true then (readM R.toNat C.toNat D x.toNat : Int) else 0
theorem readV_nat {r c m : Nat} (D : Bool) (h : okMask r c m = true) : readV r c D m = (readM r c D m : Int) := by
  unfold readV
  rw [if_pos h]
  simp

theorem specReadMatrix_any (R C : Int) (D : Bool) (x : Int) (w : World) : Calls Try.prog 29 #[mx R C D, .int .i64 x] w fun e w' => e = .returned (.tuple #[.int .i64 (readV R C D x), .bool (okMask R C x)]) ∧ Below w.heap.size w w' := by
  obtain ⟨ok, hok⟩ : ∃ ok, ok = okMask R C x := ⟨_, rfl⟩
  obtain ⟨v, hv⟩ : ∃ v, v = readV R C D x := ⟨_, rfl⟩
  rw [← hok, ← hv]
  cases ok
  · have hv0 : v = 0 := by rw [hv, readV, ← hok]; rfl
    subst hv0
    have HO := Lib.hid hok
    clear hok hv
    go_enter Try.func29, Try.ntmps29
    go_wp2_with fail
    refine (specIsMask_any R C D x _).mono ?_
    rw [← HO.out]
    rintro e w1 ⟨rfl, hb⟩
    have HB := Lib.hid (box_below hb)
    clear hb
    go_wp2
    go_ret2
    exact ⟨rfl, HB.out⟩
  · obtain ⟨r, c, m, rfl, rfl, rfl, h1, h2, h3, h4, hm⟩ := okMask_nat hok.symm
    rw [readV_nat D hok.symm] at hv
    have HO := Lib.hid hok
    have HV := Lib.hid hv
    have HM := Lib.hid hm
    clear hok hv hm
    go_enter Try.func29, Try.ntmps29
    go_wp2_with fail
    refine (specIsMask_any r c D m _).mono ?_
    rw [← HO.out]
    rintro e w1 ⟨rfl, hb⟩
    obtain ⟨c0, c1, c2⟩ := box_cells w _ _ _ _ hb
    have HB := Lib.hid (box_below hb)
    clear hb
    go_wp2_with fail
    refine (l2Read_any r c m D _ h1 h2 h4 HM.out).mono ?_
    rw [← HV.out]
    rintro e w2 ⟨rfl, hb⟩
    have HB2 := Lib.hid (HB.out.trans (hb.mono HB.out.size))
    clear hb
    go_wp2
    go_ret2
    exact ⟨rfl, HB2.out⟩

/-- The keys that are read and not pressed. -/
def ghostV (R C : Int) (D : Bool) (x : Int) : Int := if okMask R C x = true then (dif (readM R.toNat C.toNat D x.toNat) x.toNat : Int) else 0
theorem ghostV_nat {r c m : Nat} (D : Bool) (h : okMask r c m = true) : ghostV r c D m = (dif (readM r c D m) m : Int) := by
  unfold ghostV
  rw [if_pos h]
  simp
theorem lt62 {r c m : Nat} (hr : r ≤ 4) (hc : c ≤ 6) (h : m < 2 ^ (r * c)) : m < 2 ^ 62 := by have := top24 hc hr; omega

theorem specGhostsOf_any (R C : Int) (D : Bool) (x : Int) (w : World) : Calls Try.prog 30 #[mx R C D, .int .i64 x] w fun e w' => e = .returned (.tuple #[.int .i64 (ghostV R C D x), .bool (okMask R C x)]) ∧ Below w.heap.size w w' := by
  obtain ⟨ok, hok⟩ : ∃ ok, ok = okMask R C x := ⟨_, rfl⟩
  obtain ⟨v, hv⟩ : ∃ v, v = ghostV R C D x := ⟨_, rfl⟩
  rw [← hok, ← hv]
  cases ok
  · have hv0 : v = 0 := by rw [hv, ghostV, ← hok]; rfl
    subst hv0
    have HO := Lib.hid hok
    clear hok hv
    go_enter Try.func30, Try.ntmps30
    go_wp2_with fail
    refine (specReadMatrix_any R C D x _).mono ?_
    rw [← HO.out]
    rintro e w1 ⟨rfl, hb⟩
    have HB := Lib.hid (box_below hb)
    clear hb
    go_wp2
    go_ret2
    exact ⟨rfl, HB.out⟩
  · obtain ⟨r, c, m, rfl, rfl, rfl, h1, h2, h3, h4, hm⟩ := okMask_nat hok.symm
    rw [ghostV_nat D hok.symm] at hv
    have hrv := readV_nat D hok.symm
    have hd := dif_nat (readM r c D m) m (lt62 h2 h4 (readM_lt D hm)) (lt62 h2 h4 hm)
    rw [← hv] at hd
    have HO := Lib.hid hok
    have HV := Lib.hid hv
    have HR := Lib.hid hrv
    clear hok hv hm hrv
    go_enter Try.func30, Try.ntmps30
    go_wp2_with fail
    refine (specReadMatrix_any r c D m _).mono ?_
    rw [← HO.out, HR.out]
    rintro e w1 ⟨rfl, hb⟩
    have HB := Lib.hid (box_below hb)
    clear hb
    go_wp2
    go_ret2
    exact ⟨rfl, HB.out⟩

/-- Is a mask a reading? -/
def readB (R C : Int) (D : Bool) (x : Int) : Bool := okMask R C x && decide (readV R C D x = x)

theorem specIsReading_any (R C : Int) (D : Bool) (x : Int) (w : World) : Calls Try.prog 31 #[mx R C D, .int .i64 x] w fun e w' => e = .returned (.bool (readB R C D x)) ∧ Below w.heap.size w w' := by
  obtain ⟨ok, hok⟩ : ∃ ok, ok = okMask R C x := ⟨_, rfl⟩
  obtain ⟨v, hv⟩ : ∃ v, v = readB R C D x := ⟨_, rfl⟩
  rw [← hv]
  cases ok
  · have hv0 : v = false := by rw [hv, readB, ← hok]; rfl
    subst hv0
    have HO := Lib.hid hok
    clear hok hv
    go_enter Try.func31, Try.ntmps31
    go_wp2_with fail
    refine (specIsMask_any R C D x _).mono ?_
    rw [← HO.out]
    rintro e w1 ⟨rfl, hb⟩
    have HB := Lib.hid (box_below hb)
    clear hb
    go_wp2
    go_ret
    exact ⟨rfl, HB.out⟩
  · obtain ⟨r, c, m, rfl, rfl, rfl, h1, h2, h3, h4, hm⟩ := okMask_nat hok.symm
    have hv1 : v = ((readM r c D m : Int) == (m : Int)) := by rw [hv, readB, ← hok, readV_nat D hok.symm, Bool.true_and]; exact Bool.eq_iff_iff.mpr (by rw [decide_eq_true_eq, beq_iff_eq])
    have HO := Lib.hid hok
    have HV := Lib.hid hv1
    have HM := Lib.hid hm
    clear hok hv hm hv1
    go_enter Try.func31, Try.ntmps31
    go_wp2_with fail
    refine (specIsMask_any r c D m _).mono ?_
    rw [← HO.out]
    rintro e w1 ⟨rfl, hb⟩
    obtain ⟨c0, c1, c2⟩ := box_cells w _ _ _ _ hb
    have HB := Lib.hid (box_below hb)
    clear hb
    go_wp2_with fail
    refine (l2Read_any r c m D _ h1 h2 h4 HM.out).mono ?_
    rintro e w2 ⟨rfl, hb⟩
    have HB2 := Lib.hid (HB.out.trans (hb.mono HB.out.size))
    clear hb
    go_wp2
    go_ret
    exact ⟨ret_bool HV.out.symm, HB2.out⟩
end Go.Proofs.Ytcemachikghinaa
