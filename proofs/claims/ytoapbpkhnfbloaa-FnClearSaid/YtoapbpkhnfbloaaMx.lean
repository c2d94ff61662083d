/- DERIVED. The reference's functions of chapter 2 on matrices by value: each returns what a plain function says. Called with any matrix. -/
import Derived.Test.YtoapbpkhnfbloaaBase
import Derived.Test.YtoapbpkhnfbloaaProg
import Derived.Deep.RegionHeld3
import Derived.WalkSmall
import Derived.Test.YtoapbpkhnfbloaaMxPure
namespace Go.Proofs.Ytoapbpkhnfbloaa
open Go.RowKit

theorem l1In_any (x a b : Int) (w : World) : Calls Try.prog 26 #[.int .i64 x, .int .i64 a, .int .i64 b] w fun e w' => e = .returned (.bool (decide (a ≤ x ∧ x ≤ b))) ∧ w = w' := by
  by_cases h1 : a ≤ x
  · by_cases h2 : x ≤ b
    · rw [decide_eq_true ⟨h1, h2⟩]
      go_enter Try.func26, Try.ntmps26
      go_wp2
      go_ret
      exact ⟨rfl, rfl⟩
    · rw [decide_eq_false (fun h => h2 h.2)]
      go_enter Try.func26, Try.ntmps26
      go_wp2
      go_ret
      exact ⟨rfl, rfl⟩
  · rw [decide_eq_false (fun h => h1 h.1)]
    go_enter Try.func26, Try.ntmps26
    go_wp2
    go_ret
    exact ⟨rfl, rfl⟩

abbrev mx (R C : Int) (D : Bool) : Value := .agg #[.int .i64 R, .int .i64 C, .bool D]
def okM (R C : Int) : Bool := decide (1 ≤ R ∧ R ≤ 4) && decide (1 ≤ C ∧ C ≤ 6)
theorem okM_iff (R C : Int) : okM R C = true ↔ (1 ≤ R ∧ R ≤ 4) ∧ 1 ≤ C ∧ C ≤ 6 := by simp [okM]

theorem specIsMatrix_any (R C : Int) (D : Bool) (w : World) : Calls Try.prog 25 #[mx R C D] w fun e w' => e = .returned (.bool (okM R C)) ∧ Below w.heap.size w w' := by
  obtain ⟨p, hp⟩ : ∃ p, p = decide (1 ≤ R ∧ R ≤ 4) := ⟨_, rfl⟩
  obtain ⟨q, hq⟩ : ∃ q, q = decide (1 ≤ C ∧ C ≤ 6) := ⟨_, rfl⟩
  have hv : okM R C = (p && q) := by rw [okM, hp, hq]
  rw [hv]
  have HP := Lib.hid hp
  have HQ := Lib.hid hq
  clear hp hq hv
  cases p
  · go_enter Try.func25, Try.ntmps25
    go_wp2_with fail
    refine (l1In_any R 1 4 _).mono ?_
    rw [← HP.out]
    rintro e w1 ⟨rfl, rfl⟩
    go_wp2
    go_ret
    exact ⟨rfl, (Below.refl _ _).alloc (Nat.le_refl _) _⟩
  · go_enter Try.func25, Try.ntmps25
    go_wp2_with fail
    refine (l1In_any R 1 4 _).mono ?_
    rw [← HP.out]
    rintro e w1 ⟨rfl, rfl⟩
    go_wp2_with fail
    refine (l1In_any C 1 6 _).mono ?_
    rw [← HQ.out]
    rintro e w1 ⟨rfl, rfl⟩
    go_wp2
    go_ret
    exact ⟨rfl, (Below.refl _ _).alloc (Nat.le_refl _) _⟩

/-- The number of keys; 0 for a matrix that is none. -/
def keysM (R C : Int) : Int := if okM R C = true then R * C else 0
theorem keysM_bound (R C : Int) : 0 ≤ keysM R C ∧ keysM R C ≤ 24 := by
  unfold keysM
  split
  · rename_i h
    obtain ⟨⟨a, b⟩, c, d⟩ := (okM_iff R C).mp h
    have h1 : R * C ≤ 4 * 6 := Int.mul_le_mul b d (by omega) (by omega)
    have h2 : 0 ≤ R * C := Int.mul_nonneg (by omega) (by omega)
    omega
  · omega

theorem specKeyCount_any (R C : Int) (D : Bool) (w : World) : Calls Try.prog 22 #[mx R C D] w fun e w' => e = .returned (.int .i64 (keysM R C)) ∧ Below w.heap.size w w' := by
  obtain ⟨ok, hok⟩ : ∃ ok, ok = okM R C := ⟨_, rfl⟩
  have hk : keysM R C = if ok = true then R * C else 0 := by rw [keysM, hok]
  rw [hk]
  have hb := keysM_bound R C
  rw [hk] at hb
  have HO := Lib.hid hok
  clear hok hk
  cases ok
  · clear hb
    go_enter Try.func22, Try.ntmps22
    go_wp2_with fail
    refine (specIsMatrix_any R C D _).mono ?_
    rw [← HO.out]
    rintro e w1 ⟨rfl, hb1⟩
    have HB := Lib.hid ((((Below.refl _ _).alloc (Nat.le_refl _) _).trans (hb1.mono (by simp)) : Below w.heap.size w w1))
    clear hb1
    go_wp2
    go_ret
    exact ⟨rfl, HB.out⟩
  · simp only [if_true] at hb ⊢
    obtain ⟨hb0, hb1⟩ := hb
    go_enter Try.func22, Try.ntmps22
    go_wp2_with fail
    refine (specIsMatrix_any R C D _).mono ?_
    rw [← HO.out]
    rintro e w1 ⟨rfl, hbw⟩
    have c0 : w1.cell? ⟨w.heap.size, 0, none⟩ = some (.int .i64 R) := by rw [hbw.cell (p := ⟨w.heap.size, 0, none⟩) (by simp), World.cell?_alloc_at _ _ _ _ rfl]; rfl
    have c1 : w1.cell? ⟨w.heap.size, 1, none⟩ = some (.int .i64 C) := by rw [hbw.cell (p := ⟨w.heap.size, 1, none⟩) (by simp), World.cell?_alloc_at _ _ _ _ rfl]; rfl
    have HB := Lib.hid ((((Below.refl _ _).alloc (Nat.le_refl _) _).trans (hbw.mono (by simp)) : Below w.heap.size w w1))
    clear hbw
    go_wp2
    go_ret
    exact ⟨rfl, HB.out⟩

/-- The box that a matrix parameter lies in. -/
theorem box_cells (w : World) (v0 v1 v2 : Value) (t : TypeId) {w1 : World} (h : Below (w.alloc (.cells #[v0, v1, v2] t)).heap.size (w.alloc (.cells #[v0, v1, v2] t)) w1) :
    w1.cell? ⟨w.heap.size, 0, none⟩ = some v0 ∧ w1.cell? ⟨w.heap.size, 1, none⟩ = some v1 ∧ w1.cell? ⟨w.heap.size, 2, none⟩ = some v2 := by
  refine ⟨?_, ?_, ?_⟩
  · rw [h.cell (p := ⟨w.heap.size, 0, none⟩) (by simp), World.cell?_alloc_at _ _ _ _ rfl]; rfl
  · rw [h.cell (p := ⟨w.heap.size, 1, none⟩) (by simp), World.cell?_alloc_at _ _ _ _ rfl]; rfl
  · rw [h.cell (p := ⟨w.heap.size, 2, none⟩) (by simp), World.cell?_alloc_at _ _ _ _ rfl]; rfl
theorem box_below {w w1 : World} {o : Obj} (h : Below (w.alloc o).heap.size (w.alloc o) w1) : Below w.heap.size w w1 :=
  ((Below.refl _ _).alloc (Nat.le_refl _) _).trans (h.mono (by simp))

theorem pow_top {n : Nat} (h : n ≤ 24) : 1 ≤ (2 : Int) ^ n ∧ (2 : Int) ^ n ≤ 16777216 := by
  have h1 : 2 ^ n ≤ 2 ^ 24 := Nat.pow_le_pow_right (by omega) h
  have h2 : 0 < 2 ^ n := Nat.pow_pos (by omega)
  have e : ((2 ^ n : Nat) : Int) = (2 : Int) ^ n := by rw [Int.natCast_pow]; rfl
  omega
theorem wrap_pow {n : Nat} (h : n ≤ 24) : wrap64 ((2 : Int) ^ n) = 2 ^ n := by
  have := pow_top h
  exact IntWalk.wrap64_in _ ⟨by omega, by omega⟩
theorem wrap_top {n : Nat} (h : n ≤ 24) : wrap64 (wrap64 ((2 : Int) ^ n) - 1) = 2 ^ n - 1 := by
  have := pow_top h
  rw [wrap_pow h]
  exact IntWalk.wrap64_in _ ⟨by omega, by omega⟩

def okMask (R C x : Int) : Bool := okM R C && decide (0 ≤ x ∧ x ≤ 2 ^ (keysM R C).toNat - 1)

theorem i64_wraps (n : Int) (h₀ : 0 ≤ n) (h₁ : n < 2 ^ 62) : IntKind.i64.wrap n = n := IntWalk.i64_in _ ⟨by omega, by omega⟩
/-- The key's bit operations on what lies below 2^62. -/
theorem and_n (a b : Nat) (ha : a < 2 ^ 62) (hb : b < 2 ^ 62) : bits .and .i64 (a : Int) (b : Int) = ((a &&& b : Nat) : Int) := (bits_nat .i64 62 (by decide) i64_wraps a b ha hb).1
theorem or_n (a b : Nat) (ha : a < 2 ^ 62) (hb : b < 2 ^ 62) : bits .or .i64 (a : Int) (b : Int) = ((a ||| b : Nat) : Int) := (bits_nat .i64 62 (by decide) i64_wraps a b ha hb).2
theorem row_bits (C m r : Nat) (hC : C ≤ 6) (hm : m < 16777216) : bits .and .i64 ((m : Int) / 2 ^ (r * C)) (2 ^ C - 1) = (rowOf C m r : Int) := by
  have h1 : ((m : Int) / 2 ^ (r * C)) = ((m / 2 ^ (r * C) : Nat) : Int) := by simp
  have h2 : m / 2 ^ (r * C) ≤ m := Nat.div_le_self _ _
  rw [h1, bits_mask .i64 62 (by decide) i64_wraps C (by omega) _ (Int.natCast_nonneg _) (by have : ((m / 2 ^ (r * C) : Nat) : Int) ≤ (m : Int) := Int.ofNat_le.mpr h2; omega), rowOf]
  simp

/-- The box of a matrix lies at block b. -/
def Boxed (w : World) (b : Nat) (R C : Int) (D : Bool) : Prop := w.cell? ⟨b, 0, none⟩ = some (.int .i64 R) ∧ w.cell? ⟨b, 1, none⟩ = some (.int .i64 C) ∧ w.cell? ⟨b, 2, none⟩ = some (.bool D)
theorem boxed_new (w : World) (R C : Int) (D : Bool) (t : TypeId) : Boxed (w.alloc (.cells #[.int .i64 R, .int .i64 C, .bool D] t)) w.heap.size R C D :=
  box_cells w _ _ _ t (Below.refl _ _)
theorem Boxed.below {w w' : World} {b B : Nat} {R C : Int} {D : Bool} (h : Boxed w b R C D) (hb : Below B w w') (hB : b < B) : Boxed w' b R C D := by
  obtain ⟨h0, h1, h2⟩ := h
  refine ⟨?_, ?_, ?_⟩
  · rw [hb.cell (p := ⟨b, 0, none⟩) hB]; exact h0
  · rw [hb.cell (p := ⟨b, 1, none⟩) hB]; exact h1
  · rw [hb.cell (p := ⟨b, 2, none⟩) hB]; exact h2


end Go.Proofs.Ytoapbpkhnfbloaa
