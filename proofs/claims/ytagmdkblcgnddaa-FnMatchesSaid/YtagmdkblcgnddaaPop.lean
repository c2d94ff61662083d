/- DERIVED. How many bits of a number are set, and that adding neighbouring groups of bits tells it, for numbers below 2^24. No condition. -/
import Derived.Test.YtagmdkblcgnddaaCore
namespace Go.Proofs.Ytagmdkblcgnddaa
open Go.RowKit

/-- How many of the first n bits of a number are set. -/
def pcN (m : Nat) : Nat → Nat
  | 0 => 0
  | k + 1 => pcN m k + (m / 2 ^ k % 2)
def pc (m : Nat) : Nat := pcN m 32
theorem pcN_le (m : Nat) : ∀ n, pcN m n ≤ n
  | 0 => Nat.le_refl _
  | k + 1 => by have := pcN_le m k; rw [pcN]; omega
theorem pcN_split {a : Nat} (y k : Nat) (ha : a < 2 ^ k) : ∀ n, pcN (2 ^ k * y + a) (k + n) = pcN a k + pcN y n
  | 0 => by
    rw [Nat.add_zero, pcN, Nat.add_zero]
    have h : ∀ m, m ≤ k → pcN (2 ^ k * y + a) m = pcN a m := by
      intro m
      induction m with
      | zero => intro _; rfl
      | succ m ih =>
        intro hm
        rw [pcN, pcN, ih (by omega)]
        have e : 2 ^ k = 2 ^ m * 2 ^ (k - m) := by rw [← Nat.pow_add]; congr 1; omega
        have e2 : (2 ^ k * y + a) / 2 ^ m = a / 2 ^ m + 2 ^ (k - m) * y := by
          rw [e, Nat.mul_assoc, Nat.add_comm, Nat.add_mul_div_left _ _ (Nat.two_pow_pos m)]
        have e3 : 2 ^ (k - m) = 2 * 2 ^ (k - m - 1) := by rw [← Nat.pow_succ']; congr 1; omega
        rw [e2, e3, Nat.mul_assoc]
        omega
    exact h k (Nat.le_refl _)
  | n + 1 => by
    rw [← Nat.add_assoc, pcN, pcN_split y k ha n, pcN, Nat.pow_add, ← Nat.div_div_eq_div_mul, Nat.mul_add_div (Nat.two_pow_pos k), Nat.div_eq_of_lt ha, Nat.add_zero, Nat.add_assoc]
theorem land_digits (k x y : Nat) {a b : Nat} (ha : a < 2 ^ k) (hb : b < 2 ^ k) : (2 ^ k * x + a) &&& (2 ^ k * y + b) = 2 ^ k * (x &&& y) + (a &&& b) := by
  apply Nat.eq_of_testBit_eq
  intro i
  have hab : a &&& b < 2 ^ k := Nat.lt_of_le_of_lt Nat.and_le_left ha
  rw [Nat.testBit_and, Nat.testBit_two_pow_mul_add _ ha, Nat.testBit_two_pow_mul_add _ hb, Nat.testBit_two_pow_mul_add _ hab]
  by_cases h : i < k
  · simp [h]
  · simp [h]
theorem land8 (x y : Nat) {a b : Nat} (ha : a < 256) (hb : b < 256) : (256 * x + a) &&& (256 * y + b) = 256 * (x &&& y) + (a &&& b) := land_digits 8 x y ha hb
/-- The steps on one byte. -/
def sw1 (a : Nat) : Nat := (a / 2 &&& 85) + (a &&& 85)
def sw2 (a : Nat) : Nat := (a / 4 &&& 51) + (a &&& 51)
def sw3 (a : Nat) : Nat := (a / 16 + a) &&& 15
theorem sw_byte : ∀ a : Fin 256, sw3 (sw2 (sw1 a.val)) = pcN a.val 8 ∧ sw1 a.val < 256 ∧ sw2 (sw1 a.val) ≤ 68 ∧ sw2 (sw1 a.val) % 16 ≤ 4 := by decide +kernel
theorem sw_half : ∀ t : Fin 2, ∀ a : Fin 256, (128 * t.val + a.val / 2) &&& 85 = a.val / 2 &&& 85 := by decide +kernel
theorem sw_quart : ∀ t : Fin 4, ∀ a : Fin 256, (64 * t.val + a.val / 4) &&& 51 = a.val / 4 &&& 51 := by decide +kernel
theorem sw1_step (y M : Nat) {a : Nat} (ha : a < 256) : ((256 * y + a) / 2 &&& (256 * M + 85)) + ((256 * y + a) &&& (256 * M + 85)) = 256 * ((y / 2 &&& M) + (y &&& M)) + sw1 a := by
  have e : (256 * y + a) / 2 = 256 * (y / 2) + (128 * (y % 2) + a / 2) := by omega
  have h := sw_half ⟨y % 2, Nat.mod_lt _ (by decide)⟩ ⟨a, ha⟩
  simp only at h
  rw [e, land8 _ _ (by omega) (by decide), land8 _ _ ha (by decide), h, sw1]
  omega
theorem sw2_step (y M : Nat) {a : Nat} (ha : a < 256) : ((256 * y + a) / 4 &&& (256 * M + 51)) + ((256 * y + a) &&& (256 * M + 51)) = 256 * ((y / 4 &&& M) + (y &&& M)) + sw2 a := by
  have e : (256 * y + a) / 4 = 256 * (y / 4) + (64 * (y % 4) + a / 4) := by omega
  have h := sw_quart ⟨y % 4, Nat.mod_lt _ (by decide)⟩ ⟨a, ha⟩
  simp only at h
  rw [e, land8 _ _ (by omega) (by decide), land8 _ _ ha (by decide), h, sw2]
  omega
theorem land15 (x : Nat) : x &&& 15 = x % 16 := Nat.and_two_pow_sub_one_eq_mod x 4
theorem sw3_step (y M : Nat) {a : Nat} (ha : a ≤ 68) (hy : y % 16 ≤ 4) : ((256 * y + a) / 16 + (256 * y + a)) &&& (256 * M + 15) = 256 * ((y / 16 + y) &&& M) + sw3 a := by
  have e : (256 * y + a) / 16 + (256 * y + a) = 256 * (y / 16 + y) + (16 * (y % 16) + a / 16 + a) := by omega
  rw [e, land8 _ _ (by omega) (by decide), land15, sw3, land15]
  omega
/-- Groups of bits added: what bits.OnesCount64 reckons. -/
def sw64 (x : Nat) : Nat :=
  let x1 := (x / 2 &&& 6148914691236517205) + (x &&& 6148914691236517205)
  let x2 := (x1 / 4 &&& 3689348814741910323) + (x1 &&& 3689348814741910323)
  let x3 := (x2 / 16 + x2) &&& 1085102592571150095
  let x4 := x3 + x3 / 256
  let x5 := x4 + x4 / 65536
  let x6 := x5 + x5 / 4294967296
  x6 &&& 127
theorem sw_all {a b c : Nat} (ha : a < 256) (hb : b < 256) (hc : c < 256) :
    let x := 256 * (256 * c + b) + a
    let x1 := (x / 2 &&& 6148914691236517205) + (x &&& 6148914691236517205)
    let x2 := (x1 / 4 &&& 3689348814741910323) + (x1 &&& 3689348814741910323)
    x1 = 256 * (256 * sw1 c + sw1 b) + sw1 a ∧ x2 = 256 * (256 * sw2 (sw1 c) + sw2 (sw1 b)) + sw2 (sw1 a) ∧ (x2 / 16 + x2) &&& 1085102592571150095 = 256 * (256 * pcN c 8 + pcN b 8) + pcN a 8 := by
  obtain ⟨A1, A2, A3, A4⟩ := sw_byte ⟨a, ha⟩
  obtain ⟨B1, B2, B3, B4⟩ := sw_byte ⟨b, hb⟩
  obtain ⟨C1, C2, C3, C4⟩ := sw_byte ⟨c, hc⟩
  simp only at A1 A2 A3 A4 B1 B2 B3 B4 C1 C2 C3 C4
  have s1 : ((256 * (256 * c + b) + a) / 2 &&& 6148914691236517205) + ((256 * (256 * c + b) + a) &&& 6148914691236517205) = 256 * (256 * sw1 c + sw1 b) + sw1 a := by
    have e1 := sw1_step (256 * c + b) 24019198012642645 ha
    have e2 := sw1_step c 93824992236885 hb
    have e3 := sw1_step 0 366503875925 hc
    simp only [Nat.mul_zero, Nat.zero_add, Nat.zero_div, Nat.zero_and, Nat.add_zero, Nat.reduceMul, Nat.reduceAdd] at e1 e2 e3
    rw [e1, e2, e3]
  have s2 : ((256 * (256 * sw1 c + sw1 b) + sw1 a) / 4 &&& 3689348814741910323) + ((256 * (256 * sw1 c + sw1 b) + sw1 a) &&& 3689348814741910323) = 256 * (256 * sw2 (sw1 c) + sw2 (sw1 b)) + sw2 (sw1 a) := by
    have e1 := sw2_step (256 * sw1 c + sw1 b) 14411518807585587 A2
    have e2 := sw2_step (sw1 c) 56294995342131 B2
    have e3 := sw2_step 0 219902325555 C2
    simp only [Nat.mul_zero, Nat.zero_add, Nat.zero_div, Nat.zero_and, Nat.add_zero, Nat.reduceMul, Nat.reduceAdd] at e1 e2 e3
    rw [e1, e2, e3]
  refine ⟨s1, by rw [s1]; exact s2, ?_⟩
  show ((_ : Nat) / 16 + _) &&& 1085102592571150095 = _
  rw [s1, s2]
  have e1 := sw3_step (256 * sw2 (sw1 c) + sw2 (sw1 b)) 4238682002231055 A3 (by omega)
  have e2 := sw3_step (sw2 (sw1 c)) 16557351571215 B3 C4
  have e3 := sw3_step 0 64677154575 C3 (by decide)
  simp only [Nat.mul_zero, Nat.zero_add, Nat.zero_div, Nat.zero_and, Nat.add_zero, Nat.reduceMul, Nat.reduceAdd] at e1 e2 e3
  rw [e1, e2, e3, A1, B1, C1]
theorem three_bytes {x : Nat} (h : x < 2 ^ 24) : ∃ a b c, a < 256 ∧ b < 256 ∧ c < 256 ∧ x = 256 * (256 * c + b) + a :=
  ⟨x % 256, x / 256 % 256, x / 65536, Nat.mod_lt _ (by decide), Nat.mod_lt _ (by decide), by omega, by omega⟩
theorem pc_bytes {a b c : Nat} (ha : a < 256) (hb : b < 256) (hc : c < 256) : pc (256 * (256 * c + b) + a) = pcN c 8 + pcN b 8 + pcN a 8 := by
  have h1 := pcN_split (256 * c + b) 8 (show a < 2 ^ 8 from ha) 24
  have h2 := pcN_split c 8 (show b < 2 ^ 8 from hb) 16
  have h3 := pcN_split 0 8 (show c < 2 ^ 8 from hc) 8
  have h4 : pcN 0 8 = 0 := by decide
  rw [show 2 ^ 8 * 0 + c = c by omega, h4] at h3
  show pcN _ 32 = _
  have g1 : pcN (256 * (256 * c + b) + a) 32 = pcN a 8 + pcN (256 * c + b) 24 := h1
  have g2 : pcN (256 * c + b) 24 = pcN b 8 + pcN c 16 := h2
  have g3 : pcN c 16 = pcN c 8 + 0 := h3
  omega
theorem land127 (x : Nat) : x &&& 127 = x % 128 := Nat.and_two_pow_sub_one_eq_mod x 7
/-- What the steps leave, for a number below 2^24: each step's result, and the last one. -/
theorem sw64_pc {x : Nat} (h : x < 2 ^ 24) : sw64 x = pc x := by
  obtain ⟨a, b, c, ha, hb, hc, rfl⟩ := three_bytes h
  obtain ⟨_, _, s3⟩ := sw_all ha hb hc
  rw [pc_bytes ha hb hc, sw64]
  rw [s3, land127]
  have h1 := pcN_le a 8
  have h2 := pcN_le b 8
  have h3 := pcN_le c 8
  generalize pcN a 8 = A at h1 ⊢
  generalize pcN b 8 = B at h2 ⊢
  generalize pcN c 8 = C at h3 ⊢
  have e1 : (256 * (256 * C + B) + A) / 256 = 256 * C + B := by omega
  have e2 : (256 * (256 * C + B) + A + (256 * C + B)) / 65536 = C := by omega
  have e3 : (256 * (256 * C + B) + A + (256 * C + B) + C) / 4294967296 = 0 := by omega
  rw [e1, e2, e3]
  omega
/-- How large the results of the steps are. -/
theorem sw_small {x : Nat} (h : x < 2 ^ 24) :
    let x1 := (x / 2 &&& 6148914691236517205) + (x &&& 6148914691236517205)
    let x2 := (x1 / 4 &&& 3689348814741910323) + (x1 &&& 3689348814741910323)
    x1 < 2 ^ 24 ∧ x2 < 2 ^ 24 ∧ (x2 / 16 + x2) &&& 1085102592571150095 < 2 ^ 24 := by
  obtain ⟨a, b, c, ha, hb, hc, rfl⟩ := three_bytes h
  obtain ⟨s1, s2, s3⟩ := sw_all ha hb hc
  obtain ⟨A1, A2, A3, A4⟩ := sw_byte ⟨a, ha⟩
  obtain ⟨B1, B2, B3, B4⟩ := sw_byte ⟨b, hb⟩
  obtain ⟨C1, C2, C3, C4⟩ := sw_byte ⟨c, hc⟩
  simp only at A1 A2 A3 A4 B1 B2 B3 B4 C1 C2 C3 C4
  have h1 := pcN_le a 8
  have h2 := pcN_le b 8
  have h3 := pcN_le c 8
  refine ⟨?_, ?_, ?_⟩
  · rw [s1]; omega
  · rw [s2]; omega
  · rw [s3]; omega
theorem pc_le (m : Nat) : pc m ≤ 32 := pcN_le m 32

end Go.Proofs.Ytagmdkblcgnddaa
