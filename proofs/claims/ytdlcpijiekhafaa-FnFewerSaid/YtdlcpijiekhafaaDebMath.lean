/- DERIVED. Debouncing, key by key: what is shown follows the last stable run, changes no more often than the samples, spaced where it is eager, and comes to samples that stay. No condition. -/
import Derived.Test.YtdlcpijiekhafaaDebRun
import Derived.Test.YtdlcpijiekhafaaSeqMath
namespace Go.Proofs.Ytdlcpijiekhafaa
open Go.RowKit

theorem shownTo_bit (kind time : Int) (raw last shown : Nat) (zs : List Int) (q : Nat) : ∀ n, (shownTo kind time raw last shown zs n).testBit q = (shown.testBit q ^^ (decide (q < n) && flips kind time raw last shown (zs.getD q 0) q))
  | 0 => by simp [shownTo]
  | n + 1 => by
    have ih := shownTo_bit kind time raw last shown zs q n
    rw [shownTo]
    by_cases hq : q = n
    · subst hq
      have h1 : decide (q < q) = false := by simp
      have h2 : decide (q < q + 1) = true := by simp
      rw [h1, Bool.false_and, Bool.xor_false] at ih
      rw [h2, Bool.true_and]
      cases hf : flips kind time raw last shown (zs.getD q 0) q
      · rw [if_neg (by simp), ih]; simp
      · rw [if_pos rfl, Nat.testBit_xor, ih, Nat.testBit_two_pow]; simp
    · have h2 : decide (q < n + 1) = decide (q < n) := decide_eq_decide.mpr (by omega)
      rw [h2]
      split
      · rw [Nat.testBit_xor, ih, Nat.testBit_two_pow, show decide (n = q) = false from decide_eq_false (fun e => hq e.symm), Bool.xor_false]
      · exact ih
theorem agesTo_get (kind time : Int) (raw last shown : Nat) (zs : List Int) {n q : Nat} (h : q < n) : (agesTo kind time raw last shown zs n).getD q 0 = ageTo kind time raw last shown (zs.getD q 0) q := by
  simp [agesTo, h]

/-- One step, at one key. -/
theorem runN_key (k t n s l : Int) (zs xs : List Int) (j q : Nat) (hq : q < n.toNat) :
    (runN k t n s l zs xs (j + 1)).1.toNat.testBit q = ((runN k t n s l zs xs j).1.toNat.testBit q ^^ flips k t (xs.getD j 0).toNat (runN k t n s l zs xs j).2.1.toNat (runN k t n s l zs xs j).1.toNat ((runN k t n s l zs xs j).2.2.getD q 0) q) ∧
    (runN k t n s l zs xs (j + 1)).2.2.getD q 0 = ageTo k t (xs.getD j 0).toNat (runN k t n s l zs xs j).2.1.toNat (runN k t n s l zs xs j).1.toNat ((runN k t n s l zs xs j).2.2.getD q 0) q ∧
    (runN k t n s l zs xs (j + 1)).2.1 = xs.getD j 0 := by
  rw [runN]
  refine ⟨?_, agesTo_get _ _ _ _ _ _ hq, rfl⟩
  simp only [Int.toNat_natCast]
  rw [shownTo_bit, decide_eq_true hq, Bool.true_and]
theorem runN_last (k t n s : Int) (zs xs : List Int) (j : Nat) : (runN k t n s 0 zs xs j).2.1 = prevZ xs j := by
  cases j with
  | zero => rfl
  | succ j => rw [runN]; rfl

theorem bz_bit {z : Int} {q : Nat} (h0 : 0 ≤ z) (h1 : z < 2 ^ 62) : bz z q = if z.toNat.testBit q = true then 1 else 0 := by
  obtain ⟨m, rfl⟩ := Int.eq_ofNat_of_zero_le h0
  unfold bz
  rw [bit_nat m q (by omega)]
  simp
theorem bz_one {z : Int} {q : Nat} (h0 : 0 ≤ z) (h1 : z < 2 ^ 62) : (bz z q == 1) = z.toNat.testBit q := by
  rw [bz_bit h0 h1]; cases z.toNat.testBit q <;> rfl
theorem bz_same {y z : Int} {q : Nat} (h0 : 0 ≤ y) (h1 : y < 2 ^ 62) (h2 : 0 ≤ z) (h3 : z < 2 ^ 62) : bz y q = bz z q ↔ y.toNat.testBit q = z.toNat.testBit q := by
  rw [bz_bit h0 h1, bz_bit h2 h3]
  cases y.toNat.testBit q <;> cases z.toNat.testBit q <;> simp

/-- All numbers of a list are masks. -/
def Masks (xs : List Int) : Prop := ∀ i, 0 ≤ xs.getD i 0 ∧ xs.getD i 0 < 2 ^ 62
theorem Masks.prev {xs : List Int} (h : Masks xs) (j : Nat) : 0 ≤ prevZ xs j ∧ prevZ xs j < 2 ^ 62 := by
  cases j with
  | zero => show (0 : Int) ≤ 0 ∧ (0 : Int) < 2 ^ 62; decide
  | succ j => exact h j

/-- A key that is debounced for itself. -/
theorem stable_inv (t n : Int) (zs xs : List Int) (q : Nat) (hq : q < n.toNat) (ha : zs.getD q 0 = 99) (h1 : 1 ≤ t) (h20 : t ≤ 20) (hx : Masks xs) : ∀ j,
    (runN 0 t n 0 0 zs xs j).1.toNat.testBit q = (lsN xs t q j).2.1 ∧ ((lsN xs t q j).2.1 = true → (lsN xs t q j).2.2 = true) ∧
    ((0 < j ∧ (runN 0 t n 0 0 zs xs j).2.2.getD q 0 = min 99 ((lsN xs t q j).1 : Int)) ∨ ((runN 0 t n 0 0 zs xs j).2.2.getD q 0 = 99 ∧ (runN 0 t n 0 0 zs xs j).1.toNat.testBit q = false ∧ (prevZ xs j).toNat.testBit q = false)) := by
  intro j
  induction j with
  | zero => exact ⟨by simp [runN, lsN], by simp [lsN], .inr ⟨ha, by simp [runN], by simp [prevZ]⟩⟩
  | succ j ih =>
    obtain ⟨i1, i2, i3⟩ := ih
    obtain ⟨k1, k2, -⟩ := runN_key 0 t n 0 0 zs xs j q hq
    have hl := runN_last 0 t n 0 zs xs j
    obtain ⟨hr0, hr1⟩ := hx j
    obtain ⟨hp0, hp1⟩ := hx.prev j
    rw [k1, k2]
    have hpn : prevZ xs (j + 1) = xs.getD j 0 := rfl
    rw [hpn]
    have hls : lsN xs t q (j + 1) = if t ≤ ((if 0 < j ∧ bz (xs.getD j 0) q = bz (xs.getD (j - 1) 0) q then (lsN xs t q j).1 + 1 else 1 : Nat) : Int) then
        (if 0 < j ∧ bz (xs.getD j 0) q = bz (xs.getD (j - 1) 0) q then (lsN xs t q j).1 + 1 else 1, bz (xs.getD j 0) q == 1, true)
      else (if 0 < j ∧ bz (xs.getD j 0) q = bz (xs.getD (j - 1) 0) q then (lsN xs t q j).1 + 1 else 1, (lsN xs t q j).2.1, (lsN xs t q j).2.2) := by rw [lsN]
    have hcond : (0 < j ∧ bz (xs.getD j 0) q = bz (xs.getD (j - 1) 0) q) ↔ (0 < j ∧ (xs.getD j 0).toNat.testBit q = (prevZ xs j).toNat.testBit q) := by
      constructor
      · rintro ⟨hj, h⟩
        refine ⟨hj, ?_⟩
        obtain ⟨i, rfl⟩ : ∃ i, j = i + 1 := ⟨j - 1, by omega⟩
        exact (bz_same hr0 hr1 hp0 hp1).mp h
      · rintro ⟨hj, h⟩
        refine ⟨hj, ?_⟩
        obtain ⟨i, rfl⟩ : ∃ i, j = i + 1 := ⟨j - 1, by omega⟩
        exact (bz_same hr0 hr1 hp0 hp1).mpr h
    rw [bz_one hr0 hr1] at hls
    simp only [hcond] at hls
    rw [hls]
    unfold ageTo flips aged anew
    rw [hl]
    simp only [Nat.testBit_xor]
    generalize (lsN xs t q j) = L at *
    obtain ⟨run, v, f⟩ := L
    simp only at i1 i2 i3 ⊢
    generalize (runN 0 t n 0 0 zs xs j).1.toNat.testBit q = s at *
    generalize (runN 0 t n 0 0 zs xs j).2.2.getD q 0 = a at *
    generalize (xs.getD j 0).toNat.testBit q = b at *
    generalize (prevZ xs j).toNat.testBit q = p at *
    clear hls hcond k1 k2
    subst i1
    clear hl hr0 hr1 hp0 hp1 hpn ha hx hq
    by_cases hj : 0 < j
    · cases b <;> cases p <;> cases s <;> simp_all <;> (try split) <;> (try simp_all) <;> (try omega)
    · cases b <;> cases p <;> cases s <;> simp_all <;> (try split) <;> (try simp_all) <;> (try omega)

theorem ccN_par (zs : List Int) (q j : Nat) : (ccN zs q j).1 = ((ccN zs q j).2 : Int) % 2 := by
  induction j with
  | zero => rfl
  | succ j ih =>
    have h := (ccN_bd zs q j).1
    rw [ccN]
    split
    · exact ih
    · show 1 - (ccN zs q j).1 = (((ccN zs q j).2 + 1 : Nat) : Int) % 2
      omega
theorem ccN_up (zs : List Int) (q j : Nat) : (ccN zs q j).2 ≤ (ccN zs q (j + 1)).2 ∧ (ccN zs q (j + 1)).2 ≤ (ccN zs q j).2 + 1 := by
  rw [ccN]
  split
  · omega
  · show (ccN zs q j).2 ≤ (ccN zs q j).2 + 1 ∧ (ccN zs q j).2 + 1 ≤ (ccN zs q j).2 + 1
    omega
theorem ccN_now (zs : List Int) (q j : Nat) : (ccN zs q (j + 1)).1 = bz (zs.getD j 0) q := ccN_prev zs q (j + 1)
theorem runShown_get (k t n s l : Int) (zs xs : List Int) {m j : Nat} (h : j < m) : (runShown k t n s l zs xs m).getD j 0 = (runN k t n s l zs xs (j + 1)).1 := by
  simp [runShown, h]
theorem runShown_prev (k t n l : Int) (zs xs : List Int) {m j : Nat} (h : j ≤ m) : prevZ (runShown k t n 0 l zs xs m) j = (runN k t n 0 l zs xs j).1 := by
  cases j with
  | zero => rfl
  | succ j => exact runShown_get k t n 0 l zs xs h

/-- What is shown is a mask, step by step. -/
def Shown (k t n : Int) (zs xs : List Int) (m : Nat) : Prop := ∀ j, j ≤ m → 0 ≤ (runN k t n 0 0 zs xs j).1 ∧ (runN k t n 0 0 zs xs j).1 < 2 ^ 62
/-- A change that is shown at step j: by the step's own rule, and to the sample's bit. -/
theorem shown_change {k t n : Int} {zs xs : List Int} {q j m : Nat} (hq : q < n.toNat) (hs : Shown k t n zs xs m) (hj : j < m) :
    (bz ((runShown k t n 0 0 zs xs m).getD j 0) q = bz (prevZ (runShown k t n 0 0 zs xs m) j) q ↔ flips k t (xs.getD j 0).toNat (runN k t n 0 0 zs xs j).2.1.toNat (runN k t n 0 0 zs xs j).1.toNat ((runN k t n 0 0 zs xs j).2.2.getD q 0) q = false) := by
  rw [runShown_get _ _ _ _ _ _ _ hj, runShown_prev _ _ _ _ _ _ (Nat.le_of_lt hj)]
  obtain ⟨a0, a1⟩ := hs (j + 1) hj
  obtain ⟨b0, b1⟩ := hs j (Nat.le_of_lt hj)
  rw [bz_same a0 a1 b0 b1, (runN_key k t n 0 0 zs xs j q hq).1]
  generalize flips k t (xs.getD j 0).toNat (runN k t n 0 0 zs xs j).2.1.toNat (runN k t n 0 0 zs xs j).1.toNat ((runN k t n 0 0 zs xs j).2.2.getD q 0) q = f
  generalize (runN k t n 0 0 zs xs j).1.toNat.testBit q = s
  cases f <;> cases s <;> simp
theorem shown_to {k t n : Int} {zs xs : List Int} {q j m : Nat} (hq : q < n.toNat) (hs : Shown k t n zs xs m) (hj : j < m) (hx : Masks xs)
    (hf : flips k t (xs.getD j 0).toNat (runN k t n 0 0 zs xs j).2.1.toNat (runN k t n 0 0 zs xs j).1.toNat ((runN k t n 0 0 zs xs j).2.2.getD q 0) q = true) :
    bz ((runShown k t n 0 0 zs xs m).getD j 0) q = bz (xs.getD j 0) q := by
  rw [runShown_get _ _ _ _ _ _ _ hj]
  obtain ⟨a0, a1⟩ := hs (j + 1) hj
  obtain ⟨c0, c1⟩ := hx j
  rw [bz_same a0 a1 c0 c1, (runN_key k t n 0 0 zs xs j q hq).1, hf]
  unfold flips at hf
  rw [Bool.and_eq_true, Nat.testBit_xor] at hf
  have := hf.2
  generalize (runN k t n 0 0 zs xs j).1.toNat.testBit q = s at *
  generalize (xs.getD j 0).toNat.testBit q = b at *
  cases s <;> cases b <;> simp_all
theorem fewer_inv {k t n : Int} {zs xs : List Int} {q m : Nat} (hq : q < n.toNat) (hs : Shown k t n zs xs m) (hx : Masks xs) : ∀ j, j ≤ m → (ccN (runShown k t n 0 0 zs xs m) q j).2 ≤ (ccN xs q j).2 := by
  intro j
  induction j with
  | zero => intro _; exact Nat.le_refl _
  | succ j ih =>
    intro hj
    have ih := ih (by omega)
    have hup := ccN_up xs q j
    have hch := shown_change hq hs (show j < m by omega)
    by_cases hb : bz ((runShown k t n 0 0 zs xs m).getD j 0) q = bz (prevZ (runShown k t n 0 0 zs xs m) j) q
    · rw [ccN, if_pos (by rw [hb, ccN_prev])]
      omega
    · have hf : flips k t (xs.getD j 0).toNat (runN k t n 0 0 zs xs j).2.1.toNat (runN k t n 0 0 zs xs j).1.toNat ((runN k t n 0 0 zs xs j).2.2.getD q 0) q = true := by
        by_cases h : flips k t (xs.getD j 0).toNat (runN k t n 0 0 zs xs j).2.1.toNat (runN k t n 0 0 zs xs j).1.toNat ((runN k t n 0 0 zs xs j).2.2.getD q 0) q = true
        · exact h
        · exact absurd (hch.mpr (by simpa using h)) hb
      have hto := shown_to hq hs (show j < m by omega) hx hf
      have h1 := ccN_now (runShown k t n 0 0 zs xs m) q j
      have h2 := ccN_now xs q j
      have h3 := ccN_par (runShown k t n 0 0 zs xs m) q (j + 1)
      have h4 := ccN_par xs q (j + 1)
      have h5 := ccN_up (runShown k t n 0 0 zs xs m) q j
      omega
theorem eager_inv {t n : Int} {zs xs : List Int} {q m : Nat} (hq : q < n.toNat) (hs : Shown 2 t n zs xs m) : ∀ j, j ≤ m →
    SpacedI (chN (runShown 2 t n 0 0 zs xs m) q j) t ∧ (chN (runShown 2 t n 0 0 zs xs m) q j ≠ [] → (runN 2 t n 0 0 zs xs j).2.2.getD q 0 ≤ (j : Int) - 1 - lastI (chN (runShown 2 t n 0 0 zs xs m) q j)) := by
  intro j
  induction j with
  | zero => intro _; exact ⟨spacedI_nil t, fun h => absurd rfl h⟩
  | succ j ih =>
    intro hj
    obtain ⟨i1, i2⟩ := ih (by omega)
    have hch := shown_change hq hs (show j < m by omega)
    obtain ⟨-, k2, -⟩ := runN_key 2 t n 0 0 zs xs j q hq
    rw [k2]
    by_cases hb : bz ((runShown 2 t n 0 0 zs xs m).getD j 0) q = bz (prevZ (runShown 2 t n 0 0 zs xs m) j) q
    · have hf := hch.mp hb
      rw [chN, if_pos hb]
      refine ⟨i1, fun hne => ?_⟩
      have := i2 hne
      unfold ageTo
      rw [hf, Bool.false_and, if_neg (by simp)]
      unfold aged anew
      simp only [show ((2 : Int) == 0) = false from rfl, show ((2 : Int) == 1) = false from rfl, Bool.false_and, Bool.or_false]
      rw [if_neg (by simp)]
      omega
    · have hf : flips 2 t (xs.getD j 0).toNat (runN 2 t n 0 0 zs xs j).2.1.toNat (runN 2 t n 0 0 zs xs j).1.toNat ((runN 2 t n 0 0 zs xs j).2.2.getD q 0) q = true := by
        by_cases h : flips 2 t (xs.getD j 0).toNat (runN 2 t n 0 0 zs xs j).2.1.toNat (runN 2 t n 0 0 zs xs j).1.toNat ((runN 2 t n 0 0 zs xs j).2.2.getD q 0) q = true
        · exact h
        · exact absurd (hch.mpr (by simpa using h)) hb
      rw [chN, if_neg hb]
      have hage : ageTo 2 t (xs.getD j 0).toNat (runN 2 t n 0 0 zs xs j).2.1.toNat (runN 2 t n 0 0 zs xs j).1.toNat ((runN 2 t n 0 0 zs xs j).2.2.getD q 0) q = 0 := by
        unfold ageTo
        rw [hf]; rfl
      rw [hage]
      refine ⟨?_, fun _ => by rw [lastI_snoc]; omega⟩
      by_cases hc : chN (runShown 2 t n 0 0 zs xs m) q j = []
      · rw [hc]; exact spacedI_one _ _
      · rw [spacedI_snoc hc]
        refine ⟨i1, ?_⟩
        have h2 := i2 hc
        unfold flips at hf
        rw [Bool.and_eq_true] at hf
        have h3 := of_decide_eq_true hf.1
        unfold aged anew at h3
        simp only [show ((2 : Int) == 0) = false from rfl, show ((2 : Int) == 1) = false from rfl, Bool.false_and, Bool.or_false] at h3
        rw [if_neg (by simp)] at h3
        omega

theorem rep_get {T j : Nat} {raw : Int} (h : j < T) : (List.replicate T raw).getD j 0 = raw := by simp [h]
/-- Samples that stay are shown when they have stayed for as long as the debouncer waits. -/
theorem steady_inv {k t n s l raw : Int} {zs : List Int} {q T : Nat} (hq : q < n.toNat) (hT : (T : Int) = t) (h20 : t ≤ 20) (h0 : 0 ≤ zs.getD q 0) : ∀ i, i ≤ T →
    ((runN k t n s l zs (List.replicate T raw) i).1.toNat.testBit q = raw.toNat.testBit q ∨ ((i : Int) ≤ (runN k t n s l zs (List.replicate T raw) i).2.2.getD q 0 ∧ (i < T ∨ T = 0))) ∧
    (0 < i → (runN k t n s l zs (List.replicate T raw) i).2.1 = raw) := by
  intro i
  induction i with
  | zero => intro _; exact ⟨.inr ⟨by simpa [runN] using h0, by omega⟩, fun h => by omega⟩
  | succ i ih =>
    intro hi
    obtain ⟨i1, i2⟩ := ih (by omega)
    obtain ⟨k1, k2, k3⟩ := runN_key k t n s l zs (List.replicate T raw) i q hq
    rw [rep_get (show i < T by omega)] at k1 k2 k3
    refine ⟨?_, fun _ => k3⟩
    rw [k1, k2]
    have hnew : 0 < i → anew k raw.toNat (runN k t n s l zs (List.replicate T raw) i).2.1.toNat q = false := fun h => by
      rw [i2 h]; unfold anew; simp
    clear k1 k2 k3 i2
    unfold ageTo flips
    rw [Nat.testBit_xor]
    have hag : (i : Int) ≤ (runN k t n s l zs (List.replicate T raw) i).2.2.getD q 0 → ((i + 1 : Nat) : Int) ≤ aged k raw.toNat (runN k t n s l zs (List.replicate T raw) i).2.1.toNat ((runN k t n s l zs (List.replicate T raw) i).2.2.getD q 0) q := fun h => by
      unfold aged
      by_cases hi0 : 0 < i
      · rw [hnew hi0, if_neg (by simp)]; omega
      · split <;> omega
    generalize aged k raw.toNat (runN k t n s l zs (List.replicate T raw) i).2.1.toNat ((runN k t n s l zs (List.replicate T raw) i).2.2.getD q 0) q = ag at *
    generalize (runN k t n s l zs (List.replicate T raw) i).2.2.getD q 0 = a at *
    generalize (runN k t n s l zs (List.replicate T raw) i).1.toNat.testBit q = sh at *
    generalize raw.toNat.testBit q = b at *
    clear hnew
    by_cases hsb : sh = b
    · subst hsb; left; simp
    · have h1 : (i : Int) ≤ a := by rcases i1 with h | h; exact absurd h hsb; exact h.1
      have h2 := hag h1
      have hx : (b ^^ sh) = true := by cases b <;> cases sh <;> simp_all
      rw [hx, Bool.and_true]
      by_cases ht : t ≤ ag
      · left; rw [decide_eq_true ht]; cases b <;> cases sh <;> simp_all
      · right
        rw [decide_eq_false ht, Bool.false_and, if_neg (by simp)]
        exact ⟨h2, by omega⟩

end Go.Proofs.Ytdlcpijiekhafaa
