/- DERIVED. What is read of a report's boot bytes and of its bits is the report. -/
import Derived.Test.YtghijkpcmamebaaDoorRpSpec5
import Derived.Test.YtghijkpcmamebaaDoorRpSpec
namespace Go.Proofs.YtghijkpcmamebaaDoor
open Go.RowKit

theorem asc_eq : ∀ (a b : List Int), a.Pairwise (· < ·) → b.Pairwise (· < ·) → (∀ x, x ∈ a ↔ x ∈ b) → a = b
  | [], [], _, _, _ => rfl
  | [], y :: b, _, _, h => absurd ((h y).2 (List.mem_cons_self ..)) (by simp)
  | x :: a, [], _, _, h => absurd ((h x).1 (List.mem_cons_self ..)) (by simp)
  | x :: a, y :: b, ha, hb, h => by
    rw [List.pairwise_cons] at ha hb
    have hxy : x = y := by
      rcases List.mem_cons.1 ((h x).1 (List.mem_cons_self ..)) with h1 | h1
      · exact h1
      · rcases List.mem_cons.1 ((h y).2 (List.mem_cons_self ..)) with h2 | h2
        · exact h2.symm
        · have := hb.1 x h1; have := ha.1 y h2; omega
    subst hxy
    have := asc_eq a b ha.2 hb.2 (fun z => ⟨fun hz => by
        rcases List.mem_cons.1 ((h z).1 (List.mem_cons_of_mem _ hz)) with h1 | h1
        · have := ha.1 z hz; omega
        · exact h1, fun hz => by
        rcases List.mem_cons.1 ((h z).2 (List.mem_cons_of_mem _ hz)) with h1 | h1
        · have := hb.1 z hz; omega
        · exact h1⟩)
    rw [this]
theorem rpN_lt {zs : List Int} {m : Nat} (h : rpN zs m = true) (i : Nat) : ∀ d, i + d + 1 < m → zs.getD i 0 < zs.getD (i + d + 1) 0
  | 0, hj => by
    have h1 := rpN_at h (i + 1) hj
    rw [rpAt, Bool.and_eq_true, Bool.or_eq_true] at h1
    rcases h1.2 with h2 | h2
    · have := of_decide_eq_true h2; omega
    · have := of_decide_eq_true h2
      rw [Nat.add_sub_cancel] at this
      exact this
  | d + 1, hj => by
    have ih := rpN_lt h i d (by omega)
    have h1 := rpN_at h (i + (d + 1) + 1) hj
    rw [rpAt, Bool.and_eq_true, Bool.or_eq_true] at h1
    rcases h1.2 with h2 | h2
    · have := of_decide_eq_true h2; omega
    · have := of_decide_eq_true h2
      rw [Nat.add_sub_cancel] at this
      have e : i + (d + 1) = i + d + 1 := by omega
      rw [e] at this ⊢
      omega
theorem getD_elem {zs : List Int} {i : Nat} (h : i < zs.length) : zs.getD i 0 = zs[i] := by
  rw [List.getD_eq_getElem?_getD, List.getElem?_eq_getElem h]; rfl
theorem okRp_asc {r : Int} {zs : List Int} (h : okRp r zs = true) : zs.Pairwise (· < ·) := by
  rw [okRp, Bool.and_eq_true] at h
  rw [List.pairwise_iff_getElem]
  intro i j hi hj hij
  have := rpN_lt h.1 i (j - i - 1) (by omega)
  have e : i + (j - i - 1) + 1 = j := by omega
  rw [e, getD_elem hi, getD_elem hj] at this
  exact this
theorem okRp_mem {r : Int} {zs : List Int} (h : okRp r zs = true) : ∀ z ∈ zs, 1 ≤ z ∧ z ≤ 56 := by
  intro z hz
  obtain ⟨i, hi, rfl⟩ := List.getElem_of_mem hz
  have := (okRp_at h).2 i hi
  rwa [getD_elem hi] at this
-- the boot bytes
theorem bb_get (r : Int) (zs : List Int) {i : Nat} (h : i < 6) : ([r, 0] ++ (List.range 6).map (bootAt zs)).getD (i + 2) 0 = bootAt zs i := by
  have : i = 0 ∨ i = 1 ∨ i = 2 ∨ i = 3 ∨ i = 4 ∨ i = 5 := by omega
  rcases this with rfl | rfl | rfl | rfl | rfl | rfl <;> rfl
theorem bootAt_big {zs : List Int} (h : 6 < zs.length) (i : Nat) : bootAt zs i = 1 := by rw [bootAt, if_pos h]
theorem bootAt_in {zs : List Int} (h : ¬ 6 < zs.length) {i : Nat} (hi : i < zs.length) : bootAt zs i = zs.getD i 0 + 3 := by rw [bootAt, if_neg h, if_pos hi]
theorem bootAt_out {zs : List Int} (h : ¬ 6 < zs.length) {i : Nat} (hi : ¬ i < zs.length) : bootAt zs i = 0 := by rw [bootAt, if_neg h, if_neg hi]
theorem rbV_bbV (r : Int) (zs : List Int) (rl : Int) (zl : List Int) (h : okRp r zs = true) (hl : okRp rl zl = true) : rbV (bbV r zs) rl zl = if 6 < zs.length then ⟨r, zl, true⟩ else ⟨r, zs, true⟩ := by
  obtain ⟨⟨r0, r15⟩, hz⟩ := okRp_at h
  obtain ⟨b, hb⟩ : ∃ b, b = [r, 0] ++ (List.range 6).map (bootAt zs) := ⟨_, rfl⟩
  have e : bbV r zs = b := by rw [bbV, if_pos h, hb]
  have hget : ∀ i, i < 6 → b.getD (i + 2) 0 = bootAt zs i := fun i hi => by rw [hb]; exact bb_get r zs hi
  have g0 : b.getD 0 0 = r := by rw [hb]; rfl
  have g1 : b.getD 1 0 = 0 := by rw [hb]; rfl
  have hlen : b.length = 8 := by rw [hb]; simp
  rw [e]
  by_cases hbig : 6 < zs.length
  · have hones : ∀ k, k ≤ 6 → bOnes b k = k := by
      intro k
      induction k with
      | zero => intro _; rfl
      | succ k ih => intro hk; rw [bOnes, hget k (by omega), bootAt_big hbig, if_pos rfl, ih (by omega)]
    have hfine : ∀ k, k ≤ 6 → bFine b k = true := by
      intro k
      induction k with
      | zero => intro _; rfl
      | succ k ih =>
        intro hk
        rw [bFine, ih (by omega)]
        have : bHole b k = false := by
          rcases k with _ | k
          · simp [bHole]
          · have h1 := hget k (by omega)
            rw [bootAt_big hbig] at h1
            have e2 : k + 1 + 1 = k + 2 := rfl
            have h3 : b.getD (k + 1 + 1) 0 ≠ 0 := by rw [e2, h1]; decide
            rw [bHole, decide_eq_false h3, Bool.false_and, Bool.and_false]
        rw [this]; rfl
    rw [if_pos hbig, rbV, if_pos ⟨hlen, by rw [g0]; exact r15, g1, hl, hfine 6 (Nat.le_refl _)⟩, rbEnd, if_pos (hones 6 (Nat.le_refl _)), g0]
  · have hnz : ∀ i, i < zs.length → 4 ≤ bootAt zs i := fun i hi => by rw [bootAt_in hbig hi]; have := (hz i hi).1; omega
    have hones : ∀ k, k ≤ 6 → bOnes b k = 0 := by
      intro k
      induction k with
      | zero => intro _; rfl
      | succ k ih =>
        intro hk
        rw [bOnes, hget k (by omega), ih (by omega)]
        by_cases hi : k < zs.length
        · have := hnz k hi; rw [if_neg (by omega)]
        · rw [bootAt_out hbig hi, if_neg (by decide)]
    have hkeys : ∀ k, k ≤ 6 → bKeys b k = zs.take k := by
      intro k
      induction k with
      | zero => intro _; rfl
      | succ k ih =>
        intro hk
        rw [bKeys, hget k (by omega), ih (by omega)]
        by_cases hi : k < zs.length
        · have := hnz k hi
          rw [if_pos (by omega), bootAt_in hbig hi, List.take_succ_eq_append_getElem hi, getD_elem hi]
          congr 2
          omega
        · rw [bootAt_out hbig hi, if_neg (by simp), List.take_of_length_le (by omega), List.take_of_length_le (by omega)]
    have hfine : ∀ k, k ≤ 6 → bFine b k = true := by
      intro k
      induction k with
      | zero => intro _; rfl
      | succ k ih =>
        intro hk
        rw [bFine, ih (by omega)]
        have : bHole b k = false := by
          rcases k with _ | k
          · simp [bHole]
          · have h1 := hget k (by omega)
            have h2 := hget (k + 1) (by omega)
            have e2 : k + 1 + 1 = k + 2 := rfl
            by_cases hi : k + 1 < zs.length
            · have := hnz k (by omega)
              have h3 : b.getD (k + 1 + 1) 0 ≠ 0 := by rw [e2, h1]; omega
              rw [bHole, decide_eq_false h3, Bool.false_and, Bool.and_false]
            · have h3 : ¬ b.getD (k + 1 + 2) 0 ≠ 0 := by rw [h2, bootAt_out hbig hi]; simp
              rw [bHole, decide_eq_false h3, Bool.false_and]
        rw [this]; rfl
    have hk6 : bKeys b 6 = zs := by rw [hkeys 6 (Nat.le_refl _), List.take_of_length_le (by omega)]
    rw [if_neg hbig, rbV, if_pos ⟨hlen, by rw [g0]; exact r15, g1, hl, hfine 6 (Nat.le_refl _)⟩, rbEnd, if_neg (by rw [hones 6 (Nat.le_refl _)]; decide), g0, hk6, if_pos h]
-- the bits
theorem bitK_mem (b : List Int) (x : Int) : ∀ m, x ∈ bitK b m ↔ ∃ k : Nat, k < m ∧ bitC b k = true ∧ x = ((k + 1 : Nat) : Int)
  | 0 => by simp [bitK]
  | m + 1 => by
    have ih := bitK_mem b x m
    rw [bitK]
    by_cases hc : bitC b m = true
    · rw [if_pos hc, List.mem_append, ih, List.mem_singleton]
      constructor
      · rintro (⟨k, hk, h1, h2⟩ | h1)
        · exact ⟨k, by omega, h1, h2⟩
        · exact ⟨m, by omega, hc, h1⟩
      · rintro ⟨k, hk, h1, h2⟩
        rcases Nat.lt_or_ge k m with h3 | h3
        · exact .inl ⟨k, h3, h1, h2⟩
        · obtain rfl : k = m := by omega
          exact .inr h2
    · rw [if_neg hc, ih]
      constructor
      · rintro ⟨k, hk, h1, h2⟩
        exact ⟨k, by omega, h1, h2⟩
      · rintro ⟨k, hk, h1, h2⟩
        refine ⟨k, ?_, h1, h2⟩
        rcases Nat.lt_or_ge k m with h3 | h3
        · exact h3
        · obtain rfl : k = m := by omega
          exact absurd h1 hc
theorem bitK_asc (b : List Int) : ∀ m, (bitK b m).Pairwise (· < ·)
  | 0 => List.Pairwise.nil
  | m + 1 => by
    have ih := bitK_asc b m
    rw [bitK]; split
    · rw [List.pairwise_append]
      refine ⟨ih, List.pairwise_singleton _ _, ?_⟩
      intro x hx y hy
      obtain ⟨k, hk, -, rfl⟩ := (bitK_mem b x m).1 hx
      rw [List.mem_singleton.1 hy]
      omega
    · exact ih
theorem biN_zero (r : Int) (zs : List Int) : ∀ j, (biN r zs j).getD 0 0 = r
  | 0 => rfl
  | j + 1 => by
    have ih := biN_zero r zs j
    rw [List.getD_eq_getElem?_getD] at ih ⊢
    simp only [biN]
    rw [List.getElem?_set_ne (by omega)]
    exact ih
theorem biN_bit {r : Int} {zs : List Int} (h : okRp r zs = true) (k : Nat) (hk : k < 56) : ∀ j, j ≤ zs.length → (bitC (biN r zs j) k = true ↔ ∃ i, i < j ∧ zs.getD i 0 = ((k + 1 : Nat) : Int))
  | 0, _ => by
    have h7 : 1 + k / 8 = 1 ∨ 1 + k / 8 = 2 ∨ 1 + k / 8 = 3 ∨ 1 + k / 8 = 4 ∨ 1 + k / 8 = 5 ∨ 1 + k / 8 = 6 ∨ 1 + k / 8 = 7 := by omega
    have e : bitC (biN r zs 0) k = false := by
      rw [bitC]
      rcases h7 with e | e | e | e | e | e | e <;> rw [e] <;> simp [biN]
    rw [e]
    simp
  | j + 1, hj => by
    have ih := biN_bit h k hk j (by omega)
    obtain ⟨h1, h2⟩ := (okRp_at h).2 j (by omega)
    obtain ⟨q, hq⟩ : ∃ q, q = (zs.getD j 0).toNat - 1 := ⟨_, rfl⟩
    have hq2 : zs.getD j 0 = ((q + 1 : Nat) : Int) := by omega
    have hq56 : q < 56 := by omega
    have hby := biN_byte h j (by omega) (1 + q / 8) (by omega)
    obtain ⟨Y, hY⟩ : ∃ Y, Y = ((biN r zs j).getD (1 + q / 8) 0).toNat := ⟨_, rfl⟩
    have step : (biN r zs (j + 1)).getD (1 + k / 8) 0 = if 1 + k / 8 = 1 + q / 8 then ((Y ||| 2 ^ (q % 8) : Nat) : Int) else (biN r zs j).getD (1 + k / 8) 0 := by
      simp only [biN]
      rw [← hq, ← hY]
      rw [List.getD_eq_getElem?_getD, List.getElem?_set]
      by_cases he : 1 + q / 8 = 1 + k / 8
      · rw [if_pos he, if_pos he.symm, if_pos (by rw [biN_len]; omega)]; rfl
      · rw [if_neg he, if_neg (fun x => he x.symm), List.getD_eq_getElem?_getD]
    have hsp : (∃ i, i < j + 1 ∧ zs.getD i 0 = ((k + 1 : Nat) : Int)) ↔ (∃ i, i < j ∧ zs.getD i 0 = ((k + 1 : Nat) : Int)) ∨ k = q := by
      constructor
      · rintro ⟨i, hi, he⟩
        rcases Nat.lt_or_ge i j with h3 | h3
        · exact .inl ⟨i, h3, he⟩
        · obtain rfl : i = j := by omega
          exact .inr (by omega)
      · rintro (⟨i, hi, he⟩ | rfl)
        · exact ⟨i, by omega, he⟩
        · exact ⟨j, by omega, hq2⟩
    rw [hsp, ← ih, bitC, step, bitC]
    by_cases he : 1 + k / 8 = 1 + q / 8
    · rw [if_pos he, Int.toNat_natCast, Nat.testBit_or, he, ← hY, Nat.testBit_two_pow, Bool.or_eq_true, decide_eq_true_eq]
      constructor
      · rintro (h3 | h3)
        · exact .inl h3
        · exact .inr (by omega)
      · rintro (h3 | h3)
        · exact .inl h3
        · exact .inr (by rw [h3])
    · rw [if_neg he]
      constructor
      · exact fun h3 => .inl h3
      · rintro (h3 | h3)
        · exact h3
        · exact absurd (by rw [h3]) he
theorem rdV_biV (r : Int) (zs : List Int) (h : okRp r zs = true) : rdV (biV r zs) = ⟨r, zs, true⟩ := by
  obtain ⟨⟨r0, r15⟩, hz⟩ := okRp_at h
  rw [biV, if_pos h, rdV, biN_zero, if_pos ⟨biN_len r zs _, r15⟩]
  have e : bitK (biN r zs zs.length) 56 = zs := by
    refine asc_eq _ _ (bitK_asc _ _) (okRp_asc h) fun x => ?_
    rw [bitK_mem]
    constructor
    · rintro ⟨k, hk, hc, rfl⟩
      obtain ⟨i, hi, he⟩ := (biN_bit h k hk zs.length (Nat.le_refl _)).1 hc
      rw [← he, getD_elem hi]
      exact List.getElem_mem hi
    · intro hx
      obtain ⟨h1, h2⟩ := okRp_mem h x hx
      obtain ⟨i, hi, rfl⟩ := List.getElem_of_mem hx
      have hn : zs[i] = ((zs[i].toNat - 1 + 1 : Nat) : Int) := by omega
      exact ⟨zs[i].toNat - 1, by omega, (biN_bit h _ (by omega) zs.length (Nat.le_refl _)).2 ⟨i, hi, by rw [getD_elem hi]; exact hn⟩, hn⟩
  rw [e]

end Go.Proofs.YtghijkpcmamebaaDoor
