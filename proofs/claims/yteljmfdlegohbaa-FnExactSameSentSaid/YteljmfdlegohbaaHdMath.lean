/- DERIVED. Chapter 7's words on held keys do not hang on their order: valid ones, their report and their layers are those of the list turned round; valid actions. No condition. -/
import Derived.Test.YteljmfdlegohbaaRpSpec
import Derived.Test.YteljmfdlegohbaaHd
namespace Go.Proofs.Yteljmfdlegohbaa
open Go.RowKit

theorem okRp_of {r : Int} {zs : List Int} (h0 : 0 ≤ r ∧ r ≤ 15) (ha : zs.Pairwise (· < ·)) (hm : ∀ z ∈ zs, 1 ≤ z ∧ z ≤ 56) : okRp r zs = true := by
  have key : ∀ m, m ≤ zs.length → rpN zs m = true := by
    intro m
    induction m with
    | zero => intro _; rfl
    | succ m ih =>
      intro h
      rw [rpN, ih (by omega), Bool.true_and, rpAt, Bool.and_eq_true, Bool.or_eq_true]
      have e : zs.getD m 0 = zs[m] := by rw [List.getD_eq_getElem?_getD, List.getElem?_eq_getElem (by omega)]; rfl
      refine ⟨by rw [e]; exact decide_eq_true (hm _ (List.getElem_mem _)), ?_⟩
      rcases Nat.eq_zero_or_pos m with rfl | hp
      · exact .inl (by decide)
      · right
        have e2 : zs.getD (m - 1) 0 = zs[m - 1] := by rw [List.getD_eq_getElem?_getD, List.getElem?_eq_getElem (by omega)]; rfl
        rw [e, e2]
        exact decide_eq_true ((List.pairwise_iff_getElem.1 ha) (m - 1) m (by omega) (by omega) (by omega))
  rw [okRp, key zs.length (Nat.le_refl _), Bool.true_and]
  exact decide_eq_true h0

theorem hasC_ex {l : List Hd} {c : Int} : ∀ n, hasC l c n = true → ∃ i, i < n ∧ (hdD l i).c = c
  | 0, h => by simp [hasC] at h
  | n + 1, h => by
    rw [hasC, Bool.or_eq_true, decide_eq_true_iff] at h
    rcases h with h | h
    · obtain ⟨i, hi, e⟩ := hasC_ex n h
      exact ⟨i, by omega, e⟩
    · exact ⟨n, by omega, h⟩
theorem hasC_iff {l : List Hd} {c : Int} {n : Nat} : hasC l c n = true ↔ ∃ i, i < n ∧ (hdD l i).c = c := ⟨hasC_ex n, fun ⟨_, hi, e⟩ => hasC_yes e n hi⟩
theorem codesN_in {l : List Hd} {c : Nat} (h1 : 1 ≤ c) (h : hasC l (c : Int) l.length = true) : ∀ k, c ≤ k → (c : Int) ∈ codesN l k
  | 0, hk => by omega
  | k + 1, hk => by
    rw [codesN]
    by_cases e : c = k + 1
    · subst e; rw [if_pos h]; exact List.mem_append_right _ (List.mem_singleton_self _)
    · have := codesN_in h1 h k (by omega)
      split
      · exact List.mem_append_left _ this
      · exact this
theorem codesN_has {l : List Hd} : ∀ k z, z ∈ codesN l k → hasC l z l.length = true
  | 0, z, h => by simp [codesN] at h
  | k + 1, z, h => by
    rw [codesN] at h
    split at h
    · rename_i hc
      rcases List.mem_append.1 h with h1 | h1
      · exact codesN_has k z h1
      · rw [List.mem_singleton.1 h1]; exact hc
    · exact codesN_has k z h
theorem codesN_asc (l : List Hd) : ∀ k, (codesN l k).Pairwise (· < ·)
  | 0 => List.Pairwise.nil
  | k + 1 => by
    rw [codesN]
    split
    · rw [List.pairwise_append]
      refine ⟨codesN_asc l k, List.pairwise_singleton _ _, fun x hx y hy => ?_⟩
      have := (codesN_mem l k x hx).2
      rw [List.mem_singleton.1 hy]; omega
    · exact codesN_asc l k
theorem rof_ok {l : List Hd} (h : okHd l = true) : okRp (rofM l : Nat) (rofK l) = true := by
  rw [rofM, rofK, if_pos h, if_pos h]
  have := mdOf_lt h l.length (Nat.le_refl _)
  exact okRp_of (by omega) (codesN_asc l 56) (fun z hz => codesN_mem l 56 z hz)
theorem rof_code {l : List Hd} (h : okHd l = true) {i : Nat} (hi : i < l.length) (hp : 0 < (hdD l i).c) (h56 : (hdD l i).c ≤ 56) : (hdD l i).c ∈ rofK l := by
  rw [rofK, if_pos h]
  obtain ⟨c, hc⟩ : ∃ c : Nat, (hdD l i).c = c := ⟨(hdD l i).c.toNat, by omega⟩
  rw [hc]
  exact codesN_in (by omega) (hasC_yes hc l.length hi) 56 (by omega)
theorem rof_has {l : List Hd} (h : okHd l = true) {q : Nat} (hq : q < (rofK l).length) : hasC l ((rofK l).getD q 0) l.length = true := by
  have hm : (rofK l).getD q 0 ∈ rofK l := by
    rw [List.getD_eq_getElem?_getD, List.getElem?_eq_getElem hq]; exact List.getElem_mem hq
  generalize (rofK l).getD q 0 = z at hm
  rw [rofK, if_pos h] at hm
  exact codesN_has 56 z hm

theorem hdD_rev {l : List Hd} {i : Nat} (hi : i < l.length) : hdD l.reverse i = hdD l (l.length - 1 - i) := by
  rw [hdD, hdD, List.getD_eq_getElem?_getD, List.getD_eq_getElem?_getD, List.getElem?_reverse hi]
theorem ex_rev {n : Nat} {P : Nat → Prop} : (∃ i, i < n ∧ P (n - 1 - i)) ↔ ∃ i, i < n ∧ P i := by
  constructor
  · rintro ⟨i, hi, h⟩; exact ⟨n - 1 - i, by omega, h⟩
  · rintro ⟨i, hi, h⟩; exact ⟨n - 1 - i, by omega, by rw [show n - 1 - (n - 1 - i) = i by omega]; exact h⟩
theorem ex_hd_rev {l : List Hd} {P : Hd → Prop} : (∃ i, i < l.length ∧ P (hdD l.reverse i)) ↔ ∃ i, i < l.length ∧ P (hdD l i) := by
  rw [← ex_rev (P := fun i => P (hdD l i))]
  constructor
  · rintro ⟨i, hi, h⟩; exact ⟨i, hi, by rw [← hdD_rev hi]; exact h⟩
  · rintro ⟨i, hi, h⟩; exact ⟨i, hi, by rw [hdD_rev hi]; exact h⟩
theorem ex_succ {n : Nat} {P : Nat → Prop} : (∃ i, i < n + 1 ∧ P i) ↔ (∃ i, i < n ∧ P i) ∨ P n := by
  constructor
  · rintro ⟨i, hi, h⟩
    by_cases e : i = n
    · subst e; exact .inr h
    · exact .inl ⟨i, by omega, h⟩
  · rintro (⟨i, hi, h⟩ | h)
    · exact ⟨i, by omega, h⟩
    · exact ⟨n, by omega, h⟩
theorem mdOf_bit (l : List Hd) (b : Nat) : ∀ n, (mdOf l n).testBit b = true ↔ ∃ i, i < n ∧ (((hdD l i).k = 2 ∨ (hdD l i).k = 8) ∧ (hdD l i).m.toNat.testBit b = true)
  | 0 => by simp [mdOf]
  | n + 1 => by
    rw [ex_succ, ← mdOf_bit l b n, mdOf]
    by_cases h : (hdD l n).k = 2 ∨ (hdD l n).k = 8
    · rw [if_pos h, Nat.testBit_or, Bool.or_eq_true]
      simp only [h, true_and]
    · rw [if_neg h]
      simp only [h, false_and, or_false]
theorem bits_same {x y : Nat} (h : ∀ b, x.testBit b = true ↔ y.testBit b = true) : x = y := Nat.eq_of_testBit_eq fun b => by
  rw [Bool.eq_iff_iff]; exact h b
theorem mdOf_rev (l : List Hd) : mdOf l.reverse l.length = mdOf l l.length := bits_same fun b => by
  rw [mdOf_bit, mdOf_bit]
  exact ex_hd_rev (P := fun e => (e.k = 2 ∨ e.k = 8) ∧ e.m.toNat.testBit b = true)
theorem hasC_rev (l : List Hd) (c : Int) : hasC l.reverse c l.length = hasC l c l.length := by
  rw [Bool.eq_iff_iff, hasC_iff, hasC_iff]
  exact ex_hd_rev (P := fun e => e.c = c)
theorem codesN_rev (l : List Hd) : ∀ k, codesN l.reverse k = codesN l k
  | 0 => rfl
  | k + 1 => by rw [codesN, codesN, codesN_rev l k, List.length_reverse, hasC_rev]
theorem onN_bit (l : List Hd) (s b : Nat) : ∀ n, (onN l s n).testBit b = true ↔ s.testBit b = true ∨ ∃ i, i < n ∧ ((hdD l i).k = 3 ∧ (hdD l i).n.toNat = b)
  | 0 => by simp [onN]
  | n + 1 => by
    rw [ex_succ, ← or_assoc, ← onN_bit l s b n, onN]
    by_cases h : (hdD l n).k = 3
    · rw [if_pos h, Nat.testBit_or, Bool.or_eq_true, Nat.testBit_two_pow, decide_eq_true_iff]
      simp only [h, true_and]
    · rw [if_neg h]
      simp only [h, false_and, or_false]
theorem onN_rev (l : List Hd) (s : Nat) : onN l.reverse s l.length = onN l s l.length := bits_same fun b => by
  rw [onN_bit, onN_bit, ex_hd_rev (P := fun e => e.k = 3 ∧ e.n.toNat = b)]
/-- Valid held keys, place by place. -/
def HdOk (l : List Hd) : Prop := (∀ i, i < l.length → okOne (hdD l i) = true) ∧ ∀ i j, i < j → j < l.length → (hdD l i).h ≠ (hdD l j).h
theorem hdN_of {l : List Hd} (h : HdOk l) : ∀ m, m ≤ l.length → hdN l m = true
  | 0, _ => rfl
  | m + 1, hm => by
    have h1 := h.1 m (by omega)
    rw [hdN, hdN_of h m (by omega), Bool.true_and, Bool.and_eq_true]
    refine ⟨h1, ?_⟩
    rw [Bool.not_eq_true', ← Bool.not_eq_true]
    intro hb
    obtain ⟨i, hi, e⟩ := (seenN_bit l _ m).1 hb
    have h2 := (okOne_at h1).1
    have h3 := (okOne_at (h.1 i (by omega))).1
    exact h.2 i m hi (by omega) (by omega)
theorem okHd_iff {l : List Hd} : okHd l = true ↔ HdOk l := by
  constructor
  · intro h
    refine ⟨fun i hi => (hdN_at h i hi).1, fun i j hij hj e => ?_⟩
    have h1 := (hdN_at h j hj).2
    rw [(seenN_bit l (hdD l j).h.toNat j).2 ⟨i, hij, by rw [e]⟩] at h1
    exact absurd h1 (by decide)
  · exact fun h => hdN_of h l.length (Nat.le_refl _)
theorem okHd_rev {l : List Hd} (h : okHd l = true) : okHd l.reverse = true := by
  obtain ⟨h1, h2⟩ := okHd_iff.1 h
  refine okHd_iff.2 ⟨fun i hi => ?_, fun i j hij hj => ?_⟩
  · rw [List.length_reverse] at hi
    rw [hdD_rev hi]; exact h1 _ (by omega)
  · rw [List.length_reverse] at hj
    rw [hdD_rev hj, hdD_rev (by omega)]
    exact fun e => h2 (l.length - 1 - j) (l.length - 1 - i) (by omega) (by omega) e.symm
theorem rofM_rev {l : List Hd} (h : okHd l = true) : rofM l.reverse = rofM l := by
  rw [rofM, rofM, if_pos h, if_pos (okHd_rev h), List.length_reverse, mdOf_rev]
theorem rofK_rev {l : List Hd} (h : okHd l = true) : rofK l.reverse = rofK l := by
  rw [rofK, rofK, if_pos h, if_pos (okHd_rev h), codesN_rev]
theorem onV_rev {l : List Hd} (h : okHd l = true) (f : Int) : onV f l.reverse = onV f l := by
  rw [onV, onV, if_pos h, if_pos (okHd_rev h), List.length_reverse, onN_rev]
theorem hdD_snoc (l : List Hd) (e : Hd) (i : Nat) (hi : i < l.length + 1) : hdD (l ++ [e]) i = if i < l.length then hdD l i else e := by
  rw [hdD, hdD, List.getD_eq_getElem?_getD, List.getD_eq_getElem?_getD]
  by_cases h : i < l.length
  · rw [if_pos h, List.getElem?_append_left h]
  · rw [if_neg h, List.getElem?_append_right (by omega), show i - l.length = 0 by omega]; rfl
theorem okHd_snoc {l : List Hd} {e : Hd} (h : okHd l = true) (he : okOne e = true) (hlt : ∀ i, i < l.length → (hdD l i).h < e.h) : okHd (l ++ [e]) = true := by
  obtain ⟨h1, h2⟩ := okHd_iff.1 h
  refine okHd_iff.2 ⟨fun i hi => ?_, fun i j hij hj => ?_⟩
  · rw [List.length_append, List.length_singleton] at hi
    rw [hdD_snoc l e i hi]
    split
    · exact h1 i (by assumption)
    · exact he
  · rw [List.length_append, List.length_singleton] at hj
    rw [hdD_snoc l e i (by omega), hdD_snoc l e j hj, if_pos (show i < l.length by omega)]
    split
    · exact h2 i j hij (by assumption)
    · have := hlt i (by omega); omega
/-- A valid action that does not pass. -/
def AcNp (a : Ac) : Prop := okAc a.k a.c a.m a.n = true ∧ a.k ≠ 1
theorem hold_kinds {a : Ac} (h : holdAc a.k a.c a.m a.n = true) : okAc a.k a.c a.m a.n = true ∧ (a.k = 6 ∨ a.k = 7) := by
  rw [holdAc, Bool.and_eq_true, decide_eq_true_iff] at h; exact h
theorem hold_parts {a : Ac} (h : holdAc a.k a.c a.m a.n = true) : (1 ≤ a.c ∧ a.c ≤ 56) ∧ (a.k = 6 → 1 ≤ a.m ∧ a.m ≤ 15) ∧ (a.k = 7 → 1 ≤ a.n ∧ a.n ≤ 3) := by
  obtain ⟨h1, hk⟩ := hold_kinds h
  obtain ⟨k, c, m, n⟩ := a
  simp only at h1 hk ⊢
  rcases hk with rfl | rfl
  · simp [okAc, inB] at h1; omega
  · simp [okAc, inB] at h1; omega
theorem np_hold {a : Ac} (h : AcNp a) : AcNp (holdR a) := by
  rw [holdR]
  split
  · rename_i hh
    obtain ⟨hc, hm, hn⟩ := hold_parts hh
    split
    · rename_i h6
      have := hm h6
      exact ⟨by simp [okAc, inB]; omega, by simp⟩
    · rename_i h6
      have := hn (by have := (hold_kinds hh).2; omega)
      exact ⟨by simp [okAc, inB]; omega, by simp⟩
  · exact h
theorem np_tap {a : Ac} (h : AcNp a) {k : Int} (hk : 0 ≤ k ∧ k ≤ 31) : okOne ⟨k, (tapR a).k, (tapR a).c, (tapR a).m, (tapR a).n⟩ = true := by
  have hb : inB k 0 31 = true := decide_eq_true hk
  rw [okOne, tapR]
  by_cases hh : holdAc a.k a.c a.m a.n = true
  · obtain ⟨hc, _, _⟩ := hold_parts hh
    rw [if_pos hh]
    have h1 : okAc 2 a.c 0 0 = true := by simp [okAc, inB]; omega
    have h2 : holdAc 2 a.c 0 0 = false := by rw [holdAc, h1]; simp
    simp only [hb, h1, h2]
    rfl
  · rw [if_neg hh]
    have h2 : holdAc a.k a.c a.m a.n = false := by simpa using hh
    have h3 := h.2
    simp only [hb, h.1, h2, decide_eq_false h3]
    rfl
theorem grown_alloc' (w : World) (o : Obj) (r : Option Nat) : w.grownBy (w.alloc o) r :=
  let h : Below w.heap.size w (w.alloc o) := (Below.refl _ _).alloc (Nat.le_refl _) _
  ⟨h.os, h.tape, h.output, h.size, fun k hk _ => h.block k hk⟩

end Go.Proofs.Yteljmfdlegohbaa
