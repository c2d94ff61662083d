/- DERIVED. What the program's map of combinations tells of a set of switches is what the combinations tell. No condition. -/
import Derived.Test.YtagmdkblcgnddaaMaMap
namespace Go.Proofs.Ytagmdkblcgnddaa
open Go.RowKit

def Lk (l : List Cb) (S : Nat) : List (Int × Int) := (kysOf l).filter (fitK S)
theorem fitsV_iff {l : List Cb} {S : Nat} : fitsV l S = true ↔ ∃ i, i < l.length ∧ fitC S (cbD l i) = true := by
  have h : ∀ m, fitN l S m = true ↔ ∃ i, i < m ∧ fitC S (cbD l i) = true := by
    intro m
    induction m with
    | zero => simp [fitN]
    | succ m ih =>
      rw [fitN, Bool.or_eq_true, ih]
      constructor
      · rintro (⟨i, hi, h⟩ | h)
        · exact ⟨i, by omega, h⟩
        · exact ⟨m, by omega, h⟩
      · rintro ⟨i, hi, h⟩
        rcases Nat.lt_or_ge i m with h2 | h2
        · exact .inl ⟨i, h2, h⟩
        · obtain rfl : i = m := by omega
          exact .inr h
  exact h l.length
theorem kysOf_mem {l : List Cb} {p : Int × Int} : p ∈ kysOf l ↔ ∃ i, i < l.length ∧ p = ((cbD l i).k, (cbD l i).o) := by
  rw [kysOf, List.mem_map]
  constructor
  · rintro ⟨c, hc, rfl⟩
    obtain ⟨i, hi, rfl⟩ := cbD_mem hc
    exact ⟨i, hi, rfl⟩
  · rintro ⟨i, hi, rfl⟩
    exact ⟨cbD l i, by rw [cbD]; simp [List.getElem?_eq_getElem hi], rfl⟩
theorem any_fits (l : List Cb) (S : Nat) : (kysOf l).any (fitK S) = fitsV l S := by
  rw [Bool.eq_iff_iff, List.any_eq_true, fitsV_iff]
  constructor
  · rintro ⟨p, hp, hf⟩
    obtain ⟨i, hi, rfl⟩ := kysOf_mem.1 hp
    exact ⟨i, hi, hf⟩
  · rintro ⟨i, hi, hf⟩
    exact ⟨_, kysOf_mem.2 ⟨i, hi, rfl⟩, hf⟩
theorem lk_mem {l : List Cb} {S : Nat} {p : Int × Int} : p ∈ Lk l S ↔ ∃ i, i < l.length ∧ p = ((cbD l i).k, (cbD l i).o) ∧ fitC S (cbD l i) = true := by
  rw [Lk, List.mem_filter, kysOf_mem]
  constructor
  · rintro ⟨⟨i, hi, rfl⟩, hf⟩
    exact ⟨i, hi, rfl, hf⟩
  · rintro ⟨i, hi, rfl, hf⟩
    exact ⟨⟨i, hi, rfl⟩, hf⟩
theorem lk_len0 (l : List Cb) (S : Nat) : ((Lk l S).length == 0) = !fitsV l S := by
  cases h : fitsV l S
  · have : Lk l S = [] := List.eq_nil_iff_forall_not_mem.2 fun p hp => by
      obtain ⟨i, hi, _, hf⟩ := lk_mem.1 hp
      have := fitsV_iff.2 ⟨i, hi, hf⟩
      rw [h] at this; cases this
    rw [this]; rfl
  · obtain ⟨i, hi, hf⟩ := fitsV_iff.1 h
    have hm := lk_mem.2 ⟨i, hi, rfl, hf⟩
    cases hL : Lk l S with
    | nil => rw [hL] at hm; cases hm
    | cons a L => rfl
theorem fit_nat {l : List Cb} (hC : okCbs l = true) {S i : Nat} (hi : i < l.length) (hS : S < 16777216) : fitC S (cbD l i) = decide (S &&& (cbD l i).k.toNat = S) := by
  have h := cbFit_keys (okCbs_fit hC hi)
  obtain ⟨K, hK⟩ : ∃ K : Nat, (cbD l i).k = (K : Int) := ⟨(cbD l i).k.toNat, by omega⟩
  rw [fitC, hK, Int.toNat_natCast, dif_nat63 S K (by omega) (by omega)]
  by_cases h0 : S &&& K = S
  · rw [dif_sub h0, decide_eq_true h0]; rfl
  · rw [decide_eq_false h0]
    have : ¬ dif S K = 0 := fun h1 => h0 (dif_zero h1)
    simpa using this
theorem fit_sub {l : List Cb} (hC : okCbs l = true) {S T i : Nat} (hi : i < l.length) (hS : S < 16777216) (hT : S ||| T < 16777216) (h : fitC (S ||| T) (cbD l i) = true) : fitC S (cbD l i) = true := by
  rw [fit_nat hC hi hT] at h
  rw [fit_nat hC hi hS]
  have h1 := of_decide_eq_true h
  refine decide_eq_true (Nat.eq_of_testBit_eq fun b => ?_)
  have h2 := congrArg (fun x => x.testBit b) h1
  simp only [Nat.testBit_and, Nat.testBit_or] at h2 ⊢
  cases h3 : S.testBit b <;> simp_all
theorem lk_sub {l : List Cb} (hC : okCbs l = true) {S T : Nat} (hS : S < 16777216) (hT : S ||| T < 16777216) : (Lk l S).filter (fitK (S ||| T)) = Lk l (S ||| T) := by
  rw [Lk, List.filter_filter, Lk]
  refine List.filter_congr fun p hp => ?_
  obtain ⟨i, hi, rfl⟩ := kysOf_mem.1 hp
  cases h : fitK (S ||| T) ((cbD l i).k, (cbD l i).o)
  · rfl
  · rw [show fitK S ((cbD l i).k, (cbD l i).o) = true from fit_sub hC hi hS hT h]; rfl
theorem lk_any {l : List Cb} (hC : okCbs l = true) {S T : Nat} (hS : S < 16777216) (hT : S ||| T < 16777216) : (Lk l S).any (fitK (S ||| T)) = fitsV l (S ||| T) := by
  rw [← any_fits, Bool.eq_iff_iff, List.any_eq_true, List.any_eq_true]
  constructor
  · rintro ⟨p, hp, hf⟩
    exact ⟨p, (List.mem_filter.1 hp).1, hf⟩
  · rintro ⟨p, hp, hf⟩
    obtain ⟨i, hi, rfl⟩ := kysOf_mem.1 hp
    exact ⟨_, List.mem_filter.2 ⟨hp, fit_sub hC hi hS hT hf⟩, hf⟩
theorem outN_one {l : List Cb} (hC : okCbs l = true) (S : Nat) : ∀ m, m ≤ l.length → ((∃ i, i < m ∧ (cbD l i).k = (S : Int) ∧ (outN l S m).1 = (cbD l i).o) ∨ ((∀ i, i < m → (cbD l i).k ≠ (S : Int)) ∧ (outN l S m).1 = -1)) ∧ ((outN l S m).2 = true ↔ ∃ i, i < m ∧ (cbD l i).k ≠ (S : Int) ∧ fitC S (cbD l i) = true)
  | 0, _ => ⟨.inr ⟨fun i hi => absurd hi (Nat.not_lt_zero _), rfl⟩, by simp [outN]⟩
  | m + 1, hm => by
    obtain ⟨h1, h2⟩ := outN_one hC S m (by omega)
    have hmore : ∀ (b : Bool), (b = true ↔ ((cbD l m).k ≠ (S : Int) ∧ fitC S (cbD l m) = true) ∨ (outN l S m).2 = true) → (b = true ↔ ∃ i, i < m + 1 ∧ (cbD l i).k ≠ (S : Int) ∧ fitC S (cbD l i) = true) := fun b hb => by
      rw [hb, h2]
      constructor
      · rintro (⟨g1, g2⟩ | ⟨i, hi, g1, g2⟩)
        · exact ⟨m, by omega, g1, g2⟩
        · exact ⟨i, by omega, g1, g2⟩
      · rintro ⟨i, hi, g1, g2⟩
        rcases Nat.lt_or_ge i m with h3 | h3
        · exact .inr ⟨i, h3, g1, g2⟩
        · obtain rfl : i = m := by omega
          exact .inl ⟨g1, g2⟩
    rw [outN]
    by_cases hk : (S : Int) = (cbD l m).k
    · rw [if_pos hk]
      refine ⟨.inl ⟨m, by omega, hk.symm, rfl⟩, hmore _ ?_⟩
      constructor
      · exact fun h => .inr h
      · rintro (⟨g1, _⟩ | h)
        · exact absurd hk.symm g1
        · exact h
    · rw [if_neg hk]
      have hrest : (∃ i, i < m + 1 ∧ (cbD l i).k = (S : Int) ∧ (outN l S m).1 = (cbD l i).o) ∨ ((∀ i, i < m + 1 → (cbD l i).k ≠ (S : Int)) ∧ (outN l S m).1 = -1) := by
        rcases h1 with ⟨i, hi, g1, g2⟩ | ⟨g1, g2⟩
        · exact .inl ⟨i, by omega, g1, g2⟩
        · refine .inr ⟨fun i hi => ?_, g2⟩
          rcases Nat.lt_or_ge i m with h3 | h3
          · exact g1 i h3
          · obtain rfl : i = m := by omega
            exact fun e => hk e.symm
      by_cases hf : fitC S (cbD l m) = true
      · rw [if_pos hf]
        exact ⟨hrest, hmore _ ⟨fun _ => .inl ⟨fun e => hk e.symm, hf⟩, fun _ => rfl⟩⟩
      · rw [if_neg hf]
        refine ⟨hrest, hmore _ ⟨fun h => .inr h, ?_⟩⟩
        rintro (⟨_, g⟩ | h)
        · exact absurd g hf
        · exact h
theorem fit_self {l : List Cb} (hC : okCbs l = true) {S i : Nat} (hi : i < l.length) (hS : S < 16777216) (h : (cbD l i).k = (S : Int)) : fitC S (cbD l i) = true := by
  rw [fit_nat hC hi hS, h, Int.toNat_natCast, Nat.and_self]
  exact decide_eq_true rfl
/-- What the map has for a set: the extra key of just these switches. -/
theorem lk_at {l : List Cb} (hC : okCbs l = true) {S : Nat} (hS : S < 16777216) : mpAt (Lk l S) (S : Int) = if (outV l S).1 < 0 then none else some (outV l S).1 := by
  have h := (outN_one hC S l.length (Nat.le_refl _)).1
  rcases h with ⟨i, hi, h1, h2⟩ | ⟨h1, h2⟩
  · have hfit := cbFit_keys (okCbs_fit hC hi)
    have ho : (outV l S).1 = (cbD l i).o := h2
    rw [ho, if_neg (by omega)]
    have hm : ((S : Int), (cbD l i).o) ∈ Lk l S := lk_mem.2 ⟨i, hi, by rw [h1], fit_self hC hi hS h1⟩
    unfold mpAt
    cases hf : (Lk l S).find? (fun p => decide (p.1 = (S : Int))) with
    | none => exact absurd (List.find?_eq_none.1 hf _ hm) (by simp)
    | some q =>
      have hq1 := List.find?_some hf
      have hq2 : q.1 = (S : Int) := by simpa using hq1
      obtain ⟨j, hj, rfl, _⟩ := lk_mem.1 (List.mem_of_find?_eq_some hf)
      have hij : j = i := by
        rcases Nat.lt_trichotomy i j with h3 | h3 | h3
        · exact absurd (h1.trans hq2.symm) (okCbs_apart hC h3 hj).1
        · exact h3.symm
        · exact absurd (hq2.trans h1.symm) (okCbs_apart hC h3 hi).1
      rw [hij]; rfl
  · have ho : (outV l S).1 = -1 := h2
    rw [ho, if_pos (by decide)]
    unfold mpAt
    cases hf : (Lk l S).find? (fun p => decide (p.1 = (S : Int))) with
    | none => rfl
    | some q =>
      have hq1 := List.find?_some hf
      obtain ⟨j, hj, rfl, _⟩ := lk_mem.1 (List.mem_of_find?_eq_some hf)
      exact absurd (by simpa using hq1) (h1 j hj)
theorem settle_eq {l : List Cb} (hC : okCbs l = true) {S : Nat} (hS : S < 16777216) (n : Nat) (t : Int) : finM l S n t = match mpAt (Lk l S) (S : Int) with | some o => ((n : Int), t, o) | none => (1, t, -1) := by
  rw [lk_at hC hS, finM]
  have h := (outN_one hC S l.length (Nat.le_refl _)).1
  by_cases h0 : (outV l S).1 < 0
  · rw [if_pos h0, if_pos h0]
    rcases h with ⟨i, hi, h1, h2⟩ | ⟨_, h2⟩
    · have hfit := cbFit_keys (okCbs_fit hC hi)
      have ho : (outV l S).1 = (cbD l i).o := h2
      omega
    · have ho : (outV l S).1 = -1 := h2
      rw [ho]
  · rw [if_neg h0, if_neg h0]
theorem lk_nodup {l : List Cb} (hC : okCbs l = true) (S : Nat) : (Lk l S).Pairwise (fun p q => p.1 ≠ q.1) := by
  refine List.Pairwise.filter _ ?_
  have h : ∀ m, m ≤ l.length → (kysOf (l.take m)).Pairwise (fun p q => p.1 ≠ q.1) := by
    intro m
    induction m with
    | zero => intro _; rw [List.take_zero]; exact .nil
    | succ m ih =>
      intro hm
      rw [kysOf_take (by omega)]
      refine List.pairwise_append.2 ⟨ih (by omega), by simp, fun p hp q hq => ?_⟩
      rw [List.mem_singleton] at hq; subst hq
      exact kysOf_new hC (by omega) p hp
  have := h l.length (Nat.le_refl _)
  rwa [List.take_length] at this
/-- The set is all that it can become. -/
theorem lk_one {l : List Cb} (hC : okCbs l = true) {S : Nat} (hS : S < 16777216) : ((mpAt (Lk l S) (S : Int)).isSome && ((Lk l S).length == 1)) = (decide (0 ≤ (outV l S).1) && !(outV l S).2) := by
  obtain ⟨h, hmore⟩ := outN_one hC S l.length (Nat.le_refl _)
  rw [lk_at hC hS]
  by_cases h0 : (outV l S).1 < 0
  · rw [if_pos h0, decide_eq_false (by omega)]; rfl
  · rw [if_neg h0, decide_eq_true (by omega)]
    simp only [Option.isSome_some, Bool.true_and]
    rcases h with ⟨i, hi, h1, _⟩ | ⟨_, h2⟩
    · have hm : ((cbD l i).k, (cbD l i).o) ∈ Lk l S := lk_mem.2 ⟨i, hi, rfl, fit_self hC hi hS h1⟩
      have hnd := lk_nodup hC S
      cases hb : (outV l S).2
      · have hall : ∀ p ∈ Lk l S, p.1 = (S : Int) := fun p hp => by
          obtain ⟨j, hj, rfl, hf⟩ := lk_mem.1 hp
          refine Decidable.byContradiction fun hne => ?_
          have := hmore.2 ⟨j, hj, hne, hf⟩
          have hb' : (outN l S l.length).2 = false := hb
          rw [hb'] at this; cases this
        match hL : Lk l S, hm, hnd, hall with
        | [], hm, _, _ => cases hm
        | [a], _, _, _ => rfl
        | a :: b :: L, _, hnd, hall =>
          have := (List.pairwise_cons.1 hnd).1 b List.mem_cons_self
          exact absurd ((hall a List.mem_cons_self).trans (hall b (List.mem_cons_of_mem _ List.mem_cons_self)).symm) this
      · obtain ⟨j, hj, hne, hf⟩ := hmore.1 hb
        have hm2 : ((cbD l j).k, (cbD l j).o) ∈ Lk l S := lk_mem.2 ⟨j, hj, rfl, hf⟩
        match hL : Lk l S, hm, hm2 with
        | [], hm, _ => cases hm
        | [a], hm, hm2 =>
          rw [List.mem_singleton] at hm hm2
          have : (cbD l i).k = (cbD l j).k := by rw [hm.symm] at hm2; exact (congrArg Prod.fst hm2).symm
          exact absurd (this.symm.trans h1) hne
        | a :: b :: L, _, _ => rfl
    · have ho : (outV l S).1 = -1 := h2
      omega

end Go.Proofs.Ytagmdkblcgnddaa
