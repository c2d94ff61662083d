/- DERIVED. What follows of choices: one is made when all events are known, no later than the term; flavors hold the sooner. No condition. -/
import Derived.Test.YtjfckchoklepbaaTmMath
namespace Go.Proofs.Ytjfckchoklepbaa
open Go.RowKit

theorem ne20 {a : Int} : ((2 : Int), a).1 ≠ 0 := by show (2 : Int) ≠ 0; decide
theorem ne10 {a : Int} : ((1 : Int), a).1 ≠ 0 := by show (1 : Int) ≠ 0; decide
theorem n21 {a : Int} {P : Prop} (h : ((2 : Int), a).1 = 1) : P := absurd (show (2 : Int) = 1 from h) (by decide)
/-- All events are valid and none is before lo, each no later than the next. -/
def sortE : List Ev → Int → Prop
  | [], _ => True
  | e :: l, lo => okEv e = true ∧ lo ≤ e.t ∧ sortE l e.t
theorem sortE.low : ∀ {l : List Ev} {lo lo' : Int}, sortE l lo → lo' ≤ lo → sortE l lo'
  | [], _, _, _, _ => trivial
  | _ :: _, _, _, h, hl => ⟨h.1, by have := h.2.1; omega, h.2.2⟩
theorem sortE.all : ∀ {l : List Ev} {lo : Int}, sortE l lo → ∀ e ∈ l, lo ≤ e.t ∧ okEv e = true
  | [], _, _ => fun _ hm => by cases hm
  | x :: l, lo, h => fun e he => by
    rcases List.mem_cons.1 he with rfl | he
    · exact ⟨h.2.1, h.1⟩
    · have := h.2.2.all e he
      exact ⟨by have := h.2.1; omega, this.2⟩
theorem sortE_at {l : List Ev} (h : ∀ j, j < l.length → okEv (evD l j) = true ∧ (0 < j → (evD l (j - 1)).t ≤ (evD l j).t)) : ∀ (m j : Nat), j + m = l.length → sortE (l.drop j) (if j = 0 then 0 else (evD l (j - 1)).t)
  | 0, j, hj => by rw [List.drop_of_length_le (by omega)]; trivial
  | m + 1, j, hj => by
    have hlt : j < l.length := by omega
    have hd : l.drop j = evD l j :: l.drop (j + 1) := by
      rw [List.drop_eq_getElem_cons hlt, evD, List.getD_eq_getElem?_getD, List.getElem?_eq_getElem hlt]; rfl
    rw [hd]
    have h1 := h j hlt
    refine ⟨h1.1, ?_, ?_⟩
    · split
      · exact (okEv_key h1.1).1
      · exact h1.2 (by omega)
    · have := sortE_at h m (j + 1) (by omega)
      rw [if_neg (by omega), show j + 1 - 1 = j by omega] at this
      exact this
theorem sortE_of {l : List Ev} (h : okEvs l = true) : sortE l 0 := by
  unfold okEvs at h
  rw [Bool.and_eq_true] at h
  have := sortE_at (l := l) (fun j hj => by
    have h1 := okEvN_at h.1 j hj
    unfold okAt at h1
    simp only [Bool.and_eq_true, Bool.not_eq_true', Bool.and_eq_false_iff, decide_eq_false_iff_not] at h1
    refine ⟨h1.1.1, fun h0 => ?_⟩
    rcases h1.1.2 with h2 | h2
    · omega
    · omega) l.length 0 (by omega)
  simpa using this
theorem sortE.take : ∀ {l : List Ev} {lo : Int} (k : Nat), sortE l lo → k < l.length → ∀ e ∈ l.drop k, (evD l k).t ≤ e.t ∧ okEv e = true
  | x :: l, lo, 0, h, _ => fun e he => by
    show x.t ≤ e.t ∧ _
    rcases List.mem_cons.1 he with rfl | he
    · exact ⟨Int.le_refl _, h.1⟩
    · exact h.2.2.all e he
  | x :: l, lo, k + 1, h, hk => fun e he => h.2.2.take k (by simpa using hk) e he
/-- With all events known a choice is made, no later than the term. -/
theorem chcG_full {t : Tm} {key fin now : Int} (hf : fin ≤ now) : ∀ {l : List Ev} {lo : Int} {h : Nat}, sortE l lo → (chcG t key fin now l h).1 ≠ 0 ∧ (chcG t key fin now l h).2 ≤ fin ∧ ((chcG t key fin now l h).1 = 1 → (chcG t key fin now l h).2 < fin)
  | [], _, h, _ => by rw [chcG, if_pos hf]; exact ⟨ne20, Int.le_refl _, n21⟩
  | e :: l, lo, h, hs => by
    have ih := fun h' => chcG_full (t := t) (key := key) (now := now) hf (l := l) (h := h') hs.2.2
    rw [chcG, if_neg (by rw [hs.1]; decide)]
    by_cases c2 : fin ≤ e.t
    · rw [if_pos c2]; exact ⟨ne20, Int.le_refl _, n21⟩
    rw [if_neg c2]
    by_cases c3 : e.k = key ∧ e.d = false
    · rw [if_pos c3]; exact ⟨ne10, by show e.t ≤ fin; omega, fun _ => by show e.t < fin; omega⟩
    rw [if_neg c3]
    by_cases c4 : e.k = key
    · rw [if_pos c4]; exact ih _
    rw [if_neg c4]
    by_cases c5 : e.d = true ∧ t.f = 1
    · rw [if_pos c5]; exact ⟨ne20, by show e.t ≤ fin; omega, n21⟩
    rw [if_neg c5]
    by_cases c6 : e.d = true
    · rw [if_pos c6]; exact ih _
    rw [if_neg c6]
    by_cases c7 : t.f = 2 ∧ h.testBit e.k.toNat = true
    · rw [if_pos c7]; exact ⟨ne20, by show e.t ≤ fin; omega, n21⟩
    rw [if_neg c7]
    exact ih _
/-- No choice is made before the events. -/
theorem chcG_late {t : Tm} {key fin now : Int} : ∀ {l : List Ev} {lo : Int} {h : Nat}, sortE l lo → lo ≤ fin → (chcG t key fin now l h).1 ≠ 0 → lo ≤ (chcG t key fin now l h).2
  | [], _, h, _, hl, hc => by
    rw [chcG] at hc ⊢
    split at hc <;> rename_i h1
    · rw [if_pos h1]; exact hl
    · exact absurd rfl hc
  | e :: l, lo, h, hs, hl, hc => by
    have h1 := hs.2.1
    have ih : ∀ h', e.t ≤ fin → (chcG t key fin now l h').1 ≠ 0 → lo ≤ (chcG t key fin now l h').2 := fun h' hf hc' => by
      have := chcG_late (t := t) (key := key) (now := now) (l := l) (h := h') hs.2.2 hf hc'; omega
    rw [chcG, if_neg (by rw [hs.1]; decide)] at hc ⊢
    by_cases c2 : fin ≤ e.t
    · rw [if_pos c2]; exact hl
    rw [if_neg c2] at hc ⊢
    by_cases c3 : e.k = key ∧ e.d = false
    · rw [if_pos c3]; exact h1
    rw [if_neg c3] at hc ⊢
    by_cases c4 : e.k = key
    · rw [if_pos c4] at hc ⊢; exact ih _ (by omega) hc
    rw [if_neg c4] at hc ⊢
    by_cases c5 : e.d = true ∧ t.f = 1
    · rw [if_pos c5]; exact h1
    rw [if_neg c5] at hc ⊢
    by_cases c6 : e.d = true
    · rw [if_pos c6] at hc ⊢; exact ih _ (by omega) hc
    rw [if_neg c6] at hc ⊢
    by_cases c7 : t.f = 2 ∧ h.testBit e.k.toNat = true
    · rw [if_pos c7]; exact h1
    rw [if_neg c7] at hc ⊢
    exact ih _ (by omega) hc
/-- What flavor 2 makes of what flavor 0 makes: held no later, or the same. -/
def Sooner (a b : Int × Int) : Prop := (a.1 = 2 → b.1 = 2 ∧ b.2 ≤ a.2) ∧ (b.1 = 1 → a.1 = 1 ∧ a.2 = b.2)
theorem Sooner.refl (a : Int × Int) : Sooner a a := ⟨fun h => ⟨h, Int.le_refl _⟩, fun h => ⟨h, rfl⟩⟩
theorem chcG_02 {T q key fin now : Int} (hf : fin ≤ now) : ∀ {l : List Ev} {lo : Int} {h h' : Nat}, sortE l lo → Sooner (chcG ⟨T, q, 0⟩ key fin now l h) (chcG ⟨T, q, 2⟩ key fin now l h')
  | [], _, h, h', _ => by rw [chcG, chcG]; exact Sooner.refl _
  | e :: l, lo, h, h', hs => by
    have ih := fun h h' => chcG_02 (T := T) (q := q) (key := key) (fin := fin) (now := now) hf (l := l) (h := h) (h' := h') hs.2.2
    have hv : ¬ okEv e = false := by rw [hs.1]; decide
    rw [chcG, chcG, if_neg hv, if_neg hv]
    by_cases c2 : fin ≤ e.t
    · rw [if_pos c2, if_pos c2]; exact Sooner.refl _
    rw [if_neg c2, if_neg c2]
    by_cases c3 : e.k = key ∧ e.d = false
    · rw [if_pos c3, if_pos c3]; exact Sooner.refl _
    rw [if_neg c3, if_neg c3]
    by_cases c4 : e.k = key
    · rw [if_pos c4, if_pos c4]; exact ih _ _
    have q0 : ¬ (e.d = true ∧ (⟨T, q, 0⟩ : Tm).f = 1) := fun h => absurd (show (0 : Int) = 1 from h.2) (by decide)
    have q2 : ¬ (e.d = true ∧ (⟨T, q, 2⟩ : Tm).f = 1) := fun h => absurd (show (2 : Int) = 1 from h.2) (by decide)
    have q3 : ¬ ((⟨T, q, 0⟩ : Tm).f = 2 ∧ h.testBit e.k.toNat = true) := fun h => absurd (show (0 : Int) = 2 from h.1) (by decide)
    rw [if_neg c4, if_neg c4, if_neg q0, if_neg q2]
    by_cases c6 : e.d = true
    · rw [if_pos c6, if_pos c6]; exact ih _ _
    rw [if_neg c6, if_neg c6, if_neg q3]
    by_cases c7 : (⟨T, q, 2⟩ : Tm).f = 2 ∧ h'.testBit e.k.toNat = true
    · rw [if_pos c7]
      have h1 := chcG_full (t := ⟨T, q, 0⟩) (key := key) (now := now) hf (l := l) (h := h) hs.2.2
      have h2 := chcG_late (t := ⟨T, q, 0⟩) (key := key) (fin := fin) (now := now) (l := l) (h := h) hs.2.2 (by omega) h1.1
      exact ⟨fun _ => ⟨rfl, h2⟩, n21⟩
    rw [if_neg c7]
    exact ih _ _
theorem chcG_21 {T q key fin now : Int} (hf : fin ≤ now) : ∀ {l : List Ev} {lo : Int} {h' : Nat}, sortE l lo → Sooner (chcG ⟨T, q, 2⟩ key fin now l 0) (chcG ⟨T, q, 1⟩ key fin now l h')
  | [], _, h', _ => by rw [chcG, chcG]; exact Sooner.refl _
  | e :: l, lo, h', hs => by
    have ih := fun h' => chcG_21 (T := T) (q := q) (key := key) (fin := fin) (now := now) hf (l := l) (h' := h') hs.2.2
    have hv : ¬ okEv e = false := by rw [hs.1]; decide
    rw [chcG, chcG, if_neg hv, if_neg hv]
    by_cases c2 : fin ≤ e.t
    · rw [if_pos c2, if_pos c2]; exact Sooner.refl _
    rw [if_neg c2, if_neg c2]
    by_cases c3 : e.k = key ∧ e.d = false
    · rw [if_pos c3, if_pos c3]; exact Sooner.refl _
    rw [if_neg c3, if_neg c3]
    by_cases c4 : e.k = key
    · rw [if_pos c4, if_pos c4]; exact ih _
    have q2 : ¬ (e.d = true ∧ (⟨T, q, 2⟩ : Tm).f = 1) := fun h => absurd (show (2 : Int) = 1 from h.2) (by decide)
    have q4 : ¬ ((⟨T, q, 2⟩ : Tm).f = 2 ∧ (0 : Nat).testBit e.k.toNat = true) := fun h => by have := h.2; simp at this
    have q5 : ¬ ((⟨T, q, 1⟩ : Tm).f = 2 ∧ h'.testBit e.k.toNat = true) := fun h => absurd (show (1 : Int) = 2 from h.1) (by decide)
    rw [if_neg c4, if_neg c4, if_neg q2]
    by_cases c6 : e.d = true
    · rw [if_pos c6, if_pos (show e.d = true ∧ (⟨T, q, 1⟩ : Tm).f = 1 from ⟨c6, rfl⟩)]
      have h1 := chcG_full (t := ⟨T, q, 2⟩) (key := key) (now := now) hf (l := l) (h := 0 ||| 2 ^ e.k.toNat) hs.2.2
      have h2 := chcG_late (t := ⟨T, q, 2⟩) (key := key) (fin := fin) (now := now) (l := l) (h := 0 ||| 2 ^ e.k.toNat) hs.2.2 (by omega) h1.1
      exact ⟨fun _ => ⟨rfl, h2⟩, n21⟩
    rw [if_neg c6, if_neg q4, if_neg (show ¬ (e.d = true ∧ (⟨T, q, 1⟩ : Tm).f = 1) from fun h => c6 h.1), if_neg c6, if_neg q5]
    exact ih _

end Go.Proofs.Ytjfckchoklepbaa
