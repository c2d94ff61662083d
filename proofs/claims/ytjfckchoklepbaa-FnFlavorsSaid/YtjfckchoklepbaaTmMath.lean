/- DERIVED. Choices: their kinds and times, and that a choice that is made stays with all that comes later. No condition. -/
import Derived.Test.YtjfckchoklepbaaTmDef
namespace Go.Proofs.Ytjfckchoklepbaa
open Go.RowKit

theorem chcG_time {t : Tm} {key fin now : Int} : ∀ {l : List Ev} {h : Nat}, (∀ e ∈ l, e.t ≤ now) → (chcG t key fin now l h).1 ≠ 0 → (chcG t key fin now l h).2 ≤ now
  | [], h, _, hc => by
    rw [chcG] at hc ⊢
    split at hc <;> rename_i h1
    · rw [if_pos h1]; exact h1
    · exact absurd rfl hc
  | e :: l, h, ht, hc => by
    have h1 := ht e List.mem_cons_self
    have h2 := fun h' => chcG_time (t := t) (key := key) (fin := fin) (l := l) (h := h') (fun x hx => ht x (List.mem_cons_of_mem _ hx))
    rw [chcG] at hc ⊢
    by_cases c1 : okEv e = false
    · rw [if_pos c1] at hc; exact absurd rfl hc
    rw [if_neg c1] at hc ⊢
    by_cases c2 : fin ≤ e.t
    · rw [if_pos c2]; show fin ≤ now; omega
    rw [if_neg c2] at hc ⊢
    by_cases c3 : e.k = key ∧ e.d = false
    · rw [if_pos c3]; exact h1
    rw [if_neg c3] at hc ⊢
    by_cases c4 : e.k = key
    · rw [if_pos c4] at hc ⊢; exact h2 _ hc
    rw [if_neg c4] at hc ⊢
    by_cases c5 : e.d = true ∧ t.f = 1
    · rw [if_pos c5]; exact h1
    rw [if_neg c5] at hc ⊢
    by_cases c6 : e.d = true
    · rw [if_pos c6] at hc ⊢; exact h2 _ hc
    rw [if_neg c6] at hc ⊢
    by_cases c7 : t.f = 2 ∧ h.testBit e.k.toNat = true
    · rw [if_pos c7]; exact h1
    rw [if_neg c7] at hc ⊢
    exact h2 _ hc
theorem chcG_kind {t : Tm} {key fin now : Int} : ∀ {l : List Ev} {h : Nat}, (chcG t key fin now l h).1 = 0 ∨ (chcG t key fin now l h).1 = 1 ∨ (chcG t key fin now l h).1 = 2
  | [], h => by rw [chcG]; split <;> simp
  | e :: l, h => by
    have h2 := fun h' => chcG_kind (t := t) (key := key) (fin := fin) (now := now) (l := l) (h := h')
    rw [chcG]
    repeat' split
    all_goals first | simp; done | exact h2 _
/-- A choice that is made stays with all that comes later. -/
theorem chcG_more {t : Tm} {key fin n1 n2 : Int} {m : List Ev} (hn : n1 ≤ n2) (hm : ∀ e ∈ m, n1 ≤ e.t ∧ okEv e = true) : ∀ {l : List Ev} {h : Nat}, (chcG t key fin n1 l h).1 ≠ 0 → chcG t key fin n2 (l ++ m) h = chcG t key fin n1 l h
  | [], h, hc => by
    rw [chcG] at hc ⊢
    split at hc <;> rename_i h1
    · rw [if_pos h1, List.nil_append]
      cases m with
      | nil => rw [chcG, if_pos (by omega)]
      | cons e m =>
        have := hm e List.mem_cons_self
        rw [chcG, if_neg (by rw [this.2]; simp), if_pos (by omega)]
    · exact absurd rfl hc
  | e :: l, h, hc => by
    have h2 := fun h' => chcG_more (t := t) (key := key) (fin := fin) hn hm (l := l) (h := h')
    rw [chcG] at hc ⊢
    rw [List.cons_append, chcG]
    repeat' split at hc
    all_goals simp_all
theorem chcV_more {t : Tm} {key time n1 n2 : Int} {l m : List Ev} (hn : n1 ≤ n2) (hm : ∀ e ∈ m, n1 ≤ e.t ∧ okEv e = true) (hc : (chcV t key time l n1).1 ≠ 0) : chcV t key time (l ++ m) n2 = chcV t key time l n1 := by
  rw [chcV] at hc ⊢
  rw [chcV]
  split at hc <;> rename_i h1
  · rw [if_pos h1, if_pos h1]; exact chcG_more hn hm hc
  · exact absurd rfl hc
theorem chcV_time {t : Tm} {key time now : Int} {l : List Ev} (ht : ∀ e ∈ l, e.t ≤ now) (hc : (chcV t key time l now).1 ≠ 0) : (chcV t key time l now).2 ≤ now := by
  rw [chcV] at hc ⊢
  split at hc <;> rename_i h1
  · rw [if_pos h1]; exact chcG_time ht hc
  · exact absurd rfl hc
theorem chcV_kind {t : Tm} {key time now : Int} {l : List Ev} : (chcV t key time l now).1 = 0 ∨ (chcV t key time l now).1 = 1 ∨ (chcV t key time l now).1 = 2 := by
  rw [chcV]; split
  · exact chcG_kind
  · exact .inl rfl

end Go.Proofs.Ytjfckchoklepbaa
