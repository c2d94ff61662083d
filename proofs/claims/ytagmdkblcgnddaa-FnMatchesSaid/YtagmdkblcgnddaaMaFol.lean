/- DERIVED. What follows of what the front of a queue is: what is told of a part is told of the whole. No condition. -/
import Derived.Test.YtagmdkblcgnddaaMaMath
import Derived.Test.YtagmdkblcgnddaaEvSort
namespace Go.Proofs.Ytagmdkblcgnddaa
open Go.RowKit

theorem noM_no {P : Prop} (h : 0 < noM.1) : P := absurd h (by decide)
theorem matL_pre {l : List Cb} {fin now : Int} {e : Ev} {rest : List Ev} (he : swOk e = true) : ∀ (p : List Ev) (S n : Nat), 0 < (matL l fin e.t p S n).1 → matL l fin now (p ++ e :: rest) S n = matL l fin e.t p S n
  | [], S, n, h => by
    rw [matL] at h ⊢
    rw [List.nil_append, matL, if_neg (by rw [he]; decide)]
    by_cases h1 : e.t < fin
    · rw [if_pos h1] at h
      exact noM_no h
    · rw [if_neg h1, if_pos (by omega)]
  | q :: p, S, n, h => by
    rw [matL] at h ⊢
    rw [List.cons_append, matL]
    by_cases h1 : swOk q = false
    · rw [if_pos h1, if_pos h1]
    · rw [if_neg h1] at h ⊢
      rw [if_neg h1]
      by_cases h2 : fin ≤ q.t
      · rw [if_pos h2, if_pos h2]
      · rw [if_neg h2] at h ⊢
        rw [if_neg h2]
        by_cases h3 : (!q.d || !fitsV l (S ||| 2 ^ q.k.toNat)) = true
        · rw [if_pos h3, if_pos h3]
        · rw [if_neg h3] at h ⊢
          rw [if_neg h3]
          by_cases h4 : (decide (0 ≤ (outV l (S ||| 2 ^ q.k.toNat)).1) && !(outV l (S ||| 2 ^ q.k.toNat)).2) = true
          · rw [if_pos h4, if_pos h4]
          · rw [if_neg h4] at h ⊢
            rw [if_neg h4]
            exact matL_pre he p _ _ h
/-- What is told of a part is told of the whole. -/
theorem matV_pre {l : List Cb} {t now : Int} {Q : List Ev} {i : Nat} (h0 : 0 < i) (hi : i < Q.length) (he : swOk (evD Q i) = true) (h : 0 < (matV l t (Q.take i) (evD Q i).t).1) : matV l t Q now = matV l t (Q.take i) (evD Q i).t := by
  cases Q with
  | nil => simp at hi
  | cons f r =>
    obtain ⟨j, rfl⟩ : ∃ j, i = j + 1 := ⟨i - 1, by omega⟩
    have e1 : evD (f :: r) (j + 1) = evD r j := rfl
    have hj : j < r.length := by simpa using hi
    have e2 : r = r.take j ++ evD r j :: r.drop (j + 1) := by
      rw [evD, List.getD_eq_getElem?_getD, List.getElem?_eq_getElem hj]
      show r = r.take j ++ r[j] :: r.drop (j + 1)
      rw [← List.drop_eq_getElem_cons hj, List.take_append_drop]
    rw [e1] at he h ⊢
    rw [List.take_succ_cons, matV] at h ⊢
    rw [matV]
    by_cases h1 : (okCbs l && (inB t 1 200 && (swOk f && f.d))) = false
    · rw [if_pos h1, if_pos h1]
    · rw [if_neg h1] at h ⊢
      rw [if_neg h1]
      by_cases h2 : fitsV l (2 ^ f.k.toNat) = false
      · rw [if_pos h2, if_pos h2]
      · rw [if_neg h2] at h ⊢
        rw [if_neg h2]
        have := matL_pre (l := l) (fin := f.t + t) (now := now) (rest := r.drop (j + 1)) he (r.take j) _ _ h
        rwa [← e2] at this
theorem pc_one : ∀ k, k < 24 → pc (2 ^ k) = 1 := by decide
/-- No combination has one switch alone. -/
theorem out_one {l : List Cb} (hC : okCbs l = true) {k : Nat} (hk : k < 24) : (outV l (2 ^ k)).1 < 0 := by
  rcases (outN_one hC (2 ^ k) l.length (Nat.le_refl _)).1 with ⟨i, hi, he, -⟩ | ⟨-, h⟩
  · have hf := okCbs_fit hC hi
    rw [cbFit, Bool.and_eq_true, Bool.and_eq_true] at hf
    have h2 := hf.2.1
    rw [he, Int.toNat_natCast, pc_one k hk] at h2
    exact absurd h2 (by decide)
  · show (outN l (2 ^ k) l.length).1 < 0
    rw [h]; decide
/-- What a whole queue tells is within these bounds. -/
def MaFine (x : Int × Int × Int) (m : Nat) (lo fin : Int) : Prop := 1 ≤ x.1 ∧ x.1 ≤ (m : Int) ∧ lo ≤ x.2.1 ∧ x.2.1 ≤ fin ∧ (0 ≤ x.2.2 ↔ 1 < x.1)
theorem finM_fine {l : List Cb} {S n m : Nat} {t lo fin : Int} (hn : 1 ≤ n) (hm : n ≤ m) (h1 : n = 1 → (outV l S).1 < 0) (ha : lo ≤ t) (hb : t ≤ fin) : MaFine (finM l S n t) m lo fin := by
  rw [finM]
  by_cases h : (outV l S).1 < 0
  · rw [if_pos h]
    exact ⟨Int.le_refl _, by show (1 : Int) ≤ m; omega, ha, hb, by show 0 ≤ (outV l S).1 ↔ (1 : Int) < 1; omega⟩
  · rw [if_neg h]
    have hn1 : n ≠ 1 := fun e => h (h1 e)
    exact ⟨by show (1 : Int) ≤ n; omega, by show (n : Int) ≤ m; omega, ha, hb, by show 0 ≤ (outV l S).1 ↔ (1 : Int) < n; omega⟩
theorem matL_fine {l : List Cb} {fin now lo : Int} (hf : fin ≤ now) (hlo : lo ≤ fin) : ∀ (r : List Ev) (S n : Nat), (∀ e ∈ r, swOk e = true ∧ lo ≤ e.t) → 1 ≤ n → (n = 1 → (outV l S).1 < 0) → MaFine (matL l fin now r S n) (n + r.length) lo fin
  | [], S, n, _, hn, h1 => by
    rw [matL, if_neg (by omega)]
    exact finM_fine hn (Nat.le_refl _) h1 hlo (Int.le_refl _)
  | q :: p, S, n, hq, hn, h1 => by
    obtain ⟨hs, ht⟩ := hq q (List.mem_cons_self ..)
    rw [matL, if_neg (by rw [hs]; decide)]
    by_cases h2 : fin ≤ q.t
    · rw [if_pos h2]
      exact finM_fine hn (by omega) h1 hlo (Int.le_refl _)
    · rw [if_neg h2]
      by_cases h3 : (!q.d || !fitsV l (S ||| 2 ^ q.k.toNat)) = true
      · rw [if_pos h3]
        exact finM_fine hn (by omega) h1 ht (by omega)
      · rw [if_neg h3]
        by_cases h4 : (decide (0 ≤ (outV l (S ||| 2 ^ q.k.toNat)).1) && !(outV l (S ||| 2 ^ q.k.toNat)).2) = true
        · rw [if_pos h4]
          rw [Bool.and_eq_true, decide_eq_true_eq] at h4
          refine ⟨by show (1 : Int) ≤ ((n + 1 : Nat) : Int); omega, by show ((n + 1 : Nat) : Int) ≤ _; rw [List.length_cons]; omega, ht, by show q.t ≤ fin; omega, ?_⟩
          show 0 ≤ (outV l (S ||| 2 ^ q.k.toNat)).1 ↔ (1 : Int) < ((n + 1 : Nat) : Int)
          have := h4.1
          omega
        · rw [if_neg h4]
          have := matL_fine (l := l) hf hlo p (S ||| 2 ^ q.k.toNat) (n + 1) (fun e he => hq e (List.mem_cons_of_mem _ he)) (by omega) (fun h => by omega)
          rwa [List.length_cons, Nat.add_comm p.length 1, ← Nat.add_assoc]
theorem matV_bad {l : List Cb} {t now : Int} {Q : List Ev} (h : (okCbs l && inB t 1 200) = false) : matV l t Q now = noM := by
  cases Q with
  | nil => rfl
  | cons f r =>
    rw [matV, if_pos]
    rw [← Bool.and_assoc, h, Bool.false_and]
theorem matV_fine {l : List Cb} {t now : Int} {f : Ev} {r : List Ev} (hC : okCbs l = true) (ht : inB t 1 200 = true) (hd : f.d = true) (hq : ∀ e ∈ f :: r, swOk e = true ∧ f.t ≤ e.t) (hf : f.t + t ≤ now) : MaFine (matV l t (f :: r) now) (r.length + 1) f.t (f.t + t) := by
  have hs := (hq f (List.mem_cons_self ..)).1
  have h1 : 1 ≤ t := by
    have h2 := ht
    unfold inB at h2
    simp only [decide_eq_true_eq] at h2
    omega
  obtain ⟨k, hk⟩ : ∃ k, k = f.k.toNat := ⟨_, rfl⟩
  have hk24 : k < 24 := by have := swOk_key hs; omega
  rw [matV, if_neg (by rw [hC, ht, hs, hd]; decide), ← hk]
  by_cases h2 : fitsV l (2 ^ k) = false
  · rw [if_pos h2]
    exact ⟨Int.le_refl _, by show (1 : Int) ≤ ((r.length + 1 : Nat) : Int); omega, Int.le_refl _, by show f.t ≤ f.t + t; omega, by show (0 : Int) ≤ -1 ↔ (1 : Int) < 1; omega⟩
  · rw [if_neg h2, Nat.add_comm]
    exact matL_fine (l := l) hf (by omega) r _ 1 (fun e he => hq e (List.mem_cons_of_mem _ he)) (Nat.le_refl _) (fun _ => out_one hC hk24)

end Go.Proofs.Ytagmdkblcgnddaa
