/- DERIVED. The reference's l1In: called with any numbers, it tells whether the first lies between the others. · The laws' own small functions on slices of ints, each called with a slice that reads as known numbers: a copy has these numbers, two slices are compared as their numbers are. -/
import Derived.Test.YtbpopgplpipfeaaCore
import Derived.Test.YtbpopgplpipfeaaProg
import Derived.WalkSmall
namespace Go.Proofs.Ytbpopgplpipfeaa
open Go.RowKit

theorem l1In_any (x a b : Int) (w : World) : Calls Try.prog 49 #[.int .i64 x, .int .i64 a, .int .i64 b] w fun e w' => e = .returned (.bool (decide (a ≤ x ∧ x ≤ b))) ∧ w = w' := by
  by_cases h1 : a ≤ x
  · by_cases h2 : x ≤ b
    · rw [decide_eq_true ⟨h1, h2⟩]
      go_enter Try.func49, Try.ntmps49
      go_wp2
      go_ret
      exact ⟨rfl, rfl⟩
    · rw [decide_eq_false (fun h => h2 h.2)]
      go_enter Try.func49, Try.ntmps49
      go_wp2
      go_ret
      exact ⟨rfl, rfl⟩
  · rw [decide_eq_false (fun h => h1 h.1)]
    go_enter Try.func49, Try.ntmps49
    go_wp2
    go_ret
    exact ⟨rfl, rfl⟩

def inB (x a b : Int) : Bool := decide (a ≤ x ∧ x ≤ b)
theorem inB_q (x a b : Int) (v : Bool) (hv : v = inB x a b) (w : World) : Calls Try.prog 49 #[.int .i64 x, .int .i64 a, .int .i64 b] w fun e w' => e = .returned (.bool v) ∧ w' = w :=
  (l1In_any x a b w).mono fun _ _ ⟨he, hw⟩ => ⟨by rw [he, hv]; rfl, hw.symm⟩
theorem inB_any (x a b : Int) (w : World) : Calls Try.prog 49 #[.int .i64 x, .int .i64 a, .int .i64 b] w fun e w' => e = .returned (.bool (inB x a b)) ∧ w = w' := l1In_any x a b w
end Go.Proofs.Ytbpopgplpipfeaa

namespace Go.Proofs.Ytbpopgplpipfeaa
open Go.RowKit

theorem info_int : (Try.prog.info? 3).map (fun i => (i.zero, i.size, i.bytes)) = some (some (.int .i64 0), 1, 8) := by kernel_rfl

theorem ints_doneI {zs : List Int} {xs : List Value} {k : IntKind} (hl : xs.length = zs.length) (h : ∀ j, j < zs.length → xs[j]? = some (.int k (zs.getD j 0))) : xs = zs.map (.int k) := by
  apply List.ext_getElem?
  intro j
  by_cases hj : j < zs.length
  · rw [h j hj]; simp [List.getElem?_eq_getElem hj]
  · rw [List.getElem?_eq_none (by omega), List.getElem?_eq_none (by simp; omega)]

theorem made_boundI {i0 : TypeInfo} {n : Nat} (h : i0.bytes = 8) (hn : n ≤ 1048576) : i0.bytes * n ≤ 281474976710656 := by rw [h]; omega

theorem take_sameI {za zb : List Int} (hl : za.length = zb.length) (h : ∀ j, j < za.length → za.getD j 0 = zb.getD j 0) : za = zb := by
  apply List.ext_getElem hl
  intro j h1 h2
  have := h j h1
  simpa [List.getElem?_eq_getElem h1, List.getElem?_eq_getElem h2] using this

/-- The mark that a law writes into place j of a slice, counted from k on. -/
def mark64 (k : Int) (j : Nat) : Value := .int .i64 (k + j)
def marks64 (k : Int) (n : Nat) : List Value := (List.range n).map (mark64 k)
theorem marks64_length (k : Int) (n : Nat) : (marks64 k n).length = n := by simp [marks64]
theorem marks64_get (k : Int) (n j : Nat) (h : j < n) : (marks64 k n)[j]? = some (mark64 k j) := by simp [marks64, h]
theorem marks64_done {k : Int} {n : Nat} {xs : List Value} (hl : xs.length = n) (h : ∀ j, j < n → xs[j]? = some (mark64 k j)) : xs = marks64 k n := by
  apply List.ext_getElem?
  intro j
  by_cases hj : j < n
  · rw [h j hj, marks64_get k n j hj]
  · rw [List.getElem?_eq_none (by omega), List.getElem?_eq_none (by rw [marks64_length]; omega)]

/-- A row of numbers as a datum. -/
def ones (zs : List Int) : List (List Ce) := zs.map fun z => [.int z]
theorem ones_len (zs : List Int) : (ones zs).length = zs.length := by simp [ones]
theorem rdC_ints {w : World} {k : IntKind} {v : Value} {c : Ce} (h : RdC w (.row [.int k]) v c) : ∃ zs : List Int, c = .row (ones zs) ∧ Rd w v (zs.map (.int k)) ∧ zs.length ≤ maxLen := by
  simp only [RdC] at h
  obtain ⟨rs, a, cap, rfl, rfl, hl, h⟩ := h
  rcases h with rfl | ⟨b, off, rfl, hlt, h⟩
  · exact ⟨[], rfl, ⟨a, cap, rfl, .inl rfl⟩, Nat.zero_le _⟩
  · have key : ∀ n, n ≤ rs.length → ∃ zs : List Int, zs.length = n ∧ rs.take n = ones zs ∧ ∀ i (hi : i < zs.length), w.cell? ⟨b, off + i, none⟩ = some (.int k zs[i]) := by
      intro n
      induction n with
      | zero => intro _; exact ⟨[], rfl, rfl, fun i hi => by simp at hi⟩
      | succ n ih =>
        intro hn
        obtain ⟨zs, h1, h2, h3⟩ := ih (by omega)
        obtain ⟨vs, v1, v2, v3⟩ := h n (by omega)
        obtain ⟨v, vs', c, cs', rfl, e2, e3, e4⟩ := v3.consInv
        obtain ⟨rfl, rfl⟩ := e4.nilInv
        obtain ⟨z, rfl, rfl⟩ := e3.intInv
        refine ⟨zs ++ [z], by simp [h1], ?_, fun i hi => ?_⟩
        · rw [List.take_succ_eq_append_getElem (by omega), h2, e2]
          simp [ones]
        · by_cases hin : i < zs.length
          · rw [List.getElem_append_left hin]; exact h3 i hin
          · obtain rfl : i = n := by simp at hi; omega
            rw [List.getElem_append_right (by omega)]
            have := v2 0 (by simp)
            simpa [h1] using this
    obtain ⟨zs, h1, h2, h3⟩ := key rs.length (Nat.le_refl _)
    rw [List.take_length] at h2
    refine ⟨zs, by rw [h2], ⟨some ⟨b, off, none⟩, cap, by simp [h1], .inr ⟨b, off, rfl, hlt, fun j hj => ?_⟩⟩, by omega⟩
    have hj' : j < zs.length := by simpa using hj
    rw [h3 j hj']
    simp
theorem owC_ints {w : World} {B n : Nat} {e : TypeId} {k : IntKind} {u : Value} {zs : List Int} (h : w.ownsRow B e 1 u n (zs.map (.int k))) (hl : zs.length ≤ maxLen) : ∃ fp, fp.Nodup ∧ OwC w B (.row [.int k]) u (.row (ones zs)) fp := by
  have hn : zs.length = n := by simpa using h.1
  rcases h.2 with ⟨rfl, h0⟩ | ⟨g, cap, cur, rfl, hg, hh, hnc, hcm, hcs, ht⟩
  · have : zs = [] := List.eq_nil_of_length_eq_zero (by omega)
    subst this
    exact ⟨[], List.nodup_nil, OwC.rowNil⟩
  · refine ⟨[g], by simp, ?_⟩
    have e0 : [g] = g :: (List.replicate zs.length ([] : List Nat)).flatten := by simp
    rw [e0]
    refine OwC.rowMk (by rw [ones_len, hn]) (by rw [ones_len]; exact hl) hg hh ?_ (by rw [ones_len]; simp) fun i hi hi' => ?_
    · rw [ones_len]; simp; omega
    · have hz : i < zs.length := by rw [ones_len] at hi; exact hi
      have hcur : (cur.toList.drop i).take 1 = [.int k zs[i]] := by
        have h1 : (cur.toList.take (n * 1))[i]? = some (.int k zs[i]) := by rw [ht]; simp [List.getElem?_eq_getElem hz]
        have hi2 : i < cur.toList.length := by simp; omega
        rw [List.getElem?_take_of_lt (by omega), List.getElem?_eq_getElem hi2] at h1
        rw [List.drop_eq_getElem_cons hi2, List.take_succ_cons, List.take_zero]
        simpa using h1
      simp only [List.length_cons, List.length_nil, Nat.zero_add, Nat.mul_one]
      rw [hcur]
      have e1 : (ones zs)[i] = [.int zs[i]] := by simp [ones]
      have e2 : (List.replicate zs.length ([] : List Nat))[i] = [] := by simp
      rw [e1, e2]
      exact OwL.cons (OwC.mkInt k _) OwL.nil
/-- An owned row of numbers, as the laws' functions on it want it. -/
theorem OwC.ints {w : World} {B : Nat} {k : IntKind} {v : Value} {c : Ce} {fp : List Nat} (h : OwC w B (.row [.int k]) v c fp) : ∃ zs : List Int, c = .row (ones zs) ∧ zs.length ≤ maxLen ∧ Rd w v (zs.map (.int k)) := by
  obtain ⟨zs, hc, hr, hl⟩ := rdC_ints h.rd
  exact ⟨zs, hc, hl, hr⟩

/-- The marks that a law writes into a row of n numbers, counted from k on. -/
def marksZ (k : Int) (n : Nat) : List Int := (List.range n).map fun (j : Nat) => k + (j : Int)
theorem marksZ_len (k : Int) (n : Nat) : (marksZ k n).length = n := by simp [marksZ]
theorem marksZ_vals (k : Int) (n : Nat) : (marksZ k n).map (.int .i64) = marks64 k n := by simp [marksZ, marks64, mark64]

end Go.Proofs.Ytbpopgplpipfeaa
