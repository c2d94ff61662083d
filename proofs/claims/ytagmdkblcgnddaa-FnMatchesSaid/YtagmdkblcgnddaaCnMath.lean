/- DERIVED. What is active in a valid combiner is a mask of switches. No condition. -/
import Derived.Test.YtagmdkblcgnddaaCbDef
namespace Go.Proofs.Ytagmdkblcgnddaa
open Go.RowKit

theorem wraps63 (n : Int) (h₀ : 0 ≤ n) (h₁ : n < 2 ^ 63) : IntKind.i64.wrap n = n := IntWalk.i64_in _ ⟨by omega, by omega⟩
theorem dif_nat63 (a b : Nat) (ha : a < 2 ^ 63) (hb : b < 2 ^ 63) : bits .andNot .i64 (a : Int) (b : Int) = ((dif a b : Nat) : Int) := by
  have hp : 2 ^ 63 ≤ 2 ^ IntKind.i64.bits := Nat.pow_le_pow_right (by decide) (by decide)
  have ha' : a % 2 ^ IntKind.i64.bits = a := Nat.mod_eq_of_lt (Nat.lt_of_lt_of_le ha hp)
  have hb' : b % 2 ^ IntKind.i64.bits = b := Nat.mod_eq_of_lt (Nat.lt_of_lt_of_le hb hp)
  have e : (BitVec.ofNat IntKind.i64.bits a &&& ~~~BitVec.ofNat IntKind.i64.bits b).toNat = dif a b := by
    apply Nat.eq_of_testBit_eq
    intro i
    rw [dif_bit, BitVec.testBit_toNat, BitVec.getLsbD_and, BitVec.getLsbD_not, ← BitVec.testBit_toNat, ← BitVec.testBit_toNat, BitVec.toNat_ofNat, BitVec.toNat_ofNat, ha', hb']
    by_cases hi : i < IntKind.i64.bits
    · simp [hi]
    · have : a.testBit i = false := Nat.testBit_lt_two_pow (Nat.lt_of_lt_of_le ha (Nat.le_trans hp (Nat.pow_le_pow_right (by decide) (by omega))))
      simp [this]
  simp only [bits, BitVec.ofInt_natCast, e]
  have := dif_lt (b := b) ha
  exact wraps63 _ (Int.natCast_nonneg _) (by omega)
theorem dif_zero {a b : Nat} (h : dif a b = 0) : a &&& b = a := by
  unfold dif at h
  apply Nat.eq_of_testBit_eq
  intro i
  have := congrArg (fun x => x.testBit i) h
  simp only [Nat.testBit_xor, Nat.zero_testBit] at this
  cases h1 : a.testBit i <;> cases h2 : (a &&& b).testBit i <;> simp_all
theorem dif_le {a b : Nat} (h : dif a b = 0) : a ≤ b := by
  have := dif_zero h
  have h2 : a &&& b ≤ b := Nat.and_le_right
  omega
theorem dif_sub {a b : Nat} (h : a &&& b = a) : dif a b = 0 := by unfold dif; rw [h, Nat.xor_self]
theorem cbFit_keys {c : Cb} (h : cbFit c = true) : 0 ≤ c.k ∧ c.k ≤ 16777215 ∧ 24 ≤ c.o ∧ c.o ≤ 31 ∧ 2 ≤ pc c.k.toNat := by
  rw [cbFit, Bool.and_eq_true, Bool.and_eq_true] at h
  have h1 : 0 ≤ c.k ∧ c.k ≤ 16777215 := of_decide_eq_true h.1
  have h2 : (2 : Int) ≤ ((pc c.k.toNat : Nat) : Int) ∧ ((pc c.k.toNat : Nat) : Int) ≤ 4 := of_decide_eq_true h.2.1
  have h3 : 24 ≤ c.o ∧ c.o ≤ 31 := of_decide_eq_true h.2.2
  exact ⟨h1.1, h1.2, h3.1, h3.2, by omega⟩
theorem okCbs_fit {l : List Cb} (h : okCbs l = true) {j : Nat} (hj : j < l.length) : cbFit (cbD l j) = true := by
  rw [okCbs, Bool.and_eq_true] at h
  exact (cbN_at h.1 j hj).1
theorem okCbs_apart {l : List Cb} (h : okCbs l = true) {i j : Nat} (hi : i < j) (hj : j < l.length) : (cbD l i).k ≠ (cbD l j).k ∧ (cbD l i).o ≠ (cbD l j).o := by
  rw [okCbs, Bool.and_eq_true] at h
  have h1 := apN_at (cbN_at h.1 j hj).2 i hi
  rw [cbLike, Bool.or_eq_false_iff] at h1
  exact ⟨of_decide_eq_false h1.1, of_decide_eq_false h1.2⟩
theorem cbD_mem {l : List Cb} {c : Cb} (h : c ∈ l) : ∃ j, j < l.length ∧ cbD l j = c := by
  obtain ⟨j, hj, rfl⟩ := List.getElem_of_mem h
  exact ⟨j, hj, by rw [cbD]; simp [List.getElem?_eq_getElem hj]⟩
theorem kyV_cases (l : List Cb) (o : Int) : kyV l o = 0 ∨ ∃ c ∈ l, c.o = o ∧ kyV l o = c.k := by
  induction l with
  | nil => exact .inl rfl
  | cons c l ih =>
    by_cases h : c.o = o
    · exact .inr ⟨c, List.mem_cons_self, h, by rw [kyV, if_pos h]⟩
    · rw [kyV, if_neg h]
      rcases ih with h0 | ⟨d, hd, h1, h2⟩
      · exact .inl h0
      · exact .inr ⟨d, List.mem_cons_of_mem _ hd, h1, h2⟩
theorem kyV_nat {l : List Cb} (h : okCbs l = true) (o : Int) : ∃ K : Nat, kyV l o = (K : Int) ∧ K < 16777216 := by
  rcases kyV_cases l o with h0 | ⟨c, hc, _, h2⟩
  · exact ⟨0, by rw [h0]; rfl, by decide⟩
  · obtain ⟨j, hj, rfl⟩ := cbD_mem hc
    have := cbFit_keys (okCbs_fit h hj)
    exact ⟨(cbD l j).k.toNat, by rw [h2]; omega, by omega⟩
/-- The numbers of all that is active fit an int. -/
def AvWf (A : List Av) : Prop := ∀ j, j < A.length → (-(2 ^ 63) ≤ (avD A j).o ∧ (avD A j).o < 2 ^ 63) ∧ (-(2 ^ 63) ≤ (avD A j).l ∧ (avD A j).l < 2 ^ 63)
theorem avN_at {C : List Cb} {d : Int} {A : List Av} : ∀ {m : Nat}, avN C d A m = true → ∀ j, j < m → avOne C d A j = true
  | 0, _, j, hj => absurd hj (Nat.not_lt_zero _)
  | m + 1, h, j, hj => by
    rw [avN, Bool.and_eq_true] at h
    rcases Nat.lt_or_ge j m with h2 | h2
    · exact avN_at h.1 j h2
    · obtain rfl : j = m := by omega
      exact h.2
/-- What is active, in numbers: its switches are a part of its combination's. -/
theorem avOne_nat {C : List Cb} {d : Int} {A : List Av} {j : Nat} (hC : okCbs C = true) (hw : AvWf A) (hj : j < A.length) (h : avOne C d A j = true) :
    ∃ L K : Nat, (avD A j).l = (L : Int) ∧ kyV C (avD A j).o = (K : Int) ∧ 0 < L ∧ L &&& K = L ∧ K < 16777216 ∧ L < 16777216 := by
  rw [avOne, Bool.and_eq_true, Bool.and_eq_true] at h
  obtain ⟨⟨h1, h2⟩, _⟩ := h
  obtain ⟨K, hK, hK2⟩ := kyV_nat hC (avD A j).o
  have h1' : ¬ (avD A j).l ≤ 0 := by simpa using h1
  have := hw j hj
  obtain ⟨L, hL⟩ : ∃ L : Nat, (avD A j).l = (L : Int) := ⟨(avD A j).l.toNat, by omega⟩
  rw [hK, hL, dif_nat63 L K (by omega) (by omega)] at h2
  have h3 : dif L K = 0 := by simpa using h2
  exact ⟨L, K, hL, hK, by omega, dif_zero h3, hK2, Nat.lt_of_le_of_lt (dif_le h3) hK2⟩
theorem hlN_nat {C : List Cb} {d : Int} {A : List Av} (hC : okCbs C = true) (hw : AvWf A) (hd : inB d 0 16777215 = true) : ∀ {m : Nat}, m ≤ A.length → avN C d A m = true → ∃ X : Nat, hlN d A m = (X : Int) ∧ X < 16777216
  | 0, _, _ => by
    have : 0 ≤ d ∧ d ≤ 16777215 := of_decide_eq_true hd
    exact ⟨d.toNat, by rw [hlN]; omega, by omega⟩
  | m + 1, hm, h => by
    rw [avN, Bool.and_eq_true] at h
    obtain ⟨X, hX, hX2⟩ := hlN_nat hC hw hd (by omega : m ≤ A.length) h.1
    obtain ⟨L, K, hL, _, _, _, _, hL2⟩ := avOne_nat hC hw (by omega) h.2
    refine ⟨X ||| L, by rw [hlN, hX, hL, or_nat X L (by omega) (by omega)], ?_⟩
    exact Nat.or_lt_two_pow (n := 24) hX2 hL2
theorem okAvs_nat {c : Cn} (hC : okCbs c.C = true) (hw : AvWf c.A) (h : okAvs c.C c.d c.A = true) : ∃ X : Nat, hlV c = (X : Int) ∧ X < 16777216 := by
  rw [okAvs, Bool.and_eq_true] at h
  exact hlN_nat hC hw h.2 (Nat.le_refl _) h.1
theorem lastT_at {l : List Ev} {i : Nat} (h : l.length = i + 1) (d : Int) : lastT l d = (evD l i).t := by
  rw [lastT, List.getLast?_eq_getElem?, h, Nat.add_sub_cancel, evD, List.getD_eq_getElem?_getD, List.getElem?_eq_getElem (by omega)]
  rfl

end Go.Proofs.Ytagmdkblcgnddaa
