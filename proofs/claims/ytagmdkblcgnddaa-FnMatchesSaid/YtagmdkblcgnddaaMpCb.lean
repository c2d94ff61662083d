/- DERIVED. The maps that the program makes of combinations, as lists of pairs; the elements of slices of combinations, of what is active. No condition. -/
import Derived.Test.YtagmdkblcgnddaaMp
import Derived.Test.YtagmdkblcgnddaaCnMath
namespace Go.Proofs.Ytagmdkblcgnddaa
open Go.RowKit

def outsOf (l : List Cb) : List (Int × Int) := l.map fun c => (c.o, c.k)
def kysOf (l : List Cb) : List (Int × Int) := l.map fun c => (c.k, c.o)
theorem outsOf_at (l : List Cb) (o : Int) : (mpAt (outsOf l) o).getD 0 = kyV l o := by
  induction l with
  | nil => rfl
  | cons c l ih =>
    by_cases h : c.o = o
    · rw [kyV, if_pos h, outsOf, List.map_cons, mpAt, List.find?_cons_of_pos (by simpa using h)]; rfl
    · rw [kyV, if_neg h, ← ih, outsOf, List.map_cons, mpAt, List.find?_cons_of_neg (by simpa using h)]; rfl
theorem outsOf_take {l : List Cb} {j : Nat} (h : j < l.length) : outsOf (l.take (j + 1)) = outsOf (l.take j) ++ [((cbD l j).o, (cbD l j).k)] := by
  rw [cbD_take l j h, outsOf, List.map_append]; rfl
theorem kysOf_take {l : List Cb} {j : Nat} (h : j < l.length) : kysOf (l.take (j + 1)) = kysOf (l.take j) ++ [((cbD l j).k, (cbD l j).o)] := by
  rw [cbD_take l j h, kysOf, List.map_append]; rfl
theorem take_mem {l : List Cb} {j : Nat} {c : Cb} (h : c ∈ l.take j) : ∃ i, i < j ∧ i < l.length ∧ cbD l i = c := by
  obtain ⟨i, hi, rfl⟩ := List.getElem_of_mem h
  rw [List.length_take] at hi
  exact ⟨i, by omega, by omega, by rw [cbD]; simp [List.getElem?_eq_getElem (show i < l.length by omega)]⟩
theorem outsOf_new {l : List Cb} (ho : okCbs l = true) {j : Nat} (h : j < l.length) : ∀ p ∈ outsOf (l.take j), p.1 ≠ (cbD l j).o := fun p hp => by
  obtain ⟨c, hc, rfl⟩ := List.mem_map.1 hp
  obtain ⟨i, hi, _, rfl⟩ := take_mem hc
  exact (okCbs_apart ho hi h).2
theorem kysOf_new {l : List Cb} (ho : okCbs l = true) {j : Nat} (h : j < l.length) : ∀ p ∈ kysOf (l.take j), p.1 ≠ (cbD l j).k := fun p hp => by
  obtain ⟨c, hc, rfl⟩ := List.mem_map.1 hp
  obtain ⟨i, hi, _, rfl⟩ := take_mem hc
  exact (okCbs_apart ho hi h).1
theorem mpAt_filter (L : List (Int × Int)) (y x : Int) : mpAt (L.filter (fun p => !decide (p.1 = y))) x = if x = y then none else mpAt L x := by
  induction L with
  | nil => simp [mpAt]
  | cons p L ih =>
    by_cases h1 : p.1 = y
    · rw [List.filter_cons_of_neg (by simp [h1]), ih]
      by_cases h2 : x = y
      · simp [h2]
      · rw [if_neg h2, if_neg h2, mpAt, mpAt, List.find?_cons_of_neg (by simpa [h1] using Ne.symm h2)]
    · rw [List.filter_cons_of_pos (by simp [h1])]
      by_cases h3 : p.1 = x
      · rw [mpAt, List.find?_cons_of_pos (by simpa using h3), mpAt, List.find?_cons_of_pos (by simpa using h3), if_neg (by rw [← h3]; exact h1)]
      · have e1 : mpAt (p :: L.filter (fun p => !decide (p.1 = y))) x = mpAt (L.filter (fun p => !decide (p.1 = y))) x := by rw [mpAt, List.find?_cons_of_neg (by simpa using h3)]; rfl
        have e2 : mpAt (p :: L) x = mpAt L x := by rw [mpAt, List.find?_cons_of_neg (by simpa using h3)]; rfl
        rw [e1, e2, ih]
/-- The pairs without the extra keys of the first n that are active. -/
def delN (L : List (Int × Int)) (A : List Av) : Nat → List (Int × Int)
  | 0 => L
  | j + 1 => (delN L A j).filter (fun p => !decide (p.1 = (avD A j).o))
theorem delN_at (L : List (Int × Int)) (A : List Av) (i : Nat) : ∀ j, mpAt (delN L A j) (avD A i).o = if aoN A i j = true then mpAt L (avD A i).o else none
  | 0 => by rw [delN, aoN, if_pos rfl]
  | j + 1 => by
    rw [delN, mpAt_filter, delN_at L A i j, aoN]
    by_cases h : (avD A i).o = (avD A j).o
    · rw [if_pos h, decide_eq_true h.symm]; simp
    · rw [if_neg h, decide_eq_false (Ne.symm h)]; simp
theorem delN_ky (C : List Cb) (A : List Av) (j : Nat) : (mpAt (delN (outsOf C) A j) (avD A j).o).getD 0 = if aoN A j j = true then kyV C (avD A j).o else 0 := by
  rw [delN_at]
  split
  · exact outsOf_at _ _
  · rfl
theorem cb_at {w : World} {a : Option Addr} {n cap : Nat} {l : List Cb} (h : RdN w (.slice a n cap) l.length (flatCb l)) {j : Nat} (hj : j < l.length) :
    ∃ b off, a = some ⟨b, off, none⟩ ∧ b < w.heap.size ∧ w.cell? ⟨b, off + j * 2, none⟩ = some (.int .i64 (cbD l j).k) ∧ w.cell? ⟨b, off + j * 2 + 1, none⟩ = some (.int .i64 (cbD l j).o) := by
  rcases rd_cbs h with ⟨rfl, _⟩ | ⟨b, off, cap', _, e, hlt, hc⟩
  · simp at hj
  · simp only [Value.slice.injEq] at e
    exact ⟨b, off, e.1, hlt, hc j hj⟩
theorem av_at {w : World} {a : Option Addr} {n cap : Nat} {l : List Av} (h : RdN w (.slice a n cap) l.length (flatAv l)) {j : Nat} (hj : j < l.length) :
    ∃ b off, a = some ⟨b, off, none⟩ ∧ b < w.heap.size ∧ w.cell? ⟨b, off + j * 3, none⟩ = some (.int .i64 (avD l j).o) ∧ w.cell? ⟨b, off + j * 3 + 1, none⟩ = some (.int .i64 (avD l j).l) ∧ w.cell? ⟨b, off + j * 3 + 2, none⟩ = some (.bool (avD l j).p) := by
  rcases rd_avs h with ⟨rfl, _⟩ | ⟨b, off, cap', _, e, hlt, hc⟩
  · simp at hj
  · simp only [Value.slice.injEq] at e
    exact ⟨b, off, e.1, hlt, hc j hj⟩
theorem ev_at {w : World} {a : Option Addr} {n cap : Nat} {l : List Ev} (h : RdN w (.slice a n cap) l.length (flatEv l)) {j : Nat} (hj : j < l.length) :
    ∃ b off, a = some ⟨b, off, none⟩ ∧ b < w.heap.size ∧ w.cell? ⟨b, off + j * 3, none⟩ = some (.int .i64 (evD l j).t) ∧ w.cell? ⟨b, off + j * 3 + 1, none⟩ = some (.int .i64 (evD l j).k) ∧ w.cell? ⟨b, off + j * 3 + 2, none⟩ = some (.bool (evD l j).d) := by
  rcases rd_evs h with ⟨rfl, _⟩ | ⟨b, off, cap', _, e, hlt, hc⟩
  · simp at hj
  · simp only [Value.slice.injEq] at e
    exact ⟨b, off, e.1, hlt, hc j hj⟩
theorem rdN_shape {w : World} {v : Value} {n : Nat} {xs : List Value} (h : RdN w v n xs) : ∃ a cap, v = .slice a n cap := by obtain ⟨a, cap, rfl, _⟩ := h; exact ⟨a, cap, rfl⟩
/-- The test of the program on what is active at place j, when its map has ky for its extra key. -/
def avImp (l : Int) (p : Bool) (ky hl : Int) : Bool := (!decide (l = 0) && (bits .andNot .i64 l ky == 0)) && ((p == (l == ky)) && (bits .and .i64 l hl == 0))
theorem ofInt_neg {l : Int} (h : -(2 ^ 63) ≤ l) (h0 : l < 0) : (BitVec.ofInt 64 l).toNat = (l + 2 ^ 64).toNat := by
  rw [BitVec.toNat_ofInt]; omega
theorem wrap_zero {n : Nat} (hn : n < 2 ^ 64) (h : IntKind.i64.wrap (n : Int) = 0) : n = 0 := by
  unfold IntKind.wrap at h
  simp [IntKind.bits, IntKind.signed] at h
  omega
theorem andNot_neg {l : Int} {K : Nat} (h : -(2 ^ 63) ≤ l) (h0 : l < 0) (hK : K < 16777216) : ¬ bits .andNot .i64 l (K : Int) = 0 := fun he => by
  have e1 : bits .andNot .i64 l (K : Int) = IntKind.i64.wrap (((BitVec.ofInt 64 l &&& ~~~BitVec.ofInt 64 (K : Int)).toNat : Nat) : Int) := rfl
  rw [e1] at he
  have h1 := wrap_zero (BitVec.isLt _) he
  have h2 : (BitVec.ofInt 64 l &&& ~~~BitVec.ofInt 64 (K : Int)).getLsbD 63 = false := by rw [← BitVec.testBit_toNat, h1, Nat.zero_testBit]
  rw [BitVec.getLsbD_and, BitVec.getLsbD_not, BitVec.ofInt_natCast] at h2
  have h3 : (BitVec.ofInt 64 l).getLsbD 63 = true := by
    rw [← BitVec.testBit_toNat, ofInt_neg h h0, Nat.testBit_eq_decide_div_mod_eq]
    exact decide_eq_true (by omega)
  have h4 : (BitVec.ofNat 64 K).getLsbD 63 = false := by
    rw [← BitVec.testBit_toNat, BitVec.toNat_ofNat, Nat.mod_eq_of_lt (by omega)]
    exact Nat.testBit_lt_two_pow (Nat.lt_of_lt_of_le hK (by decide))
  rw [h3, h4] at h2
  simp at h2
/-- What the program asks of what is active is what the document asks. -/
theorem avImp_eq {C : List Cb} {d : Int} {A : List Av} {j : Nat} (hC : okCbs C = true) (hw : AvWf A) (hj : j < A.length) :
    avImp (avD A j).l (avD A j).p (if aoN A j j = true then kyV C (avD A j).o else 0) (hlN d A j) = avOne C d A j := by
  have hl := hw j hj
  unfold avImp avOne
  cases ha : aoN A j j
  · simp only [Bool.false_eq_true, if_false, Bool.and_false]
    by_cases h0 : (avD A j).l = 0
    · simp [h0]
    · have hne : ¬ bits .andNot .i64 (avD A j).l 0 = 0 := by
        rcases Int.lt_or_le (avD A j).l 0 with h1 | h1
        · exact andNot_neg (K := 0) hl.2.1 h1 (by decide)
        · obtain ⟨L, hL⟩ : ∃ L : Nat, (avD A j).l = (L : Int) := ⟨(avD A j).l.toNat, by omega⟩
          rw [hL, show (0 : Int) = ((0 : Nat) : Int) from rfl, dif_nat63 L 0 (by omega) (by decide)]
          intro h2
          have h3 : dif L 0 = 0 := by omega
          have := dif_le h3
          omega
      simp [hne]
  · simp only [if_true, Bool.and_true]
    obtain ⟨K, hK, hK2⟩ := kyV_nat hC (avD A j).o
    rw [hK]
    by_cases h0 : (avD A j).l < 0
    · have e : (bits .andNot .i64 (avD A j).l (K : Int) == 0) = false := by simpa using andNot_neg hl.2.1 h0 hK2
      rw [e, Bool.and_false, Bool.and_false]
    · have e : decide ((avD A j).l = 0) = decide ((avD A j).l ≤ 0) := decide_eq_decide.mpr (by omega)
      rw [e]
def sdV (c : Cn) : Int × Bool := if okAvs c.C c.d c.A = true then (hlV c, true) else (0, false)

end Go.Proofs.Ytagmdkblcgnddaa
