/- DERIVED. Chapter 11 as plain functions: valid combinations, valid combiners, what the front of a queue is. No condition. -/
import Derived.Test.YtagmdkblcgnddaaCb
import Derived.Test.YtagmdkblcgnddaaAv
import Derived.Test.YtagmdkblcgnddaaPop
import Derived.Test.YtagmdkblcgnddaaFol
namespace Go.Proofs.Ytagmdkblcgnddaa
open Go.RowKit

def cbFit (c : Cb) : Bool := inB c.k 0 16777215 && (inB ((pc c.k.toNat : Nat) : Int) 2 4 && inB c.o 24 31)
def cbLike (a b : Cb) : Bool := decide (a.k = b.k) || decide (a.o = b.o)
/-- The first n combinations are other than c. -/
def apN (l : List Cb) (c : Cb) : Nat → Bool
  | 0 => true
  | q + 1 => apN l c q && !cbLike (cbD l q) c
/-- The first n combinations are valid. -/
def cbN (l : List Cb) : Nat → Bool
  | 0 => true
  | j + 1 => cbN l j && (cbFit (cbD l j) && apN l (cbD l j) j)
def okCbs (l : List Cb) : Bool := cbN l l.length && decide (l.length ≤ 8)
theorem apN_no {l : List Cb} {c : Cb} {q : Nat} (h : cbLike (cbD l q) c = true) : ∀ m, q < m → apN l c m = false
  | 0, hm => absurd hm (Nat.not_lt_zero _)
  | m + 1, hm => by
    rcases Nat.lt_or_ge q m with h2 | h2
    · rw [apN, apN_no h m h2, Bool.false_and]
    · obtain rfl : q = m := by omega
      rw [apN, h]; simp
theorem apN_at {l : List Cb} {c : Cb} : ∀ {m : Nat}, apN l c m = true → ∀ q, q < m → cbLike (cbD l q) c = false
  | 0, _, q, hq => absurd hq (Nat.not_lt_zero _)
  | m + 1, h, q, hq => by
    rw [apN, Bool.and_eq_true] at h
    rcases Nat.lt_or_ge q m with h2 | h2
    · exact apN_at h.1 q h2
    · obtain rfl : q = m := by omega
      simpa using h.2
theorem cbD_of_take {l : List Cb} {i q : Nat} (hq : q < i) : cbD (l.take i) q = cbD l q := by
  simp [cbD, List.getD_eq_getElem?_getD, hq]
theorem apN_take {l : List Cb} {c : Cb} {i : Nat} : ∀ m, m ≤ i → apN (l.take i) c m = apN l c m
  | 0, _ => rfl
  | m + 1, h => by rw [apN, apN, apN_take m (by omega), cbD_of_take (by omega)]
/-- A slice is no longer than its room. -/
def CapLe (v : Value) : Prop := ∀ a n c, v = .slice a n c → n ≤ c
theorem capLe_of {w : World} {B k m : Nat} {T : TypeId} {v : Value} {xs : List Value} (h : w.ownsRow B T k v m xs) : CapLe v := fun a' n' c' e => by
  rcases h.2 with ⟨rfl, h2⟩ | ⟨g, cap, cur, rfl, _, _, h2, _⟩
  · obtain ⟨_, rfl, rfl⟩ := by simpa using e
    exact Nat.le_refl _
  · obtain ⟨_, rfl, rfl⟩ := by simpa using e
    exact h2
theorem flatCb_app (l l' : List Cb) : flatCb (l ++ l') = flatCb l ++ flatCb l' := by simp [flatCb]
theorem rdN_cut_cb {w : World} {b off n cap : Nat} {l : List Cb} (h : RdN w (.slice (some ⟨b, off, none⟩) n cap) n (flatCb l)) (hl : l.length = n) (j : Nat) (hj : j ≤ n) (cap' : Nat) :
    RdN w (.slice (some ⟨b, off, none⟩) j cap') (l.take j).length (flatCb (l.take j)) := by
  have hlen : (l.take j).length = j := by rw [List.length_take]; omega
  rcases h.cases with ⟨h0, _⟩ | ⟨_, b', off', cap2, e, hlt, hc⟩
  · exact ⟨_, cap', by rw [hlen], .inl (by omega)⟩
  · simp only [Value.slice.injEq, Option.some.injEq, Addr.mk.injEq] at e
    obtain ⟨⟨rfl, rfl, -⟩, -, rfl⟩ := e
    refine ⟨_, cap', by rw [hlen], .inr ⟨_, _, rfl, hlt, fun q hq => ?_⟩⟩
    have e : flatCb l = flatCb (l.take j) ++ flatCb (l.drop j) := by rw [← flatCb_app, List.take_append_drop]
    have hq2 : q < (flatCb l).length := by rw [e, List.length_append]; omega
    rw [hc q hq2]
    congr 1
    simp only [e]
    exact List.getElem_append_left hq
theorem cbN_no {l : List Cb} {j : Nat} (h : (cbFit (cbD l j) && apN l (cbD l j) j) = false) : ∀ m, j < m → cbN l m = false
  | 0, hm => absurd hm (Nat.not_lt_zero _)
  | m + 1, hm => by
    rcases Nat.lt_or_ge j m with h2 | h2
    · rw [cbN, cbN_no h m h2, Bool.false_and]
    · obtain rfl : j = m := by omega
      rw [cbN, h, Bool.and_false]
theorem cbN_at {l : List Cb} : ∀ {m : Nat}, cbN l m = true → ∀ j, j < m → cbFit (cbD l j) = true ∧ apN l (cbD l j) j = true
  | 0, _, j, hj => absurd hj (Nat.not_lt_zero _)
  | m + 1, h, j, hj => by
    rw [cbN, Bool.and_eq_true, Bool.and_eq_true] at h
    rcases Nat.lt_or_ge j m with h2 | h2
    · exact cbN_at h.1 j h2
    · obtain rfl : j = m := by omega
      exact h.2
/-- The switches of the combination of an extra key, 0 if there is none. -/
def kyV : List Cb → Int → Int
  | [], _ => 0
  | c :: l, o => if c.o = o then c.k else kyV l o
/-- One combiner: its combinations, its term, the events that wait, the time up to which events are known, that of the last event performed, the switches that are down for themselves, and what is active. -/
structure Cn where
  C : List Cb
  t : Int
  Q : List Ev
  n : Int
  k : Int
  d : Int
  A : List Av
/-- All switches that are down with the first j that are active. -/
def hlN (d : Int) (A : List Av) : Nat → Int
  | 0 => d
  | j + 1 => bits .or .i64 (hlN d A j) (avD A j).l
/-- The first m that are active have other extra keys than number i. -/
def aoN (A : List Av) (i : Nat) : Nat → Bool
  | 0 => true
  | q + 1 => aoN A i q && !decide ((avD A q).o = (avD A i).o)
/-- What is active is right at place j. -/
def avOne (C : List Cb) (d : Int) (A : List Av) (j : Nat) : Bool :=
  (!decide ((avD A j).l ≤ 0) && (bits .andNot .i64 (avD A j).l (kyV C (avD A j).o) == 0)) && (((avD A j).p == ((avD A j).l == kyV C (avD A j).o)) && ((bits .and .i64 (avD A j).l (hlN d A j) == 0) && aoN A j j))
def avN (C : List Cb) (d : Int) (A : List Av) : Nat → Bool
  | 0 => true
  | j + 1 => avN C d A j && avOne C d A j
def okAvs (C : List Cb) (d : Int) (A : List Av) : Bool := avN C d A A.length && inB d 0 16777215
theorem avN_no {C : List Cb} {d : Int} {A : List Av} {j : Nat} (h : avOne C d A j = false) : ∀ m, j < m → avN C d A m = false
  | 0, hm => absurd hm (Nat.not_lt_zero _)
  | m + 1, hm => by
    rcases Nat.lt_or_ge j m with h2 | h2
    · rw [avN, avN_no h m h2, Bool.false_and]
    · obtain rfl : j = m := by omega
      rw [avN, h, Bool.and_false]
theorem aoN_no {A : List Av} {i q : Nat} (h : (avD A q).o = (avD A i).o) : ∀ m, q < m → aoN A i m = false
  | 0, hm => absurd hm (Nat.not_lt_zero _)
  | m + 1, hm => by
    rcases Nat.lt_or_ge q m with h2 | h2
    · rw [aoN, aoN_no h m h2, Bool.false_and]
    · obtain rfl : q = m := by omega
      rw [aoN, decide_eq_true h]; simp
def hlV (c : Cn) : Int := hlN c.d c.A c.A.length
def okCn (c : Cn) : Bool :=
  (okCbs c.C && (inB c.t 1 200 && (inB c.n 0 1000000 && (inB c.k 0 c.n && okAvs c.C c.d c.A)))) && ((folV 24 c.Q (hlV c).toNat 0 && decide (c.Q.length ≤ 64)) && !(decide (0 < c.Q.length) && decide (c.n < lastT c.Q 0)))

end Go.Proofs.Ytagmdkblcgnddaa
