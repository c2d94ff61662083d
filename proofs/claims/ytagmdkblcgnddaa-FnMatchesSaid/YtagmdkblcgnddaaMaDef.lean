/- DERIVED. What the front of a queue is, as a plain function. No condition. -/
import Derived.Test.YtagmdkblcgnddaaCnMath
namespace Go.Proofs.Ytagmdkblcgnddaa
open Go.RowKit

def swOk (e : Ev) : Bool := okEv e && decide (e.k < 24)
/-- A combination has all switches of a set. -/
def fitC (S : Nat) (c : Cb) : Bool := bits .andNot .i64 (S : Int) c.k == 0
/-- One of the first n has them. -/
def fitN (l : List Cb) (S : Nat) : Nat → Bool
  | 0 => false
  | j + 1 => fitN l S j || fitC S (cbD l j)
def fitsV (l : List Cb) (S : Nat) : Bool := fitN l S l.length
theorem fitN_up {l : List Cb} {S j : Nat} (h : fitC S (cbD l j) = true) : ∀ m, j < m → fitN l S m = true
  | 0, hm => absurd hm (Nat.not_lt_zero _)
  | m + 1, hm => by
    rcases Nat.lt_or_ge j m with h2 | h2
    · rw [fitN, fitN_up h m h2, Bool.true_or]
    · obtain rfl : j = m := by omega
      rw [fitN, h, Bool.or_true]
/-- The extra key of just these switches among the first n, and whether a larger combination has them. -/
def outN (l : List Cb) (S : Nat) : Nat → Int × Bool
  | 0 => (-1, false)
  | j + 1 => if (S : Int) = (cbD l j).k then ((cbD l j).o, (outN l S j).2) else if fitC S (cbD l j) = true then ((outN l S j).1, true) else outN l S j
def outV (l : List Cb) (S : Nat) : Int × Bool := outN l S l.length
def finM (l : List Cb) (S n : Nat) (t : Int) : Int × Int × Int := if (outV l S).1 < 0 then (1, t, (outV l S).1) else ((n : Int), t, (outV l S).1)
def noM : Int × Int × Int := (0, 0, -1)
def matL (l : List Cb) (fin now : Int) : List Ev → Nat → Nat → Int × Int × Int
  | [], S, n => if now < fin then noM else finM l S n fin
  | e :: r, S, n =>
    if swOk e = false then noM
    else if fin ≤ e.t then finM l S n fin
    else if (!e.d || !fitsV l (S ||| 2 ^ e.k.toNat)) = true then finM l S n e.t
    else if (decide (0 ≤ (outV l (S ||| 2 ^ e.k.toNat)).1) && !(outV l (S ||| 2 ^ e.k.toNat)).2) = true then (((n + 1 : Nat) : Int), e.t, (outV l (S ||| 2 ^ e.k.toNat)).1)
    else matL l fin now r (S ||| 2 ^ e.k.toNat) (n + 1)
def matV (l : List Cb) (t : Int) (Q : List Ev) (now : Int) : Int × Int × Int :=
  match Q with
  | [] => noM
  | f :: r => if (okCbs l && (inB t 1 200 && (swOk f && f.d))) = false then noM
    else if fitsV l (2 ^ f.k.toNat) = false then (1, f.t, -1)
    else matL l (f.t + t) now r (2 ^ f.k.toNat) 1
theorem swOk_key {e : Ev} (h : swOk e = true) : 0 ≤ e.t ∧ e.t ≤ 1000000 ∧ 0 ≤ e.k ∧ e.k < 24 := by
  rw [swOk, Bool.and_eq_true] at h
  have := okEv_key h.1
  have h2 : e.k < 24 := of_decide_eq_true h.2
  omega
theorem bit24 {k : Nat} (h : k < 24) : 2 ^ k < 16777216 := show 2 ^ k < 2 ^ 24 from Nat.pow_lt_pow_right (by decide) h
theorem or24 {S k : Nat} (hS : S < 16777216) (h : k < 24) : S ||| 2 ^ k < 16777216 := Nat.or_lt_two_pow (n := 24) hS (bit24 h)

end Go.Proofs.Ytagmdkblcgnddaa
