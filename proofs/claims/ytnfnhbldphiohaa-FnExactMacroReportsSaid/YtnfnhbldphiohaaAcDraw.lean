/- DERIVED. Drawing a valid action of a keymap of so many layers by the reference's cursor. -/
import Derived.Test.YtnfnhbldphiohaaAcs
import Derived.Test.YtnfnhbldphiohaaDraw
namespace Go.Proofs.Ytnfnhbldphiohaa
open Go.RowKit

theorem grown_putW {x : Nat} {r : Option Nat} {w0 : World} (hx : w0.heap.size ≤ x) : ∀ (l : List Value) (s : Nat) {w : World}, w0.grownBy w r → w0.grownBy (putW w x s l) r
  | [], _, _, h => h
  | u :: l, s, _, h => by rw [putW]; exact grown_putW hx l _ (grown_new h x s u hx)
/-- A valid action of a keymap of L layers, not one that passes. -/
structure AcFit (a : Ac) (L : Int) : Prop where
  ok : okAc a.k a.c a.m a.n = true
  np : a.k ≠ 1
  lay : a.k ≠ 9 → a.n < L
theorem fit_key {c m L : Int} (hc : 1 ≤ c ∧ c ≤ 56) (hm : 0 ≤ m ∧ m ≤ 15) (hL : 1 ≤ L) : AcFit ⟨2, c, m, 0⟩ L :=
  ⟨by unfold okAc inB; simp; omega, by simp, fun _ => by show (0 : Int) < L; omega⟩
theorem fit_mods {m L : Int} (hm : 1 ≤ m ∧ m ≤ 15) (hL : 1 ≤ L) : AcFit ⟨2, 0, m, 0⟩ L :=
  ⟨by unfold okAc inB; simp; omega, by simp, fun _ => by show (0 : Int) < L; omega⟩
theorem fit_mt {c m L : Int} (hc : 1 ≤ c ∧ c ≤ 56) (hm : 1 ≤ m ∧ m ≤ 15) (hL : 1 ≤ L) : AcFit ⟨6, c, m, 0⟩ L :=
  ⟨by unfold okAc inB; simp; omega, by simp, fun _ => by show (0 : Int) < L; omega⟩
theorem fit_once {m L : Int} (hm : 1 ≤ m ∧ m ≤ 15) (hL : 1 ≤ L) : AcFit ⟨8, 0, m, 0⟩ L :=
  ⟨by unfold okAc inB; simp; omega, by simp, fun _ => by show (0 : Int) < L; omega⟩
theorem fit_macro {n L : Int} (hn : 0 ≤ n ∧ n ≤ 3) : AcFit ⟨9, 0, 0, n⟩ L :=
  ⟨by unfold okAc inB; simp; omega, by simp, fun h => absurd rfl h⟩
theorem fit_caps {L : Int} (hL : 1 ≤ L) : AcFit ⟨10, 0, 0, 0⟩ L := ⟨by decide, by decide, fun _ => by show (0 : Int) < L; omega⟩
theorem fit_to {n L : Int} (hn : 0 ≤ n ∧ n ≤ 3) (hL : n < L) : AcFit ⟨5, 0, 0, n⟩ L :=
  ⟨by unfold okAc inB; simp; omega, by simp, fun _ => hL⟩
theorem fit_mo {n L : Int} (hn : 1 ≤ n ∧ n ≤ 3) (hL : n < L) : AcFit ⟨3, 0, 0, n⟩ L :=
  ⟨by unfold okAc inB; simp; omega, by simp, fun _ => hL⟩
theorem fit_tg {n L : Int} (hn : 1 ≤ n ∧ n ≤ 3) (hL : n < L) : AcFit ⟨4, 0, 0, n⟩ L :=
  ⟨by unfold okAc inB; simp; omega, by simp, fun _ => hL⟩
theorem fit_lt {c n L : Int} (hc : 1 ≤ c ∧ c ≤ 56) (hn : 1 ≤ n ∧ n ≤ 3) (hL : n < L) : AcFit ⟨7, c, 0, n⟩ L :=
  ⟨by unfold okAc inB; simp; omega, by simp, fun _ => hL⟩

end Go.Proofs.Ytnfnhbldphiohaa
