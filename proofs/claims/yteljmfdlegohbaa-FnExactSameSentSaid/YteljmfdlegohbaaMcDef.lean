/- DERIVED. Chapter 8's words on macros as plain functions: the first place of a step among what is down, what is down behind each step, valid macros, and the reports of a macro. No condition. -/
import Derived.Test.YteljmfdlegohbaaSt
import Derived.Test.YteljmfdlegohbaaHd
import Derived.Test.YteljmfdlegohbaaRpSpec
namespace Go.Proofs.Yteljmfdlegohbaa
open Go.RowKit

/-- What a step holds. -/
def stA (x : St) : Hd := ⟨0, 2, x.c, x.m, 0⟩
def mtS (x : St) (h : Hd) : Bool := decide (h.c = x.c) && decide (h.m = x.m)
/-- The first place of a step's code and modifiers; the length if there is none. -/
def fiH (d : List Hd) (x : St) : Nat := d.findIdx (mtS x)
def fiI (d : List Hd) (x : St) : Int := if fiH d x < d.length then (fiH d x : Int) else -1
theorem fiH_le (d : List Hd) (x : St) : fiH d x ≤ d.length := List.findIdx_le_length
theorem fiI_no {d : List Hd} {x : St} (h : ∀ q, q < d.length → mtS x (hdD d q) = false) : fiI d x = -1 := by
  have e : fiH d x = d.length := List.findIdx_eq_length.mpr fun y hy => by
    obtain ⟨q, hq, rfl⟩ := List.getElem_of_mem hy
    have := h q hq
    rw [hdD, List.getD_eq_getElem?_getD, List.getElem?_eq_getElem hq] at this
    exact this
  rw [fiI, e, if_neg (Nat.lt_irrefl _)]
theorem fiI_at {d : List Hd} {x : St} {j : Nat} (hj : j < d.length) (h : ∀ q, q < j → mtS x (hdD d q) = false) (hm : mtS x (hdD d j) = true) : fiI d x = (j : Int) := by
  have e : fiH d x = j := (List.findIdx_eq hj).mpr ⟨by rw [hdD, List.getD_eq_getElem?_getD, List.getElem?_eq_getElem hj] at hm; exact hm, fun q hq => by
    have := h q hq
    rw [hdD, List.getD_eq_getElem?_getD, List.getElem?_eq_getElem (by omega)] at this
    exact this⟩
  rw [fiI, e, if_pos hj]
theorem fiI_cases (d : List Hd) (x : St) : (fiI d x = -1 ∧ fiH d x = d.length) ∨ (fiI d x = (fiH d x : Int) ∧ fiH d x < d.length) := by
  rw [fiI]
  split
  · rename_i h; exact .inr ⟨rfl, h⟩
  · rename_i h; exact .inl ⟨rfl, by have := fiH_le d x; omega⟩
/-- A step may come when d is down. -/
def okX (d : List Hd) (x : St) : Bool := inB x.k 0 2 && (okAc 2 x.c x.m 0 && (decide (x.k = 2) == decide (0 ≤ fiI d x)))
def nxS (d : List Hd) (x : St) : List Hd := if x.k = 1 then d ++ [stA x] else if x.k = 2 then d.eraseIdx (fiH d x) else d
/-- What is down behind the first j steps. -/
def dwN (l : List St) : Nat → List Hd
  | 0 => []
  | j + 1 => nxS (dwN l j) (stD l j)
def mcN (l : List St) : Nat → Bool
  | 0 => true
  | j + 1 => mcN l j && okX (dwN l j) (stD l j)
def okMc (l : List St) : Bool := mcN l l.length && (decide ((l.length : Int) ≤ 8) && decide ((dwN l l.length).length = 0))
theorem mcN_no {l : List St} {j : Nat} (h : okX (dwN l j) (stD l j) = false) : ∀ m, j < m → mcN l m = false
  | 0, hm => absurd hm (Nat.not_lt_zero _)
  | m + 1, hm => by
    rcases Nat.lt_or_ge j m with h2 | h2
    · rw [mcN, mcN_no h m h2, Bool.false_and]
    · obtain rfl : j = m := by omega
      rw [mcN, h, Bool.and_false]
theorem mcN_at {l : List St} : ∀ {m : Nat}, mcN l m = true → ∀ j, j < m → okX (dwN l j) (stD l j) = true
  | 0, _, j, hj => absurd hj (Nat.not_lt_zero _)
  | m + 1, h, j, hj => by
    rw [mcN, Bool.and_eq_true] at h
    rcases Nat.lt_or_ge j m with h2 | h2
    · exact mcN_at h.1 j h2
    · obtain rfl : j = m := by omega
      exact h.2
theorem nxS_len (d : List Hd) (x : St) : (nxS d x).length ≤ d.length + 1 := by
  unfold nxS
  split
  · simp
  · split
    · have := List.length_eraseIdx_le d (fiH d x); omega
    · omega
theorem dwN_len (l : List St) : ∀ j, (dwN l j).length ≤ j
  | 0 => Nat.le_refl _
  | j + 1 => by rw [dwN]; have := nxS_len (dwN l j) (stD l j); have := dwN_len l j; omega
theorem okMc_at {l : List St} (h : okMc l = true) : l.length ≤ 8 ∧ (dwN l l.length).length = 0 ∧ ∀ j, j < l.length → okX (dwN l j) (stD l j) = true := by
  rw [okMc, Bool.and_eq_true, Bool.and_eq_true, decide_eq_true_eq, decide_eq_true_eq] at h
  exact ⟨by omega, h.2.2, mcN_at h.1⟩
theorem okX_at {d : List Hd} {x : St} (h : okX d x = true) : (0 ≤ x.k ∧ x.k ≤ 2) ∧ okAc 2 x.c x.m 0 = true ∧ (x.k = 2 ↔ 0 ≤ fiI d x) := by
  rw [okX, Bool.and_eq_true, Bool.and_eq_true] at h
  exact ⟨of_decide_eq_true h.1, h.2.1, by simpa using h.2.2⟩
theorem okAc_key {c m : Int} (h : okAc 2 c m 0 = true) : (0 ≤ c ∧ c ≤ 56) ∧ 0 ≤ m ∧ m ≤ 15 := by
  simp [okAc, inB] at h
  omega

/-- The modifiers of a report with those of what is down. -/
def mrM (r : Nat) (d : List Hd) : Nat → Nat
  | 0 => r
  | j + 1 => mrM r d j ||| (hdD d j).m.toNat
def mrOn (z : List Int) (d : List Hd) (code : Int) : Bool := decide (code ∈ z) || hasC d code d.length
/-- The codes from 1 on, below k + 1, that are in z or down. -/
def mrK (z : List Int) (d : List Hd) : Nat → List Int
  | 0 => []
  | k + 1 => if mrOn z d (k + 1 : Nat) = true then mrK z d k ++ [((k + 1 : Nat) : Int)] else mrK z d k
theorem mrK_len (z : List Int) (d : List Hd) : ∀ k, (mrK z d k).length ≤ k
  | 0 => Nat.le_refl _
  | k + 1 => by rw [mrK]; have := mrK_len z d k; split <;> (try rw [List.length_append]) <;> simp <;> omega
/-- One report: modifiers and codes. -/
abbrev Rv := Int × List Int
/-- The report of held keys and of what is down. -/
def mrV (l d : List Hd) : Rv := ((mrM (rofM l) d d.length : Nat), mrK (rofK l) d 56)
/-- The reports of step x, when d is down ahead of it. -/
def mrX (l d : List Hd) (x : St) : List Rv :=
  if x.k = 0 then [mrV l (d ++ [stA x]), mrV l d]
  else if x.k = 1 then [mrV l (d ++ [stA x])] else [mrV l (d.eraseIdx (fiH d x))]
def mrN (l : List Hd) (s : List St) : Nat → List Rv
  | 0 => []
  | j + 1 => mrN l s j ++ mrX l (dwN s j) (stD s j)
def mrP (l : List Hd) (s : List St) : List Rv := if (okHd l && okMc s) = true then mrN l s s.length else []

end Go.Proofs.Yteljmfdlegohbaa
