/- DERIVED. Chapter 12 as plain functions: the character of a code, the code of a character, the keys that are new in a report, the text that reports type, and the taps of a text. No condition. -/
import Derived.Test.YteljmfdlegohbaaRpSpec
import Derived.Test.YteljmfdlegohbaaMcDef
import Derived.Test.YteljmfdlegohbaaOwnBase
namespace Go.Proofs.Yteljmfdlegohbaa
open Go.RowKit

def plainL : List UInt8 := [0, 97, 98, 99, 100, 101, 102, 103, 104, 105, 106, 107, 108, 109, 110, 111, 112, 113, 114, 115, 116, 117, 118, 119, 120, 121, 122, 49, 50, 51, 52, 53, 54, 55, 56, 57, 48, 10, 0, 0, 9, 32, 45, 61]
def shiftL : List UInt8 := [0, 65, 66, 67, 68, 69, 70, 71, 72, 73, 74, 75, 76, 77, 78, 79, 80, 81, 82, 83, 84, 85, 86, 87, 88, 89, 90, 33, 64, 35, 36, 37, 94, 38, 42, 40, 41, 10, 0, 0, 9, 32, 95, 43]
/-- The characters that codes give with modifiers, 0 for none. -/
def hoL (m : Int) : List UInt8 := if m = 0 then plainL else if m = 2 then shiftL else []
def hoB (c m : Int) : UInt8 := if 1 ≤ c then (hoL m).getD c.toNat 0 else 0
def hoU (c m : Int) : List UInt8 := if hoB c m = 0 then [] else [hoB c m]
/-- The character of a code with modifiers. -/
def hoV (c m : Int) : ByteArray := ⟨(hoU c m).toArray⟩
theorem hoB_far {c m : Int} (h : 43 < c) : hoB c m = 0 := by
  have hl : (hoL m).length ≤ 44 := by unfold hoL; split; decide; split; decide; decide
  rw [hoB, if_pos (by omega), List.getD_eq_getElem?_getD, List.getElem?_eq_none (by omega)]; rfl
theorem hoB_low {c m : Int} (h : c < 1) : hoB c m = 0 := by rw [hoB, if_neg (by omega)]
theorem hoB_mod {c m : Int} (h0 : ¬ m = 0) (h2 : ¬ m = 2) : hoB c m = 0 := by
  rw [hoB]; split
  · rw [hoL, if_neg h0, if_neg h2]; simp
  · rfl
theorem hoV_none {c m : Int} (h : hoB c m = 0) : hoV c m = ⟨#[]⟩ := by rw [hoV, hoU, if_pos h]
theorem hoV_some {c m : Int} (h : ¬ hoB c m = 0) : hoV c m = ⟨#[hoB c m]⟩ := by rw [hoV, hoU, if_neg h]
theorem hoU_len (c m : Int) : (hoU c m).length ≤ 1 := by unfold hoU; split <;> simp
theorem hoV_size (c m : Int) : (hoV c m).size ≤ 1 := hoU_len c m
/-- The least code up to a number that gives a character with modifiers, 0 if there is none. -/
def koN (x : UInt8) (m : Int) : Nat → Nat
  | 0 => 0
  | k + 1 => if koN x m k = 0 then (if hoV ((k + 1 : Nat) : Int) m = ⟨#[x]⟩ then k + 1 else 0) else koN x m k
theorem koN_hit {x : UInt8} {m : Int} {k : Nat} (h : koN x m k = 0) (hn : hoV ((k + 1 : Nat) : Int) m = ⟨#[x]⟩) : ∀ j, k < j → koN x m j = k + 1
  | 0, hm => absurd hm (Nat.not_lt_zero _)
  | j + 1, hm => by
    rcases Nat.lt_or_ge k j with h2 | h2
    · rw [koN, koN_hit h hn j h2, if_neg (by omega)]
    · obtain rfl : k = j := by omega
      rw [koN, if_pos h, if_pos hn]
theorem koN_miss {x : UInt8} {m : Int} {k : Nat} (h : koN x m k = 0) (hn : ¬ hoV ((k + 1 : Nat) : Int) m = ⟨#[x]⟩) : koN x m (k + 1) = 0 := by rw [koN, if_pos h, if_neg hn]
theorem koN_le (x : UInt8) (m : Int) : ∀ k, koN x m k ≤ k
  | 0 => Nat.le_refl _
  | k + 1 => by have := koN_le x m k; rw [koN]; split; split <;> omega; omega
/-- The code and the modifiers that give a character; 0 and 0 if there are none. -/
def koP (x : UInt8) : Int × Int := if koN x 0 56 = 0 then (if koN x 2 56 = 0 then (0, 0) else ((koN x 2 56 : Nat), 2)) else ((koN x 0 56 : Nat), 0)
theorem koP_le (x : UInt8) : 0 ≤ (koP x).1 ∧ (koP x).1 ≤ 56 := by
  have h1 := koN_le x 0 56
  have h2 := koN_le x 2 56
  unfold koP
  split
  · split
    · exact ⟨by decide, by decide⟩
    · exact ⟨by simp, by simp; omega⟩
  · exact ⟨by simp, by simp; omega⟩
/-- The keys of a report that another one does not have. -/
def nkJ (p q : Rv) (j : Nat) : List Int := (q.2.take j).filter fun c => !decide (c ∈ p.2)
def nkV (p q : Rv) : List Int := if (okRp p.1 p.2 && okRp q.1 q.2) = true then q.2.filter fun c => !decide (c ∈ p.2) else []
theorem nkJ_succ (p q : Rv) {j : Nat} (h : j < q.2.length) : nkJ p q (j + 1) = nkJ p q j ++ (if q.2.getD j 0 ∈ p.2 then [] else [q.2.getD j 0]) := by
  rw [nkJ, List.take_succ_eq_append_getElem h, List.filter_append, nkJ]
  congr 1
  rw [List.getD_eq_getElem?_getD, List.getElem?_eq_getElem h]
  by_cases hm : q.2[j] ∈ p.2 <;> simp [hm]
theorem nkJ_all (p q : Rv) : nkJ p q q.2.length = q.2.filter fun c => !decide (c ∈ p.2) := by rw [nkJ, List.take_length]
theorem nkJ_len (p q : Rv) (j : Nat) : (nkJ p q j).length ≤ j := Nat.le_trans (List.length_filter_le _ _) (by rw [List.length_take]; omega)
theorem nkV_len (p q : Rv) : (nkV p q).length ≤ q.2.length := by
  unfold nkV; split
  · exact List.length_filter_le _ _
  · simp
/-- The report before number j of the reports behind one. -/
def prD (p : Rv) (L : List Rv) : Nat → Rv
  | 0 => p
  | j + 1 => qD L j
/-- What keys type with modifiers. -/
def tyK (m : Int) (ks : List Int) : List UInt8 := ks.flatMap fun c => hoU c m
theorem tyK_len (m : Int) (ks : List Int) : (tyK m ks).length ≤ ks.length := by
  induction ks with
  | nil => simp [tyK]
  | cons c ks ih => have := hoU_len c m; rw [tyK, List.flatMap_cons, List.length_append, List.length_cons]; rw [tyK] at ih; omega
theorem tyK_snoc (m : Int) (ks : List Int) {j : Nat} (h : j < ks.length) : tyK m (ks.take (j + 1)) = tyK m (ks.take j) ++ hoU (ks.getD j 0) m := by
  rw [List.take_succ_eq_append_getElem h, tyK, List.flatMap_append, List.getD_eq_getElem?_getD, List.getElem?_eq_getElem h]
  simp [tyK]
/-- What the first j reports type. -/
def tyJ (p : Rv) (L : List Rv) : Nat → List UInt8
  | 0 => []
  | j + 1 => tyJ p L j ++ tyK (qD L j).1 (nkV (prD p L j) (qD L j))
def tyV (p : Rv) (L : List Rv) : ByteArray := ⟨(tyJ p L L.length).toArray⟩
theorem tyJ_le {p : Rv} {L : List Rv} (h : ∀ r ∈ L, r.2.length ≤ 1048576) : ∀ j, (tyJ p L j).length ≤ j * 1048576
  | 0 => by simp [tyJ]
  | j + 1 => by
    have h1 := tyJ_le (p := p) h j
    have h2 := tyK_len (qD L j).1 (nkV (prD p L j) (qD L j))
    have h3 := nkV_len (prD p L j) (qD L j)
    have h4 : (qD L j).2.length ≤ 1048576 := by
      unfold qD; rw [List.getD_eq_getElem?_getD]
      by_cases hj : j < L.length
      · rw [List.getElem?_eq_getElem hj]; exact h _ (List.getElem_mem _)
      · rw [List.getElem?_eq_none (by omega)]; simp [default]
    rw [tyJ, List.length_append]; omega
/-- The code and the modifiers of number j of a text. -/
def koC (s : ByteArray) (j : Nat) : Int × Int := koP (s.data.toList.getD j 0)
def okTx (s : ByteArray) : Nat → Bool
  | 0 => true
  | j + 1 => okTx s j && !decide ((koC s j).1 = 0)
theorem okTx_no {s : ByteArray} {j : Nat} (h : (koC s j).1 = 0) : ∀ m, j < m → okTx s m = false
  | 0, hm => absurd hm (Nat.not_lt_zero _)
  | m + 1, hm => by
    rcases Nat.lt_or_ge j m with h2 | h2
    · rw [okTx, okTx_no h m h2, Bool.false_and]
    · obtain rfl : j = m := by omega
      rw [okTx, decide_eq_true h]; simp
def stTx (s : ByteArray) (j : Nat) : List St := (List.range j).map fun i => ⟨0, (koC s i).1, (koC s i).2⟩
theorem stTx_len (s : ByteArray) (j : Nat) : (stTx s j).length = j := by simp [stTx]
theorem stTx_succ (s : ByteArray) (j : Nat) : stTx s (j + 1) = stTx s j ++ [⟨0, (koC s j).1, (koC s j).2⟩] := by simp [stTx, List.range_succ]
def rpTx (s : ByteArray) (j : Nat) : List Rv := (List.range j).flatMap fun i => [((koC s i).2, [(koC s i).1]), (0, [])]
theorem rpTx_succ (s : ByteArray) (j : Nat) : rpTx s (j + 1) = rpTx s j ++ [((koC s j).2, [(koC s j).1]), (0, [])] := by simp [rpTx, List.range_succ]
theorem rpTx_len (s : ByteArray) : ∀ j, (rpTx s j).length = 2 * j
  | 0 => rfl
  | j + 1 => by rw [rpTx_succ, List.length_append, rpTx_len s j]; simp; omega
/-- The taps of a text of at most M bytes. -/
def tpV (M : Nat) (s : ByteArray) : List St × Bool := if s.size ≤ M ∧ okTx s s.size = true then (stTx s s.size, true) else ([], false)
/-- The reports of a text of at most 60 bytes. -/
def trV (s : ByteArray) : List Rv × Bool := if s.size ≤ 60 ∧ okTx s s.size = true then (rpTx s s.size, true) else ([], false)

end Go.Proofs.Yteljmfdlegohbaa
