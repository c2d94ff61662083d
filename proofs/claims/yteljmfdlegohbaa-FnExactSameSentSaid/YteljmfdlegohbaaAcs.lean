/- DERIVED. Actions as data; the laws' own functions on them and on slices of them: the size, a copy, two that are alike, marks. · Chapter 5's words as plain functions: the names of codes, modifiers, valid actions, their texts. No condition. · The reference's CodeName, CodeOf, FormatMods, ParseMods: each returns what a plain function says. -/
import Derived.Test.YteljmfdlegohbaaCore
import Derived.Test.YteljmfdlegohbaaInts
import Derived.WalkSmall
import Derived.Deep.RegionHeld3
import Derived.Deep.DeepCutAuto
import Derived.Test.YteljmfdlegohbaaText
import Derived.Deep.AppendLies
namespace Go.Proofs.Yteljmfdlegohbaa
open Go.RowKit

/-- One Action. -/
structure Ac where
  k : Int
  c : Int
  m : Int
  n : Int
abbrev Ac.cells (e : Ac) : List Value := [.int .i64 e.k, .int .i64 e.c, .int .i64 e.m, .int .i64 e.n]
abbrev acv (k : Int) (c : Int) (m : Int) (n : Int) : Value := .agg #[.int .i64 k, .int .i64 c, .int .i64 m, .int .i64 n]
def flatAc (l : List Ac) : List Value := l.flatMap Ac.cells
theorem flatAc_len (l : List Ac) : (flatAc l).length = l.length * 4 := by
  induction l with
  | nil => rfl
  | cons e l ih => simp [flatAc] at ih ⊢; omega
theorem flatAc_snoc (l : List Ac) (e : Ac) : flatAc (l ++ [e]) = flatAc l ++ e.cells := by simp [flatAc]
theorem flatAc_one (l : List Ac) : ∀ u ∈ flatAc l, u.oneCell' = true := by
  intro u hu
  simp only [flatAc, List.mem_flatMap] at hu
  obtain ⟨e, _, hu⟩ := hu
  simp at hu
  rcases hu with rfl | rfl | rfl | rfl <;> rfl
def acD (l : List Ac) (j : Nat) : Ac := l.getD j ⟨0, 0, 0, 0⟩
theorem acD_take (l : List Ac) (j : Nat) (h : j < l.length) : l.take (j + 1) = l.take j ++ [acD l j] := by
  rw [List.take_succ_eq_append_getElem h, acD]; simp [List.getElem?_eq_getElem h]
theorem flatAc_get (l : List Ac) (j f : Nat) (hj : j < l.length) (hf : f < 4) : (flatAc l)[j * 4 + f]? = (acD l j).cells[f]? := by
  induction l generalizing j with
  | nil => simp at hj
  | cons e l ih =>
    have hc : flatAc (e :: l) = e.cells ++ flatAc l := by simp [flatAc]
    rw [hc]
    cases j with
    | zero => rw [List.getElem?_append_left (by simp; omega)]; simp [acD]
    | succ j =>
      rw [List.getElem?_append_right (by simp; omega)]
      rw [show (j + 1) * 4 + f - e.cells.length = j * 4 + f by simp; omega, ih j (by simpa using hj)]
      simp [acD]
/-- What a walk knows of a slice of these. -/
theorem rd_acs {w : World} {v : Value} {l : List Ac} (h : RdN w v l.length (flatAc l)) :
    (l = [] ∧ ∃ a cap, v = .slice a 0 cap) ∨ ∃ b off cap, 0 < l.length ∧ v = .slice (some ⟨b, off, none⟩) l.length cap ∧ b < w.heap.size ∧
      ∀ j, j < l.length → w.cell? ⟨b, off + j * 4, none⟩ = some (.int .i64 (acD l j).k) ∧ w.cell? ⟨b, off + j * 4 + 1, none⟩ = some (.int .i64 (acD l j).c) ∧ w.cell? ⟨b, off + j * 4 + 2, none⟩ = some (.int .i64 (acD l j).m) ∧ w.cell? ⟨b, off + j * 4 + 3, none⟩ = some (.int .i64 (acD l j).n) := by
  rcases h.cases with ⟨hx, a, cap, rfl⟩ | ⟨hx, b, off, cap, rfl, hlt, hc⟩
  · exact .inl ⟨List.eq_nil_of_length_eq_zero hx, a, cap, rfl⟩
  · refine .inr ⟨b, off, cap, hx, rfl, hlt, fun j hj => ?_⟩
    have key : ∀ f, f < 4 → w.cell? ⟨b, off + j * 4 + f, none⟩ = (acD l j).cells[f]? := fun f hf => by
      have hl : j * 4 + f < (flatAc l).length := by rw [flatAc_len]; omega
      rw [Nat.add_assoc, hc _ hl, ← List.getElem?_eq_getElem hl, flatAc_get l j f hj hf]
    exact ⟨by simpa using key 0 (by omega), by simpa using key 1 (by omega), by simpa using key 2 (by omega), by simpa using key 3 (by omega)⟩
theorem info_ac : (Try.prog.info? 203).map (fun i => (i.zero, i.size, i.bytes)) = some (some (.agg #[.int .i64 0, .int .i64 0, .int .i64 0, .int .i64 0]), 4, 32) := by kernel_rfl

/-- The marks that a law writes into n of them, counted from q on. -/
def marksAc (q : Int) (n : Nat) : List Ac := (List.range n).map fun (j : Nat) => ⟨(q + ((j * 4 + 0 : Nat) : Int)), (q + ((j * 4 + 1 : Nat) : Int)), (q + ((j * 4 + 2 : Nat) : Int)), (q + ((j * 4 + 3 : Nat) : Int))⟩
theorem marksAc_len (q : Int) (n : Nat) : (marksAc q n).length = n := by simp [marksAc]
theorem marksAc_succ (q : Int) (n : Nat) : marksAc q (n + 1) = marksAc q n ++ [⟨(q + ((n * 4 + 0 : Nat) : Int)), (q + ((n * 4 + 1 : Nat) : Int)), (q + ((n * 4 + 2 : Nat) : Int)), (q + ((n * 4 + 3 : Nat) : Int))⟩] := by simp [marksAc, List.range_succ]
theorem marksAc_take (q : Int) (n j : Nat) (h : j ≤ n) : (marksAc q n).take j = marksAc q j := by simp [marksAc, ← List.map_take, List.take_range, Nat.min_eq_left h]
theorem marksAc_D (q : Int) (n j : Nat) (h : j < n) : acD (marksAc q n) j = ⟨(q + ((j * 4 + 0 : Nat) : Int)), (q + ((j * 4 + 1 : Nat) : Int)), (q + ((j * 4 + 2 : Nat) : Int)), (q + ((j * 4 + 3 : Nat) : Int))⟩ := by simp [acD, marksAc, h]
abbrev nameStr : ByteArray := ⟨#[97, 32, 98, 32, 99, 32, 100, 32, 101, 32, 102, 32, 103, 32, 104, 32, 105, 32, 106, 32, 107, 32, 108, 32, 109, 32, 110, 32, 111, 32, 112, 32, 113, 32, 114, 32, 115, 32, 116, 32, 117, 32, 118, 32, 119, 32, 120, 32, 121, 32, 122, 32, 49, 32, 50, 32, 51, 32, 52, 32, 53, 32, 54, 32, 55, 32, 56, 32, 57, 32, 48, 32, 101, 110, 116, 101, 114, 32, 101, 115, 99, 32, 98, 97, 99, 107, 32, 116, 97, 98, 32, 115, 112, 97, 99, 101, 32, 109, 105, 110, 117, 115, 32, 101, 113, 117, 97, 108, 32, 108, 101, 102, 116, 32, 114, 105, 103, 104, 116, 32, 117, 112, 32, 100, 111, 119, 110, 32, 102, 49, 32, 102, 50, 32, 102, 51, 32, 102, 52, 32, 102, 53, 32, 102, 54, 32, 102, 55, 32, 102, 56, 32, 102, 57]⟩
def nms : List ByteArray := [⟨#[97]⟩, ⟨#[98]⟩, ⟨#[99]⟩, ⟨#[100]⟩, ⟨#[101]⟩, ⟨#[102]⟩, ⟨#[103]⟩, ⟨#[104]⟩, ⟨#[105]⟩, ⟨#[106]⟩, ⟨#[107]⟩, ⟨#[108]⟩, ⟨#[109]⟩, ⟨#[110]⟩, ⟨#[111]⟩, ⟨#[112]⟩, ⟨#[113]⟩, ⟨#[114]⟩, ⟨#[115]⟩, ⟨#[116]⟩, ⟨#[117]⟩, ⟨#[118]⟩, ⟨#[119]⟩, ⟨#[120]⟩, ⟨#[121]⟩, ⟨#[122]⟩, ⟨#[49]⟩, ⟨#[50]⟩, ⟨#[51]⟩, ⟨#[52]⟩, ⟨#[53]⟩, ⟨#[54]⟩, ⟨#[55]⟩, ⟨#[56]⟩, ⟨#[57]⟩, ⟨#[48]⟩, ⟨#[101, 110, 116, 101, 114]⟩, ⟨#[101, 115, 99]⟩, ⟨#[98, 97, 99, 107]⟩, ⟨#[116, 97, 98]⟩, ⟨#[115, 112, 97, 99, 101]⟩, ⟨#[109, 105, 110, 117, 115]⟩, ⟨#[101, 113, 117, 97, 108]⟩, ⟨#[108, 101, 102, 116]⟩, ⟨#[114, 105, 103, 104, 116]⟩, ⟨#[117, 112]⟩, ⟨#[100, 111, 119, 110]⟩, ⟨#[102, 49]⟩, ⟨#[102, 50]⟩, ⟨#[102, 51]⟩, ⟨#[102, 52]⟩, ⟨#[102, 53]⟩, ⟨#[102, 54]⟩, ⟨#[102, 55]⟩, ⟨#[102, 56]⟩, ⟨#[102, 57]⟩]
set_option maxRecDepth 1000000 in
set_option maxHeartbeats 4000000 in
theorem parts_names : parts nameStr 32 = nms := by kernel_rfl
theorem nms_len : nms.length = 56 := rfl
/-- The name of a code. -/
def nmV (c : Int) : ByteArray := if inB c 1 56 = true then nms.getD (c.toNat - 1) ⟨#[]⟩ else ⟨#[]⟩
/-- The first code up to k with the name s, 0 if there is none. -/
def codeN (s : ByteArray) : Nat → Nat
  | 0 => 0
  | k + 1 => if codeN s k = 0 then (if nmV ((k + 1 : Nat) : Int) = s then k + 1 else 0) else codeN s k
def codeV (s : ByteArray) : Nat := codeN s 56
theorem codeN_hit {s : ByteArray} {k : Nat} (h : codeN s k = 0) (hn : nmV ((k + 1 : Nat) : Int) = s) : ∀ m, k < m → codeN s m = k + 1
  | 0, hm => absurd hm (Nat.not_lt_zero _)
  | m + 1, hm => by
    rcases Nat.lt_or_ge k m with h2 | h2
    · rw [codeN, codeN_hit h hn m h2, if_neg (by omega)]
    · obtain rfl : k = m := by omega
      rw [codeN, if_pos h, if_pos hn]
theorem codeN_miss {s : ByteArray} {k : Nat} (h : codeN s k = 0) (hn : ¬ nmV ((k + 1 : Nat) : Int) = s) : codeN s (k + 1) = 0 := by rw [codeN, if_pos h, if_neg hn]
theorem codeN_le (s : ByteArray) : ∀ k, codeN s k ≤ k
  | 0 => Nat.le_refl _
  | k + 1 => by rw [codeN]; have := codeN_le s k; split <;> (try split) <;> omega
abbrev csag : ByteArray := ⟨#[67, 83, 65, 71]⟩
/-- The letters of the modifiers below number n. -/
def mdN (m : Nat) : Nat → ByteArray
  | 0 => ⟨#[]⟩
  | k + 1 => if m.testBit k = true then mdN m k ++ csag.extract k (k + 1) else mdN m k
def mdV (m : Int) : ByteArray := if inB m 1 15 = true then mdN m.toNat 4 else ⟨#[]⟩
def pmN (s : ByteArray) : Nat → Nat
  | 0 => 0
  | k + 1 => if pmN s k = 0 then (if mdV ((k + 1 : Nat) : Int) = s then k + 1 else 0) else pmN s k
def pmV (s : ByteArray) : Nat := pmN s 15
theorem pmN_hit {s : ByteArray} {k : Nat} (h : pmN s k = 0) (hn : mdV ((k + 1 : Nat) : Int) = s) : ∀ m, k < m → pmN s m = k + 1
  | 0, hm => absurd hm (Nat.not_lt_zero _)
  | m + 1, hm => by
    rcases Nat.lt_or_ge k m with h2 | h2
    · rw [pmN, pmN_hit h hn m h2, if_neg (by omega)]
    · obtain rfl : k = m := by omega
      rw [pmN, if_pos h, if_pos hn]
theorem pmN_miss {s : ByteArray} {k : Nat} (h : pmN s k = 0) (hn : ¬ mdV ((k + 1 : Nat) : Int) = s) : pmN s (k + 1) = 0 := by rw [pmN, if_pos h, if_neg hn]
theorem pmN_le (s : ByteArray) : ∀ k, pmN s k ≤ k
  | 0 => Nat.le_refl _
  | k + 1 => by rw [pmN]; have := pmN_le s k; split <;> (try split) <;> omega
theorem mdN_size (m : Nat) : ∀ k, (mdN m k).size ≤ k
  | 0 => Nat.le_refl _
  | k + 1 => by
    rw [mdN]
    have h := mdN_size m k
    split
    · rw [ByteArray.size_append, ByteArray.size_extract]; omega
    · omega
theorem mdV_size (m : Int) : (mdV m).size ≤ 4 := by
  unfold mdV; split
  · exact mdN_size _ 4
  · exact Nat.zero_le _
theorem nmV_size (c : Int) : (nmV c).size ≤ 5 := by
  unfold nmV
  split
  · have h : ∀ s ∈ nms, s.size ≤ 5 := by decide
    rw [List.getD_eq_getElem?_getD]
    rcases hc : nms[c.toNat - 1]? with _ | p
    · exact Nat.zero_le _
    · exact h p (List.mem_of_getElem? hc)
  · exact Nat.zero_le _
theorem lit_ne {x : ByteArray} (l : List UInt8) (h : x ≠ ⟨l.toArray⟩) : (x.toList == l) = false := by
  have := toList_ne h
  rwa [ByteArray.toList_eq ⟨l.toArray⟩, List.toList_toArray] at this
theorem lit_eq {x : ByteArray} (l : List UInt8) (h : x = ⟨l.toArray⟩) : (x.toList == l) = true := by
  rw [h, ByteArray.toList_eq, List.toList_toArray]; simp
theorem ret_tx {a b : ByteArray} (h : a = b) : Ending.returned (.string a) = .returned (.string b) := by rw [h]
/-- Valid actions. -/
def okAc (k c m n : Int) : Bool :=
  if k = 0 ∨ k = 1 ∨ k = 10 then decide (c = 0) && (decide (m = 0) && decide (n = 0))
  else if k = 2 then decide (n = 0) && ((inB c 1 56 || (decide (c = 0) && inB m 1 15)) && (inB m 1 15 || decide (m = 0)))
  else if k = 3 ∨ k = 4 then inB n 1 3 && (decide (c = 0) && decide (m = 0))
  else if k = 5 ∨ k = 9 then inB n 0 3 && (decide (c = 0) && decide (m = 0))
  else if k = 6 then inB c 1 56 && (inB m 1 15 && decide (n = 0))
  else if k = 7 then inB c 1 56 && (inB n 1 3 && decide (m = 0))
  else if k = 8 then inB m 1 15 && (decide (c = 0) && decide (n = 0))
  else false
def holdAc (k c m n : Int) : Bool := okAc k c m n && decide (k = 6 ∨ k = 7)
def tapR (a : Ac) : Ac := if holdAc a.k a.c a.m a.n = true then ⟨2, a.c, 0, 0⟩ else a
def holdR (a : Ac) : Ac := if holdAc a.k a.c a.m a.n = true then (if a.k = 6 then ⟨2, 0, a.m, 0⟩ else ⟨3, 0, 0, a.n⟩) else a
end Go.Proofs.Yteljmfdlegohbaa

namespace Go.Proofs.Yteljmfdlegohbaa
open Go.RowKit

set_option maxRecDepth 100000 in
theorem specNames_any (w : World) : Calls Try.prog 181 #[] w fun e w' => ∃ b cap, e = .returned (.slice (some ⟨b, 0, none⟩) 56 cap) ∧ b < w'.heap.size ∧ (∀ j, j < 56 → w'.cell? ⟨b, j, none⟩ = some (.string (nms.getD j ⟨#[]⟩))) ∧ Below w.heap.size w w' := by
  go_enter Try.func181, Try.ntmps181
  go_wp2_with fail
  refine (specSplit_any nameStr 32 w (by decide)).mono ?_
  rintro e w1 ⟨v, rfl, hown, hb⟩
  rw [parts_names, nms_len] at hown
  obtain ⟨b, cap, rfl, hbW, hlt⟩ := hown.form (by decide)
  have hc : ∀ j, j < 56 → w1.cell? ⟨b, j, none⟩ = some (.string (nms.getD j ⟨#[]⟩)) := fun j hj => by
    rw [hown.cellAt j (by omega), List.getElem?_eq_getElem (by rw [List.length_map, nms_len]; exact hj), List.getElem_map, List.getD_eq_getElem?_getD, List.getElem?_eq_getElem (by rw [nms_len]; exact hj)]
    rfl
  have HC := Lib.hid hc
  have HB := Lib.hid hb
  clear hown hc hb
  go_wp2
  go_ret
  exact ⟨b, cap, rfl, hlt, HC.out, HB.out⟩

set_option maxRecDepth 100000 in
theorem specCodeName_any (c : Int) (w : World) : Calls Try.prog 140 #[.int .i64 c] w fun e w' => e = .returned (.string (nmV c)) ∧ Below w.heap.size w w' := by
  obtain ⟨v, hv⟩ : ∃ v, v = inB c 1 56 := ⟨_, rfl⟩
  cases v
  · have hn : nmV c = ⟨#[]⟩ := by rw [nmV, ← hv]; rfl
    rw [hn]
    have HV := Lib.hid hv
    clear hn hv
    go_enter Try.func140, Try.ntmps140
    go_wp2_with fail
    refine (inB_any c 1 56 _).mono ?_
    rw [← HV.out]
    rintro e w0 ⟨rfl, rfl⟩
    go_wp2
    go_ret
    exact ⟨rfl, Below.refl _ _⟩
  · have h1 := of_decide_eq_true (show decide (1 ≤ c ∧ c ≤ 56) = true from hv.symm)
    obtain ⟨k, hk⟩ : ∃ k : Nat, c = (k : Int) + 1 := ⟨(c - 1).toNat, by omega⟩
    have hk56 : k < 56 := by omega
    have hn : nmV c = nms.getD k ⟨#[]⟩ := by rw [nmV, ← hv, if_pos rfl, show c.toNat - 1 = k by omega]
    rw [hn]
    have HV := Lib.hid hv
    have hsub : c - 1 = (k : Int) := by omega
    obtain ⟨T, hT⟩ : ∃ T, T = nms.getD k ⟨#[]⟩ := ⟨_, rfl⟩
    rw [← hT]
    have HT := Lib.hid hT
    have HK := Lib.hid hk
    clear hn hv h1 hT hk
    go_enter Try.func140, Try.ntmps140
    go_wp2_with fail
    refine (inB_any c 1 56 _).mono ?_
    rw [← HV.out]
    rintro e w0 ⟨rfl, rfl⟩
    go_wp2_with fail
    refine (specNames_any _).mono ?_
    rintro e w1 ⟨b, cap, rfl, hlt, hc, hb⟩
    have hcell := hc k hk56
    rw [← HT.out] at hcell
    have HB := Lib.hid hb
    have hi0 : (0 : Int) ≤ (k : Int) := by omega
    have hi1 : (k : Int) < ((56 : Nat) : Int) := by omega
    clear hc hb
    go_wp2
    go_ret
    exact ⟨rfl, HB.out⟩

end Go.Proofs.Yteljmfdlegohbaa
