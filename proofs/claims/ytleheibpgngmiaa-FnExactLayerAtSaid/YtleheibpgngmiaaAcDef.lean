/- DERIVED. Chapter 5's words as plain functions: the names of codes, modifiers, valid actions, their texts. No condition. -/
import Derived.Test.YtleheibpgngmiaaAc
import Derived.Test.YtleheibpgngmiaaIn
import Derived.Test.YtleheibpgngmiaaSplit
namespace Go.Proofs.Ytleheibpgngmiaa
open Go.RowKit

abbrev nameStr : ByteArray := ⟨#[97, 32, 98, 32, 99, 32, 100, 32, 101, 32, 102, 32, 103, 32, 104, 32, 105, 32, 106, 32, 107, 32, 108, 32, 109, 32, 110, 32, 111, 32, 112, 32, 113, 32, 114, 32, 115, 32, 116, 32, 117, 32, 118, 32, 119, 32, 120, 32, 121, 32, 122, 32, 49, 32, 50, 32, 51, 32, 52, 32, 53, 32, 54, 32, 55, 32, 56, 32, 57, 32, 48, 32, 101, 110, 116, 101, 114, 32, 101, 115, 99, 32, 98, 97, 99, 107, 32, 116, 97, 98, 32, 115, 112, 97, 99, 101, 32, 109, 105, 110, 117, 115, 32, 101, 113, 117, 97, 108, 32, 108, 101, 102, 116, 32, 114, 105, 103, 104, 116, 32, 117, 112, 32, 100, 111, 119, 110, 32, 102, 49, 32, 102, 50, 32, 102, 51, 32, 102, 52, 32, 102, 53, 32, 102, 54, 32, 102, 55, 32, 102, 56, 32, 102, 57]⟩
def nms : List ByteArray := [⟨#[97]⟩, ⟨#[98]⟩, ⟨#[99]⟩, ⟨#[100]⟩, ⟨#[101]⟩, ⟨#[102]⟩, ⟨#[103]⟩, ⟨#[104]⟩, ⟨#[105]⟩, ⟨#[106]⟩, ⟨#[107]⟩, ⟨#[108]⟩, ⟨#[109]⟩, ⟨#[110]⟩, ⟨#[111]⟩, ⟨#[112]⟩, ⟨#[113]⟩, ⟨#[114]⟩, ⟨#[115]⟩, ⟨#[116]⟩, ⟨#[117]⟩, ⟨#[118]⟩, ⟨#[119]⟩, ⟨#[120]⟩, ⟨#[121]⟩, ⟨#[122]⟩, ⟨#[49]⟩, ⟨#[50]⟩, ⟨#[51]⟩, ⟨#[52]⟩, ⟨#[53]⟩, ⟨#[54]⟩, ⟨#[55]⟩, ⟨#[56]⟩, ⟨#[57]⟩, ⟨#[48]⟩, ⟨#[101, 110, 116, 101, 114]⟩, ⟨#[101, 115, 99]⟩, ⟨#[98, 97, 99, 107]⟩, ⟨#[116, 97, 98]⟩, ⟨#[115, 112, 97, 99, 101]⟩, ⟨#[109, 105, 110, 117, 115]⟩, ⟨#[101, 113, 117, 97, 108]⟩, ⟨#[108, 101, 102, 116]⟩, ⟨#[114, 105, 103, 104, 116]⟩, ⟨#[117, 112]⟩, ⟨#[100, 111, 119, 110]⟩, ⟨#[102, 49]⟩, ⟨#[102, 50]⟩, ⟨#[102, 51]⟩, ⟨#[102, 52]⟩, ⟨#[102, 53]⟩, ⟨#[102, 54]⟩, ⟨#[102, 55]⟩, ⟨#[102, 56]⟩, ⟨#[102, 57]⟩]
set_option maxRecDepth 1000000 in
set_option maxHeartbeats 4000000 in
theorem parts_names : parts nameStr 32 = nms := by kernel_rfl
theorem nms_len : nms.length = 56 := rfl
/-- The name of a code. -/
def nmV (c : Int) : ByteArray := if inB c 1 56 = true then nms.getD (c.toNat - 1) ⟨#[]⟩ else ⟨#[]⟩
/-- The first code up to k with the name s, 0 if there is none. -/
def codeN (s : ByteArray) : Nat → Nat
  | 0 => 0
  | k + 1 => if codeN s k = 0 then (if nmV ((k + 1 : Nat) : Int) = s then k + 1 else 0) else codeN s k
def codeV (s : ByteArray) : Nat := codeN s 56
theorem codeN_hit {s : ByteArray} {k : Nat} (h : codeN s k = 0) (hn : nmV ((k + 1 : Nat) : Int) = s) : ∀ m, k < m → codeN s m = k + 1
  | 0, hm => absurd hm (Nat.not_lt_zero _)
  | m + 1, hm => by
    rcases Nat.lt_or_ge k m with h2 | h2
    · rw [codeN, codeN_hit h hn m h2, if_neg (by omega)]
    · obtain rfl : k = m := by omega
      rw [codeN, if_pos h, if_pos hn]
theorem codeN_miss {s : ByteArray} {k : Nat} (h : codeN s k = 0) (hn : ¬ nmV ((k + 1 : Nat) : Int) = s) : codeN s (k + 1) = 0 := by rw [codeN, if_pos h, if_neg hn]
theorem codeN_le (s : ByteArray) : ∀ k, codeN s k ≤ k
  | 0 => Nat.le_refl _
  | k + 1 => by rw [codeN]; have := codeN_le s k; split <;> (try split) <;> omega
abbrev csag : ByteArray := ⟨#[67, 83, 65, 71]⟩
/-- The letters of the modifiers below number n. -/
def mdN (m : Nat) : Nat → ByteArray
  | 0 => ⟨#[]⟩
  | k + 1 => if m.testBit k = true then mdN m k ++ csag.extract k (k + 1) else mdN m k
def mdV (m : Int) : ByteArray := if inB m 1 15 = true then mdN m.toNat 4 else ⟨#[]⟩
def pmN (s : ByteArray) : Nat → Nat
  | 0 => 0
  | k + 1 => if pmN s k = 0 then (if mdV ((k + 1 : Nat) : Int) = s then k + 1 else 0) else pmN s k
def pmV (s : ByteArray) : Nat := pmN s 15
theorem pmN_hit {s : ByteArray} {k : Nat} (h : pmN s k = 0) (hn : mdV ((k + 1 : Nat) : Int) = s) : ∀ m, k < m → pmN s m = k + 1
  | 0, hm => absurd hm (Nat.not_lt_zero _)
  | m + 1, hm => by
    rcases Nat.lt_or_ge k m with h2 | h2
    · rw [pmN, pmN_hit h hn m h2, if_neg (by omega)]
    · obtain rfl : k = m := by omega
      rw [pmN, if_pos h, if_pos hn]
theorem pmN_miss {s : ByteArray} {k : Nat} (h : pmN s k = 0) (hn : ¬ mdV ((k + 1 : Nat) : Int) = s) : pmN s (k + 1) = 0 := by rw [pmN, if_pos h, if_neg hn]
theorem pmN_le (s : ByteArray) : ∀ k, pmN s k ≤ k
  | 0 => Nat.le_refl _
  | k + 1 => by rw [pmN]; have := pmN_le s k; split <;> (try split) <;> omega
theorem mdN_size (m : Nat) : ∀ k, (mdN m k).size ≤ k
  | 0 => Nat.le_refl _
  | k + 1 => by
    rw [mdN]
    have h := mdN_size m k
    split
    · rw [ByteArray.size_append, ByteArray.size_extract]; omega
    · omega
theorem mdV_size (m : Int) : (mdV m).size ≤ 4 := by
  unfold mdV; split
  · exact mdN_size _ 4
  · exact Nat.zero_le _
theorem nmV_size (c : Int) : (nmV c).size ≤ 5 := by
  unfold nmV
  split
  · have h : ∀ s ∈ nms, s.size ≤ 5 := by decide
    rw [List.getD_eq_getElem?_getD]
    rcases hc : nms[c.toNat - 1]? with _ | p
    · exact Nat.zero_le _
    · exact h p (List.mem_of_getElem? hc)
  · exact Nat.zero_le _
theorem lit_ne {x : ByteArray} (l : List UInt8) (h : x ≠ ⟨l.toArray⟩) : (x.toList == l) = false := by
  have := toList_ne h
  rwa [ByteArray.toList_eq ⟨l.toArray⟩, List.toList_toArray] at this
theorem lit_eq {x : ByteArray} (l : List UInt8) (h : x = ⟨l.toArray⟩) : (x.toList == l) = true := by
  rw [h, ByteArray.toList_eq, List.toList_toArray]; simp
theorem ret_tx {a b : ByteArray} (h : a = b) : Ending.returned (.string a) = .returned (.string b) := by rw [h]
/-- Valid actions. -/
def okAc (k c m n : Int) : Bool :=
  if k = 0 ∨ k = 1 ∨ k = 10 then decide (c = 0) && (decide (m = 0) && decide (n = 0))
  else if k = 2 then decide (n = 0) && ((inB c 1 56 || (decide (c = 0) && inB m 1 15)) && (inB m 1 15 || decide (m = 0)))
  else if k = 3 ∨ k = 4 then inB n 1 3 && (decide (c = 0) && decide (m = 0))
  else if k = 5 ∨ k = 9 then inB n 0 3 && (decide (c = 0) && decide (m = 0))
  else if k = 6 then inB c 1 56 && (inB m 1 15 && decide (n = 0))
  else if k = 7 then inB c 1 56 && (inB n 1 3 && decide (m = 0))
  else if k = 8 then inB m 1 15 && (decide (c = 0) && decide (n = 0))
  else false
def holdAc (k c m n : Int) : Bool := okAc k c m n && decide (k = 6 ∨ k = 7)
def tapR (a : Ac) : Ac := if holdAc a.k a.c a.m a.n = true then ⟨2, a.c, 0, 0⟩ else a
def holdR (a : Ac) : Ac := if holdAc a.k a.c a.m a.n = true then (if a.k = 6 then ⟨2, 0, a.m, 0⟩ else ⟨3, 0, 0, a.n⟩) else a

end Go.Proofs.Ytleheibpgngmiaa
