/- DERIVED. SplitText, the program's and the reference's: the parts of a text between the bytes that are equal to one. Called with any text of at most 1048576 bytes and any byte. -/
import Derived.Test.YtleheibpgngmiaaText
import Derived.Deep.RegionHeld3
namespace Go.Proofs.Ytleheibpgngmiaa
open Go.RowKit

/-- The parts that are closed ahead of place i, and where the open one begins. -/
def cuts (s : ByteArray) (c : Int) : Nat → List ByteArray × Nat
  | 0 => ([], 0)
  | i + 1 => if bt s i = c then ((cuts s c i).1 ++ [s.extract (cuts s c i).2 i], i + 1) else cuts s c i
theorem cuts_hit {s : ByteArray} {c : Int} {i : Nat} (h : bt s i = c) : cuts s c (i + 1) = ((cuts s c i).1 ++ [s.extract (cuts s c i).2 i], i + 1) := by rw [cuts, if_pos h]
theorem cuts_miss {s : ByteArray} {c : Int} {i : Nat} (h : ¬ bt s i = c) : cuts s c (i + 1) = cuts s c i := by rw [cuts, if_neg h]
theorem cuts_le (s : ByteArray) (c : Int) (i : Nat) : (cuts s c i).2 ≤ i ∧ (cuts s c i).1.length ≤ i := by
  induction i with
  | zero => simp [cuts]
  | succ i ih => by_cases h : bt s i = c
                 · rw [cuts_hit h]; simp; omega
                 · rw [cuts_miss h]; omega
def parts (s : ByteArray) (c : Int) : List ByteArray := (cuts s c s.size).1 ++ [s.extract (cuts s c s.size).2 s.size]
theorem parts_len (s : ByteArray) (c : Int) : (parts s c).length ≤ s.size + 1 := by have := (cuts_le s c s.size).2; simp [parts]; omega

theorem extract_le (s : ByteArray) (a b : Nat) : (s.extract a b).size ≤ s.size := by rw [ByteArray.size_extract]; omega
theorem cuts_sizes (s : ByteArray) (c : Int) : ∀ i, ∀ p ∈ (cuts s c i).1, p.size ≤ s.size
  | 0, p, hp => by simp [cuts] at hp
  | i + 1, p, hp => by
    by_cases h : bt s i = c
    · rw [cuts_hit h] at hp
      rcases List.mem_append.1 hp with h1 | h1
      · exact cuts_sizes s c i p h1
      · rw [List.mem_singleton.1 h1]; exact extract_le _ _ _
    · rw [cuts_miss h] at hp
      exact cuts_sizes s c i p hp
theorem parts_sizes (s : ByteArray) (c : Int) (k : Nat) : ((parts s c).getD k ByteArray.empty).size ≤ s.size := by
  rw [List.getD_eq_getElem?_getD]
  rcases h : (parts s c)[k]? with _ | p
  · exact Nat.zero_le _
  · have hp := List.mem_of_getElem? h
    unfold parts at hp
    rcases List.mem_append.1 hp with h1 | h1
    · exact cuts_sizes s c _ p h1
    · rw [List.mem_singleton.1 h1]; exact extract_le _ _ _

def Splitted (B : Nat) (s : ByteArray) (c : Int) (w : World) (e : Ending) (w' : World) : Prop :=
  ∃ v, e = .returned v ∧ w'.ownsRow B 9 1 v (parts s c).length ((parts s c).map .string) ∧ Below B w w'

end Go.Proofs.Ytleheibpgngmiaa
