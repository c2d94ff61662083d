/- DERIVED. The text of an action; the reference's FormatAction returns it. · What the reference reads as an action: l5Left and ParseAction return it. Called with any text of at most 1048576 bytes. -/
import Derived.Test.YtghijkpcmamebaaAcs
import Derived.Test.YtghijkpcmamebaaAcOk
import Derived.Test.YtghijkpcmamebaaNums
import Derived.Laws.Concat
import Derived.Test.YtghijkpcmamebaaText
namespace Go.Proofs.Ytghijkpcmamebaa
open Go.RowKit

theorem okAc_lim {k c m n : Int} (h : okAc k c m n = true) : (0 ≤ k ∧ k ≤ 10) ∧ (0 ≤ c ∧ c ≤ 56) ∧ (0 ≤ m ∧ m ≤ 15) ∧ 0 ≤ n ∧ n ≤ 3 := by
  unfold okAc inB at h
  split at h
  · simp only [Bool.and_eq_true, decide_eq_true_eq] at h; omega
  split at h
  · simp only [Bool.and_eq_true, Bool.or_eq_true, decide_eq_true_eq] at h; omega
  split at h
  · simp only [Bool.and_eq_true, decide_eq_true_eq] at h; omega
  split at h
  · simp only [Bool.and_eq_true, decide_eq_true_eq] at h; omega
  split at h
  · simp only [Bool.and_eq_true, decide_eq_true_eq] at h; omega
  split at h
  · simp only [Bool.and_eq_true, decide_eq_true_eq] at h; omega
  split at h
  · simp only [Bool.and_eq_true, decide_eq_true_eq] at h; omega
  · exact absurd h (by decide)
theorem itoa_few {n : Int} (h0 : 0 ≤ n) (h1 : n ≤ 3) : itoaText n = ⟨#[UInt8.ofNat (48 + n.toNat)]⟩ := by
  have h : n = 0 ∨ n = 1 ∨ n = 2 ∨ n = 3 := by omega
  rcases h with rfl | rfl | rfl | rfl <;> simp [itoaText, Lib.itoa, Lib.decDigits]
/-- The text of an action, by its kind. -/
def acT (k c m n : Int) : ByteArray :=
  if k = 0 then ⟨#[110, 111, 110, 101]⟩
  else if k = 1 then ⟨#[112, 97, 115, 115]⟩
  else if k = 3 then ⟨#[109, 111, 58]⟩ ++ itoaText n
  else if k = 4 then ⟨#[116, 103, 58]⟩ ++ itoaText n
  else if k = 5 then ⟨#[116, 111, 58]⟩ ++ itoaText n
  else if k = 6 then mdV m ++ ⟨#[47]⟩ ++ nmV c
  else if k = 7 then itoaText n ++ ⟨#[47]⟩ ++ nmV c
  else if k = 8 then ⟨#[111, 110, 99, 101, 58]⟩ ++ mdV m
  else if k = 9 then ⟨#[109, 97, 99, 114, 111, 58]⟩ ++ itoaText n
  else if k = 10 then ⟨#[99, 97, 112, 115]⟩
  else if m = 0 then nmV c
  else mdV m ++ ⟨#[45]⟩ ++ nmV c
def acS (k c m n : Int) : ByteArray := if okAc k c m n = true then acT k c m n else ⟨#[]⟩

abbrev sMo : ByteArray := ⟨#[109, 111]⟩
abbrev sTg : ByteArray := ⟨#[116, 103]⟩
abbrev sTo : ByteArray := ⟨#[116, 111]⟩
abbrev sMacro : ByteArray := ⟨#[109, 97, 99, 114, 111]⟩
/-- An action with a part before a sign. -/
def leftV (k : Int) (l r : ByteArray) : Ac :=
  if l = sMo then ⟨3, 0, 0, pval r⟩ else if l = sTg then ⟨4, 0, 0, pval r⟩ else if l = sTo then ⟨5, 0, 0, pval r⟩ else if l = sMacro then ⟨9, 0, 0, pval r⟩ else ⟨k, 0, pmV r, 0⟩

end Go.Proofs.Ytghijkpcmamebaa
