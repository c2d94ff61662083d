/- DERIVED. Texts of bytes that a call has made, and the decimal digits of a number. No condition. -/
import Derived.Test.YtleheibpgngmiaaCore
import Derived.Laws.BytesArg
namespace Go.Proofs.Ytleheibpgngmiaa
open Go.RowKit

theorem conv_owned {P : Program} {src dst e : TypeId} {w : World} {base : Nat} {v : Value} {n : Nat} {ns : List Int} (hs : P.underlying src = some (.slice e)) (he : P.underlying e = some (.int .u8)) (hd : P.underlying dst = some .string)
    (h : w.ownsRow base e 1 v n (ns.map (.int .u8))) : (convert src dst v).run P w = .ok (.string (strOfNums ns)) w := by
  have hl : ns.length = n := by simpa using h.1
  rcases h.2 with ⟨rfl, hn⟩ | ⟨g, cap, cur, rfl, hg, hh, hnc, hcm, hcs, ht⟩
  · have : ns = [] := List.eq_nil_of_length_eq_zero (by omega)
    subst this
    exact run_convert_bytes_nil w src e hs he 0 0 dst hd
  · refine run_convert_bytes_arg w src e hs he g 0 n cap ns hl (fun i hi => ?_) dst hd
    have := World.ownsRow.cellAt h i (by omega)
    simp only [Nat.zero_add]
    rw [this]
    simp [List.getElem?_eq_getElem (show i < ns.length by omega)]

/-- The decimal digits of a number, none for 0. -/
def decs (k : Nat) : List Int := if _h : k = 0 then [] else decs (k / 10) ++ [48 + (k : Int) % 10]
termination_by k
decreasing_by omega
theorem decs_zero : decs 0 = [] := by rw [decs, dif_pos rfl]
theorem decs_pos {k : Nat} (h : 0 < k) : decs k = decs (k / 10) ++ [48 + (k : Int) % 10] := by
  rw [decs, dif_neg (by omega)]
theorem decs_len (k : Nat) : (decs k).length ≤ k := by
  induction k using Nat.strongRecOn with
  | _ k ih =>
    by_cases h : k = 0
    · subst h; simp [decs_zero]
    · rw [decs_pos (by omega)]
      have := ih (k / 10) (by omega)
      simp; omega

theorem strOfNums_append (a b : List Int) : strOfNums a ++ strOfNums b = strOfNums (a ++ b) := by
  unfold strOfNums
  rw [ByteArray.mk_append_mk, List.map_append]

theorem decs_len10 (j : Nat) : ∀ k : Nat, k < 10 ^ j → (decs k).length ≤ j := by
  induction j with
  | zero => intro k h; obtain rfl : k = 0 := by omega
            simp [decs_zero]
  | succ j ih =>
    intro k h
    by_cases h0 : k = 0
    · subst h0; simp [decs_zero]
    · rw [decs_pos (by omega), List.length_append]
      have := ih (k / 10) (by rw [Nat.pow_succ] at h; omega)
      simp; omega

end Go.Proofs.Ytleheibpgngmiaa
