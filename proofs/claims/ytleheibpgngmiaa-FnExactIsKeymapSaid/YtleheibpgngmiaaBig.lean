/- DERIVED. The laws' bound on a text's length, and the reference's number for a law: called with any text, a number below the given one. -/
import Derived.Test.YtleheibpgngmiaaDraw
namespace Go.Proofs.Ytleheibpgngmiaa
open Go.RowKit

theorem big_any (a : Option Addr) (n cap : Nat) (w : World) : Calls Try.prog 12 #[.slice a n cap] w fun e w' => e = .returned (.bool (decide ((1048576 : Int) < n))) ∧ w = w' := by
  go_enter Try.func12, Try.ntmps12
  go_wp2
  go_ret
  exact ⟨rfl, rfl⟩

theorem wf_byte {n : Int} (h : (Lit.int .u8 n).wf = true) : 0 ≤ n ∧ n < 256 := by
  simp [Lit.wf, IntKind.min, IntKind.max, IntKind.signed, IntKind.bits] at h
  omega

theorem MakeNumber_draw (v : Value) (zs : List Int) (k m : Int) (w : World) (hl : zs.length ≤ 1099511627776) (hz : ∀ z ∈ zs, 0 ≤ z ∧ z < 256) (h : Rd w v (zs.map (.int .u8))) (hm : 0 < m) (hm' : m ≤ 4294967296) :
    Calls Try.prog 14 #[v, .int .i64 k, .int .i64 m] w fun e w' => ∃ x : Int, e = .returned (.int .i64 x) ∧ 0 ≤ x ∧ x < m ∧ Below w.heap.size w w' := by
  have HZ := Lib.hid hz
  have HR := Lib.hid h
  clear hz h
  go_enter Try.func14, Try.ntmps14
  go_wp2_with fail
  refine (l24New_draw v zs k _ hl HZ.out HR.out).mono ?_
  rintro e w1 ⟨rfl, hd, hb, hlt⟩
  have HB := Lib.hid hb
  have HD := Lib.hid hd
  clear hd hb
  go_wp2_with fail
  refine (l1Below_draw m HD.out hm hm').mono ?_
  rintro e w2 ⟨x, rfl, x0, x1, hd, hg⟩
  have HB2 := Lib.hid (HB.out.grown hg HB.out.size (fun q hq => by cases hq; exact Nat.le_refl _))
  clear hd hg
  go_wp2
  go_ret
  exact ⟨x, rfl, x0, x1, HB2.out⟩

end Go.Proofs.Ytleheibpgngmiaa
