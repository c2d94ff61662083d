/- DERIVED. Picking one of a list of strings by the reference's cursor: one of the list. -/
import Derived.Test.YteljmfdlegohbaaDraw
import Derived.Test.YteljmfdlegohbaaText
namespace Go.Proofs.Yteljmfdlegohbaa
open Go.RowKit

set_option maxHeartbeats 1000000 in
theorem l1Pick_draw {B b n : Nat} {v : Value} {zs : List Int} {w : World} (g : Nat) (ss : List ByteArray) (h : Draws B b v n zs w) (hpos : 0 < ss.length) (hsm : ss.length ≤ 256) (hgb : g ≠ b)
    (hcell : ∀ j, j < ss.length → w.cell? ⟨g, j, none⟩ = some (.string (ss.getD j ByteArray.empty))) :
    Calls Try.prog 162 #[.pointer (some ⟨b, 0, none⟩), .slice (some ⟨g, 0, none⟩) ss.length ss.length] w fun e w' => ∃ s, e = .returned (.string s) ∧ s ∈ ss ∧ Draws B b v n zs w' ∧ w.grownBy w' (some b) := by
  have HD := Lib.hid h
  have HC := Lib.hid hcell
  have hg0 := World.block_lt_of_cell? w _ (hcell 0 hpos)
  clear h hcell
  go_enter Try.func162, Try.ntmps162
  go_wp2_with fail
  refine (l1Below_draw _ HD.out (by omega) (by omega)).mono ?_
  rintro e w1 ⟨x, rfl, x0, x1, hd, hg⟩
  obtain ⟨i, rfl⟩ := Int.eq_ofNat_of_zero_le x0
  have hi : i < ss.length := by omega
  obtain ⟨s, hs⟩ : ∃ s, s = ss.getD i ByteArray.empty := ⟨_, rfl⟩
  have hc1 : w1.cell? ⟨g, i, none⟩ = some (.string s) := by
    rw [World.cell?_of_block (w := w) (hg.block g hg0 (by simpa using hgb)), HC.out i hi, hs]
  have hmem : s ∈ ss := by rw [hs]; simp [List.getElem?_eq_getElem hi]
  have H1 := Lib.hid hd
  have G1 := Lib.hid hg
  have HS := Lib.hid hs
  have HM := Lib.hid hmem
  clear hd hg hs hmem
  go_wp2
  go_ret
  exact ⟨s, rfl, HM.out, H1.out, G1.out⟩

end Go.Proofs.Yteljmfdlegohbaa
