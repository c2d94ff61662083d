/- DERIVED. A report that comes in as an argument reads as a number and a row of numbers. No condition. -/
import Derived.Test.YteljmfdlegohbaaDatOpen
import Derived.Test.YteljmfdlegohbaaRp
namespace Go.Proofs.Yteljmfdlegohbaa
open Go.RowKit Go.ChangeShapes Go.WideShapes Go.Deep

theorem rep_intR : Rep Try.prog 3 [.int .i64] := Rep.int Try.underlying3
theorem rep_intsR : Rep Try.prog 60 [.row [.int .i64]] := Rep.row Try.underlying60 rep_intR (by kernel_rfl) (by decide)
theorem rep_report : Rep Try.prog 93 rpS :=
  Rep.of_fields (sss := [[.int .i64], [.row [.int .i64]]]) Try.underlying93 (by kernel_rfl)
    (.cons rfl (by kernel_rfl) rfl rep_intR (.cons rfl (by kernel_rfl) rfl rep_intsR .nil))
section
variable {H : Type} {enc : TypeId × Value → H} {w : World} {base : Nat} {spare : Nat → Bool} {held : Bool}
set_option maxRecDepth 100000 in
theorem open_Report {r : Reach} {b0 : Nat} {v : Value} {d : DataW H} {p : List MemPlace} (hv : Value.okWide Try.prog w r b0 93 v) (h : DataW.Trod enc Try.prog w base spare held 93 v d p) :
    ∃ (k : Int) (a : Option Addr) (m cap : Nat) (zs : List Int), v = rpv k (.slice a m cap) ∧ zs.length = m ∧ m ≤ maxLen ∧ Rd w (.slice a m cap) (zs.map (.int .i64)) := by
  obtain ⟨cs, rfl, hsz⟩ := okWide_struct Try.underlying93 hv
  obtain ⟨fuel, hf⟩ := h
  obtain ⟨c, hrd, _⟩ := trod_rd rep_report hf
  unfold rpS at hrd
  obtain ⟨v0, l0, c0, m0, e0, _, r0, q0⟩ := hrd.consInv
  obtain ⟨v1, l1, c1, m1, e1, _, r1, q1⟩ := q0.consInv
  obtain ⟨rfl, _⟩ := q1.nilInv
  obtain ⟨k, rfl, _⟩ := r0.intInv
  obtain ⟨zs, _, hr, hl⟩ := rdC_ints r1
  obtain ⟨a, cap, hu, _⟩ := id hr
  rw [List.length_map] at hu
  subst hu
  subst e1
  have : cs = #[.int .i64 k, .slice a zs.length cap] := by
    apply Array.ext'
    simpa [Value.cells] using e0
  exact ⟨k, a, zs.length, cap, zs, by rw [this], rfl, hl, hr⟩
end

end Go.Proofs.Yteljmfdlegohbaa
