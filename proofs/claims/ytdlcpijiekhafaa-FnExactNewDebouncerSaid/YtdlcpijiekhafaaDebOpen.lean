/- DERIVED. A debouncer that comes in as an argument reads as numbers and a row of numbers. No condition. -/
import Derived.Test.YtdlcpijiekhafaaDatRep
import Derived.Test.YtdlcpijiekhafaaDeb
namespace Go.Proofs.Ytdlcpijiekhafaa
open Go.RowKit Go.ChangeShapes Go.WideShapes Go.Deep

theorem rep_int : Rep Try.prog 3 [.int .i64] := Rep.int Try.underlying3
theorem rep_ints : Rep Try.prog 24 [.row [.int .i64]] := Rep.row Try.underlying24 rep_int (by kernel_rfl) (by decide)
theorem rep_debouncer : Rep Try.prog 39 dbS :=
  Rep.of_fields (sss := [[.int .i64], [.int .i64], [.int .i64], [.int .i64], [.int .i64], [.row [.int .i64]]]) Try.underlying39 (by kernel_rfl)
    (.cons rfl (by kernel_rfl) rfl rep_int (.cons rfl (by kernel_rfl) rfl rep_int (.cons rfl (by kernel_rfl) rfl rep_int (.cons rfl (by kernel_rfl) rfl rep_int (.cons rfl (by kernel_rfl) rfl rep_int (.cons rfl (by kernel_rfl) rfl rep_ints .nil))))))
section
variable {H : Type} {enc : TypeId × Value → H} {w : World} {base : Nat} {spare : Nat → Bool} {held : Bool}
theorem open_Debouncer {r : Reach} {b0 : Nat} {v : Value} {d : DataW H} {p : List MemPlace} (hv : Value.okWide Try.prog w r b0 39 v) (h : DataW.Trod enc Try.prog w base spare held 39 v d p) :
    ∃ (k t n s l : Int) (a : Option Addr) (m cap : Nat) (zs : List Int), v = dbv k t n s l (.slice a m cap) ∧ zs.length = m ∧ m ≤ maxLen ∧ Rd w (.slice a m cap) (zs.map (.int .i64)) := by
  obtain ⟨cs, rfl, hsz⟩ := okWide_struct Try.underlying39 hv
  obtain ⟨fuel, hf⟩ := h
  obtain ⟨c, hrd, _⟩ := trod_rd rep_debouncer hf
  unfold dbS at hrd
  obtain ⟨v0, l0, c0, m0, e0, _, r0, q0⟩ := hrd.consInv
  obtain ⟨v1, l1, c1, m1, e1, _, r1, q1⟩ := q0.consInv
  obtain ⟨v2, l2, c2, m2, e2, _, r2, q2⟩ := q1.consInv
  obtain ⟨v3, l3, c3, m3, e3, _, r3, q3⟩ := q2.consInv
  obtain ⟨v4, l4, c4, m4, e4, _, r4, q4⟩ := q3.consInv
  obtain ⟨v5, l5, c5, m5, e5, _, r5, q5⟩ := q4.consInv
  obtain ⟨rfl, _⟩ := q5.nilInv
  obtain ⟨k, rfl, _⟩ := r0.intInv
  obtain ⟨t, rfl, _⟩ := r1.intInv
  obtain ⟨n, rfl, _⟩ := r2.intInv
  obtain ⟨s, rfl, _⟩ := r3.intInv
  obtain ⟨l, rfl, _⟩ := r4.intInv
  obtain ⟨zs, _, hr, hl⟩ := rdC_ints r5
  obtain ⟨a, cap, hu, _⟩ := id hr
  rw [List.length_map] at hu
  subst hu
  subst e5; subst e4; subst e3; subst e2; subst e1
  have : cs = #[.int .i64 k, .int .i64 t, .int .i64 n, .int .i64 s, .int .i64 l, .slice a zs.length cap] := by
    apply Array.ext'
    simpa [Value.cells] using e0
  exact ⟨k, t, n, s, l, a, zs.length, cap, zs, by rw [this], rfl, hl, hr⟩
end

end Go.Proofs.Ytdlcpijiekhafaa
