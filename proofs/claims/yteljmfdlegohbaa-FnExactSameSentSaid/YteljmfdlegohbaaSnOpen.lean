/- DERIVED. What was sent, as an argument, reads as numbers and rows of numbers. No condition. -/
import Derived.Test.YteljmfdlegohbaaRpOpen
import Derived.Test.YteljmfdlegohbaaOwnBase
namespace Go.Proofs.Yteljmfdlegohbaa
open Go.RowKit Go.ChangeShapes Go.WideShapes Go.Deep

def snS : List Sh := [.int .i64, .int .i64, .row [.int .i64]]
theorem rep_sent : Rep Try.prog 163 snS :=
  Rep.of_fields (sss := [[.int .i64], [.int .i64, .row [.int .i64]]]) Try.underlying163 (by kernel_rfl)
    (.cons rfl (by kernel_rfl) rfl rep_intR (.cons rfl (by kernel_rfl) rfl rep_report .nil))
theorem rep_sents : Rep Try.prog 69 [.row snS] := Rep.row Try.underlying69 rep_sent (by kernel_rfl) (by decide)
theorem sents_of {w : World} {v : Value} {c : Ce} (h : RdC w (.row snS) v c) : ∃ L : List ((Int × Int) × List Int), L.length ≤ maxLen ∧ (∀ r ∈ L, r.2.length ≤ maxLen) ∧ RdQ (fun p : Int × Int => [.int .i64 p.1, .int .i64 p.2]) w v L := by
  obtain ⟨rs, a, cap, rfl, rfl, hl, h⟩ := h.rowInv
  rcases h with rfl | ⟨b, off, rfl, hlt, h⟩
  · exact ⟨[], by simp, by simp, [], rfl, ⟨a, cap, rfl, .inl rfl⟩, fun j hj => absurd hj (Nat.not_lt_zero _)⟩
  · have hx : ∀ i : Fin rs.length, ∃ p : Value × ((Int × Int) × List Int), w.cell? ⟨b, off + i.val * 3, none⟩ = some (.int .i64 p.2.1.1) ∧ w.cell? ⟨b, off + i.val * 3 + 1, none⟩ = some (.int .i64 p.2.1.2) ∧ w.cell? ⟨b, off + i.val * 3 + 2, none⟩ = some p.1 ∧ p.1.oneCell' = true ∧ p.2.2.length ≤ maxLen ∧ Rd w p.1 (p.2.2.map (.int .i64)) := by
      intro i
      obtain ⟨vs, h1, h2, h3⟩ := h i.val i.isLt
      unfold snS at h3
      obtain ⟨u0, _, c0, _, rfl, _, r0, q0⟩ := h3.consInv
      obtain ⟨u1, _, c1, _, rfl, _, r1, q1⟩ := q0.consInv
      obtain ⟨u2, _, c2, _, rfl, _, r2, q2⟩ := q1.consInv
      obtain ⟨rfl, _⟩ := q2.nilInv
      obtain ⟨t, rfl, _⟩ := r0.intInv
      obtain ⟨m, rfl, _⟩ := r1.intInv
      obtain ⟨zs, _, hr, hl⟩ := rdC_ints r2
      obtain ⟨a, cap, hu, _⟩ := id hr
      refine ⟨(u2, ((t, m), zs)), ?_, ?_, ?_, by rw [hu]; rfl, hl, hr⟩
      · have := h2 0 (by simp)
        simpa [show snS.length = 3 from rfl] using this
      · have := h2 1 (by simp)
        simpa [Nat.add_assoc, show snS.length = 3 from rfl] using this
      · have := h2 2 (by simp)
        simpa [Nat.add_assoc, show snS.length = 3 from rfl] using this
    obtain ⟨f, hf⟩ := Classical.axiomOfChoice hx
    have hlen : (List.ofFn fun i => (f i).1).length = (List.ofFn fun i => (f i).2).length := by simp
    refine ⟨List.ofFn fun i => (f i).2, by simpa using hl, ?_, List.ofFn fun i => (f i).1, hlen, ?_, ?_⟩
    · intro l hm
      obtain ⟨i, rfl⟩ := List.mem_ofFn.1 hm
      exact (hf i).2.2.2.2.1
    · refine ⟨_, cap, by simp, .inr ⟨b, off, rfl, hlt, fun j hj => ?_⟩⟩
      have hpl : (pC (fun p : Int × Int => [Value.int .i64 p.1, Value.int .i64 p.2]) (List.ofFn fun i => (f i).2) (List.ofFn fun i => (f i).1)).length = rs.length * 3 := by
        have := pC_len (f := fun p : Int × Int => [Value.int .i64 p.1, Value.int .i64 p.2]) (k := 2) (fun _ => rfl) (List.ofFn fun i => (f i).2) (List.ofFn fun i => (f i).1)
        simpa using this
      have hj2 : j / 3 < rs.length := by rw [hpl] at hj; omega
      have hg := pC_get (f := fun p : Int × Int => [Value.int .i64 p.1, Value.int .i64 p.2]) (k := 2) (fun _ => rfl) (List.ofFn fun i => (f i).2) (List.ofFn fun i => (f i).1) (j / 3) (j % 3) hlen (by simpa using hj2) (by omega)
      rw [show j / 3 * (2 + 1) + j % 3 = j by omega] at hg
      have hq : qD (List.ofFn fun i => (f i).2) (j / 3) = (f ⟨j / 3, hj2⟩).2 := by
        rw [qD, List.getD_eq_getElem?_getD, List.getElem?_ofFn, dif_pos hj2]; rfl
      have hu : uD (List.ofFn fun i => (f i).1) (j / 3) = (f ⟨j / 3, hj2⟩).1 := by
        rw [uD, List.getD_eq_getElem?_getD, List.getElem?_ofFn, dif_pos hj2]; rfl
      rw [hq, hu] at hg
      obtain ⟨h0, h1, h2, _⟩ := hf ⟨j / 3, hj2⟩
      have hjj : off + j = off + j / 3 * 3 + j % 3 := by omega
      rw [List.getElem?_eq_getElem hj] at hg
      rcases (show j % 3 = 0 ∨ j % 3 = 1 ∨ j % 3 = 2 by omega) with hm | hm | hm
      · rw [hm] at hg
        rw [hjj, hm, Nat.add_zero, h0]
        simpa using hg.symm
      · rw [hm] at hg
        rw [hjj, hm, h1]
        simpa using hg.symm
      · rw [hm] at hg
        rw [hjj, hm, h2]
        simpa using hg.symm
    · intro j hj
      have hj' : j < rs.length := by simpa using hj
      have hq : qD (List.ofFn fun i => (f i).2) j = (f ⟨j, hj'⟩).2 := by
        rw [qD, List.getD_eq_getElem?_getD, List.getElem?_ofFn, dif_pos hj']; rfl
      have hu : uD (List.ofFn fun i => (f i).1) j = (f ⟨j, hj'⟩).1 := by
        rw [uD, List.getD_eq_getElem?_getD, List.getElem?_ofFn, dif_pos hj']; rfl
      rw [hq, hu]
      exact (hf ⟨j, hj'⟩).2.2.2.2.2
section
variable {H : Type} {enc : TypeId × Value → H} {w : World} {base : Nat} {spare : Nat → Bool} {held : Bool}
set_option maxRecDepth 100000 in
theorem open_Sents {r : Reach} {b0 : Nat} {v : Value} {d : DataW H} {p : List MemPlace} (hv : Value.okWide Try.prog w r b0 69 v) (h : DataW.Trod enc Try.prog w base spare held 69 v d p) :
    ∃ (L : List ((Int × Int) × List Int)), (L.length ≤ maxLen ∧ ∀ r ∈ L, r.2.length ≤ maxLen) ∧ RdQ (fun p : Int × Int => [.int .i64 p.1, .int .i64 p.2]) w v L := by
  obtain ⟨a0, n0, c0, rfl⟩ := okWide_slice Try.underlying69 hv
  obtain ⟨fuel, hf⟩ := h
  obtain ⟨c, hrd, _⟩ := trod_rd rep_sents hf
  obtain ⟨v0, l0, c1, m0, e0, _, r0, q0⟩ := hrd.consInv
  obtain ⟨rfl, _⟩ := q0.nilInv
  have e1 : v0 = .slice a0 n0 c0 := by
    have : [Value.slice a0 n0 c0] = [v0] := by simpa [Value.cells] using e0
    simpa using this.symm
  subst e1
  obtain ⟨L, h1, h2, h3⟩ := sents_of r0
  exact ⟨L, ⟨h1, h2⟩, h3⟩
end

end Go.Proofs.Yteljmfdlegohbaa
