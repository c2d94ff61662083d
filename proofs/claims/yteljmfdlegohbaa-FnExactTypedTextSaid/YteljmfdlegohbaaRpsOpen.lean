/- DERIVED. Reports that come in as an argument read as numbers and rows of numbers. No condition. -/
import Derived.Test.YteljmfdlegohbaaRpOpen
import Derived.Test.YteljmfdlegohbaaOwnBase
namespace Go.Proofs.Yteljmfdlegohbaa
open Go.RowKit Go.ChangeShapes Go.WideShapes Go.Deep

theorem rep_reports : Rep Try.prog 102 [.row rpS] := Rep.row Try.underlying102 rep_report (by kernel_rfl) (by decide)
theorem reports_of {w : World} {v : Value} {c : Ce} (h : RdC w (.row rpS) v c) : ∃ L : List (Int × List Int), L.length ≤ maxLen ∧ (∀ r ∈ L, r.2.length ≤ maxLen) ∧ RdQ (fun m : Int => [.int .i64 m]) w v L := by
  obtain ⟨rs, a, cap, rfl, rfl, hl, h⟩ := h.rowInv
  rcases h with rfl | ⟨b, off, rfl, hlt, h⟩
  · exact ⟨[], by simp, by simp, [], rfl, ⟨a, cap, rfl, .inl rfl⟩, fun j hj => absurd hj (Nat.not_lt_zero _)⟩
  · have hx : ∀ i : Fin rs.length, ∃ p : Value × (Int × List Int), w.cell? ⟨b, off + i.val * 2, none⟩ = some (.int .i64 p.2.1) ∧ w.cell? ⟨b, off + i.val * 2 + 1, none⟩ = some p.1 ∧ p.1.oneCell' = true ∧ p.2.2.length ≤ maxLen ∧ Rd w p.1 (p.2.2.map (.int .i64)) := by
      intro i
      obtain ⟨vs, h1, h2, h3⟩ := h i.val i.isLt
      unfold rpS at h3
      obtain ⟨u0, _, c0, _, rfl, _, r0, q0⟩ := h3.consInv
      obtain ⟨u1, _, c1, _, rfl, _, r1, q1⟩ := q0.consInv
      obtain ⟨rfl, _⟩ := q1.nilInv
      obtain ⟨m, rfl, _⟩ := r0.intInv
      obtain ⟨zs, _, hr, hl⟩ := rdC_ints r1
      obtain ⟨a, cap, hu, _⟩ := id hr
      refine ⟨(u1, (m, zs)), ?_, ?_, by rw [hu]; rfl, hl, hr⟩
      · have := h2 0 (by simp)
        simpa [show rpS.length = 2 from rfl] using this
      · have := h2 1 (by simp)
        simpa [Nat.add_assoc, show rpS.length = 2 from rfl] using this
    obtain ⟨f, hf⟩ := Classical.axiomOfChoice hx
    have hlen : (List.ofFn fun i => (f i).1).length = (List.ofFn fun i => (f i).2).length := by simp
    refine ⟨List.ofFn fun i => (f i).2, by simpa using hl, ?_, List.ofFn fun i => (f i).1, hlen, ?_, ?_⟩
    · intro l hm
      obtain ⟨i, rfl⟩ := List.mem_ofFn.1 hm
      exact (hf i).2.2.2.1
    · refine ⟨_, cap, by simp, .inr ⟨b, off, rfl, hlt, fun j hj => ?_⟩⟩
      have hpl : (pC (fun m : Int => [Value.int .i64 m]) (List.ofFn fun i => (f i).2) (List.ofFn fun i => (f i).1)).length = rs.length * 2 := by
        have := pC_len (f := fun m : Int => [Value.int .i64 m]) (k := 1) (fun _ => rfl) (List.ofFn fun i => (f i).2) (List.ofFn fun i => (f i).1)
        simpa using this
      have hj2 : j / 2 < rs.length := by rw [hpl] at hj; omega
      have hg := pC_get (f := fun m : Int => [Value.int .i64 m]) (k := 1) (fun _ => rfl) (List.ofFn fun i => (f i).2) (List.ofFn fun i => (f i).1) (j / 2) (j % 2) hlen (by simpa using hj2) (by omega)
      rw [show j / 2 * (1 + 1) + j % 2 = j by omega] at hg
      have hq : qD (List.ofFn fun i => (f i).2) (j / 2) = (f ⟨j / 2, hj2⟩).2 := by
        rw [qD, List.getD_eq_getElem?_getD, List.getElem?_ofFn, dif_pos hj2]; rfl
      have hu : uD (List.ofFn fun i => (f i).1) (j / 2) = (f ⟨j / 2, hj2⟩).1 := by
        rw [uD, List.getD_eq_getElem?_getD, List.getElem?_ofFn, dif_pos hj2]; rfl
      rw [hq, hu] at hg
      obtain ⟨h0, h1, _⟩ := hf ⟨j / 2, hj2⟩
      have hjj : off + j = off + j / 2 * 2 + j % 2 := by omega
      rw [List.getElem?_eq_getElem hj] at hg
      rcases (show j % 2 = 0 ∨ j % 2 = 1 by omega) with hm | hm
      · rw [hm] at hg
        rw [hjj, hm, Nat.add_zero, h0]
        simpa using hg.symm
      · rw [hm] at hg
        rw [hjj, hm, h1]
        simpa using hg.symm
    · intro j hj
      have hj' : j < rs.length := by simpa using hj
      have hq : qD (List.ofFn fun i => (f i).2) j = (f ⟨j, hj'⟩).2 := by
        rw [qD, List.getD_eq_getElem?_getD, List.getElem?_ofFn, dif_pos hj']; rfl
      have hu : uD (List.ofFn fun i => (f i).1) j = (f ⟨j, hj'⟩).1 := by
        rw [uD, List.getD_eq_getElem?_getD, List.getElem?_ofFn, dif_pos hj']; rfl
      rw [hq, hu]
      exact (hf ⟨j, hj'⟩).2.2.2.2
section
variable {H : Type} {enc : TypeId × Value → H} {w : World} {base : Nat} {spare : Nat → Bool} {held : Bool}
set_option maxRecDepth 100000 in
theorem open_Reports {r : Reach} {b0 : Nat} {v : Value} {d : DataW H} {p : List MemPlace} (hv : Value.okWide Try.prog w r b0 102 v) (h : DataW.Trod enc Try.prog w base spare held 102 v d p) :
    ∃ (L : List (Int × List Int)), (L.length ≤ maxLen ∧ ∀ r ∈ L, r.2.length ≤ maxLen) ∧ RdQ (fun m : Int => [.int .i64 m]) w v L := by
  obtain ⟨a0, n0, c0, rfl⟩ := okWide_slice Try.underlying102 hv
  obtain ⟨fuel, hf⟩ := h
  obtain ⟨c, hrd, _⟩ := trod_rd rep_reports hf
  obtain ⟨v0, l0, c1, m0, e0, _, r0, q0⟩ := hrd.consInv
  obtain ⟨rfl, _⟩ := q0.nilInv
  have e1 : v0 = .slice a0 n0 c0 := by
    have : [Value.slice a0 n0 c0] = [v0] := by simpa [Value.cells] using e0
    simpa using this.symm
  subst e1
  obtain ⟨L, h1, h2, h3⟩ := reports_of r0
  exact ⟨L, ⟨h1, h2⟩, h3⟩
end

end Go.Proofs.Yteljmfdlegohbaa
