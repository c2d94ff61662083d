/- DERIVED. A keymap (an action) that comes in as an argument reads as a number and layers of actions. No condition. -/
import Derived.Test.YtbpopgplpipfeaaDatOpen
import Derived.Test.YtbpopgplpipfeaaKm
namespace Go.Proofs.Ytbpopgplpipfeaa
open Go.RowKit Go.ChangeShapes Go.WideShapes Go.Deep

theorem rep_intA : Rep Try.prog 3 [.int .i64] := Rep.int Try.underlying3
abbrev acS4 : List Sh := [.int .i64, .int .i64, .int .i64, .int .i64]
theorem rep_ac : Rep Try.prog 126 acS4 :=
  Rep.of_fields (sss := [[.int .i64], [.int .i64], [.int .i64], [.int .i64]]) Try.underlying126 (by kernel_rfl)
    (.cons rfl (by kernel_rfl) rfl rep_intA (.cons rfl (by kernel_rfl) rfl rep_intA (.cons rfl (by kernel_rfl) rfl rep_intA (.cons rfl (by kernel_rfl) rfl rep_intA .nil))))
theorem rep_acs : Rep Try.prog 132 [.row acS4] := Rep.row Try.underlying132 rep_ac (by kernel_rfl) (by decide)
theorem rep_layers : Rep Try.prog 46 [.row [.row acS4]] := Rep.row Try.underlying46 rep_acs (by kernel_rfl) (by decide)
theorem rep_keymap : Rep Try.prog 48 [.int .i64, .row [.row acS4]] :=
  Rep.of_fields (sss := [[.int .i64], [.row [.row acS4]]]) Try.underlying48 (by kernel_rfl)
    (.cons rfl (by kernel_rfl) rfl rep_intA (.cons rfl (by kernel_rfl) rfl rep_layers .nil))
def acCe : List Ce → Ac
  | [.int k, .int c, .int m, .int n] => ⟨k, c, m, n⟩
  | _ => ⟨0, 0, 0, 0⟩
theorem acCe_flat : ∀ (rs : List (List Ce)), (∀ r ∈ rs, ∃ k c m n, r = [.int k, .int c, .int m, .int n]) → rs.flatMap (cesV acS4) = flatAc (rs.map acCe)
  | [], _ => rfl
  | r :: rs, h => by
    obtain ⟨k, c, m, n, rfl⟩ := h _ List.mem_cons_self
    rw [List.flatMap_cons, acCe_flat rs (fun r hr => h r (List.mem_cons_of_mem _ hr)), List.map_cons]
    rfl
theorem acs_of {w : World} {v : Value} {c : Ce} (h : RdC w (.row acS4) v c) : ∃ l : List Ac, l.length ≤ maxLen ∧ RdN w v l.length (l.flatMap Ac.cells) := by
  obtain ⟨rs, rfl⟩ : ∃ rs, c = .row rs := by
    have := h
    simp only [RdC] at this
    obtain ⟨rs, _, _, h, _⟩ := this
    exact ⟨rs, h⟩
  obtain ⟨h1, h2, h3, a, cap, hs⟩ := rdN_of_rdC (by simp [flatSh]) (by decide) h
  have hsh : ∀ r ∈ rs, ∃ k c m n, r = [.int k, .int c, .int m, .int n] := fun r hr => by
    obtain ⟨vs, hvs⟩ := h3 r hr
    obtain ⟨_, _, _, _, _, rfl, r0, q0⟩ := hvs.consInv
    obtain ⟨_, _, _, _, _, rfl, r1, q1⟩ := q0.consInv
    obtain ⟨_, _, _, _, _, rfl, r2, q2⟩ := q1.consInv
    obtain ⟨_, _, _, _, _, rfl, r3, q3⟩ := q2.consInv
    obtain ⟨_, rfl⟩ := q3.nilInv
    obtain ⟨k, _, rfl⟩ := r0.intInv
    obtain ⟨c, _, rfl⟩ := r1.intInv
    obtain ⟨m, _, rfl⟩ := r2.intInv
    obtain ⟨n, _, rfl⟩ := r3.intInv
    exact ⟨k, c, m, n, rfl⟩
  rw [acCe_flat rs hsh] at h1
  exact ⟨rs.map acCe, by rw [List.length_map]; exact h2, by rw [List.length_map]; exact h1⟩
theorem layers_of {w : World} {v : Value} {c : Ce} (h : RdC w (.row [.row acS4]) v c) : ∃ L : List (List Ac), L.length ≤ maxLen ∧ (∀ l ∈ L, l.length ≤ maxLen) ∧ LdS w v L := by
  obtain ⟨rs, a, cap, rfl, rfl, hl, h⟩ := h.rowInv
  rcases h with rfl | ⟨b, off, rfl, hlt, h⟩
  · exact ⟨[], by simp, by simp, [], rfl, ⟨a, cap, rfl, .inl rfl⟩, fun j hj => absurd hj (Nat.not_lt_zero _)⟩
  · have hx : ∀ i : Fin rs.length, ∃ p : Value × List Ac, w.cell? ⟨b, off + i.val, none⟩ = some p.1 ∧ p.2.length ≤ maxLen ∧ RdN w p.1 p.2.length (p.2.flatMap Ac.cells) := by
      intro i
      obtain ⟨vs, h1, h2, h3⟩ := h i.val i.isLt
      obtain ⟨u, _, c, _, rfl, _, r0, q0⟩ := h3.consInv
      obtain ⟨rfl, _⟩ := q0.nilInv
      obtain ⟨l, hl1, hl2⟩ := acs_of r0
      refine ⟨(u, l), ?_, hl1, hl2⟩
      have := h2 0 (by simp)
      simpa using this
    obtain ⟨f, hf⟩ := Classical.axiomOfChoice hx
    have hu : ∀ j, j < rs.length → uD (List.ofFn fun i => (f i).1) j = (if h : j < rs.length then (f ⟨j, h⟩).1 else .bool false) := by
      intro j hj
      rw [dif_pos hj, uD, List.getD_eq_getElem?_getD, List.getElem?_ofFn, dif_pos hj]
      rfl
    have hlD : ∀ j, j < rs.length → lD (List.ofFn fun i => (f i).2) j = (if h : j < rs.length then (f ⟨j, h⟩).2 else []) := by
      intro j hj
      rw [dif_pos hj, lD, List.getD_eq_getElem?_getD, List.getElem?_ofFn, dif_pos hj]
      rfl
    refine ⟨List.ofFn fun i => (f i).2, by simpa using hl, ?_, List.ofFn fun i => (f i).1, by simp, ?_, ?_⟩
    · intro l hm
      obtain ⟨i, rfl⟩ := List.mem_ofFn.1 hm
      exact (hf i).2.1
    · refine ⟨_, cap, by simp, .inr ⟨b, off, rfl, hlt, fun j hj => ?_⟩⟩
      have hj' : j < rs.length := by simpa using hj
      rw [(hf ⟨j, hj'⟩).1]
      simp
    · intro j hj
      have hj' : j < rs.length := by simpa using hj
      rw [hu j hj', hlD j hj', dif_pos hj', dif_pos hj']
      exact (hf ⟨j, hj'⟩).2.2
section
variable {H : Type} {enc : TypeId × Value → H} {w : World} {base : Nat} {spare : Nat → Bool} {held : Bool}
set_option maxRecDepth 100000 in
theorem open_Keymap {r : Reach} {b0 : Nat} {v : Value} {d : DataW H} {p : List MemPlace} (hv : Value.okWide Try.prog w r b0 48 v) (h : DataW.Trod enc Try.prog w base spare held 48 v d p) :
    ∃ (k : Int) (u : Value) (L : List (List Ac)), v = kmv k u ∧ L.length ≤ maxLen ∧ (∀ l ∈ L, l.length ≤ maxLen) ∧ LdS w u L := by
  obtain ⟨cs, rfl, hsz⟩ := okWide_struct Try.underlying48 hv
  obtain ⟨fuel, hf⟩ := h
  obtain ⟨c, hrd, _⟩ := trod_rd rep_keymap hf
  obtain ⟨v0, l0, c0, m0, e0, _, r0, q0⟩ := hrd.consInv
  obtain ⟨v1, l1, c1, m1, e1, _, r1, q1⟩ := q0.consInv
  obtain ⟨rfl, _⟩ := q1.nilInv
  obtain ⟨k, rfl, _⟩ := r0.intInv
  obtain ⟨L, h1, h2, h3⟩ := layers_of r1
  subst e1
  have : cs = #[.int .i64 k, v1] := by
    apply Array.ext'
    simpa [Value.cells] using e0
  exact ⟨k, v1, L, by rw [this], h1, h2, h3⟩
end

end Go.Proofs.Ytbpopgplpipfeaa
