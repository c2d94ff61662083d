/- DERIVED. An engine (macros) that comes in as an argument reads as its keymap, its macros, its held keys and its numbers. No condition. -/
import Derived.Test.YtbpopgplpipfeaaKmOpen
import Derived.Test.YtbpopgplpipfeaaHdOpen
import Derived.Test.YtbpopgplpipfeaaStOpen
import Derived.Test.YtbpopgplpipfeaaEnDef
namespace Go.Proofs.Ytbpopgplpipfeaa
open Go.RowKit Go.ChangeShapes Go.WideShapes Go.Deep

theorem rep_boolE : Rep Try.prog 4 [.bool] := Rep.bool Try.underlying4
theorem rep_macros : Rep Try.prog 49 [.row [.row stS3]] := Rep.row Try.underlying49 rep_steps (by kernel_rfl) (by decide)
theorem rep_engine : Rep Try.prog 52 [.int .i64, .row [.row acS4], .row [.row stS3], .int .i64, .row hdS5, .int .i64, .bool] :=
  Rep.of_fields (sss := [[.int .i64, .row [.row acS4]], [.row [.row stS3]], [.int .i64], [.row hdS5], [.int .i64], [.bool]]) Try.underlying52 (by kernel_rfl)
    (.cons rfl (by kernel_rfl) rfl rep_keymap (.cons rfl (by kernel_rfl) rfl rep_macros (.cons rfl (by kernel_rfl) rfl rep_intA (.cons rfl (by kernel_rfl) rfl rep_helds (.cons rfl (by kernel_rfl) rfl rep_intA (.cons rfl (by kernel_rfl) rfl rep_boolE .nil))))))
theorem sts_of {w : World} {v : Value} {c : Ce} (h : RdC w (.row stS3) v c) : ∃ l : List St, l.length ≤ maxLen ∧ RdN w v l.length (l.flatMap St.cells) := by
  obtain ⟨rs, rfl⟩ : ∃ rs, c = .row rs := by
    have := h
    simp only [RdC] at this
    obtain ⟨rs, _, _, h, _⟩ := this
    exact ⟨rs, h⟩
  obtain ⟨h1, h2, h3, a, cap, hs⟩ := rdN_of_rdC (by simp [flatSh]) (by decide) h
  have hsh : ∀ r ∈ rs, ∃ k c m, r = [.int k, .int c, .int m] := fun r hr => by
    obtain ⟨vs, hvs⟩ := h3 r hr
    obtain ⟨_, _, _, _, _, rfl, r0, q0⟩ := hvs.consInv
    obtain ⟨_, _, _, _, _, rfl, r1, q1⟩ := q0.consInv
    obtain ⟨_, _, _, _, _, rfl, r2, q2⟩ := q1.consInv
    obtain ⟨_, rfl⟩ := q2.nilInv
    obtain ⟨k, _, rfl⟩ := r0.intInv
    obtain ⟨c, _, rfl⟩ := r1.intInv
    obtain ⟨m, _, rfl⟩ := r2.intInv
    exact ⟨k, c, m, rfl⟩
  rw [stC_flat rs hsh] at h1
  exact ⟨rs.map stC, by rw [List.length_map]; exact h2, by rw [List.length_map]; exact h1⟩
theorem hds_of {w : World} {v : Value} {c : Ce} (h : RdC w (.row hdS5) v c) : ∃ l : List Hd, l.length ≤ maxLen ∧ RdN w v l.length (flatHd l) := by
  obtain ⟨rs, rfl⟩ : ∃ rs, c = .row rs := by
    have := h
    simp only [RdC] at this
    obtain ⟨rs, _, _, h, _⟩ := this
    exact ⟨rs, h⟩
  obtain ⟨h1, h2, h3, a, cap, hs⟩ := rdN_of_rdC (by simp [flatSh]) (by decide) h
  have hsh : ∀ r ∈ rs, ∃ h k c m n, r = [.int h, .int k, .int c, .int m, .int n] := fun r hr => by
    obtain ⟨vs, hvs⟩ := h3 r hr
    obtain ⟨_, _, _, _, _, rfl, r0, q0⟩ := hvs.consInv
    obtain ⟨_, _, _, _, _, rfl, r1, q1⟩ := q0.consInv
    obtain ⟨_, _, _, _, _, rfl, r2, q2⟩ := q1.consInv
    obtain ⟨_, _, _, _, _, rfl, r3, q3⟩ := q2.consInv
    obtain ⟨_, _, _, _, _, rfl, r4, q4⟩ := q3.consInv
    obtain ⟨_, rfl⟩ := q4.nilInv
    obtain ⟨h, _, rfl⟩ := r0.intInv
    obtain ⟨k, _, rfl⟩ := r1.intInv
    obtain ⟨c, _, rfl⟩ := r2.intInv
    obtain ⟨m, _, rfl⟩ := r3.intInv
    obtain ⟨n, _, rfl⟩ := r4.intInv
    exact ⟨h, k, c, m, n, rfl⟩
  rw [hdC_flat rs hsh] at h1
  exact ⟨rs.map hdC, by rw [List.length_map]; exact h2, by rw [List.length_map]; exact h1⟩
theorem macros_of {w : World} {v : Value} {c : Ce} (h : RdC w (.row [.row stS3]) v c) : ∃ L : List (List St), L.length ≤ maxLen ∧ (∀ l ∈ L, l.length ≤ maxLen) ∧ LdT w v L := by
  obtain ⟨rs, a, cap, rfl, rfl, hl, h⟩ := h.rowInv
  rcases h with rfl | ⟨b, off, rfl, hlt, h⟩
  · exact ⟨[], by simp, by simp, [], rfl, ⟨a, cap, rfl, .inl rfl⟩, fun j hj => absurd hj (Nat.not_lt_zero _)⟩
  · have hx : ∀ i : Fin rs.length, ∃ p : Value × List St, w.cell? ⟨b, off + i.val, none⟩ = some p.1 ∧ p.2.length ≤ maxLen ∧ RdN w p.1 p.2.length (p.2.flatMap St.cells) := by
      intro i
      obtain ⟨vs, h1, h2, h3⟩ := h i.val i.isLt
      obtain ⟨u, _, c, _, rfl, _, r0, q0⟩ := h3.consInv
      obtain ⟨rfl, _⟩ := q0.nilInv
      obtain ⟨l, hl1, hl2⟩ := sts_of r0
      refine ⟨(u, l), ?_, hl1, hl2⟩
      have := h2 0 (by simp)
      simpa using this
    obtain ⟨f, hf⟩ := Classical.axiomOfChoice hx
    have hu : ∀ j, j < rs.length → uD (List.ofFn fun i => (f i).1) j = (if h : j < rs.length then (f ⟨j, h⟩).1 else .bool false) := by
      intro j hj
      rw [dif_pos hj, uD, List.getD_eq_getElem?_getD, List.getElem?_ofFn, dif_pos hj]
      rfl
    have hlD : ∀ j, j < rs.length → lD (List.ofFn fun i => (f i).2) j = (if h : j < rs.length then (f ⟨j, h⟩).2 else []) := by
      intro j hj
      rw [dif_pos hj, lD, List.getD_eq_getElem?_getD, List.getElem?_ofFn, dif_pos hj]
      rfl
    refine ⟨List.ofFn fun i => (f i).2, by simpa using hl, ?_, List.ofFn fun i => (f i).1, by simp, ?_, ?_⟩
    · intro l hm
      obtain ⟨i, rfl⟩ := List.mem_ofFn.1 hm
      exact (hf i).2.1
    · refine ⟨_, cap, by simp, .inr ⟨b, off, rfl, hlt, fun j hj => ?_⟩⟩
      have hj' : j < rs.length := by simpa using hj
      rw [(hf ⟨j, hj'⟩).1]
      simp
    · intro j hj
      have hj' : j < rs.length := by simpa using hj
      rw [hu j hj', hlD j hj', dif_pos hj', dif_pos hj']
      exact (hf ⟨j, hj'⟩).2.2
section
variable {H : Type} {enc : TypeId × Value → H} {w : World} {base : Nat} {spare : Nat → Bool} {held : Bool}
set_option maxRecDepth 100000 in
theorem open_Engine {r : Reach} {b0 : Nat} {v : Value} {d : DataW H} {p : List MemPlace} (hv : Value.okWide Try.prog w r b0 52 v) (h : DataW.Trod enc Try.prog w base spare held 52 v d p) :
    ∃ (e : En) (u1 u2 u3 : Value), v = env e.k u1 u2 e.x u3 e.o e.p ∧ (e.L.length ≤ maxLen ∧ ∀ l ∈ e.L, l.length ≤ maxLen) ∧ (e.F.length ≤ maxLen ∧ ∀ l ∈ e.F, l.length ≤ maxLen) ∧ e.H.length ≤ maxLen ∧ RdE w e u1 u2 u3 := by
  obtain ⟨cs, rfl, hsz⟩ := okWide_struct Try.underlying52 hv
  obtain ⟨fuel, hf⟩ := h
  obtain ⟨c, hrd, _⟩ := trod_rd rep_engine hf
  obtain ⟨v0, l0, c0, m0, e0, _, r0, q0⟩ := hrd.consInv
  obtain ⟨v1, l1, c1, m1, e1, _, r1, q1⟩ := q0.consInv
  obtain ⟨v2, l2, c2, m2, e2, _, r2, q2⟩ := q1.consInv
  obtain ⟨v3, l3, c3, m3, e3, _, r3, q3⟩ := q2.consInv
  obtain ⟨v4, l4, c4, m4, e4, _, r4, q4⟩ := q3.consInv
  obtain ⟨v5, l5, c5, m5, e5, _, r5, q5⟩ := q4.consInv
  obtain ⟨v6, l6, c6, m6, e6, _, r6, q6⟩ := q5.consInv
  obtain ⟨rfl, _⟩ := q6.nilInv
  obtain ⟨k, rfl, _⟩ := r0.intInv
  obtain ⟨L, h1, h2, h3⟩ := layers_of r1
  obtain ⟨F, g1, g2, g3⟩ := macros_of r2
  obtain ⟨x, rfl, _⟩ := r3.intInv
  obtain ⟨Hs, k1, k2⟩ := hds_of r4
  obtain ⟨o, rfl, _⟩ := r5.intInv
  obtain ⟨pb, rfl, _⟩ := r6.boolInv
  subst e6 e5 e4 e3 e2 e1
  have : cs = #[.int .i64 k, v1, v2, .int .i64 x, v4, .int .i64 o, .bool pb] := by
    apply Array.ext'
    simpa [Value.cells] using e0
  exact ⟨⟨k, L, F, x, Hs, o, pb⟩, v1, v2, v4, by rw [this], ⟨h1, h2⟩, ⟨g1, g2⟩, k1, ⟨h3, g3, k2⟩⟩
set_option maxRecDepth 100000 in
theorem open_Macros {r : Reach} {b0 : Nat} {v : Value} {d : DataW H} {p : List MemPlace} (hv : Value.okWide Try.prog w r b0 49 v) (h : DataW.Trod enc Try.prog w base spare held 49 v d p) :
    ∃ (F : List (List St)), (F.length ≤ maxLen ∧ ∀ l ∈ F, l.length ≤ maxLen) ∧ LdT w v F := by
  obtain ⟨a0, n0, c0, rfl⟩ := okWide_slice Try.underlying49 hv
  obtain ⟨fuel, hf⟩ := h
  obtain ⟨c, hrd, _⟩ := trod_rd rep_macros hf
  obtain ⟨v0, l0, c1, m0, e0, _, r0, q0⟩ := hrd.consInv
  obtain ⟨rfl, _⟩ := q0.nilInv
  have e1 : v0 = .slice a0 n0 c0 := by
    have : [Value.slice a0 n0 c0] = [v0] := by simpa [Value.cells] using e0
    simpa using this.symm
  subst e1
  obtain ⟨F, h1, h2, h3⟩ := macros_of r0
  exact ⟨F, ⟨h1, h2⟩, h3⟩
end

end Go.Proofs.Ytbpopgplpipfeaa
