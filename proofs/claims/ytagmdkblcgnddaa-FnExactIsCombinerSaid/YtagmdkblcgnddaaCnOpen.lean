/- DERIVED. Combiners that come in as arguments read as data. No condition. -/
import Derived.Test.YtagmdkblcgnddaaCbOpen
import Derived.Test.YtagmdkblcgnddaaCnFn
import Derived.Test.YtagmdkblcgnddaaCnMath
namespace Go.Proofs.Ytagmdkblcgnddaa
open Go.RowKit Go.ChangeShapes Go.WideShapes Go.Deep

abbrev avS : List Sh := [.int .i64, .int .i64, .bool]
theorem rep_av : Rep Try.prog 161 avS :=
  Rep.of_fields (sss := [[.int .i64], [.int .i64], [.bool]]) Try.underlying161 (by kernel_rfl)
    (.cons rfl (by kernel_rfl) rfl rep_int' (.cons rfl (by kernel_rfl) rfl rep_int' (.cons rfl (by kernel_rfl) rfl rep_bool' .nil)))
theorem rep_avs : Rep Try.prog 67 [.row avS] := Rep.row Try.underlying67 rep_av (by kernel_rfl) (by decide)
def avC : List Ce → Av
  | [.int x0, .int x1, .bool x2] => ⟨x0, x1, x2⟩
  | _ => ⟨0, 0, false⟩
theorem avC_flat : ∀ (rs : List (List Ce)), (∀ r ∈ rs, ∃ t k d, r = [.int t, .int k, .bool d]) → rs.flatMap (cesV avS) = flatAv (rs.map avC)
  | [], _ => rfl
  | r :: rs, h => by
    obtain ⟨t, k, d, rfl⟩ := h _ List.mem_cons_self
    rw [List.flatMap_cons, avC_flat rs (fun r hr => h r (List.mem_cons_of_mem _ hr)), List.map_cons]
    rfl
theorem wf_rng {x : Int} (h : (Lit.int .i64 x).wf = true) : -(2 ^ 63) ≤ x ∧ x < 2 ^ 63 := by
  have e1 : IntKind.i64.min = -9223372036854775808 := by decide
  have e2 : IntKind.i64.max = 9223372036854775807 := by decide
  simp [Lit.wf, e1, e2] at h
  omega
theorem cbs_of {w : World} {v : Value} {c : Ce} (h : RdC w (.row cbS) v c) : ∃ l : List Cb, l.length ≤ maxLen ∧ RdN w v l.length (flatCb l) := by
  obtain ⟨rs, rfl⟩ : ∃ rs, c = .row rs := by
    have := h
    simp only [RdC] at this
    obtain ⟨rs, _, _, h, _⟩ := this
    exact ⟨rs, h⟩
  obtain ⟨h1, h2, h3, a, cap, hs⟩ := rdN_of_rdC (by simp [flatSh]) (by decide) h
  have hsh : ∀ r ∈ rs, ∃ x0 x1, r = [.int x0, .int x1] := fun r hr => by
    obtain ⟨vs, hvs⟩ := h3 r hr
    obtain ⟨_, _, _, _, _, rfl, r0, q0⟩ := hvs.consInv
    obtain ⟨_, _, _, _, _, rfl, r1, q1⟩ := q0.consInv
    obtain ⟨_, rfl⟩ := q1.nilInv
    obtain ⟨x0, _, rfl⟩ := r0.intInv
    obtain ⟨x1, _, rfl⟩ := r1.intInv
    exact ⟨x0, x1, rfl⟩
  rw [cbC_flat rs hsh] at h1
  exact ⟨rs.map cbC, by rw [List.length_map]; exact h2, by rw [List.length_map]; exact h1⟩
theorem evs_of {w : World} {v : Value} {c : Ce} (h : RdC w (.row evS3) v c) : ∃ l : List Ev, l.length ≤ maxLen ∧ RdN w v l.length (flatEv l) := by
  obtain ⟨rs, rfl⟩ : ∃ rs, c = .row rs := by
    have := h
    simp only [RdC] at this
    obtain ⟨rs, _, _, h, _⟩ := this
    exact ⟨rs, h⟩
  obtain ⟨h1, h2, h3, a, cap, hs⟩ := rdN_of_rdC (by simp [flatSh]) (by decide) h
  have hsh : ∀ r ∈ rs, ∃ x0 x1 x2, r = [.int x0, .int x1, .bool x2] := fun r hr => by
    obtain ⟨vs, hvs⟩ := h3 r hr
    obtain ⟨_, _, _, _, _, rfl, r0, q0⟩ := hvs.consInv
    obtain ⟨_, _, _, _, _, rfl, r1, q1⟩ := q0.consInv
    obtain ⟨_, _, _, _, _, rfl, r2, q2⟩ := q1.consInv
    obtain ⟨_, rfl⟩ := q2.nilInv
    obtain ⟨x0, _, rfl⟩ := r0.intInv
    obtain ⟨x1, _, rfl⟩ := r1.intInv
    simp only [RdC] at r2
    obtain ⟨x2, _, rfl⟩ := r2
    exact ⟨x0, x1, x2, rfl⟩
  rw [evC_flat rs hsh] at h1
  exact ⟨rs.map evC, by rw [List.length_map]; exact h2, by rw [List.length_map]; exact h1⟩
theorem avs_of {w : World} {v : Value} {c : Ce} (h : RdC w (.row avS) v c) (hw : WfC (.row avS) c) : ∃ l : List Av, l.length ≤ maxLen ∧ RdN w v l.length (flatAv l) ∧ AvWf l := by
  obtain ⟨rs, rfl⟩ : ∃ rs, c = .row rs := by
    have := h
    simp only [RdC] at this
    obtain ⟨rs, _, _, h, _⟩ := this
    exact ⟨rs, h⟩
  obtain ⟨h1, h2, h3, a, cap, hs⟩ := rdN_of_rdC (by simp [flatSh]) (by decide) h
  have hsh : ∀ r ∈ rs, ∃ x0 x1 x2, r = [.int x0, .int x1, .bool x2] := fun r hr => by
    obtain ⟨vs, hvs⟩ := h3 r hr
    obtain ⟨_, _, _, _, _, rfl, r0, q0⟩ := hvs.consInv
    obtain ⟨_, _, _, _, _, rfl, r1, q1⟩ := q0.consInv
    obtain ⟨_, _, _, _, _, rfl, r2, q2⟩ := q1.consInv
    obtain ⟨_, rfl⟩ := q2.nilInv
    obtain ⟨x0, _, rfl⟩ := r0.intInv
    obtain ⟨x1, _, rfl⟩ := r1.intInv
    simp only [RdC] at r2
    obtain ⟨x2, _, rfl⟩ := r2
    exact ⟨x0, x1, x2, rfl⟩
  rw [avC_flat rs hsh] at h1
  refine ⟨rs.map avC, by rw [List.length_map]; exact h2, by rw [List.length_map]; exact h1, fun j hj => ?_⟩
  rw [List.length_map] at hj
  obtain ⟨x0, x1, x2, hx⟩ := hsh rs[j] (List.getElem_mem hj)
  have hr : WfL avS rs[j] := by simp only [WfC] at hw; exact hw _ (List.getElem_mem hj)
  have hd : avD (rs.map avC) j = ⟨x0, x1, x2⟩ := by rw [avD, List.getD_eq_getElem?_getD, List.getElem?_map, List.getElem?_eq_getElem hj, hx]; rfl
  rw [hx] at hr
  simp only [WfL, WfC] at hr
  rw [hd]
  exact ⟨wf_rng hr.1, wf_rng hr.2.1⟩
theorem rep_combiner : Rep Try.prog 69 [.row cbS, .int .i64, .row evS3, .int .i64, .int .i64, .int .i64, .row avS] :=
  Rep.of_fields (sss := [[.row cbS], [.int .i64], [.row evS3], [.int .i64], [.int .i64], [.int .i64], [.row avS]]) Try.underlying69 (by kernel_rfl)
    (.cons rfl (by kernel_rfl) rfl rep_cbs (.cons rfl (by kernel_rfl) rfl rep_int' (.cons rfl (by kernel_rfl) rfl rep_events (.cons rfl (by kernel_rfl) rfl rep_int' (.cons rfl (by kernel_rfl) rfl rep_int' (.cons rfl (by kernel_rfl) rfl rep_int' (.cons rfl (by kernel_rfl) rfl rep_avs .nil)))))))
section
variable {H : Type} {enc : TypeId × Value → H} {w : World} {base : Nat} {spare : Nat → Bool} {held : Bool}
set_option maxRecDepth 100000 in
theorem open_Combiner {r : Reach} {b0 : Nat} {v : Value} {d : DataW H} {p : List MemPlace} (hv : Value.okWide Try.prog w r b0 69 v) (h : DataW.Trod enc Try.prog w base spare held 69 v d p) :
    ∃ (c : Cn) (u1 u2 u3 : Value), v = c.val u1 u2 u3 ∧ c.C.length ≤ maxLen ∧ c.Q.length ≤ maxLen ∧ c.A.length ≤ maxLen ∧ AvWf c.A ∧ RdCn w c u1 u2 u3 := by
  obtain ⟨cs, rfl, hsz⟩ := okWide_struct Try.underlying69 hv
  obtain ⟨fuel, hf⟩ := h
  obtain ⟨c, hrd, hwl⟩ := trod_rd rep_combiner hf
  obtain ⟨v0, l0, c0, m0, e0, rfl, r0, q0⟩ := hrd.consInv
  obtain ⟨v1, l1, c1, m1, e1, rfl, r1, q1⟩ := q0.consInv
  obtain ⟨v2, l2, c2, m2, e2, rfl, r2, q2⟩ := q1.consInv
  obtain ⟨v3, l3, c3, m3, e3, rfl, r3, q3⟩ := q2.consInv
  obtain ⟨v4, l4, c4, m4, e4, rfl, r4, q4⟩ := q3.consInv
  obtain ⟨v5, l5, c5, m5, e5, rfl, r5, q5⟩ := q4.consInv
  obtain ⟨v6, l6, c6, m6, e6, rfl, r6, q6⟩ := q5.consInv
  obtain ⟨rfl, rfl⟩ := q6.nilInv
  simp only [WfL] at hwl
  obtain ⟨-, -, -, -, -, -, hw6, -⟩ := hwl
  obtain ⟨C, h1, h2⟩ := cbs_of r0
  obtain ⟨t, rfl, _⟩ := r1.intInv
  obtain ⟨Q, g1, g2⟩ := evs_of r2
  obtain ⟨n, rfl, _⟩ := r3.intInv
  obtain ⟨k, rfl, _⟩ := r4.intInv
  obtain ⟨dn, rfl, _⟩ := r5.intInv
  obtain ⟨A, k1, k2, k3⟩ := avs_of r6 hw6
  subst e6 e5 e4 e3 e2 e1
  have : cs = #[v0, .int .i64 t, v2, .int .i64 n, .int .i64 k, .int .i64 dn, v6] := by
    apply Array.ext'
    simpa [Value.cells] using e0
  exact ⟨⟨C, t, Q, n, k, dn, A⟩, v0, v2, v6, by rw [this], h1, g1, k1, k3, ⟨h2, g2, k2⟩⟩
end

end Go.Proofs.Ytagmdkblcgnddaa
