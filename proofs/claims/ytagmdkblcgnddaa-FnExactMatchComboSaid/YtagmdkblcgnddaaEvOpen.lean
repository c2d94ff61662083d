/- DERIVED. Events that come in as an argument read as a list of events. No condition. -/
import Derived.Test.YtagmdkblcgnddaaDatOpen
import Derived.Test.YtagmdkblcgnddaaCore
import Derived.Test.YtagmdkblcgnddaaEv
namespace Go.Proofs.Ytagmdkblcgnddaa
open Go.RowKit Go.ChangeShapes Go.WideShapes Go.Deep

theorem rep_int' : Rep Try.prog 3 [.int .i64] := Rep.int Try.underlying3
theorem rep_bool' : Rep Try.prog 4 [.bool] := Rep.bool Try.underlying4
abbrev evS3 : List Sh := [.int .i64, .int .i64, .bool]
theorem rep_event : Rep Try.prog 81 evS3 :=
  Rep.of_fields (sss := [[.int .i64], [.int .i64], [.bool]]) Try.underlying81 (by kernel_rfl)
    (.cons rfl (by kernel_rfl) rfl rep_int' (.cons rfl (by kernel_rfl) rfl rep_int' (.cons rfl (by kernel_rfl) rfl rep_bool' .nil)))
theorem rep_events : Rep Try.prog 66 [.row evS3] := Rep.row Try.underlying66 rep_event (by kernel_rfl) (by decide)
def evC : List Ce → Ev
  | [.int t, .int k, .bool d] => ⟨t, k, d⟩
  | _ => ⟨0, 0, false⟩
theorem evC_flat : ∀ (rs : List (List Ce)), (∀ r ∈ rs, ∃ t k d, r = [.int t, .int k, .bool d]) → rs.flatMap (cesV evS3) = flatEv (rs.map evC)
  | [], _ => rfl
  | r :: rs, h => by
    obtain ⟨t, k, d, rfl⟩ := h _ List.mem_cons_self
    rw [List.flatMap_cons, evC_flat rs (fun r hr => h r (List.mem_cons_of_mem _ hr)), List.map_cons]
    rfl
section
variable {H : Type} {enc : TypeId × Value → H} {w : World} {base : Nat} {spare : Nat → Bool} {held : Bool}
set_option maxRecDepth 100000 in
theorem open_Events {r : Reach} {b0 : Nat} {v : Value} {d : DataW H} {p : List MemPlace} (hv : Value.okWide Try.prog w r b0 66 v) (h : DataW.Trod enc Try.prog w base spare held 66 v d p) :
    ∃ (a : Option Addr) (m cap : Nat) (l : List Ev), v = .slice a m cap ∧ l.length = m ∧ m ≤ maxLen ∧ RdN w (.slice a m cap) l.length (flatEv l) := by
  obtain ⟨a0, n0, c0, rfl⟩ := okWide_slice Try.underlying66 hv
  obtain ⟨fuel, hf⟩ := h
  obtain ⟨c, hrd, _⟩ := trod_rd rep_events hf
  obtain ⟨v0, l0, c1, m0, e0, _, r0, q0⟩ := hrd.consInv
  obtain ⟨rfl, _⟩ := q0.nilInv
  have e1 : v0 = .slice a0 n0 c0 := by
    have : [Value.slice a0 n0 c0] = [v0] := by simpa [Value.cells] using e0
    simpa using this.symm
  subst e1
  obtain ⟨rs, rfl⟩ : ∃ rs, c1 = .row rs := by
    have := r0
    simp only [RdC] at this
    obtain ⟨rs, _, _, h, _⟩ := this
    exact ⟨rs, h⟩
  obtain ⟨h1, h2, h3, a, cap, hs⟩ := rdN_of_rdC (by simp [flatSh]) (by decide) r0
  simp only [Value.slice.injEq] at hs
  obtain ⟨rfl, hn, rfl⟩ := hs
  have hsh : ∀ r ∈ rs, ∃ t k d, r = [.int t, .int k, .bool d] := fun r hr => by
    obtain ⟨vs, hvs⟩ := h3 r hr
    obtain ⟨_, _, _, _, _, rfl, r0, q0⟩ := hvs.consInv
    obtain ⟨_, _, _, _, _, rfl, r1, q1⟩ := q0.consInv
    obtain ⟨_, _, _, _, _, rfl, r2, q2⟩ := q1.consInv
    obtain ⟨_, rfl⟩ := q2.nilInv
    obtain ⟨t, _, rfl⟩ := r0.intInv
    obtain ⟨k, _, rfl⟩ := r1.intInv
    simp only [RdC] at r2
    obtain ⟨d, _, rfl⟩ := r2
    exact ⟨t, k, d, rfl⟩
  rw [evC_flat rs hsh] at h1
  exact ⟨a0, n0, c0, rs.map evC, rfl, by simp [hn], by omega, by rw [List.length_map]; exact h1⟩
end

end Go.Proofs.Ytagmdkblcgnddaa
