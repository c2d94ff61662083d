/- DERIVED. Steps that come in as an argument read as a list of steps. No condition. -/
import Derived.Test.YtbpopgplpipfeaaDatOpen
import Derived.Test.YtbpopgplpipfeaaCore
import Derived.Test.YtbpopgplpipfeaaSt
namespace Go.Proofs.Ytbpopgplpipfeaa
open Go.RowKit Go.ChangeShapes Go.WideShapes Go.Deep

theorem rep_intS : Rep Try.prog 3 [.int .i64] := Rep.int Try.underlying3
abbrev stS3 : List Sh := [.int .i64, .int .i64, .int .i64]
theorem rep_step : Rep Try.prog 136 stS3 :=
  Rep.of_fields (sss := [[.int .i64], [.int .i64], [.int .i64]]) Try.underlying136 (by kernel_rfl)
    (.cons rfl (by kernel_rfl) rfl rep_intS (.cons rfl (by kernel_rfl) rfl rep_intS (.cons rfl (by kernel_rfl) rfl rep_intS .nil)))
theorem rep_steps : Rep Try.prog 95 [.row stS3] := Rep.row Try.underlying95 rep_step (by kernel_rfl) (by decide)
def stC : List Ce → St
  | [.int k, .int c, .int m] => ⟨k, c, m⟩
  | _ => ⟨0, 0, 0⟩
theorem stC_flat : ∀ (rs : List (List Ce)), (∀ r ∈ rs, ∃ k c m, r = [.int k, .int c, .int m]) → rs.flatMap (cesV stS3) = flatSt (rs.map stC)
  | [], _ => rfl
  | r :: rs, h => by
    obtain ⟨k, c, m, rfl⟩ := h _ List.mem_cons_self
    rw [List.flatMap_cons, stC_flat rs (fun r hr => h r (List.mem_cons_of_mem _ hr)), List.map_cons]
    rfl
section
variable {H : Type} {enc : TypeId × Value → H} {w : World} {base : Nat} {spare : Nat → Bool} {held : Bool}
set_option maxRecDepth 100000 in
theorem open_Steps {r : Reach} {b0 : Nat} {v : Value} {d : DataW H} {p : List MemPlace} (hv : Value.okWide Try.prog w r b0 95 v) (h : DataW.Trod enc Try.prog w base spare held 95 v d p) :
    ∃ (a : Option Addr) (m cap : Nat) (l : List St), v = .slice a m cap ∧ l.length = m ∧ m ≤ maxLen ∧ RdN w (.slice a m cap) l.length (flatSt l) := by
  obtain ⟨a0, n0, c0, rfl⟩ := okWide_slice Try.underlying95 hv
  obtain ⟨fuel, hf⟩ := h
  obtain ⟨c, hrd, _⟩ := trod_rd rep_steps hf
  obtain ⟨v0, l0, c1, m0, e0, _, r0, q0⟩ := hrd.consInv
  obtain ⟨rfl, _⟩ := q0.nilInv
  have e1 : v0 = .slice a0 n0 c0 := by
    have : [Value.slice a0 n0 c0] = [v0] := by simpa [Value.cells] using e0
    simpa using this.symm
  subst e1
  obtain ⟨rs, rfl⟩ : ∃ rs, c1 = .row rs := by
    have := r0
    simp only [RdC] at this
    obtain ⟨rs, _, _, h, _⟩ := this
    exact ⟨rs, h⟩
  obtain ⟨h1, h2, h3, a, cap, hs⟩ := rdN_of_rdC (by simp [flatSh]) (by decide) r0
  simp only [Value.slice.injEq] at hs
  obtain ⟨rfl, hn, rfl⟩ := hs
  have hsh : ∀ r ∈ rs, ∃ k c m, r = [.int k, .int c, .int m] := fun r hr => by
    obtain ⟨vs, hvs⟩ := h3 r hr
    obtain ⟨_, _, _, _, _, rfl, r0, q0⟩ := hvs.consInv
    obtain ⟨_, _, _, _, _, rfl, r1, q1⟩ := q0.consInv
    obtain ⟨_, _, _, _, _, rfl, r2, q2⟩ := q1.consInv
    obtain ⟨_, rfl⟩ := q2.nilInv
    obtain ⟨k, _, rfl⟩ := r0.intInv
    obtain ⟨c, _, rfl⟩ := r1.intInv
    obtain ⟨m, _, rfl⟩ := r2.intInv
    exact ⟨k, c, m, rfl⟩
  rw [stC_flat rs hsh] at h1
  exact ⟨a0, n0, c0, rs.map stC, rfl, by simp [hn], by omega, by rw [List.length_map]; exact h1⟩
end

end Go.Proofs.Ytbpopgplpipfeaa
