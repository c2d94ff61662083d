/- DERIVED. Combinations and combiners that come in as arguments read as data. No condition. -/
import Derived.Test.YtagmdkblcgnddaaEvOpen
import Derived.Test.YtagmdkblcgnddaaCbDef
namespace Go.Proofs.Ytagmdkblcgnddaa
open Go.RowKit Go.ChangeShapes Go.WideShapes Go.Deep

abbrev cbS : List Sh := [.int .i64, .int .i64]
theorem rep_cb : Rep Try.prog 130 cbS :=
  Rep.of_fields (sss := [[.int .i64], [.int .i64]]) Try.underlying130 (by kernel_rfl)
    (.cons rfl (by kernel_rfl) rfl rep_int' (.cons rfl (by kernel_rfl) rfl rep_int' .nil))
theorem rep_cbs : Rep Try.prog 61 [.row cbS] := Rep.row Try.underlying61 rep_cb (by kernel_rfl) (by decide)
def cbC : List Ce → Cb
  | [.int x0, .int x1] => ⟨x0, x1⟩
  | _ => ⟨0, 0⟩
theorem cbC_flat : ∀ (rs : List (List Ce)), (∀ r ∈ rs, ∃ x0 x1, r = [.int x0, .int x1]) → rs.flatMap (cesV cbS) = flatCb (rs.map cbC)
  | [], _ => rfl
  | r :: rs, h => by
    obtain ⟨x0, x1, rfl⟩ := h _ List.mem_cons_self
    rw [List.flatMap_cons, cbC_flat rs (fun r hr => h r (List.mem_cons_of_mem _ hr)), List.map_cons]
    rfl
section
variable {H : Type} {enc : TypeId × Value → H} {w : World} {base : Nat} {spare : Nat → Bool} {held : Bool}
set_option maxRecDepth 100000 in
theorem open_Combos {r : Reach} {b0 : Nat} {v : Value} {d : DataW H} {p : List MemPlace} (hv : Value.okWide Try.prog w r b0 61 v) (h : DataW.Trod enc Try.prog w base spare held 61 v d p) :
    ∃ (a : Option Addr) (m cap : Nat) (l : List Cb), v = .slice a m cap ∧ l.length = m ∧ m ≤ maxLen ∧ RdN w (.slice a m cap) l.length (flatCb l) := by
  obtain ⟨a0, n0, c0, rfl⟩ := okWide_slice Try.underlying61 hv
  obtain ⟨fuel, hf⟩ := h
  obtain ⟨c, hrd, _⟩ := trod_rd rep_cbs hf
  obtain ⟨v0, l0, c1, m0, e0, _, r0, q0⟩ := hrd.consInv
  obtain ⟨rfl, _⟩ := q0.nilInv
  have e1 : v0 = .slice a0 n0 c0 := by
    have : [Value.slice a0 n0 c0] = [v0] := by simpa [Value.cells] using e0
    simpa using this.symm
  subst e1
  obtain ⟨rs, rfl⟩ : ∃ rs, c1 = .row rs := by
    have := r0
    simp only [RdC] at this
    obtain ⟨rs, _, _, h, _⟩ := this
    exact ⟨rs, h⟩
  obtain ⟨h1, h2, h3, a, cap, hs⟩ := rdN_of_rdC (by simp [flatSh]) (by decide) r0
  simp only [Value.slice.injEq] at hs
  obtain ⟨rfl, hn, rfl⟩ := hs
  have hsh : ∀ r ∈ rs, ∃ x0 x1, r = [.int x0, .int x1] := fun r hr => by
    obtain ⟨vs, hvs⟩ := h3 r hr
    obtain ⟨_, _, _, _, _, rfl, r0, q0⟩ := hvs.consInv
    obtain ⟨_, _, _, _, _, rfl, r1, q1⟩ := q0.consInv
    obtain ⟨_, rfl⟩ := q1.nilInv
    obtain ⟨x0, _, rfl⟩ := r0.intInv
    obtain ⟨x1, _, rfl⟩ := r1.intInv
    exact ⟨x0, x1, rfl⟩
  rw [cbC_flat rs hsh] at h1
  exact ⟨a0, n0, c0, rs.map cbC, rfl, by simp [hn], by omega, by rw [List.length_map]; exact h1⟩
end

end Go.Proofs.Ytagmdkblcgnddaa
