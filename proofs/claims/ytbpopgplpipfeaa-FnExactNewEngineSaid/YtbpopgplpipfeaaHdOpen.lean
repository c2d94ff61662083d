/- DERIVED. Held keys that come in as an argument read as a list of held keys. No condition. -/
import Derived.Test.YtbpopgplpipfeaaDatOpen
import Derived.Test.YtbpopgplpipfeaaCore
import Derived.Test.YtbpopgplpipfeaaHd
namespace Go.Proofs.Ytbpopgplpipfeaa
open Go.RowKit Go.ChangeShapes Go.WideShapes Go.Deep

theorem rep_intH : Rep Try.prog 3 [.int .i64] := Rep.int Try.underlying3
abbrev acS4h : List Sh := [.int .i64, .int .i64, .int .i64, .int .i64]
abbrev hdS5 : List Sh := [.int .i64, .int .i64, .int .i64, .int .i64, .int .i64]
theorem rep_actionH : Rep Try.prog 126 acS4h :=
  Rep.of_fields (sss := [[.int .i64], [.int .i64], [.int .i64], [.int .i64]]) Try.underlying126 (by kernel_rfl)
    (.cons rfl (by kernel_rfl) rfl rep_intH (.cons rfl (by kernel_rfl) rfl rep_intH (.cons rfl (by kernel_rfl) rfl rep_intH (.cons rfl (by kernel_rfl) rfl rep_intH .nil))))
theorem rep_held : Rep Try.prog 128 hdS5 :=
  Rep.of_fields (sss := [[.int .i64], acS4h]) Try.underlying128 (by kernel_rfl)
    (.cons rfl (by kernel_rfl) rfl rep_intH (.cons rfl (by kernel_rfl) rfl rep_actionH .nil))
theorem rep_helds : Rep Try.prog 50 [.row hdS5] := Rep.row Try.underlying50 rep_held (by kernel_rfl) (by decide)
def hdC : List Ce → Hd
  | [.int h, .int k, .int c, .int m, .int n] => ⟨h, k, c, m, n⟩
  | _ => ⟨0, 0, 0, 0, 0⟩
theorem hdC_flat : ∀ (rs : List (List Ce)), (∀ r ∈ rs, ∃ h k c m n, r = [.int h, .int k, .int c, .int m, .int n]) → rs.flatMap (cesV hdS5) = flatHd (rs.map hdC)
  | [], _ => rfl
  | r :: rs, h => by
    obtain ⟨h', k, c, m, n, rfl⟩ := h _ List.mem_cons_self
    rw [List.flatMap_cons, hdC_flat rs (fun r hr => h r (List.mem_cons_of_mem _ hr)), List.map_cons]
    rfl
section
variable {H : Type} {enc : TypeId × Value → H} {w : World} {base : Nat} {spare : Nat → Bool} {held : Bool}
set_option maxRecDepth 100000 in
theorem open_Helds {r : Reach} {b0 : Nat} {v : Value} {d : DataW H} {p : List MemPlace} (hv : Value.okWide Try.prog w r b0 50 v) (h : DataW.Trod enc Try.prog w base spare held 50 v d p) :
    ∃ (a : Option Addr) (m cap : Nat) (l : List Hd), v = .slice a m cap ∧ l.length = m ∧ m ≤ maxLen ∧ RdN w (.slice a m cap) l.length (flatHd l) := by
  obtain ⟨a0, n0, c0, rfl⟩ := okWide_slice Try.underlying50 hv
  obtain ⟨fuel, hf⟩ := h
  obtain ⟨c, hrd, _⟩ := trod_rd rep_helds hf
  obtain ⟨v0, l0, c1, m0, e0, _, r0, q0⟩ := hrd.consInv
  obtain ⟨rfl, _⟩ := q0.nilInv
  have e1 : v0 = .slice a0 n0 c0 := by
    have : [Value.slice a0 n0 c0] = [v0] := by simpa [Value.cells] using e0
    simpa using this.symm
  subst e1
  obtain ⟨rs, rfl⟩ : ∃ rs, c1 = .row rs := by
    have := r0
    simp only [RdC] at this
    obtain ⟨rs, _, _, h, _⟩ := this
    exact ⟨rs, h⟩
  obtain ⟨h1, h2, h3, a, cap, hs⟩ := rdN_of_rdC (by simp [flatSh]) (by decide) r0
  simp only [Value.slice.injEq] at hs
  obtain ⟨rfl, hn, rfl⟩ := hs
  have hsh : ∀ r ∈ rs, ∃ h k c m n, r = [.int h, .int k, .int c, .int m, .int n] := fun r hr => by
    obtain ⟨vs, hvs⟩ := h3 r hr
    obtain ⟨_, _, _, _, _, rfl, r0, q0⟩ := hvs.consInv
    obtain ⟨_, _, _, _, _, rfl, r1, q1⟩ := q0.consInv
    obtain ⟨_, _, _, _, _, rfl, r2, q2⟩ := q1.consInv
    obtain ⟨_, _, _, _, _, rfl, r3, q3⟩ := q2.consInv
    obtain ⟨_, _, _, _, _, rfl, r4, q4⟩ := q3.consInv
    obtain ⟨_, rfl⟩ := q4.nilInv
    obtain ⟨h, _, rfl⟩ := r0.intInv
    obtain ⟨k, _, rfl⟩ := r1.intInv
    obtain ⟨c, _, rfl⟩ := r2.intInv
    obtain ⟨m, _, rfl⟩ := r3.intInv
    obtain ⟨n, _, rfl⟩ := r4.intInv
    exact ⟨h, k, c, m, n, rfl⟩
  rw [hdC_flat rs hsh] at h1
  exact ⟨a0, n0, c0, rs.map hdC, rfl, by simp [hn], by omega, by rw [List.length_map]; exact h1⟩
end

end Go.Proofs.Ytbpopgplpipfeaa
