/- DERIVED. The laws' functions on numbers as the laws call them; blocks that stay. -/
import Derived.Test.YtleheibpgngmiaaInts
import Derived.Test.YtleheibpgngmiaaCore
namespace Go.Proofs.Ytleheibpgngmiaa
open Go.RowKit

theorem owC_len {w : World} {B n : Nat} {e : TypeId} {u : Value} {zs : List Int} (h : w.ownsRow B e 1 u n (zs.map (.int .i64))) (hl : zs.length ≤ 1048576) :
    ∃ a c fp, u = .slice a zs.length c ∧ OwC w B (.row [.int .i64]) (.slice a zs.length c) (.row (ones zs)) fp := by
  have hn : zs.length = n := by simpa using h.1
  obtain ⟨fp, _, ho⟩ := owC_ints h (by unfold maxLen; omega)
  obtain ⟨a, c, rfl⟩ := owns_shape h
  exact ⟨a, c, fp, by rw [hn], by rw [hn]; exact ho⟩

theorem fp_block {w : World} {B : Nat} {zs : List Int} {u : Value} {fp : List Nat} (h : OwC w B (.row [.int .i64]) u (.row (ones zs)) fp) : ∀ b ∈ fp, u.ownBlock = some b := by
  intro b hb
  obtain ⟨rs, hc, _, h⟩ := h.rowInv
  rcases h with ⟨_, _, rfl⟩ | ⟨g, cap, cur, t, fps, rfl, _, _, _, rfl, hf, hr⟩
  · simp at hb
  · rcases List.mem_cons.mp hb with rfl | hb
    · rfl
    · obtain ⟨f, hf1, hf2⟩ := List.mem_flatten.mp hb
      obtain ⟨i, hi, rfl⟩ := List.getElem_of_mem hf1
      have h1 := hr i (by omega) hi
      have : rs[i]'(by omega) = (ones zs)[i]'(by simp only [Ce.row.injEq] at hc; rw [hc]; omega) := by simp only [Ce.row.injEq] at hc; simp [hc]
      obtain ⟨_, _, _, _, f, f', _, _, e, h2, h3⟩ := h1.consInv
      rw [e, h2.intInv.1, h3.nilInv.2.2] at hf2
      simp at hf2
theorem owC_rd {w : World} {B : Nat} {u : Value} {zs : List Int} {fp : List Nat} (h : OwC w B (.row [.int .i64]) u (.row (ones zs)) fp) : Rd w u (zs.map (.int .i64)) := by
  obtain ⟨zs', hc, _, hr⟩ := h.ints
  have : zs' = zs := by
    simp only [Ce.row.injEq] at hc
    have : (ones zs).map (fun r => match r with | [.int n] => n | _ => 0) = (ones zs').map (fun r => match r with | [.int n] => n | _ => 0) := by rw [hc]
    simpa [ones, Function.comp_def] using this.symm
  rw [← this]; exact hr
theorem owC_marks {w : World} {B n : Nat} {q : Int} {u : Value} {fp : List Nat} (h : OwC w B (.row [.int .i64]) u (.row (ones (marksZ q n))) fp) : Rd w u (marks64 q n) := by
  have := owC_rd h
  rwa [marksZ_vals] at this
/-- A block that stays. -/
theorem blk_below {w w' : World} {b : Nat} {o : Obj} (h : w.heap[b]? = some o) (hb : Below w.heap.size w w') : w'.heap[b]? = some o := (hb.block b (Array.getElem?_eq_some_iff.mp h).1).trans h
theorem blk_turn {w w' : World} {b : Nat} {o : Obj} {fp : List Nat} (h : w.heap[b]? = some o) (ht : Turn w w' fp) (hn : b ∉ fp) : w'.heap[b]? = some o := (ht.block b (Array.getElem?_eq_some_iff.mp h).1 hn).trans h
theorem apart_lt {fx fy : List Nat} {n : Nat} (hx : ∀ b ∈ fx, b < n) (hy : ∀ b ∈ fy, n ≤ b) : ∀ b ∈ fy, b ∉ fx := fun b hb hb' => by have := hx b hb'; have := hy b hb; omega
theorem apart_gt {fx fy : List Nat} {n : Nat} (hx : ∀ b ∈ fx, n ≤ b) (hy : ∀ b ∈ fy, b < n) : ∀ b ∈ fy, b ∉ fx := fun b hb hb' => by have := hx b hb'; have := hy b hb; omega
theorem below_alloc1 (w : World) (o : Obj) : Below w.heap.size w (w.alloc o) := (Below.refl _ _).alloc (Nat.le_refl _) o
theorem below_post {P : Program} {f : FuncId} {args : Array Value} {w : World} {v : Value} (h : Calls P f args w fun e w' => e = .returned v ∧ ∃ n, w' = w.drewN n) : Calls P f args w fun e w' => e = .returned v ∧ Below w.heap.size w w' :=
  h.mono fun _ _ ⟨he, n, hn⟩ => ⟨he, by rw [hn]; exact below_drewN (Below.refl _ _) n⟩

end Go.Proofs.Ytleheibpgngmiaa
