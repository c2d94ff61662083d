/- DERIVED. The laws' functions on numbers as the laws call them; blocks that stay. · What a drawn region knows of a box that it lays ahead of one of its calls. No condition. · The laws' marks on slices of bytes: marking an owned slice writes the marks, and a slice that reads as its marks is told to hold them. · Lists of bytes in a law, with what they own: copied, alike, marked, marks told. -/
import Derived.Test.YteljmfdlegohbaaInts
import Derived.Test.YteljmfdlegohbaaCore
import Derived.Test.YteljmfdlegohbaaKm
import Derived.Test.YteljmfdlegohbaaText
namespace Go.Proofs.Yteljmfdlegohbaa
open Go.RowKit

theorem owC_len {w : World} {B n : Nat} {e : TypeId} {u : Value} {zs : List Int} (h : w.ownsRow B e 1 u n (zs.map (.int .i64))) (hl : zs.length ≤ 1048576) :
    ∃ a c fp, u = .slice a zs.length c ∧ OwC w B (.row [.int .i64]) (.slice a zs.length c) (.row (ones zs)) fp := by
  have hn : zs.length = n := by simpa using h.1
  obtain ⟨fp, _, ho⟩ := owC_ints h (by unfold maxLen; omega)
  obtain ⟨a, c, rfl⟩ := owns_shape h
  exact ⟨a, c, fp, by rw [hn], by rw [hn]; exact ho⟩

theorem fp_block {w : World} {B : Nat} {zs : List Int} {u : Value} {fp : List Nat} (h : OwC w B (.row [.int .i64]) u (.row (ones zs)) fp) : ∀ b ∈ fp, u.ownBlock = some b := by
  intro b hb
  obtain ⟨rs, hc, _, h⟩ := h.rowInv
  rcases h with ⟨_, _, rfl⟩ | ⟨g, cap, cur, t, fps, rfl, _, _, _, rfl, hf, hr⟩
  · simp at hb
  · rcases List.mem_cons.mp hb with rfl | hb
    · rfl
    · obtain ⟨f, hf1, hf2⟩ := List.mem_flatten.mp hb
      obtain ⟨i, hi, rfl⟩ := List.getElem_of_mem hf1
      have h1 := hr i (by omega) hi
      have : rs[i]'(by omega) = (ones zs)[i]'(by simp only [Ce.row.injEq] at hc; rw [hc]; omega) := by simp only [Ce.row.injEq] at hc; simp [hc]
      obtain ⟨_, _, _, _, f, f', _, _, e, h2, h3⟩ := h1.consInv
      rw [e, h2.intInv.1, h3.nilInv.2.2] at hf2
      simp at hf2
theorem toIntS_law (v : Value) (zs : List Int) (w : World) (hl : zs.length ≤ 1048576) (h : Rd w v (zs.map (.int .i64))) :
    Calls Try.prog 144 #[v] w fun e w' => ∃ a c fp, e = .returned (.slice a zs.length c) ∧ OwC w' w.heap.size (.row [.int .i64]) (.slice a zs.length c) (.row (ones zs)) fp ∧ Below w.heap.size w w' :=
  (toIntS_any v zs w hl h).mono fun e w' ⟨u, he, ho, hb⟩ => by
    obtain ⟨a, c, fp, rfl, h⟩ := owC_len ho hl
    exact ⟨a, c, fp, he, h, hb⟩
theorem owC_rd {w : World} {B : Nat} {u : Value} {zs : List Int} {fp : List Nat} (h : OwC w B (.row [.int .i64]) u (.row (ones zs)) fp) : Rd w u (zs.map (.int .i64)) := by
  obtain ⟨zs', hc, _, hr⟩ := h.ints
  have : zs' = zs := by
    simp only [Ce.row.injEq] at hc
    have : (ones zs).map (fun r => match r with | [.int n] => n | _ => 0) = (ones zs').map (fun r => match r with | [.int n] => n | _ => 0) := by rw [hc]
    simpa [ones, Function.comp_def] using this.symm
  rw [← this]; exact hr
theorem owC_marks {w : World} {B n : Nat} {q : Int} {u : Value} {fp : List Nat} (h : OwC w B (.row [.int .i64]) u (.row (ones (marksZ q n))) fp) : Rd w u (marks64 q n) := by
  have := owC_rd h
  rwa [marksZ_vals] at this
/-- A block that stays. -/
theorem blk_below {w w' : World} {b : Nat} {o : Obj} (h : w.heap[b]? = some o) (hb : Below w.heap.size w w') : w'.heap[b]? = some o := (hb.block b (Array.getElem?_eq_some_iff.mp h).1).trans h
theorem blk_turn {w w' : World} {b : Nat} {o : Obj} {fp : List Nat} (h : w.heap[b]? = some o) (ht : Turn w w' fp) (hn : b ∉ fp) : w'.heap[b]? = some o := (ht.block b (Array.getElem?_eq_some_iff.mp h).1 hn).trans h
theorem apart_lt {fx fy : List Nat} {n : Nat} (hx : ∀ b ∈ fx, b < n) (hy : ∀ b ∈ fy, n ≤ b) : ∀ b ∈ fy, b ∉ fx := fun b hb hb' => by have := hx b hb'; have := hy b hb; omega
theorem apart_gt {fx fy : List Nat} {n : Nat} (hx : ∀ b ∈ fx, n ≤ b) (hy : ∀ b ∈ fy, b < n) : ∀ b ∈ fy, b ∉ fx := fun b hb hb' => by have := hx b hb'; have := hy b hb; omega
theorem below_alloc1 (w : World) (o : Obj) : Below w.heap.size w (w.alloc o) := (Below.refl _ _).alloc (Nat.le_refl _) o
theorem below_post {P : Program} {f : FuncId} {args : Array Value} {w : World} {v : Value} (h : Calls P f args w fun e w' => e = .returned v ∧ ∃ n, w' = w.drewN n) : Calls P f args w fun e w' => e = .returned v ∧ Below w.heap.size w w' :=
  h.mono fun _ _ ⟨he, n, hn⟩ => ⟨he, by rw [hn]; exact below_drewN (Below.refl _ _) n⟩
end Go.Proofs.Yteljmfdlegohbaa

namespace Go.Proofs.Yteljmfdlegohbaa
open Go.RowKit

theorem below_via {w a b : World} (h : Below w.heap.size w a) (hb : Below a.heap.size a b) : Below w.heap.size w b := h.trans (hb.mono h.size)
theorem ky_new {v v' : World} {cs : Array Value} {t : TypeId} {B : Nat} (hB : B ≤ v.heap.size) (hb : Below (v.alloc (.cells cs t)).heap.size (v.alloc (.cells cs t)) v') :
    v'.heap[v.heap.size]? = some (.cells cs t (0, 0)) ∧ v.heap.size < (v.alloc (.cells cs t)).heap.size ∧ B ≤ v.heap.size :=
  ⟨(hb.block v.heap.size (by simp)).trans (heap_alloc_new v _), by simp, hB⟩
theorem ky_drew {v v' : World} {cs : Array Value} {t : TypeId} {B : Nat} (hB : B ≤ v.heap.size) (hb : Below (v.alloc (.cells cs t)).drew.heap.size (v.alloc (.cells cs t)).drew v') :
    v'.heap[v.heap.size]? = some (.cells cs t (0, 0)) ∧ v.heap.size < (v.alloc (.cells cs t)).heap.size ∧ B ≤ v.heap.size :=
  ⟨(hb.block v.heap.size (by show v.heap.size < (v.alloc (.cells cs t)).heap.size; simp)).trans (heap_alloc_new v _), by simp, hB⟩
theorem ky_old {v v' G : World} {y B s : Nat} {cs : Array Value} {t : TypeId} (h : v.heap[y]? = some (.cells cs t (0, 0)) ∧ y < s ∧ B ≤ y) (hb : Below G.heap.size G v') (e : G.heap = v.heap) :
    v'.heap[y]? = some (.cells cs t (0, 0)) ∧ y < G.heap.size ∧ B ≤ y := by
  have h1 : G.heap[y]? = some (.cells cs t (0, 0)) := by rw [e]; exact h.1
  have h2 := (Array.getElem?_eq_some_iff.mp h1).1
  exact ⟨(hb.block y h2).trans h1, h2, h.2.2⟩
theorem OwS.putAt {α : Type} {f : α → List Value} {w : World} {B : Nat} {T1 T2 : TypeId} {c y : Nat} {v : Value} {L : List (List α)} {fp : List Nat} (h : OwS f w B T1 T2 c v L fp) (vs : List Value) (hy : y ∉ fp) (i : Nat) : OwS f (putW w y i vs) B T1 T2 c v L fp :=
  h.turn (Turn.of_grown (putW_grown vs i w)) (fun x hx hm => by rw [List.mem_singleton] at hm; subst hm; exact hy hx)
end Go.Proofs.Yteljmfdlegohbaa

namespace Go.Proofs.Yteljmfdlegohbaa
open Go.RowKit

/-- The mark that a law writes into place j of a slice, counted from k on. -/
def mark8 (k : Int) (j : Nat) : Value := .int .u8 ((k + j) % 256)
def marks8 (k : Int) (n : Nat) : List Value := (List.range n).map (mark8 k)
theorem marks8_length (k : Int) (n : Nat) : (marks8 k n).length = n := by simp [marks8]
theorem marks8_get (k : Int) (n j : Nat) (h : j < n) : (marks8 k n)[j]? = some (mark8 k j) := by simp [marks8, h]
theorem marks8_done {k : Int} {n : Nat} {xs : List Value} (hl : xs.length = n) (h : ∀ j, j < n → xs[j]? = some (mark8 k j)) : xs = marks8 k n := by
  apply List.ext_getElem?
  intro j
  by_cases hj : j < n
  · rw [h j hj, marks8_get k n j hj]
  · rw [List.getElem?_eq_none (by omega), List.getElem?_eq_none (by rw [marks8_length]; omega)]

/-- v owns the bytes zs. -/
abbrev ByO (w : World) (B : Nat) (v : Value) (zs : List Int) (fp : List Nat) : Prop := OwF w B 5 1 v zs.length (zs.map (.int .u8)) fp
/-- v owns n marks, counted from q on. -/
abbrev ByM (w : World) (B : Nat) (v : Value) (n : Nat) (q : Int) (fp : List Nat) : Prop := OwF w B 5 1 v n (marks8 q n) fp
/-- What a call returns that makes bytes. -/
def ByOut (zs : List Int) (w : World) (e : Ending) (w' : World) : Prop := ∃ a c fp, e = .returned (.slice a zs.length c) ∧ ByO w' w.heap.size (.slice a zs.length c) zs fp ∧ Below w.heap.size w w'
theorem byOut {zs : List Int} {w w' : World} {e : Ending} (h : ∃ u, e = .returned u ∧ w'.ownsRow w.heap.size 5 1 u zs.length (zs.map (.int .u8)) ∧ Below w.heap.size w w') : ByOut zs w e w' := by
  obtain ⟨u, rfl, ho, hb⟩ := h
  obtain ⟨a, c, fp, rfl, hf⟩ := OwF.shape ho
  exact ⟨a, c, fp, rfl, hf, hb⟩
theorem OwF.rd1 {w : World} {B : Nat} {T : TypeId} {v : Value} {n : Nat} {xs : List Value} {fp : List Nat} (h : OwF w B T 1 v n xs fp) : Rd w v xs := Rd.of_owns h.1
theorem below_of_drewN {w w' : World} (h : ∃ n, w' = w.drewN n) : Below w.heap.size w w' := by obtain ⟨n, rfl⟩ := h; exact below_drewN (Below.refl _ _) n
end Go.Proofs.Yteljmfdlegohbaa
