/- DERIVED. A strings.Builder that the call itself has made, beside other memory of its own: WriteString changes the builder's blocks alone. The new length takes at most 140737488355328 bytes. -/
import Derived.Test.YteljmfdlegohbaaJoin
import Derived.Test.YteljmfdlegohbaaOwnBase
import Derived.Test.YteljmfdlegohbaaRpSpec5
namespace Go.Proofs.Yteljmfdlegohbaa
open Go.RowKit

/-- The builder in block b holds the bytes l in the row v. -/
def Bld (w : World) (b : Nat) (l : List UInt8) (v : Value) : Prop :=
  ∃ p : Value, (p = .pointer none ∨ p = .pointer (some ⟨b, 0, none⟩)) ∧ w.heap[b]? = some (.cells #[p, v] 147 (0, 0)) ∧ w.ownsRow b 5 1 v l.length (Lib.byteCells l) ∧ v.ownBlock ≠ some b
theorem Bld.is {w : World} {b : Nat} {l : List UInt8} {v : Value} (h : Bld w b l v) : Lib.IsBuilder 147 5 b b (Lib.byteCells l) w := by
  obtain ⟨p, hp, h1, h2, h3⟩ := h
  have hl : (Lib.byteCells l).length = l.length := by simp [Lib.byteCells]
  rcases hp with rfl | rfl
  · exact .inl ⟨Nat.le_refl _, v, h1, by rw [hl]; exact h2, h3⟩
  · exact .inr ⟨Nat.le_refl _, v, h1, by rw [hl]; exact h2, h3⟩
theorem Bld.lt {w : World} {b : Nat} {l : List UInt8} {v : Value} (h : Bld w b l v) : b < w.heap.size := by
  obtain ⟨p, hp, h1, h2, h3⟩ := h
  exact (Array.getElem?_eq_some_iff.mp h1).1
theorem Bld.rng {w : World} {b : Nat} {l : List UInt8} {v : Value} (h : Bld w b l v) : ∀ q ∈ b :: ownFp v, b ≤ q ∧ q < w.heap.size := by
  intro q hq
  have hlt := h.lt
  obtain ⟨p, hp, h1, h2, h3⟩ := h
  rcases List.mem_cons.1 hq with rfl | hq
  · exact ⟨Nat.le_refl _, hlt⟩
  · exact (OwF.mk' h2).rng q hq
theorem Bld.keep {w w' : World} {b : Nat} {l : List UInt8} {v : Value} (h : Bld w b l v) (hk : ∀ q ∈ b :: ownFp v, w'.heap[q]? = w.heap[q]?) : Bld w' b l v := by
  obtain ⟨p, hp, h1, h2, h3⟩ := h
  refine ⟨p, hp, (hk b (by simp)).trans h1, owns_keep h2 (fun q hq => hk q ?_), h3⟩
  simp [ownFp, hq]
theorem Bld.below {w w' : World} {b : Nat} {l : List UInt8} {v : Value} (h : Bld w b l v) (hb : Below w.heap.size w w') : Bld w' b l v :=
  h.keep fun q hq => hb.block q (h.rng q hq).2
theorem Bld.new (w : World) : Bld (w.alloc (.cells #[.pointer none, .slice none 0 0] 147)) w.heap.size [] (.slice none 0 0) :=
  ⟨.pointer none, .inl rfl, heap_alloc_new w _, World.ownsRow_nil _ _ _ _, by simp [Value.ownBlock]⟩
/-- A block of another type is none of a row's. -/
theorem own_type {w : World} {B e c n k : Nat} {v : Value} {xs : List Value} {cur : Array Value} {T : TypeId} (h : w.ownsRow B e c v n xs) (hk : w.heap[k]? = some (.cells cur T (0, 0))) (ht : T ≠ e) : k ∉ ownFp v := by
  intro hm
  rcases h.2 with ⟨rfl, _⟩ | ⟨g, cap, cur2, rfl, _, hh, _⟩
  · simp [ownFp, Value.ownBlock] at hm
  · have : k = g := by simpa [ownFp, Value.ownBlock] using hm
    subst this
    rw [hk] at hh
    simp only [Option.some.injEq, Obj.cells.injEq] at hh
    exact ht hh.2.1
theorem Bld.far {w : World} {b k : Nat} {l : List UInt8} {v : Value} {cur : Array Value} {T : TypeId} (h : Bld w b l v) (hk : w.heap[k]? = some (.cells cur T (0, 0))) (h1 : T ≠ 5) (h2 : T ≠ 147) : k ∉ b :: ownFp v := by
  obtain ⟨p, hp, e1, e2, e3⟩ := h
  intro hm
  rcases List.mem_cons.1 hm with rfl | hm
  · rw [hk] at e1
    simp only [Option.some.injEq, Obj.cells.injEq] at e1
    exact h2 e1.2.1
  · exact own_type e2 hk h1 hm
/-- Numbers that a call owns stay what they are when the builder grows. -/
theorem own_turn {w w' : World} {B b n : Nat} {l : List UInt8} {v u : Value} {xs : List Value} (hb : Bld w b l v) (h : w.ownsRow B 3 1 u n xs) (ht : Turn w w' (b :: ownFp v)) : w'.ownsRow B 3 1 u n xs := by
  refine owns_keep h fun q hq => ?_
  rcases h.2 with ⟨rfl, _⟩ | ⟨g, cap, cur, rfl, _, hh, _⟩
  · simp [Value.ownBlock] at hq
  · have : q = g := by simpa [Value.ownBlock] using hq.symm
    subst this
    exact ht.block q (Array.getElem?_eq_some_iff.mp hh).1 (hb.far hh (by decide) (by decide))

set_option maxHeartbeats 1000000 in
set_option maxRecDepth 100000 in
theorem copyCheck_t (b : Nat) (l : List UInt8) (v : Value) (w : World) (h : Bld w b l v) :
    Calls Try.prog 168 #[.pointer (some ⟨b, 0, none⟩)] w fun e w' => e = .returned (.tuple #[]) ∧ (w'.heap[b]? = some (.cells #[.pointer (some ⟨b, 0, none⟩), v] 147 (0, 0)) ∧ Turn w w' [b]) := by
  obtain ⟨j, hj, hjs⟩ := Option.map_eq_some_iff.1 sizeB
  obtain ⟨p, hp, hb, hown, hne⟩ := h
  rcases hp with rfl | rfl
  · have h : Lib.BuilderAt 147 5 b b (.pointer none) (Lib.byteCells l) w := ⟨Nat.le_refl _, v, hb, by rw [show (Lib.byteCells l).length = l.length by simp [Lib.byteCells]]; exact hown, hne⟩
    have h0 := h.cell0
    have hsh := h.shape
    have hfz := h.frozen0
    have HH := Lib.hid hb
    clear h hb hown
    go_enter Try.func168, Try.ntmps168
    go_wp2
    rw [Lib.run_to_unsafe w ⟨b, 0, none⟩ Try.underlying145 Try.underlying230 hj (by rw [hjs]; decide) hsh (Nat.zero_lt_succ 1)]
    simp only [Result.andThen]
    rw [Oper.upon_value]
    go_wp2
    rw [run_callFunc_extern Try.func190 (by kernel_rfl) (by kernel_rfl) (by kernel_rfl) (e := Extern.AbiNoEscape.same) (by kernel_rfl)]
    rw [Lib.run_noEscape]
    simp only [Result.andThen]
    rw [Oper.upon_value]
    go_wp2
    rw [Lib.run_from_unsafe w ⟨b, 0, none⟩ Try.underlying230 Try.underlying145 hj hsh liesB]
    simp only [Result.andThen]
    rw [Oper.upon_value]
    go_wp2
    go_end0
    exact ⟨rfl, by have := block_set HH.out 0 (.pointer (some ⟨b, 0, none⟩)); simpa using this, rfl, rfl, rfl, by simp [World.setCell], fun k _ hk => Below.heap_setCell _ _ _ _ (fun e => hk (by simp [e]))⟩
  · have h : Lib.BuilderAt 147 5 b b (.pointer (some ⟨b, 0, none⟩)) (Lib.byteCells l) w := ⟨Nat.le_refl _, v, hb, by rw [show (Lib.byteCells l).length = l.length by simp [Lib.byteCells]]; exact hown, hne⟩
    have h0 := h.cell0
    have HH := Lib.hid hb
    clear h hb hown
    go_enter Try.func168, Try.ntmps168
    go_wp2
    rw [Lib.run_neq_ptr_same w _ Try.underlying145 hj]
    go_wp2
    go_end0
    exact ⟨rfl, HH.out, Turn.refl _ _⟩

set_option maxHeartbeats 1000000 in
set_option maxRecDepth 100000 in
theorem bWrite_t (b : Nat) (l : List UInt8) (v : Value) (s : ByteArray) (w : World) (h : Bld w b l v) (hlen : l.length + s.size ≤ 140737488355328) :
    Calls Try.prog 107 #[.pointer (some ⟨b, 0, none⟩), .string s] w fun e w' => e = .returned (.tuple #[.int .i64 s.size, .nilIface]) ∧ (∃ v', Bld w' b (l ++ s.data.toList) v' ∧ Turn w w' (b :: ownFp v)) := by
  obtain ⟨i0, hi, hz0, hz1, hz2⟩ := info_parts info_u8
  go_enter Try.func107, Try.ntmps107
  go_wp2_with fail
  refine (copyCheck_t b l v _ h).mono ?_
  rintro e w1 ⟨rfl, hbk, ht1⟩
  have hlt0 := h.lt
  obtain ⟨p, hp, hb0, hown0, hne⟩ := h
  have hown : w1.ownsRow b 5 1 v l.length (Lib.byteCells l) := owns_keep hown0 fun q hq => ht1.block q (hown0.lt q hq).2 (fun hm => by simp at hm; subst hm; exact hne hq)
  have hsz := ht1.size
  have c0 : w1.cell? ⟨b, 0, none⟩ = some (.pointer (some ⟨b, 0, none⟩)) := by rw [Lib.cell_of_heap hbk]; rfl
  have c1 : w1.cell? ⟨b, 1, none⟩ = some v := by rw [Lib.cell_of_heap hbk]; rfl
  clear hb0 hown0
  go_wp2_with (at_builtin; refine Lib.wpList_append_own_string _ rfl _ _ 22 9 rfl b 5 i0 Try.underlying22 Try.underlying9 hi hz0 hz1 hz2 _ _ _ rfl hown s rfl ?c3 ?c4 ?c5 ?_)
  case c3 => unfold maxLen; omega
  case c4 => omega
  case c5 => omega
  intro v' w2 hown' hgrow _
  have hlt : b < w1.heap.size := (Array.getElem?_eq_some_iff.mp hbk).1
  have hb2 : w2.heap[b]? = some (.cells #[.pointer (some ⟨b, 0, none⟩), v] 147 (0, 0)) := by rw [hgrow.block b hlt (fun e => hne e.symm)]; exact hbk
  have d0 : w2.cell? ⟨b, 0, none⟩ = some (.pointer (some ⟨b, 0, none⟩)) := by rw [Lib.cell_of_heap hb2]; rfl
  have d1 : w2.cell? ⟨b, 1, none⟩ = some v := by rw [Lib.cell_of_heap hb2]; rfl
  have f1 : w2.frozen? ⟨b, 1, none⟩ = false := Lib.frozen_of_heap hb2 1
  obtain ⟨ao, n', cap, rfl⟩ : ∃ ao n' cap, v' = .slice ao n' cap := by
    rcases hown'.2 with ⟨hv, _⟩ | ⟨g, cap, cur, hv, _⟩
    · exact ⟨_, _, _, hv⟩
    · exact ⟨_, _, _, hv⟩
  go_wp2
  go_ret2
  have hcl : Lib.byteCells (l ++ s.data.toList) = Lib.byteCells l ++ Lib.strCells s := by rw [Lib.byteCells_append, strCells_eq]
  have hll : (l ++ s.data.toList).length = l.length + s.size := by rw [List.length_append, size_toList]
  have hne2 : (Value.slice ao n' cap).ownBlock ≠ some b := fun e => by
    have := own_type hown' hb2 (by decide)
    exact this (by simp [ownFp, e])
  refine ⟨rfl, .slice ao n' cap, ⟨.pointer (some ⟨b, 0, none⟩), .inr rfl, by have := block_set hb2 1 (.slice ao n' cap); simpa using this, ?_, hne2⟩, ?_⟩
  · rw [hcl, hll]
    refine owns_keep hown' fun q hq => Below.heap_setCell _ _ _ _ (fun e => ?_)
    exact hne2 (by rw [hq]; exact congrArg some e)
  · refine ⟨hgrow.os.trans ht1.os, hgrow.tape.trans ht1.tape, hgrow.output.trans ht1.output, by have := hgrow.size; simp [World.setCell]; omega, fun k hk hn => ?_⟩
    have hkb : k ≠ b := fun e => hn (by simp [e])
    have hkv : some k ≠ v.ownBlock := fun e => hn (by simp [ownFp, ← e])
    rw [Below.heap_setCell _ _ _ _ (fun e => hkb e), hgrow.block k (by omega) hkv]
    exact ht1.block k hk (by simpa using hkb)

end Go.Proofs.Yteljmfdlegohbaa
