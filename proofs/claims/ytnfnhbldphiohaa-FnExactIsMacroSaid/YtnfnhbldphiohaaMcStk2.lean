/- DERIVED. The program's slices.Clone and slices.Delete on what a macro has down, its pressOf and movesOf: each returns what a plain function says, in memory of its own. No condition. -/
import Derived.Test.YtnfnhbldphiohaaMcStk
import Derived.Test.YtnfnhbldphiohaaMcSpec
import Derived.Deep.DeepAppendRoom
import Derived.Laws.IdiomCopy
import Derived.Lib.SliceRun
import Derived.Deep.RegionLawGrows
namespace Go.Proofs.Ytnfnhbldphiohaa
open Go.RowKit

theorem flatAc_take (d : List Ac) (k : Nat) (hk : k ≤ d.length) : flatAc (d.take k) = (flatAc d).take (k * 4) := by
  have h1 : flatAc d = flatAc (d.take k) ++ flatAc (d.drop k) := by
    unfold flatAc; rw [← List.flatMap_append, List.take_append_drop]
  have h2 : (flatAc (d.take k)).length = k * 4 := by rw [flatAc_len, List.length_take]; omega
  rw [h1, ← h2, List.take_left]
theorem flatAc_drop (d : List Ac) (k : Nat) (hk : k ≤ d.length) : flatAc (d.drop k) = (flatAc d).drop (k * 4) := by
  have h1 : flatAc d = flatAc (d.take k) ++ flatAc (d.drop k) := by
    unfold flatAc; rw [← List.flatMap_append, List.take_append_drop]
  have h2 : (flatAc (d.take k)).length = k * 4 := by rw [flatAc_len, List.length_take]; omega
  rw [h1, ← h2, List.drop_left]
theorem eraseA_flat (d : List Ac) (k : Nat) : flatAc (d.take k) ++ flatAc (d.drop (k + 1)) = flatAc (d.eraseIdx k) := by
  unfold flatAc; rw [← List.flatMap_append, List.eraseIdx_eq_take_drop_succ]
/-- Cells that a slice reads as. -/
theorem rdN_news {w : World} {g o cap n : Nat} {xs : List Value} (hn : xs.length = n * 4) (h : RdN w (.slice (some ⟨g, o, none⟩) n cap) n xs) : ∀ w', Below w.heap.size w w' → ∀ q u, xs[q]? = some u → w'.cell? ((⟨g, o, none⟩ : Addr).add q) = some u := by
  intro w' hb q u hu
  obtain ⟨hq, rfl⟩ := List.getElem?_eq_some_iff.mp hu
  obtain ⟨a, c, hv, h⟩ := h
  have hadd : (⟨g, o, none⟩ : Addr).add q = ⟨g, o + q, none⟩ := by unfold Addr.add; split <;> simp_all
  rcases h with rfl | ⟨b, off, ha, hlt, hc⟩
  · omega
  · simp only [Value.slice.injEq] at hv
    obtain ⟨hv, _, _⟩ := hv
    rw [← hv] at ha
    obtain ⟨rfl, rfl⟩ : g = b ∧ o = off := by simpa using ha
    rw [hadd, hb.cell (p := ⟨g, o + q, none⟩) hlt, hc q hq]
/-- Cells behind an owned row's elements may be changed. -/
theorem owns_beyond {w : World} {B T c g n cap o : Nat} {xs : List Value} (z : Value) (h : w.ownsRow B T c (.slice (some ⟨g, 0, none⟩) n cap) n xs) (ho : n * c ≤ o) : (w.setCell ⟨g, o, none⟩ z).ownsRow B T c (.slice (some ⟨g, 0, none⟩) n cap) n xs := by
  refine ⟨h.1, ?_⟩
  rcases h.2 with h2 | ⟨g', cap', cur, hv, hg, hh, hn, hm, hs, ht⟩
  · exact .inl h2
  · simp only [Value.slice.injEq, Option.some.injEq, Addr.mk.injEq] at hv
    obtain ⟨⟨rfl, _⟩, _, rfl⟩ := hv
    refine .inr ⟨g, cap, _, rfl, hg, heap_setCell_same w g o _ _ z hh, hn, hm, by simpa using hs, ?_⟩
    rw [Array.toList_setIfInBounds, List.take_set_of_le ho, ht]
/-- An owned row's block, and a place in it. -/
theorem owns_place {w : World} {B T c g n cap : Nat} {xs : List Value} (h : w.ownsRow B T c (.slice (some ⟨g, 0, none⟩) n cap) n xs) (j : Nat) (hj : j < cap * c) : (w.cell? ⟨g, j, none⟩).isSome = true ∧ w.frozen? ⟨g, j, none⟩ = false := by
  rcases h.2 with ⟨h2, _⟩ | ⟨g', cap', cur, hv, hg, hh, hn, hm, hs, ht⟩
  · simp at h2
  · simp only [Value.slice.injEq, Option.some.injEq, Addr.mk.injEq] at hv
    obtain ⟨⟨rfl, _⟩, _, rfl⟩ := hv
    have := cells_of_heap hh j (by omega)
    exact ⟨by rw [this.1]; rfl, this.2⟩
theorem run_clear_one (P : Program) (w : World) (t e ty : TypeId) (z : Value) (vs : List Value) (ht : P.underlying t = some (.slice e)) (hv : ∀ w, (zeroValue e).run P w = .ok z w) (hz : (Builtin.zeroCells z.cells 1).toList = vs) (h1 : ∀ v ∈ vs, v.oneCell' = true) (b o c : Nat)
    (hc : ∀ j, j < vs.length → (w.cell? ⟨b, o + j, none⟩).isSome = true) (hf : ∀ j, j < vs.length → w.frozen? ⟨b, o + j, none⟩ = false) :
    (Builtin.clear_ #[t] ty #[.slice (some ⟨b, o, none⟩) 1 c]).run P w = .ok (.tuple #[]) (w.setCells b o vs) := by
  have hst := run_storeCells_cells (P := P) b o vs 0 w (by simpa using hc) (by simpa using hf) h1
  simp only [Nat.add_zero] at hst
  simp [Builtin.clear_, run_underlying ht, hv, hz, hst]
theorem step_append_in {P : Program} {w : World} {ops : Array Oper} {o : Oper} {a : Act} {K : Act → World → Prop} {Q : Exit → Act → World → Prop} {E : Prop} (hgd : o.guard = none) (s x : Operand) (t : TypeId)
    (ho : o.op = .call { callee := .builtin .append, args := #[s, x], argTypes := #[t, t] })
    (base : Nat) (e : TypeId) (i : TypeInfo) (size : Nat) (ht : P.underlying t = some (.slice e)) (hi : P.info? e = some i) (hsize : i.size = size)
    (g n cap : Nat) (xs : List Value) (hs : a.eval s = .slice (some ⟨g, 0, none⟩) n cap) (hown : w.ownsRow base e size (.slice (some ⟨g, 0, none⟩) n cap) n xs)
    (ad : Addr) (m c : Nat) (news : List Value) (hx : a.eval x = .slice (some ad) m c) (hl : news.length = m * size) (hnews : ∀ j u, news[j]? = some u → w.cell? (ad.add j) = some u) (h1 : ∀ u ∈ news, u.oneCell' = true)
    (hroom : n + m ≤ cap)
    (h : ∀ w', w'.ownsRow base e size (.slice (some ⟨g, 0, none⟩) (n + m) cap) (n + m) (xs ++ news) → w.grownBy w' (some g) → K (a.put o.dst (.slice (some ⟨g, 0, none⟩) (n + m) cap)) w') :
    if Region.wanted o (yielded ops a.tmps) = true then Oper.wp P o a w K Q else E := by
  have hw : Region.wanted o (yielded ops a.tmps) = true := by simp [Region.wanted, hgd]
  rw [if_pos hw]
  exact wp_append_own_spare w s x t ho base e i size ht hi hsize g n cap xs hs hown ad m c news hx hl hnews h1 hroom h

/-- nil, or in some block. -/
def NilOr (v : Value) (n : Nat) : Prop := v = .slice none 0 0 ∨ ∃ g o cap, v = .slice (some ⟨g, o, none⟩) n cap
theorem NilOr.of_owns {w : World} {B T c n : Nat} {v : Value} {xs : List Value} (h : w.ownsRow B T c v n xs) : NilOr v n := by
  rcases h.2 with ⟨rfl, _⟩ | ⟨g, cap, cur, rfl, _⟩
  · exact .inl rfl
  · exact .inr ⟨g, 0, cap, rfl⟩
theorem zeros4 : (Builtin.zeroCells (Value.agg #[.int .i64 0, .int .i64 0, .int .i64 0, .int .i64 0]).cells 1).toList = [.int .i64 0, .int .i64 0, .int .i64 0, .int .i64 0] := by simp [Builtin.zeroCells, Value.cells, Array.range, Array.ofFn, go_sem]; rfl
theorem one4 : ∀ u ∈ [Value.int IntKind.i64 0, .int .i64 0, .int .i64 0, .int .i64 0], u.oneCell' = true := by
  intro u hu
  rcases List.mem_cons.1 hu with rfl | hu
  · rfl
  · rcases List.mem_cons.1 hu with rfl | hu
    · rfl
    · rcases List.mem_cons.1 hu with rfl | hu
      · rfl
      · rw [List.mem_singleton.1 hu]; rfl
theorem zeroAc (v : World) : (zeroValue 47).run Try.prog v = .ok (.agg #[.int .i64 0, .int .i64 0, .int .i64 0, .int .i64 0]) v := by simp [go_sem]
theorem undStk : Try.prog.underlying 69 = some (.slice 47) := Try.underlying69

set_option maxRecDepth 100000 in
set_option maxHeartbeats 4000000 in
theorem cloneStack_any (v : Value) (l : List Ac) (w : World) (hl : l.length ≤ 1048576) (hv : NilOr v l.length) (h : RdN w v l.length (flatAc l)) :
    Calls Try.prog 54 #[v] w fun e w' => ∃ a c, e = .returned (.slice a l.length c) ∧ w'.ownsRow w.heap.size 47 4 (.slice a l.length c) l.length (flatAc l) ∧ Below w.heap.size w w' := by
  obtain ⟨i0, hi, hz0, hz1, hz2⟩ := info_parts info_ac
  rcases hv with rfl | ⟨g, o, cap, rfl⟩
  · have h0 : l.length = 0 := by
      obtain ⟨a, c, hv, _⟩ := h
      simp only [Value.slice.injEq] at hv
      exact hv.2.1.symm
    obtain rfl := List.eq_nil_of_length_eq_zero h0
    clear h hl h0 hi hz0 hz1 hz2
    have hnil : ∀ v, (Go.binOp .eql 69 (.slice none 0 0) (.slice none 0 0)).run Try.prog v = .ok (.bool true) v := fun v => Lib.run_eql_slice_nil v _ _ none 0 0 0 0 undStk
    go_enter Try.func54, Try.ntmps54
    go_wp2
    go_ret
    exact ⟨none, 0, rfl, ⟨rfl, .inl ⟨rfl, rfl⟩⟩, Below.refl _ _⟩
  · have HN := Lib.hid (rdN_news (flatAc_len l) h _ (below_alloc1 w (.cells #[] 47)))
    have HL := Lib.hid (flatAc_len l)
    have HLit := Lib.hid (World.ownsRow_lit (e := 47) (size := 4) w #[] 0 (Nat.le_refl _) (by simp [maxLen]) rfl)
    have HA := Lib.hid (below_alloc1 w (.cells #[] 47))
    obtain ⟨n, hn⟩ : ∃ n, n = l.length := ⟨_, rfl⟩
    rw [← hn] at hl HL ⊢
    have b63 : 0 + n ≤ maxLen := by unfold maxLen; omega
    have b47 : (0 + n) * 32 ≤ 140737488355328 := by omega
    clear h hn
    have hnil : ∀ v, (Go.binOp .eql 69 (.slice (some ⟨g, o, none⟩) n cap) (.slice none 0 0)).run Try.prog v = .ok (.bool false) v := fun v => Lib.run_eql_slice_nil v _ _ (some ⟨g, o, none⟩) n cap 0 0 undStk
    go_enter Try.func54, Try.ntmps54
    go_wp2_with (at_builtin; refine wpList_append_own _ rfl _ _ 69 rfl w.heap.size 47 i0 (.agg #[.int .i64 0, .int .i64 0, .int .i64 0, .int .i64 0]) 4 32 undStk hi hz0 hz1 hz2 rfl (by decide) _ _ _ rfl HLit.out ⟨g, o, none⟩ n cap (flatAc l) rfl HL.out HN.out (flatAc_one _) b63 b47 (by simp) ?_)
    intro v' w1 hown hgrow _
    try simp only [Nat.zero_add, List.nil_append] at hown
    obtain ⟨a1, c1, rfl⟩ := owns_shape hown
    have HB1 := Lib.hid (show Below w.heap.size w w1 from Below.grown HA.out hgrow (by simp) (fun q hq => by simp [Value.ownBlock] at hq; omega))
    have HO1 := Lib.hid hown
    clear hown hgrow b63 b47
    go_wp2
    go_ret
    exact ⟨a1, c1, rfl, HO1.out, HB1.out⟩

set_option maxRecDepth 100000 in
set_option maxHeartbeats 8000000 in
theorem delStack_any (B g cap : Nat) (l : List Ac) (i : Nat) (p q : Int) (w : World) (hp : p = i) (hq : q = (i : Int) + 1) (hi : i < l.length) (hl : l.length ≤ 1048576) (h : w.ownsRow B 47 4 (.slice (some ⟨g, 0, none⟩) l.length cap) l.length (flatAc l)) :
    Calls Try.prog 56 #[.slice (some ⟨g, 0, none⟩) l.length cap, .int .i64 p, .int .i64 q] w fun e w' => e = .returned (.slice (some ⟨g, 0, none⟩) (l.length - 1) cap) ∧
      w'.ownsRow B 47 4 (.slice (some ⟨g, 0, none⟩) (l.length - 1) cap) (l.length - 1) (flatAc (l.eraseIdx i)) ∧ w.grownBy w' (some g) := by
  subst hp hq
  obtain ⟨i0, hi0, hz0, hz1, hz2⟩ := info_parts info_ac
  have hcap : l.length ≤ cap ∧ cap ≤ maxLen := by
    rcases h.2 with ⟨e, _⟩ | ⟨g, cap', cur, e, _, _, h2, h3, _⟩
    · simp at e
    · simp only [Value.slice.injEq] at e
      obtain ⟨_, _, rfl⟩ := e
      exact ⟨h2, h3⟩
  have hO0 : w.ownsRow B 47 4 (.slice (some ⟨g, 0, none⟩) i cap) i (flatAc (l.take i)) := by
    refine ⟨by rw [flatAc_len, List.length_take]; omega, ?_⟩
    rcases h.2 with ⟨e, _⟩ | ⟨g, cap', cur, e, h1, h2, h3, h4, h5, h6⟩
    · simp at e
    · simp only [Value.slice.injEq, Option.some.injEq, Addr.mk.injEq] at e
      obtain ⟨⟨rfl, _⟩, _, rfl⟩ := e
      refine .inr ⟨_, cap, cur, rfl, h1, h2, by omega, h4, h5, ?_⟩
      rw [flatAc_take l i (by omega), ← h6, List.take_take, Nat.min_eq_left (by omega)]
  have hn2 := owned_news h ((i + 1) * 4) (flatAc (l.drop (i + 1))) (fun q u hq => by
    rw [flatAc_drop l (i + 1) (by omega), List.getElem?_drop] at hq; exact hq)
  have hl2 : (flatAc (l.drop (i + 1))).length = (l.length - (i + 1)) * 4 := by rw [flatAc_len, List.length_drop]
  obtain ⟨n, hnl⟩ : ∃ n, n = l.length := ⟨_, rfl⟩
  have HN2 := Lib.hid hn2
  have HL2 := Lib.hid hl2
  have HER := Lib.hid (eraseA_flat l i)
  have HO := Lib.hid hO0
  rw [← hnl] at HL2 hi hl hcap h ⊢
  obtain ⟨hc1, hc2⟩ := hcap
  unfold maxLen at hc2
  clear hn2 hl2 hnl h hO0
  obtain ⟨m, hm⟩ : ∃ m, m = n - (i + 1) := ⟨_, rfl⟩
  rw [← hm] at HL2
  have hm1 : n - (i + 1) = m := hm.symm
  have hm2 : n - (i + m) = 1 := by omega
  have hroom : i + m ≤ cap := by omega
  have hlast : (i + m) * 4 + 4 ≤ cap * 4 := by omega
  have HNM := Lib.hid (show i + m = n - 1 by omega)
  have HROOM := Lib.hid hroom
  have HLAST := Lib.hid hlast
  have hkk : (i : Int) + 1 ≤ (n : Int) := by omega
  have hkc : (i : Int) ≤ (cap : Int) := by omega
  have hkn2 : (i : Int) ≤ (n : Int) := by omega
  have hkc3 : (n : Int) ≤ (cap : Int) := by omega
  have hkc2 : (i : Int) ≤ (i : Int) + 1 := by omega
  have hk02 : (0 : Int) ≤ (i : Int) + 1 := by omega
  have hne : ¬ (i : Int) = (i : Int) + 1 := by omega
  have him1 : (i : Int) + (m : Int) ≤ (n : Int) := by omega
  have him0 : (0 : Int) ≤ (i : Int) + (m : Int) := by omega
  have HB := Lib.hid (Below.refl w.heap.size w)
  clear hm hlast hroom
  go_enter Try.func56, Try.ntmps56
  go_upto_region 5 with (fail)
  by_cases hcl : cap = i + 1
  · subst hcl
    obtain rfl : m = 0 := by omega
    obtain rfl : n = i + 1 := by omega
    have hii : ¬ i + 1 = i := by omega
    have hsub : i + 1 - i = 1 := by omega
    have HN3 := Lib.hid (show ∀ w', Below w.heap.size w w' → ∀ q u, (flatAc (l.drop (i + 1)))[q]? = some u → w'.cell? ((⟨g, 0, none⟩ : Addr).add q) = some u from fun _ _ q u hq => by have h0 := (List.getElem?_eq_some_iff.mp hq).1; rw [HL2.out] at h0; omega)
    go_region_law ((refine step_append_in (by rfl) (.tmp 22) (.tmp 25) 69 (by rfl) B 47 i0 4 undStk hi0 hz1 g i (i + 1) (flatAc (l.take i)) (by rfl) (owns_below HO.out (by first | exact (Below.refl _ _) | exact (Below.refl _ _).drew | exact (Below.refl _ _).drew.drew)) ⟨g, 0, none⟩ 0 _ (flatAc (l.drop (i + 1))) (by rfl) HL2.out (HN3.out _ (by first | exact HB.out | exact HB.out.drew | exact HB.out.drew.drew)) (flatAc_one _) HROOM.out ?_; intro w1 hown1 hgrow1; have hg1 : w.grownBy w1 (some g) := (by first | exact hgrow1 | exact grown_trans (grown_drewN w 1 _) hgrow1); rw [HER.out] at hown1; have HO1 := Lib.hid hown1; have HG1 := Lib.hid hg1; clear hown1 hgrow1 hg1))
    all_goals
      have hcl1 : ∀ ty c, (Builtin.clear_ #[69] ty #[.slice (some ⟨g, i * 4, none⟩) 1 c]).run Try.prog w1 = .ok (.tuple #[]) (w1.setCells g (i * 4) [.int .i64 0, .int .i64 0, .int .i64 0, .int .i64 0]) := fun ty c => run_clear_one _ w1 _ _ ty _ [.int .i64 0, .int .i64 0, .int .i64 0, .int .i64 0] undStk zeroAc zeros4 one4 g (i * 4) _ (fun j hj => (owns_place HO1.out _ (by simp at hj; have := HLAST.out; omega)).1) (fun j hj => (owns_place HO1.out _ (by simp at hj; have := HLAST.out; omega)).2)
      have hcl2 : ∀ ty c, (Builtin.clear_ #[69] ty #[.slice (some ⟨g, i * 4, none⟩) 1 c]).run Try.prog w1.drew = .ok (.tuple #[]) (w1.drew.setCells g (i * 4) [.int .i64 0, .int .i64 0, .int .i64 0, .int .i64 0]) := fun ty c => run_clear_one _ w1.drew _ _ ty _ [.int .i64 0, .int .i64 0, .int .i64 0, .int .i64 0] undStk zeroAc zeros4 one4 g (i * 4) _ (fun j hj => (owns_place (owns_below HO1.out (Below.refl _ _).drew) _ (by simp at hj; have := HLAST.out; omega)).1) (fun j hj => (owns_place (owns_below HO1.out (Below.refl _ _).drew) _ (by simp at hj; have := HLAST.out; omega)).2)
      go_wp2
      go_ret
      rw [← HNM.out]
      first
        | exact ⟨rfl, owns_beyond _ (owns_beyond _ (owns_beyond _ (owns_beyond _ HO1.out (by omega)) (by omega)) (by omega)) (by omega), grown_trans (grown_trans (grown_trans (grown_trans HG1.out (grown_set _ _ _ _)) (grown_set _ _ _ _)) (grown_set _ _ _ _)) (grown_set _ _ _ _)⟩
        | exact ⟨rfl, owns_beyond _ (owns_beyond _ (owns_beyond _ (owns_beyond _ (owns_below HO1.out (Below.refl _ _).drew) (by omega)) (by omega)) (by omega)) (by omega), grown_trans (grown_trans (grown_trans (grown_trans (grown_trans HG1.out (grown_drewN w1 1 _)) (grown_set _ _ _ _)) (grown_set _ _ _ _)) (grown_set _ _ _ _)) (grown_set _ _ _ _)⟩
  · go_region_law ((refine step_append_in (by rfl) (.tmp 22) (.tmp 25) 69 (by rfl) B 47 i0 4 undStk hi0 hz1 g i cap (flatAc (l.take i)) (by rfl) (owns_below HO.out (by first | exact (Below.refl _ _) | exact (Below.refl _ _).drew | exact (Below.refl _ _).drew.drew)) ⟨g, (i + 1) * 4, none⟩ m _ (flatAc (l.drop (i + 1))) (by rfl) HL2.out (HN2.out _ (by first | exact HB.out | exact HB.out.drew | exact HB.out.drew.drew)) (flatAc_one _) HROOM.out ?_; intro w1 hown1 hgrow1; have hg1 : w.grownBy w1 (some g) := (by first | exact hgrow1 | exact grown_trans (grown_drewN w 1 _) hgrow1); rw [HER.out] at hown1; have HO1 := Lib.hid hown1; have HG1 := Lib.hid hg1; clear hown1 hgrow1 hg1))
    all_goals
      have hcl1 : ∀ ty c, (Builtin.clear_ #[69] ty #[.slice (some ⟨g, (i + m) * 4, none⟩) 1 c]).run Try.prog w1 = .ok (.tuple #[]) (w1.setCells g ((i + m) * 4) [.int .i64 0, .int .i64 0, .int .i64 0, .int .i64 0]) := fun ty c => run_clear_one _ w1 _ _ ty _ [.int .i64 0, .int .i64 0, .int .i64 0, .int .i64 0] undStk zeroAc zeros4 one4 g ((i + m) * 4) _ (fun j hj => (owns_place HO1.out _ (by simp at hj; have := HLAST.out; omega)).1) (fun j hj => (owns_place HO1.out _ (by simp at hj; have := HLAST.out; omega)).2)
      have hcl2 : ∀ ty c, (Builtin.clear_ #[69] ty #[.slice (some ⟨g, (i + m) * 4, none⟩) 1 c]).run Try.prog w1.drew = .ok (.tuple #[]) (w1.drew.setCells g ((i + m) * 4) [.int .i64 0, .int .i64 0, .int .i64 0, .int .i64 0]) := fun ty c => run_clear_one _ w1.drew _ _ ty _ [.int .i64 0, .int .i64 0, .int .i64 0, .int .i64 0] undStk zeroAc zeros4 one4 g ((i + m) * 4) _ (fun j hj => (owns_place (owns_below HO1.out (Below.refl _ _).drew) _ (by simp at hj; have := HLAST.out; omega)).1) (fun j hj => (owns_place (owns_below HO1.out (Below.refl _ _).drew) _ (by simp at hj; have := HLAST.out; omega)).2)
      go_wp2
      go_ret
      rw [← HNM.out]
      first
        | exact ⟨rfl, owns_beyond _ (owns_beyond _ (owns_beyond _ (owns_beyond _ HO1.out (by omega)) (by omega)) (by omega)) (by omega), grown_trans (grown_trans (grown_trans (grown_trans HG1.out (grown_set _ _ _ _)) (grown_set _ _ _ _)) (grown_set _ _ _ _)) (grown_set _ _ _ _)⟩
        | exact ⟨rfl, owns_beyond _ (owns_beyond _ (owns_beyond _ (owns_beyond _ (owns_below HO1.out (Below.refl _ _).drew) (by omega)) (by omega)) (by omega)) (by omega), grown_trans (grown_trans (grown_trans (grown_trans (grown_trans HG1.out (grown_drewN w1 1 _)) (grown_set _ _ _ _)) (grown_set _ _ _ _)) (grown_set _ _ _ _)) (grown_set _ _ _ _)⟩

end Go.Proofs.Ytnfnhbldphiohaa
