/- DERIVED. The reference's l7Copy: a report with a row of its own. No condition. · The reference's l9Copy: a copy of an engine, in memory of its own. Called with a valid keymap, at most 4 macros, at most 1048576 steps and held keys. -/
import Derived.Test.YtjfckchoklepbaaGreatEnWord
import Derived.Test.YtjfckchoklepbaaGreatRpSpec5
import Derived.Test.YtjfckchoklepbaaGreatMcRep
import Derived.Deep.AppendLies
import Derived.BigRegion
import Derived.StillTailTactics
import Derived.Test.YtjfckchoklepbaaGreatEnFn
import Derived.Test.YtjfckchoklepbaaGreatKmSpec5
import Derived.Deep.RegionLaw
namespace Go.Proofs.YtjfckchoklepbaaGreat
open Go.RowKit

/-- What is appended is read, be it nil, empty or a row. -/
theorem run_append_rd {P : Program} (w : World) (base : Nat) (t ty e : TypeId) (i : TypeInfo) (z : Value) (size bytes : Nat) (ht : P.underlying t = some (.slice e)) (hi : P.info? e = some i) (hz : i.zero = some z)
    (hsize : i.size = size) (hby : i.bytes = bytes) (hzs : z.cells.size = size) (hsz : 0 < size)
    (v : Value) (n : Nat) (xs : List Value) (hown : w.ownsRow base e size v n xs) (u : Value) (m : Nat) (news : List Value) (hr : RdN w u m news) (hl : news.length = m * size) (h1 : ∀ u ∈ news, u.oneCell' = true)
    (h63 : n + m ≤ maxLen) (hbytes : (n + m) * bytes ≤ 140737488355328) (hbase : base ≤ w.heap.size) :
    ∃ v' w', (Builtin.append_ #[t, t] ty #[v, u]).run P w = .ok v' w' ∧ w'.ownsRow base e size v' (n + m) (xs ++ news) ∧ w.grownBy w' v.ownBlock := by
  rcases hr.cases with ⟨rfl, a, cap, rfl⟩ | ⟨hm, b, off, cap, rfl, hlt, hc⟩
  · obtain rfl : news = [] := List.eq_nil_of_length_eq_zero (by simpa using hl)
    rw [List.append_nil]
    refine ⟨v, w, ?_, by simpa using hown, World.grownBy.refl _ _⟩
    rcases hown.2 with ⟨rfl, rfl⟩ | ⟨g, cap, cur, rfl, _, _, hnc, _⟩
    · rcases a with _ | a <;> simp [Builtin.append_, run_underlying ht, sizeOf, typeInfo, hi, Builtin.lenOf, Builtin.firstCells, loadCells, loadCellsFrom]
    · rcases a with _ | a <;> simp [Builtin.append_, run_underlying ht, sizeOf, typeInfo, hi, Builtin.lenOf, Builtin.firstCells, hnc, storeCells, loadCells, loadCellsFrom]
  · obtain ⟨v', w', h2, h3, h4, -⟩ := run_append_own (P := P) w base t ty e i z size bytes ht hi hz hsize hby hzs hsz v n xs hown ⟨b, off, none⟩ m cap news hl (fun j u hu => by
      have hj := (List.getElem?_eq_some_iff.mp hu).1
      have hadd : (⟨b, off, none⟩ : Addr).add j = ⟨b, off + j, none⟩ := by unfold Addr.add; split <;> simp_all
      rw [hadd, hc j hj]; exact (List.getElem?_eq_getElem hj ▸ hu)) h1 h63 hbytes hbase
    exact ⟨v', w', h2, h3, h4⟩
theorem step_append_rd {P : Program} {w : World} {ops : Array Oper} {o : Oper} {a : Act} {K : Act → World → Prop} {Q : Exit → Act → World → Prop} {E : Prop} (hgd : o.guard = none) (s x : Operand) (t : TypeId)
    (ho : o.op = .call { callee := .builtin .append, args := #[s, x], argTypes := #[t, t] })
    (base : Nat) (e : TypeId) (i : TypeInfo) (z : Value) (size bytes : Nat) (ht : P.underlying t = some (.slice e)) (hi : P.info? e = some i) (hz : i.zero = some z)
    (hsize : i.size = size) (hby : i.bytes = bytes) (hzs : z.cells.size = size) (hsz : 0 < size)
    (v : Value) (n : Nat) (xs : List Value) (hs : a.eval s = v) (hown : w.ownsRow base e size v n xs) (u : Value) (m : Nat) (news : List Value) (hx : a.eval x = u) (hr : RdN w u m news) (hl : news.length = m * size) (h1 : ∀ u ∈ news, u.oneCell' = true)
    (h63 : n + m ≤ maxLen) (hbytes : (n + m) * bytes ≤ 140737488355328) (hbase : base ≤ w.heap.size)
    (h : ∀ v' w', w'.ownsRow base e size v' (n + m) (xs ++ news) → w.grownBy w' v.ownBlock → K (a.put o.dst v') w') :
    if Region.wanted o (yielded ops a.tmps) = true then Oper.wp P o a w K Q else E := by
  have hw : Region.wanted o (yielded ops a.tmps) = true := by simp [Region.wanted, hgd]
  rw [if_pos hw]
  obtain ⟨v', w', hr', h2, h3⟩ := run_append_rd (P := P) w base t o.type e i z size bytes ht hi hz hsize hby hzs hsz v n xs hown u m news hr hl h1 h63 hbytes hbase
  unfold Oper.wp execOp
  simp only [ho, resolve, invoke, builtin, Sem.run_bind, Sem.run_pure, Result.andThen_ok, List.map_toArray, List.map_cons, List.map_nil, hs, hx, hr']
  exact h v' w' h2 h3

theorem rdN_ints {w : World} {a : Option Addr} {c : Nat} {z : List Int} (h : Rd w (.slice a z.length c) (z.map (.int .i64))) : RdN w (.slice a z.length c) z.length (z.map (.int .i64)) := by
  obtain ⟨a', c', e', hh⟩ := h
  have e1 : a = a' := by injection e'
  rw [← e1] at hh
  refine ⟨a, c, rfl, ?_⟩
  rcases hh with hh | hh
  · exact .inl (by have := congrArg List.length hh; simpa using this)
  · exact .inr hh
set_option maxRecDepth 100000 in
set_option maxHeartbeats 8000000 in
theorem specL7Copy_any (r : Int) (ua : Option Addr) (uc : Nat) (z : List Int) (w : World) (hl : z.length ≤ 1048576) (h : Rd w (.slice ua z.length uc) (z.map (.int .i64))) :
    Calls Tryz.prog 179 #[rpv r (.slice ua z.length uc)] w (RpV r z w) := by
  obtain ⟨i0, hi, hz0, hz1, hz2⟩ := info_parts info_int
  obtain ⟨n, hn⟩ : ∃ n, n = z.length := ⟨_, rfl⟩
  have hr : RdN w (.slice ua n uc) n (z.map (.int .i64)) := by rw [hn]; exact rdN_ints h
  rw [← hn]
  obtain ⟨V, hV⟩ : ∃ V, V = (w.alloc (.cells #[.int .i64 r, .slice ua n uc] 47)).alloc (.cells #[.int .i64 0, .slice none 0 0] 47) := ⟨_, rfl⟩
  have hbV : Below w.heap.size w V := by rw [hV]; exact ((Below.refl _ _).alloc (Nat.le_refl _) _).alloc (by simp) _
  obtain ⟨g, hg⟩ : ∃ x, x = w.heap.size := ⟨_, rfl⟩
  have hA : V.heap[g]? = some (.cells #[.int .i64 r, .slice ua n uc] 47 (0, 0)) := by
    rw [hV, hg, heap_alloc_old _ _ (by simp)]; exact heap_alloc_new w _
  have hR : V.heap[g + 1]? = some (.cells #[.int .i64 0, .slice none 0 0] 47 (0, 0)) := by
    rw [hV, hg]; simpa using heap_alloc_new (w.alloc (.cells #[.int .i64 r, .slice ua n uc] 47)) (.cells #[.int .i64 0, .slice none 0 0] 47)
  have hS : V.heap.size = g + 2 := by rw [hV, hg]; simp
  rw [← hg] at hbV
  have HV := Lib.hid hV
  have HG := Lib.hid hg
  have HBV := Lib.hid hbV
  have HA := Lib.hid hA
  have HR := Lib.hid hR
  have HS := Lib.hid hS
  have HN := Lib.hid hn
  have HRd := Lib.hid hr
  have hl' : n ≤ 1048576 := by rw [hn]; exact hl
  clear hV hbV hA hR hS h hn hr hl
  go_enter Tryz.func179, Tryz.ntmps179
  go_upto_region 1 with (fail)
  rw [← HV.out, ← HG.out]
  obtain ⟨a0, -⟩ := cells_of_heap HA.out 0 (by simp)
  obtain ⟨a1, -⟩ := cells_of_heap HA.out 1 (by simp)
  obtain ⟨r0, p0⟩ := cells_of_heap HR.out 0 (by simp)
  obtain ⟨r1, p1⟩ := cells_of_heap HR.out 1 (by simp)
  simp only [List.getElem_toArray, List.getElem_cons_zero, List.getElem_cons_succ] at a0 a1 r0 r1
  have hbA : Below V.heap.size V (V.alloc (.cells #[] 3)) := below_alloc1 _ _
  have hgv : g + 1 < V.heap.size := by rw [HS.out]; omega
  have A0 := (hbA.cell (p := ⟨g, 0, none⟩) (show g < V.heap.size by omega)).trans a0
  have A1 := (hbA.cell (p := ⟨g, 1, none⟩) (show g < V.heap.size by omega)).trans a1
  have HLen : Hid ((z.map (Value.int .i64)).length = n * 1) := Lib.hid (by rw [List.length_map, ← HN.out, Nat.mul_one])
  have HRV := Lib.hid (HRd.out.below (by rw [← HG.out]; exact HBV.out))
  have b63 : 0 + n ≤ maxLen := by unfold maxLen; omega
  have b47 : (0 + n) * 8 ≤ 140737488355328 := by omega
  clear hbA hg
  go_region_law (first
    | (refine step_append_rd (by rfl) (.tmp 5) (.tmp 7) 45 (by rfl) V.heap.size 3 i0 (.int .i64 0) 1 8 Tryz.underlying45 hi hz0 hz1 hz2 rfl (by decide) (.slice (some ⟨V.heap.size, 0, none⟩) 0 0) 0 [] (by rfl) (World.ownsRow_lit (e := 3) (size := 1) V.drew #[] 0 (by simp) (by simp [maxLen]) rfl) (.slice ua n uc) n (z.map (.int .i64)) (by rfl) (HRV.out.below ((Below.refl V.heap.size V).drew.alloc (by simp) _)) HLen.out (fun u hu => by obtain ⟨x, -, rfl⟩ := List.mem_map.1 hu; rfl) b63 b47 (by simp) ?_; intro v1 w2 hown1 hgrow1; obtain ⟨x1, c1, rfl⟩ := owns_shape hown1; have hb2 : Below V.heap.size V w2 := ((Below.refl V.heap.size V).drew.alloc (by simp) _).grown hgrow1 (by simp) (fun q hq => by simp [Value.ownBlock] at hq; omega); have HO1 := Lib.hid hown1; have HB2 := Lib.hid hb2; have HR2 := Lib.hid ((hb2.block (g + 1) hgv).trans HR.out); have A02 := (hb2.cell (p := ⟨g, 0, none⟩) (show g < V.heap.size by omega)).trans a0; obtain ⟨r02, p02⟩ := cells_of_heap HR2.out 0 (by simp); obtain ⟨r12, p12⟩ := cells_of_heap HR2.out 1 (by simp); clear hown1 hgrow1 hb2))
  all_goals
    rw [Nat.zero_add, List.nil_append] at HO1
    have hgw : g ≤ V.heap.size := by omega
    have HBF := Lib.hid (HBV.out.trans (HB2.out.mono hgw))
    clear a0 a1 r0 p0 r1 p1 A0 A1 A02 r02 p02 r12 p12
    obtain ⟨wf, hwf⟩ : ∃ x, x = putW w2 (g + 1) 0 [.int .i64 r, .slice x1 n c1] := ⟨_, rfl⟩
    have kf := putW_all [.int .i64 r, .slice x1 n c1] HR2.out rfl
    have bf := putW_below (b := g + 1) (by omega) [.int .i64 r, .slice x1 n c1] 0 _ HBF.out
    have of := putW_own (b := g + 1) hgv [.int .i64 r, .slice x1 n c1] 0 w2 HO1.out
    rw [← hwf] at kf bf of
    have cf := hwf.symm
    simp only [putW, Nat.reduceAdd] at cf
    go_wp2
    rw [cf]
    clear cf hwf
    have f0 := (cells_of_heap kf 0 (by simp)).1
    have f1 := (cells_of_heap kf 1 (by simp)).1
    simp only [List.getElem_toArray, List.getElem_cons_zero, List.getElem_cons_succ] at f0 f1
    refine bodyPost_ret (v := rpv r (.slice x1 n c1)) (by simp [results, Tryz.results179, go_sem, f0, f1, rpv]) rfl ⟨_, rfl, by rw [← HN.out]; exact owns_base of (by rw [← HG.out]; exact hgw), by rw [← HG.out]; exact bf⟩
end Go.Proofs.YtjfckchoklepbaaGreat

namespace Go.Proofs.YtjfckchoklepbaaGreat
open Go.RowKit

/-- Worlds on the way of a copy: the engine's box, the result's box (still empty) and the copy's box, at g, g + 1, g + 1 + 1. -/
structure CpW (w W : World) (g : Nat) (ce co : Array Value) : Prop where
  hx : W.heap[g]? = some (.cells ce 30 (0, 0))
  hr : W.heap[g + 1]? = some (.cells #[.int .i64 0, .slice none 0 0, .slice none 0 0, .int .i64 0, .slice none 0 0, .int .i64 0, .bool false] 30 (0, 0))
  ho : W.heap[g + 1 + 1]? = some (.cells co 30 (0, 0))
  hb : Below w.heap.size w W
  hg : g = w.heap.size
theorem CpW.lt {w W : World} {g : Nat} {ce co : Array Value} (h : CpW w W g ce co) : g + 1 + 1 < W.heap.size := (Array.getElem?_eq_some_iff.mp h.ho).1
theorem CpW.below {w W W' : World} {g : Nat} {ce co : Array Value} (h : CpW w W g ce co) (hb : Below W.heap.size W W') : CpW w W' g ce co :=
  ⟨blk_below h.hx hb, blk_below h.hr hb, blk_below h.ho hb, h.hb.trans (hb.mono h.hb.size), h.hg⟩
theorem CpW.grown {w W W' : World} {g : Nat} {ce co : Array Value} {r : Option Nat} (h : CpW w W g ce co) (hg : W.grownBy W' r) (hr : ∀ q, r = some q → g + 1 + 1 < q) : CpW w W' g ce co :=
  have e := h.hg
  have hl := h.lt
  ⟨(hg.block g (by omega) (fun e => by have := hr g e.symm; omega)).trans h.hx, (hg.block (g + 1) (by omega) (fun e => by have := hr (g + 1) e.symm; omega)).trans h.hr, (hg.block (g + 1 + 1) (by omega) (fun e => by have := hr (g + 1 + 1) e.symm; omega)).trans h.ho,
    h.hb.grown hg h.hb.size (fun q hq => by have := hr q hq; omega), h.hg⟩
theorem CpW.set {w W : World} {g : Nat} {ce co : Array Value} (h : CpW w W g ce co) (i : Nat) (v : Value) : CpW w (W.setCell ⟨g + 1 + 1, i, none⟩ v) g ce (co.setIfInBounds i v) :=
  ⟨(Below.heap_setCell W ⟨g + 1 + 1, i, none⟩ v g (show g ≠ g + 1 + 1 by omega)).trans h.hx, (Below.heap_setCell W ⟨g + 1 + 1, i, none⟩ v (g + 1) (show g + 1 ≠ g + 1 + 1 by omega)).trans h.hr, heap_setCell_same W (g + 1 + 1) i co _ v h.ho, h.hb.setCell (show w.heap.size ≤ g + 1 + 1 by have := h.hg; omega) v, h.hg⟩
theorem Turn.grownBy {U W W' : World} {f : List Nat} {r : Option Nat} (h : Turn U W f) (hg : W.grownBy W' r) (hr : ∀ q, r = some q → U.heap.size ≤ q) : Turn U W' f :=
  ⟨hg.os.trans h.os, hg.tape.trans h.tape, hg.output.trans h.output, Nat.le_trans h.size hg.size, fun k hk hn => (hg.block k (Nat.lt_of_lt_of_le hk h.size) (fun e => by have := hr k e.symm; omega)).trans (h.block k hk hn)⟩
theorem Turn.setCell {U W : World} {b : Nat} (h : Turn U W [b]) (i : Nat) (v : Value) : Turn U (W.setCell ⟨b, i, none⟩ v) [b] := h.trans (Turn.of_grown (grown_set W b i v))
theorem wpList_append_rd {P : Program} {w : World} {ops : Array Oper} {rest : List Oper} {o : Oper} {a : Act} {Q : Exit → Act → World → Prop} (hgd : o.guard = none) (s x : Operand) (t : TypeId)
    (ho : o.op = .call { callee := .builtin .append, args := #[s, x], argTypes := #[t, t] })
    (base : Nat) (e : TypeId) (i : TypeInfo) (z : Value) (size bytes : Nat) (ht : P.underlying t = some (.slice e)) (hi : P.info? e = some i) (hz : i.zero = some z)
    (hsize : i.size = size) (hby : i.bytes = bytes) (hzs : z.cells.size = size) (hsz : 0 < size)
    (v : Value) (n : Nat) (xs : List Value) (hs : a.eval s = v) (hown : w.ownsRow base e size v n xs) (u : Value) (m : Nat) (news : List Value) (hx : a.eval x = u) (hr : RdN w u m news) (hl : news.length = m * size) (h1 : ∀ u ∈ news, u.oneCell' = true)
    (h63 : n + m ≤ maxLen) (hbytes : (n + m) * bytes ≤ 140737488355328) (hbase : base ≤ w.heap.size)
    (h : ∀ v' w', w'.ownsRow base e size v' (n + m) (xs ++ news) → w.grownBy w' v.ownBlock → wpList P ops Q rest (a.put o.dst v') w') : wpList P ops Q (o :: rest) a w :=
  wpList_plain hgd fun _ hK => by
    obtain ⟨v', w', hr', h2, h3⟩ := run_append_rd (P := P) w base t o.type e i z size bytes ht hi hz hsize hby hzs hsz v n xs hown u m news hr hl h1 h63 hbytes hbase
    unfold Oper.wp execOp
    simp only [ho, resolve, invoke, builtin, Sem.run_bind, Sem.run_pure, Result.andThen_ok, List.map_toArray, List.map_cons, List.map_nil, hs, hx, hr']
    exact hK _ _ (h v' w' h2 h3)
theorem own_sing {b : Nat} {x : Nat} {f : List Nat} (hf : ∀ y ∈ f, b < y) (hx : x ∈ f) : x ∉ [b] := fun hm => by
  rw [List.mem_singleton] at hm
  have := hf x hx
  omega

set_option maxRecDepth 100000 in
set_option maxHeartbeats 16000000 in
theorem specL9Copy_any (e : En) (u1 u2 u3 : Value) (w : World) (ho : okKm e.k e.L = true) (hF : e.F.length ≤ 4) (hFr : ∀ l ∈ e.F, l.length ≤ 1048576) (hH : e.H.length ≤ 1048576) (h : RdE w e u1 u2 u3) :
    Calls Tryz.prog 100 #[env e.k u1 u2 e.x u3 e.o e.p] w (EnO e w) := by
  obtain ⟨i0, hi, hz0, hz1, hz2⟩ := info_parts info_st
  obtain ⟨i1, hI1, hy0, hy1, hy2⟩ := info_parts info_sts
  obtain ⟨i2, hI2, hx0, hx1, hx2⟩ := info_parts info_hd
  obtain ⟨h1, h2, h3⟩ := h
  obtain ⟨k, L, F, fx, H, o, p⟩ := e
  simp only at ho hF hFr hH h1 h2 h3 ⊢
  obtain ⟨a1, c1, rfl⟩ := RdS.shape h1
  obtain ⟨a2, c2, rfl⟩ := RdSt.shape h2
  obtain ⟨a3, c3, rfl⟩ := RdN.shape h3
  obtain ⟨nL, hnL⟩ : ∃ n, n = L.length := ⟨_, rfl⟩
  obtain ⟨nF, hnF⟩ : ∃ n, n = F.length := ⟨_, rfl⟩
  obtain ⟨nH, hnH⟩ : ∃ n, n = H.length := ⟨_, rfl⟩
  obtain ⟨g, hg⟩ : ∃ g, g = w.heap.size := ⟨_, rfl⟩
  obtain ⟨U, hU⟩ : ∃ U, U = ((w.alloc (.cells #[.int .i64 k, .slice a1 nL c1, .slice a2 nF c2, .int .i64 fx, .slice a3 nH c3, .int .i64 o, .bool p] 30)).alloc (.cells #[.int .i64 0, .slice none 0 0, .slice none 0 0, .int .i64 0, .slice none 0 0, .int .i64 0, .bool false] 30)).alloc (.cells #[.int .i64 k, .slice a1 nL c1, .slice a2 nF c2, .int .i64 fx, .slice a3 nH c3, .int .i64 o, .bool p] 30) := ⟨_, rfl⟩
  have k0 : CpW w U g #[.int .i64 k, .slice a1 nL c1, .slice a2 nF c2, .int .i64 fx, .slice a3 nH c3, .int .i64 o, .bool p] #[.int .i64 k, .slice a1 nL c1, .slice a2 nF c2, .int .i64 fx, .slice a3 nH c3, .int .i64 o, .bool p] := by
    rw [hU, hg]
    refine ⟨?_, ?_, ?_, ?_, rfl⟩
    · rw [Below.heap_alloc _ _ _ (by simp; omega), Below.heap_alloc _ _ _ (by simp)]; exact heap_alloc_new w _
    · rw [Below.heap_alloc _ _ _ (by simp)]; simpa using heap_alloc_new (w.alloc (.cells #[.int .i64 k, .slice a1 nL c1, .slice a2 nF c2, .int .i64 fx, .slice a3 nH c3, .int .i64 o, .bool p] 30)) _
    · simpa using heap_alloc_new ((w.alloc (.cells #[.int .i64 k, .slice a1 nL c1, .slice a2 nF c2, .int .i64 fx, .slice a3 nH c3, .int .i64 o, .bool p] 30)).alloc (.cells #[.int .i64 0, .slice none 0 0, .slice none 0 0, .int .i64 0, .slice none 0 0, .int .i64 0, .bool false] 30)) _
    · exact (((Below.refl _ _).alloc (Nat.le_refl _) _).alloc (by simp) _).alloc (by simp; omega) _
  have HU := Lib.hid hU
  have HG := Lib.hid hg
  have K0 := Lib.hid k0
  have HNL := Lib.hid hnL
  have HNF := Lib.hid hnF
  have HNH := Lib.hid hnH
  have HO := Lib.hid ho
  have HFr := Lib.hid hFr
  have H1 := Lib.hid h1
  have H2 := Lib.hid h2
  have H3 := Lib.hid h3
  rw [← hnF] at hF
  rw [← hnH] at hH
  rw [← hnL, ← hnF, ← hnH]
  clear hU hg k0 hnL hnF hnH ho hFr h1 h2 h3
  go_enter Tryz.func100, Tryz.ntmps100
  go_upto_region 2 with (fail)
  rw [← HU.out, ← HG.out]
  obtain ⟨x0, -⟩ := cells_of_heap K0.out.hx 0 (by simp)
  obtain ⟨x1, -⟩ := cells_of_heap K0.out.hx 1 (by simp)
  simp only [List.getElem_toArray, List.getElem_cons_zero, List.getElem_cons_succ] at x0 x1
  go_wp2_with fail
  refine (specCopy_any k _ L _ HO.out (by rw [HNL.out]; exact H1.out.below K0.out.hb)).mono ?_
  rw [← HNL.out]
  rintro r w1 ⟨b1, d1, fL, rfl, hL, hb⟩
  have K1 := Lib.hid (K0.out.below hb)
  have HL1 := Lib.hid hL
  have HSU := Lib.hid K0.out.lt
  have HSW := Lib.hid hb.size
  clear hL hb x0 x1 K0 HU
  obtain ⟨o0, p0⟩ := cells_of_heap K1.out.ho 0 (by simp)
  obtain ⟨o1, p1⟩ := cells_of_heap K1.out.ho 1 (by simp)
  go_upto_region 3 with (fail)
  obtain ⟨W2, hW2⟩ : ∃ W, W = (w1.setCell ⟨g + 1 + 1, 0, none⟩ (.int .i64 k)).setCell ⟨g + 1 + 1, 1, none⟩ (.slice b1 nL d1) := ⟨_, rfl⟩
  rw [← hW2]
  have k2 : CpW w W2 g #[.int .i64 k, .slice a1 nL c1, .slice a2 nF c2, .int .i64 fx, .slice a3 nH c3, .int .i64 o, .bool p] #[.int .i64 k, .slice b1 nL d1, .slice a2 nF c2, .int .i64 fx, .slice a3 nH c3, .int .i64 o, .bool p] := by rw [hW2]; exact (K1.out.set 0 _).set 1 _
  have hL2 : LoS W2 U.heap.size (.slice b1 nL d1) L fL := HL1.out.turn (show Turn w1 W2 [g + 1 + 1] by rw [hW2]; exact ((Turn.refl _ _).setCell 0 _).setCell 1 _) (fun b hb => own_sing (fun y hy => Nat.lt_of_lt_of_le HSU.out (HL1.out.rng y hy).1) hb)
  have K2 := Lib.hid k2
  have HL2 := Lib.hid hL2
  have HSU2 := Lib.hid (show U.heap.size ≤ W2.heap.size from by have := K1.out.hb; rw [hW2]; simp; exact HSW.out)
  clear hW2 k2 hL2 K1 HL1 o0 p0 o1 p1
  have k3 := K2.out.below (below_alloc1 W2 (.cells #[] 78))
  obtain ⟨o2, p2⟩ := cells_of_heap k3.ho 2 (by simp)
  simp only [List.getElem_toArray, List.getElem_cons_zero, List.getElem_cons_succ] at o2
  go_upto_region 4 with (fail)
  obtain ⟨W3, hW3⟩ : ∃ W, W = (W2.alloc (.cells #[] 78)).setCell ⟨g + 1 + 1, 2, none⟩ (.slice (some ⟨W2.heap.size, 0, none⟩) 0 0) := ⟨_, rfl⟩
  rw [← hW3]
  obtain ⟨S, hS⟩ : ∃ S, S = W2.heap.size := ⟨_, rfl⟩
  have k4 : CpW w W3 g #[.int .i64 k, .slice a1 nL c1, .slice a2 nF c2, .int .i64 fx, .slice a3 nH c3, .int .i64 o, .bool p] #[.int .i64 k, .slice b1 nL d1, .slice (some ⟨S, 0, none⟩) 0 0, .int .i64 fx, .slice a3 nH c3, .int .i64 o, .bool p] := by rw [hW3, hS]; exact k3.set 2 _
  have ht3 : Turn W2 W3 [g + 1 + 1] := by rw [hW3]; exact (Turn.of_below (below_alloc1 W2 _) _).setCell 2 _
  have hL3 : LoS W3 U.heap.size (.slice b1 nL d1) L fL := HL2.out.turn ht3 (fun b hb => own_sing (fun y hy => Nat.lt_of_lt_of_le HSU.out (HL2.out.rng y hy).1) hb)
  have hgS : g + 1 + 1 < S := by rw [hS]; exact K2.out.lt
  have hT3 : W3.ownsRow S 78 1 (.slice (some ⟨S, 0, none⟩) 0 0) 0 [] := by
    have hr := World.ownsRow_lit (base := W2.heap.size) (e := 78) (size := 1) W2 #[] 0 (Nat.le_refl _) (by simp [maxLen]) rfl
    rw [hW3, hS]; exact ownsRow_setCell_below hr (show (⟨g + 1 + 1, 2, none⟩ : Addr).block < W2.heap.size from by rw [← hS]; exact hgS) _
  have HS3 := Lib.hid (show S < W3.heap.size by rw [hW3, hS]; simp)
  have HUS := Lib.hid (show U.heap.size ≤ S by rw [hS]; exact HSU2.out)
  have hLr : ∀ y ∈ fL, y < S := fun y hy => by rw [hS]; exact (HL2.out.rng y hy).2
  have HLr := Lib.hid hLr
  have K4 := Lib.hid k4
  have HT4 := Lib.hid hT3
  have HGS := Lib.hid hgS
  have HSS := Lib.hid hS
  have HT3 := Lib.hid ht3
  clear hW3 hS k4 ht3 hL3 hT3 k3 K2 HSU2 o2 p2 hLr
  go_wp2
  go_loopw [4] (fun i wr => ∃ (j : Nat) (us : List Value) (fps : List (List Nat)) (a : Option Addr) (c : Nat), j ≤ nF ∧ i = .int .i64 j ∧ CpW w wr g #[.int .i64 k, .slice a1 nL c1, .slice a2 nF c2, .int .i64 fx, .slice a3 nH c3, .int .i64 o, .bool p] #[.int .i64 k, .slice b1 nL d1, .slice a j c, .int .i64 fx, .slice a3 nH c3, .int .i64 o, .bool p] ∧ LoBT wr S (.slice a j c) j us (F.take j) fps ∧ Turn W2 wr [g + 1 + 1]) (fun i _ => nF - (intOf i).toNat)
  case atStart => exact ⟨0, [], [], _, _, Nat.zero_le _, rfl, K4.out, by rw [List.take_zero]; exact OwB.start HT4.out, HT3.out⟩
  case round =>
    obtain ⟨j, us, fps, a, c, hj, rfl, hk, hob, ht⟩ := hrel
    have KR := Lib.hid hk
    have HOB := Lib.hid hob
    have HTR := Lib.hid ht
    have HSW := Lib.hid (show S ≤ wr.heap.size by rw [HSS.out]; exact ht.size)
    clear hk hob ht
    obtain ⟨x2, -⟩ := cells_of_heap KR.out.hx 2 (by simp)
    simp only [List.getElem_toArray, List.getElem_cons_zero, List.getElem_cons_succ] at x2
    by_cases hlt : j < nF
    · have hjF : j < F.length := by rw [← HNF.out]; exact hlt
      rcases RdS.cases (show LdT wr (.slice a2 nF c2) F from by rw [HNF.out]; exact H2.out.below KR.out.hb) with ⟨hnil, _⟩ | ⟨b, off, cap, vs, _, hv, hbl, hc⟩
      · exfalso; rw [hnil] at hjF; simp at hjF
      · obtain ⟨rfl, -, -⟩ := by simpa using hv
        obtain ⟨d0, hrow⟩ := hc j hjF
        have hrl : (lD F j).length ≤ 1048576 := lT_le HFr.out j
        obtain ⟨vr, hvr⟩ : ∃ v, v = uD vs j := ⟨_, rfl⟩
        rw [← hvr] at d0 hrow
        obtain ⟨ra, rc, rfl⟩ := RdN.shape hrow
        obtain ⟨nr, hnr⟩ : ∃ n, n = (lD F j).length := ⟨_, rfl⟩
        rw [← hnr] at d0 hrow hrl
        have HRow := Lib.hid hrow
        have HNr := Lib.hid hnr
        have HFl := Lib.hid (show (flatSt (lD F j)).length = nr * 3 by rw [flatSt_len, ← hnr])
        have b63 : 0 + nr ≤ maxLen := by unfold maxLen; omega
        have b47 : (0 + nr) * 24 ≤ 140737488355328 := by omega
        have c63 : j + 1 ≤ maxLen := by unfold maxLen; omega
        have c47 : (j + 1) * 24 ≤ 140737488355328 := by omega
        have hbA : Below wr.heap.size wr (wr.alloc (.cells #[] 182)) := below_alloc1 _ _
        have hgx : g < wr.heap.size := by have := KR.out.lt; omega
        have hgo : g + 1 + 1 < wr.heap.size := KR.out.lt
        obtain ⟨o2, -⟩ := cells_of_heap KR.out.ho 2 (by simp)
        simp only [List.getElem_toArray, List.getElem_cons_zero, List.getElem_cons_succ] at o2
        have xA := (hbA.cell (p := ⟨g, 2, none⟩) hgx).trans x2
        have dA := (hbA.cell (p := ⟨b, off + j, none⟩) hbl).trans d0
        have oA := (hbA.cell (p := ⟨g + 1 + 1, 2, none⟩) hgo).trans o2
        clear hc hrow hnr hvr hbA
        go_upto_region 7 with (fail)
        go_region_law (first
          | (refine step_append_rd (by rfl) (.tmp 21) (.tmp 26) 78 (by rfl) wr.heap.size 182 i0 (.agg #[.int .i64 0, .int .i64 0, .int .i64 0]) 3 24 Tryz.underlying78 hi hz0 hz1 hz2 rfl (by decide) (.slice (some ⟨wr.heap.size, 0, none⟩) 0 0) 0 [] (by rfl) (World.ownsRow_lit (e := 182) (size := 3) wr.drew #[] 0 (by simp) (by simp [maxLen]) rfl) (.slice ra nr rc) nr (flatSt (lD F j)) (by rfl) (HRow.out.below ((Below.refl wr.heap.size wr).drew.alloc (by simp) _)) HFl.out (flatSt_one _) b63 b47 (by simp) ?_; intro v1 w2 hown1 hgrow1; obtain ⟨x1, cx1, rfl⟩ := owns_shape hown1; rw [Nat.zero_add, List.nil_append] at hown1; rw [Nat.zero_add]; have hb2 : Below wr.heap.size wr w2 := ((Below.refl wr.heap.size wr).drew.alloc (by simp) _).grown hgrow1 (by simp) (fun q hq => by simp [Value.ownBlock] at hq; omega); have o2w2 := (hb2.cell (p := ⟨g + 1 + 1, 2, none⟩) hgo).trans o2; have o2w3 := ((hb2.alloc hb2.size (.cells #[.slice x1 nr cx1] 78)).cell (p := ⟨g + 1 + 1, 2, none⟩) hgo).trans o2; have HO1 := Lib.hid hown1; have HB2 := Lib.hid hb2; clear hown1 hgrow1 hb2)
          | (refine step_append_lies _ (by rfl) (.tmp 20) (.tmp 28) 27 (by rfl) S 78 i1 (.slice none 0 0) 1 24 Tryz.underlying27 hI1 hy0 hy1 hy2 rfl (by decide) (.slice a j c) j us (by rfl) (HOB.out.below (HB2.out.alloc HB2.out.size _).drew).own ⟨w2.heap.size, 0, none⟩ 1 1 [.slice x1 nr cx1] (by rfl) (by rfl) (World.news_of_block (cs := #[.slice x1 nr cx1]) (t := 78) (fr := (0, 0)) (heap_alloc_new w2 _)) (by simp [Value.oneCell']) (by omega) c63 c47 (by simp; exact Nat.le_succ_of_le (Nat.le_trans HSW.out HB2.out.size)) (w2.heap.size + 1) (by simp) ?_; intro g2 cap2 w4 hown2 hgrow2 hat2 hlt4; have k4 := (KR.out.below (HB2.out.alloc HB2.out.size (.cells #[.slice x1 nr cx1] 78))).grown hgrow2 (fun q hq => Nat.lt_of_lt_of_le HGS.out (HOB.out.own.lt q hq).1); obtain ⟨o24, p24⟩ := cells_of_heap k4.ho 2 (by simp); have HO4 := Lib.hid hown2; have HG4 := Lib.hid hgrow2; have HAT4 := Lib.hid hat2; have K5 := Lib.hid k4; clear hown2 hgrow2 hat2 hlt4 k4))
        all_goals
          have htl : (F.take j).length = j := by rw [List.length_take]; omega
          have hob3 := HOB.out.below (HB2.out.alloc HB2.out.size (.cells #[.slice x1 nr cx1] 78))
          have hof : OwF (w2.alloc (.cells #[.slice x1 nr cx1] 78)) S 182 3 (.slice x1 nr cx1) (lD F j).length ((lD F j).flatMap St.cells) (ownFp (.slice x1 nr cx1)) := by
            rw [← HNr.out]
            exact ⟨owns_base (owns_below HO1.out (below_alloc1 _ _)) HSW.out, rfl⟩
          have hpush := OwB.push hob3 htl.symm hof (fun y hy hy' => by have := (ownFp_rng HO1.out y hy).1; have := (HOB.out.rng y hy').2; omega) HO4.out HG4.out (by rcases HAT4.out with h1 | h1; exact .inl h1; exact .inr (by rw [h1]; simp))
          rw [← lD_take F j hjF] at hpush
          have hfin := hpush.turn (Turn.of_grown (grown_set w4 (g + 1 + 1) 2 (.slice (some ⟨g2, 0, none⟩) (j + 1) cap2))) (fun y hy hy' => by rw [List.mem_singleton] at hy'; have := (hpush.rng y hy).1; have := HGS.out; omega)
          have kf := K5.out.set 2 (.slice (some ⟨g2, 0, none⟩) (j + 1) cap2)
          have htf : Turn W2 (w4.setCell ⟨g + 1 + 1, 2, none⟩ (.slice (some ⟨g2, 0, none⟩) (j + 1) cap2)) [g + 1 + 1] := ((HTR.out.trans (Turn.of_below (HB2.out.alloc HB2.out.size (.cells #[.slice x1 nr cx1] 78)) _)).grownBy HG4.out (fun q hq => by rw [← HSS.out]; exact (HOB.out.own.lt q hq).1)).setCell 2 _
          have HF := Lib.hid hfin
          have KF := Lib.hid kf
          have HTF := Lib.hid htf
          clear htl hob3 hof hpush hfin kf htf o24 p24 o2w2 o2w3 xA dA oA d0 x2 o2
          go_wp2
          go_roundw
          case rel => exact ⟨j + 1, _, _, some ⟨g2, 0, none⟩, cap2, by omega, by go_num, KF.out, HF.out, HTF.out⟩
          case measure => simp [intOf]; omega
    · obtain rfl : j = nF := by omega
      rw [HNF.out, List.take_length] at HOB
      have hrg := HOB.out.rng
      have HTD := Lib.hid (OwB.done HOB.out rfl)
      rw [← HNF.out] at HTD
      have HLD := Lib.hid (HL2.out.turn HTR.out (fun b hb => own_sing (fun y hy => Nat.lt_of_lt_of_le HSU.out (HL2.out.rng y hy).1) hb))
      clear HOB hrg
      go_upto_region 8 with (fail)
      clear x2
      obtain ⟨x4, -⟩ := cells_of_heap KR.out.hx 4 (by simp)
      simp only [List.getElem_toArray, List.getElem_cons_zero, List.getElem_cons_succ] at x4
      have HSW := Lib.hid (show S ≤ wr.heap.size by rw [HSS.out]; exact HTR.out.size)
      have e63 : 0 + nH ≤ maxLen := by unfold maxLen; omega
      have e47 : (0 + nH) * 40 ≤ 140737488355328 := by omega
      have HAl := Lib.hid (below_alloc1 wr (.cells #[] 43))
      have kA := KR.out.below HAl.out
      have KA := Lib.hid kA
      obtain ⟨x4', -⟩ := cells_of_heap KA.out.hx 4 (by simp)
      simp only [List.getElem_toArray, List.getElem_cons_zero, List.getElem_cons_succ] at x4'
      clear kA x4
      go_wp2_with (at_builtin; refine wpList_append_rd (by rfl) (.tmp 31) (.tmp 33) 28 (by rfl) wr.heap.size 43 i2 (.agg #[.int .i64 0, .int .i64 0, .int .i64 0, .int .i64 0, .int .i64 0]) 5 40 Tryz.underlying28 hI2 hx0 hx1 hx2 rfl (by decide) (.slice (some ⟨wr.heap.size, 0, none⟩) 0 0) 0 [] (by rfl) (World.ownsRow_lit (e := 43) (size := 5) wr #[] 0 (by simp) (by simp [maxLen]) rfl) (.slice a3 nH c3) nH (flatHd H) (by rfl) (by rw [HNH.out]; exact H3.out.below KA.out.hb) (by rw [flatHd_len, HNH.out]) (flatHd_one _) e63 e47 (by simp) ?_)
      intro v1 w2 hown1 hgrow1
      obtain ⟨b3, d3, rfl⟩ := owns_shape hown1
      try simp only [Nat.zero_add, List.nil_append] at hown1
      try rw [Nat.zero_add]
      have hb2 : Below wr.heap.size wr w2 := HAl.out.grown hgrow1 (by simp) (fun q hq => by simp [Value.ownBlock] at hq; omega)
      have HO3 := Lib.hid hown1
      have HB2 := Lib.hid hb2
      have K6 := Lib.hid (KR.out.below hb2)
      clear x4' hown1 hgrow1 hb2 KA
      obtain ⟨o4, p4⟩ := cells_of_heap K6.out.ho 4 (by simp)
      simp only [List.getElem_toArray, List.getElem_cons_zero, List.getElem_cons_succ] at o4
      go_upto_region 9 with (fail)
      obtain ⟨W7, hW7⟩ : ∃ W, W = w2.setCell ⟨g + 1 + 1, 4, none⟩ (.slice b3 nH d3) := ⟨_, rfl⟩
      rw [← hW7]
      have k7 : CpW w W7 g #[.int .i64 k, .slice a1 nL c1, .slice a2 j c2, .int .i64 fx, .slice a3 nH c3, .int .i64 o, .bool p] #[.int .i64 k, .slice b1 nL d1, .slice a j c, .int .i64 fx, .slice b3 nH d3, .int .i64 o, .bool p] := by rw [hW7]; exact K6.out.set 4 _
      have ht7 : Turn w2 W7 [g + 1 + 1] := by rw [hW7]; exact (Turn.refl _ _).setCell 4 _
      have hL7 := (HLD.out.below HB2.out).turn ht7 (fun b hb => own_sing (fun y hy => Nat.lt_of_lt_of_le HSU.out (HL2.out.rng y hy).1) hb)
      have hT7 := (HTD.out.below HB2.out).turn ht7 (fun b hb => own_sing (fun y hy => Nat.lt_of_lt_of_le HGS.out (HTD.out.rng y hy).1) hb)
      have hH6 : OwF w2 wr.heap.size 43 5 (.slice b3 nH d3) H.length (flatHd H) (ownFp (.slice b3 nH d3)) := by rw [← HNH.out]; exact ⟨HO3.out, rfl⟩
      have hH7 := hH6.turn ht7 (fun b hb => own_sing (fun y hy => Nat.lt_of_lt_of_le (Nat.lt_of_lt_of_le HGS.out HSW.out) (hH6.rng y hy).1) hb)
      have hnd := nodup3 (HL2.out.nodup) (HTD.out.nodup) (OwF.nodup hH6) (fun y hy => ⟨(HL2.out.rng y hy).1, HLr.out y hy⟩) HTD.out.rng hH6.rng (Nat.le_refl _) (Nat.le_refl _) HSW.out
      have hown : OwE W7 w.heap.size ⟨k, L, F, fx, H, o, p⟩ (.slice b1 L.length d1) (.slice a F.length c) (.slice b3 H.length d3) (fL ++ (_ ++ _)) := ⟨_, _, _, (by rw [← HNL.out]; exact hL7.base (by rw [← HG.out]; have := HSU.out; omega)), (by rw [← HNF.out]; exact hT7.base (by rw [← HG.out]; have := HGS.out; omega)), owF_base (by rw [← HNH.out] at hH7 ⊢; exact hH7) (by rw [← HG.out]; have := HGS.out; have := HSW.out; omega), rfl, hnd⟩
      have HOW := Lib.hid hown
      have K7 := Lib.hid k7
      have hng : g + 1 ∉ fL ++ (ownFp (.slice a j c) ++ fps.flatten ++ ownFp (.slice b3 nH d3)) := fun hm => by
        have hs := HSU.out
        have hgs := HGS.out
        have hsw := HSW.out
        rcases List.mem_append.1 hm with h | h
        · have := (HL2.out.rng _ h).1; omega
        · rcases List.mem_append.1 h with h | h
          · have := (HTD.out.rng _ h).1; omega
          · have := (hH6.rng _ h).1; omega
      have HNG := Lib.hid hng
      clear hown k7 hng hnd hH7 hH6 hT7 hL7 ht7 hW7 o4 p4
      obtain ⟨o0, -⟩ := cells_of_heap K7.out.ho 0 (by simp)
      obtain ⟨o1, -⟩ := cells_of_heap K7.out.ho 1 (by simp)
      obtain ⟨o2, -⟩ := cells_of_heap K7.out.ho 2 (by simp)
      obtain ⟨o3, -⟩ := cells_of_heap K7.out.ho 3 (by simp)
      obtain ⟨o4, -⟩ := cells_of_heap K7.out.ho 4 (by simp)
      obtain ⟨o5, -⟩ := cells_of_heap K7.out.ho 5 (by simp)
      obtain ⟨o6, -⟩ := cells_of_heap K7.out.ho 6 (by simp)
      obtain ⟨r0, q0⟩ := cells_of_heap K7.out.hr 0 (by simp)
      obtain ⟨r1, q1⟩ := cells_of_heap K7.out.hr 1 (by simp)
      obtain ⟨r2, q2⟩ := cells_of_heap K7.out.hr 2 (by simp)
      obtain ⟨r3, q3⟩ := cells_of_heap K7.out.hr 3 (by simp)
      obtain ⟨r4, q4⟩ := cells_of_heap K7.out.hr 4 (by simp)
      obtain ⟨r5, q5⟩ := cells_of_heap K7.out.hr 5 (by simp)
      obtain ⟨r6, q6⟩ := cells_of_heap K7.out.hr 6 (by simp)
      simp only [List.getElem_toArray, List.getElem_cons_zero, List.getElem_cons_succ] at o0 o1 o2 o3 o4 o5 o6
      go_wp2
      clear o0 o1 o2 o3 o4 o5 o6 r0 r1 r2 r3 r4 r5 r6 q0 q1 q2 q3 q4 q5 q6
      have hle : w.heap.size ≤ g + 1 := by rw [HG.out]; omega
      obtain ⟨wf, hwf⟩ : ∃ x, x = putW (W7) (g + 1) 0 [.int .i64 k, .slice b1 nL d1, .slice a j c, .int .i64 fx, .slice b3 nH d3, .int .i64 o, .bool p] := ⟨_, rfl⟩
      have kf := putW_all [.int .i64 k, .slice b1 nL d1, .slice a j c, .int .i64 fx, .slice b3 nH d3, .int .i64 o, .bool p] K7.out.hr rfl
      have bf := putW_below (b := g + 1) (by first | omega | simp) [.int .i64 k, .slice b1 nL d1, .slice a j c, .int .i64 fx, .slice b3 nH d3, .int .i64 o, .bool p] 0 _ K7.out.hb
      have of := HOW.out.putAt (y := g + 1) [.int .i64 k, .slice b1 nL d1, .slice a j c, .int .i64 fx, .slice b3 nH d3, .int .i64 o, .bool p] HNG.out 0
      rw [← hwf] at kf bf of
      have cf := hwf.symm
      simp only [putW, Nat.reduceAdd] at cf
      rw [cf]
      clear cf hwf
      have f0 := (cells_of_heap kf 0 (by simp)).1
      have f1 := (cells_of_heap kf 1 (by simp)).1
      have f2 := (cells_of_heap kf 2 (by simp)).1
      have f3 := (cells_of_heap kf 3 (by simp)).1
      have f4 := (cells_of_heap kf 4 (by simp)).1
      have f5 := (cells_of_heap kf 5 (by simp)).1
      have f6 := (cells_of_heap kf 6 (by simp)).1
      simp only [List.getElem_toArray, List.getElem_cons_zero, List.getElem_cons_succ] at f0 f1 f2 f3 f4 f5 f6
      refine bodyPost_ret (v := env k (.slice b1 nL d1) (.slice a j c) fx (.slice b3 nH d3) o p) (by simp [results, Tryz.results100, go_sem, f0, f1, f2, f3, f4, f5, f6]) rfl ⟨b1, d1, a, c, b3, d3, _, by rw [← HNL.out, ← HNF.out, ← HNH.out], of, bf⟩

end Go.Proofs.YtjfckchoklepbaaGreat
