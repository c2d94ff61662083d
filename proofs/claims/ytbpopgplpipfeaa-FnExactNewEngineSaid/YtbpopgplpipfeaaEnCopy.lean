/- DERIVED. The reference's l7Copy: a report with a row of its own. No condition. -/
import Derived.Test.YtbpopgplpipfeaaEnWord
import Derived.Test.YtbpopgplpipfeaaRpSpec5
import Derived.Test.YtbpopgplpipfeaaMcRep
import Derived.Deep.AppendLies
import Derived.BigRegion
import Derived.StillTailTactics
namespace Go.Proofs.Ytbpopgplpipfeaa
open Go.RowKit

/-- What is appended is read, be it nil, empty or a row. -/
theorem run_append_rd {P : Program} (w : World) (base : Nat) (t ty e : TypeId) (i : TypeInfo) (z : Value) (size bytes : Nat) (ht : P.underlying t = some (.slice e)) (hi : P.info? e = some i) (hz : i.zero = some z)
    (hsize : i.size = size) (hby : i.bytes = bytes) (hzs : z.cells.size = size) (hsz : 0 < size)
    (v : Value) (n : Nat) (xs : List Value) (hown : w.ownsRow base e size v n xs) (u : Value) (m : Nat) (news : List Value) (hr : RdN w u m news) (hl : news.length = m * size) (h1 : ∀ u ∈ news, u.oneCell' = true)
    (h63 : n + m ≤ maxLen) (hbytes : (n + m) * bytes ≤ 140737488355328) (hbase : base ≤ w.heap.size) :
    ∃ v' w', (Builtin.append_ #[t, t] ty #[v, u]).run P w = .ok v' w' ∧ w'.ownsRow base e size v' (n + m) (xs ++ news) ∧ w.grownBy w' v.ownBlock := by
  rcases hr.cases with ⟨rfl, a, cap, rfl⟩ | ⟨hm, b, off, cap, rfl, hlt, hc⟩
  · obtain rfl : news = [] := List.eq_nil_of_length_eq_zero (by simpa using hl)
    rw [List.append_nil]
    refine ⟨v, w, ?_, by simpa using hown, World.grownBy.refl _ _⟩
    rcases hown.2 with ⟨rfl, rfl⟩ | ⟨g, cap, cur, rfl, _, _, hnc, _⟩
    · rcases a with _ | a <;> simp [Builtin.append_, run_underlying ht, sizeOf, typeInfo, hi, Builtin.lenOf, Builtin.firstCells, loadCells, loadCellsFrom]
    · rcases a with _ | a <;> simp [Builtin.append_, run_underlying ht, sizeOf, typeInfo, hi, Builtin.lenOf, Builtin.firstCells, hnc, storeCells, loadCells, loadCellsFrom]
  · obtain ⟨v', w', h2, h3, h4, -⟩ := run_append_own (P := P) w base t ty e i z size bytes ht hi hz hsize hby hzs hsz v n xs hown ⟨b, off, none⟩ m cap news hl (fun j u hu => by
      have hj := (List.getElem?_eq_some_iff.mp hu).1
      have hadd : (⟨b, off, none⟩ : Addr).add j = ⟨b, off + j, none⟩ := by unfold Addr.add; split <;> simp_all
      rw [hadd, hc j hj]; exact (List.getElem?_eq_getElem hj ▸ hu)) h1 h63 hbytes hbase
    exact ⟨v', w', h2, h3, h4⟩
theorem step_append_rd {P : Program} {w : World} {ops : Array Oper} {o : Oper} {a : Act} {K : Act → World → Prop} {Q : Exit → Act → World → Prop} {E : Prop} (hgd : o.guard = none) (s x : Operand) (t : TypeId)
    (ho : o.op = .call { callee := .builtin .append, args := #[s, x], argTypes := #[t, t] })
    (base : Nat) (e : TypeId) (i : TypeInfo) (z : Value) (size bytes : Nat) (ht : P.underlying t = some (.slice e)) (hi : P.info? e = some i) (hz : i.zero = some z)
    (hsize : i.size = size) (hby : i.bytes = bytes) (hzs : z.cells.size = size) (hsz : 0 < size)
    (v : Value) (n : Nat) (xs : List Value) (hs : a.eval s = v) (hown : w.ownsRow base e size v n xs) (u : Value) (m : Nat) (news : List Value) (hx : a.eval x = u) (hr : RdN w u m news) (hl : news.length = m * size) (h1 : ∀ u ∈ news, u.oneCell' = true)
    (h63 : n + m ≤ maxLen) (hbytes : (n + m) * bytes ≤ 140737488355328) (hbase : base ≤ w.heap.size)
    (h : ∀ v' w', w'.ownsRow base e size v' (n + m) (xs ++ news) → w.grownBy w' v.ownBlock → K (a.put o.dst v') w') :
    if Region.wanted o (yielded ops a.tmps) = true then Oper.wp P o a w K Q else E := by
  have hw : Region.wanted o (yielded ops a.tmps) = true := by simp [Region.wanted, hgd]
  rw [if_pos hw]
  obtain ⟨v', w', hr', h2, h3⟩ := run_append_rd (P := P) w base t o.type e i z size bytes ht hi hz hsize hby hzs hsz v n xs hown u m news hr hl h1 h63 hbytes hbase
  unfold Oper.wp execOp
  simp only [ho, resolve, invoke, builtin, Sem.run_bind, Sem.run_pure, Result.andThen_ok, List.map_toArray, List.map_cons, List.map_nil, hs, hx, hr']
  exact h v' w' h2 h3

theorem rdN_ints {w : World} {a : Option Addr} {c : Nat} {z : List Int} (h : Rd w (.slice a z.length c) (z.map (.int .i64))) : RdN w (.slice a z.length c) z.length (z.map (.int .i64)) := by
  obtain ⟨a', c', e', hh⟩ := h
  have e1 : a = a' := by injection e'
  rw [← e1] at hh
  refine ⟨a, c, rfl, ?_⟩
  rcases hh with hh | hh
  · exact .inl (by have := congrArg List.length hh; simpa using this)
  · exact .inr hh
set_option maxRecDepth 100000 in
set_option maxHeartbeats 8000000 in
theorem specL7Copy_any (r : Int) (ua : Option Addr) (uc : Nat) (z : List Int) (w : World) (hl : z.length ≤ 1048576) (h : Rd w (.slice ua z.length uc) (z.map (.int .i64))) :
    Calls Try.prog 127 #[rpv r (.slice ua z.length uc)] w (RpV r z w) := by
  obtain ⟨i0, hi, hz0, hz1, hz2⟩ := info_parts info_int
  obtain ⟨n, hn⟩ : ∃ n, n = z.length := ⟨_, rfl⟩
  have hr : RdN w (.slice ua n uc) n (z.map (.int .i64)) := by rw [hn]; exact rdN_ints h
  rw [← hn]
  obtain ⟨V, hV⟩ : ∃ V, V = (w.alloc (.cells #[.int .i64 r, .slice ua n uc] 34)).alloc (.cells #[.int .i64 0, .slice none 0 0] 34) := ⟨_, rfl⟩
  have hbV : Below w.heap.size w V := by rw [hV]; exact ((Below.refl _ _).alloc (Nat.le_refl _) _).alloc (by simp) _
  obtain ⟨g, hg⟩ : ∃ x, x = w.heap.size := ⟨_, rfl⟩
  have hA : V.heap[g]? = some (.cells #[.int .i64 r, .slice ua n uc] 34 (0, 0)) := by
    rw [hV, hg, heap_alloc_old _ _ (by simp)]; exact heap_alloc_new w _
  have hR : V.heap[g + 1]? = some (.cells #[.int .i64 0, .slice none 0 0] 34 (0, 0)) := by
    rw [hV, hg]; simpa using heap_alloc_new (w.alloc (.cells #[.int .i64 r, .slice ua n uc] 34)) (.cells #[.int .i64 0, .slice none 0 0] 34)
  have hS : V.heap.size = g + 2 := by rw [hV, hg]; simp
  rw [← hg] at hbV
  have HV := Lib.hid hV
  have HG := Lib.hid hg
  have HBV := Lib.hid hbV
  have HA := Lib.hid hA
  have HR := Lib.hid hR
  have HS := Lib.hid hS
  have HN := Lib.hid hn
  have HRd := Lib.hid hr
  have hl' : n ≤ 1048576 := by rw [hn]; exact hl
  clear hV hbV hA hR hS h hn hr hl
  go_enter Try.func127, Try.ntmps127
  go_upto_region 1 with (fail)
  rw [← HV.out, ← HG.out]
  obtain ⟨a0, -⟩ := cells_of_heap HA.out 0 (by simp)
  obtain ⟨a1, -⟩ := cells_of_heap HA.out 1 (by simp)
  obtain ⟨r0, p0⟩ := cells_of_heap HR.out 0 (by simp)
  obtain ⟨r1, p1⟩ := cells_of_heap HR.out 1 (by simp)
  simp only [List.getElem_toArray, List.getElem_cons_zero, List.getElem_cons_succ] at a0 a1 r0 r1
  have hbA : Below V.heap.size V (V.alloc (.cells #[] 3)) := below_alloc1 _ _
  have hgv : g + 1 < V.heap.size := by rw [HS.out]; omega
  have A0 := (hbA.cell (p := ⟨g, 0, none⟩) (show g < V.heap.size by omega)).trans a0
  have A1 := (hbA.cell (p := ⟨g, 1, none⟩) (show g < V.heap.size by omega)).trans a1
  have HLen : Hid ((z.map (Value.int .i64)).length = n * 1) := Lib.hid (by rw [List.length_map, ← HN.out, Nat.mul_one])
  have HRV := Lib.hid (HRd.out.below (by rw [← HG.out]; exact HBV.out))
  have b63 : 0 + n ≤ maxLen := by unfold maxLen; omega
  have b47 : (0 + n) * 8 ≤ 140737488355328 := by omega
  clear hbA hg
  go_region_law (first
    | (refine step_append_rd (by rfl) (.tmp 5) (.tmp 7) 32 (by rfl) V.heap.size 3 i0 (.int .i64 0) 1 8 Try.underlying32 hi hz0 hz1 hz2 rfl (by decide) (.slice (some ⟨V.heap.size, 0, none⟩) 0 0) 0 [] (by rfl) (World.ownsRow_lit (e := 3) (size := 1) V.drew #[] 0 (by simp) (by simp [maxLen]) rfl) (.slice ua n uc) n (z.map (.int .i64)) (by rfl) (HRV.out.below ((Below.refl V.heap.size V).drew.alloc (by simp) _)) HLen.out (fun u hu => by obtain ⟨x, -, rfl⟩ := List.mem_map.1 hu; rfl) b63 b47 (by simp) ?_; intro v1 w2 hown1 hgrow1; obtain ⟨x1, c1, rfl⟩ := owns_shape hown1; have hb2 : Below V.heap.size V w2 := ((Below.refl V.heap.size V).drew.alloc (by simp) _).grown hgrow1 (by simp) (fun q hq => by simp [Value.ownBlock] at hq; omega); have HO1 := Lib.hid hown1; have HB2 := Lib.hid hb2; have HR2 := Lib.hid ((hb2.block (g + 1) hgv).trans HR.out); have A02 := (hb2.cell (p := ⟨g, 0, none⟩) (show g < V.heap.size by omega)).trans a0; obtain ⟨r02, p02⟩ := cells_of_heap HR2.out 0 (by simp); obtain ⟨r12, p12⟩ := cells_of_heap HR2.out 1 (by simp); clear hown1 hgrow1 hb2))
  all_goals
    rw [Nat.zero_add, List.nil_append] at HO1
    have hgw : g ≤ V.heap.size := by omega
    have HBF := Lib.hid (HBV.out.trans (HB2.out.mono hgw))
    clear a0 a1 r0 p0 r1 p1 A0 A1 A02 r02 p02 r12 p12
    obtain ⟨wf, hwf⟩ : ∃ x, x = putW w2 (g + 1) 0 [.int .i64 r, .slice x1 n c1] := ⟨_, rfl⟩
    have kf := putW_all [.int .i64 r, .slice x1 n c1] HR2.out rfl
    have bf := putW_below (b := g + 1) (by omega) [.int .i64 r, .slice x1 n c1] 0 _ HBF.out
    have of := putW_own (b := g + 1) hgv [.int .i64 r, .slice x1 n c1] 0 w2 HO1.out
    rw [← hwf] at kf bf of
    have cf := hwf.symm
    simp only [putW, Nat.reduceAdd] at cf
    go_wp2
    rw [cf]
    clear cf hwf
    have f0 := (cells_of_heap kf 0 (by simp)).1
    have f1 := (cells_of_heap kf 1 (by simp)).1
    simp only [List.getElem_toArray, List.getElem_cons_zero, List.getElem_cons_succ] at f0 f1
    refine bodyPost_ret (v := rpv r (.slice x1 n c1)) (by simp [results, Try.results127, go_sem, f0, f1, rpv]) rfl ⟨_, rfl, by rw [← HN.out]; exact owns_base of (by rw [← HG.out]; exact hgw), by rw [← HG.out]; exact bf⟩

end Go.Proofs.Ytbpopgplpipfeaa
