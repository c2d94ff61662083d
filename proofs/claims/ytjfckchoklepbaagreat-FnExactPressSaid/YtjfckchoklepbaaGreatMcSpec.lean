/- DERIVED. The reference's l8Action, l8Find: what a step holds, and its first place in a list. No condition. · The reference's l8Without: a list without one of its places. No condition. · The reference's IsMacro: it tells whether a macro is valid. Called with any steps, at most 1048576. -/
import Derived.Test.YtjfckchoklepbaaGreatMcDef
import Derived.Test.YtjfckchoklepbaaGreatAcOk
import Derived.Test.YtjfckchoklepbaaGreatRpSpec5
import Derived.Deep.AppendLies
import Derived.Deep.RegionLaw
namespace Go.Proofs.YtjfckchoklepbaaGreat
open Go.RowKit

theorem specL8Action_any (k c m : Int) (w : World) : Calls Tryz.prog 174 #[stv k c m] w fun e w' => e = .returned (acv 2 c m 0) ∧ Below w.heap.size w w' := by
  obtain ⟨V, hV⟩ : ∃ V, V = (w.alloc (.cells #[.int .i64 k, .int .i64 c, .int .i64 m] 182)).alloc (.cells #[.int .i64 0, .int .i64 0, .int .i64 0, .int .i64 0] 41) := ⟨_, rfl⟩
  have hX : Bxd V w.heap.size [.int .i64 k, .int .i64 c, .int .i64 m] := by rw [hV]; exact (Bxd.new _ _ _).below ((Below.refl _ _).alloc (Nat.le_refl _) _) (by simp)
  have hG : V.heap[w.heap.size + 1]? = some (.cells #[.int .i64 0, .int .i64 0, .int .i64 0, .int .i64 0] 41 (0, 0)) := by rw [hV]; have := heap_alloc_new (w.alloc (.cells #[.int .i64 k, .int .i64 c, .int .i64 m] 182)) (.cells #[.int .i64 0, .int .i64 0, .int .i64 0, .int .i64 0] 41); simpa using this
  have hB : Below w.heap.size w V := by rw [hV]; exact ((Below.refl _ _).alloc (Nat.le_refl _) _).alloc (by simp) _
  have hS : w.heap.size + 1 < V.heap.size := by rw [hV]; simp
  have HV2 := Lib.hid hV
  have HX0 := Lib.hid hX
  have HG0 := Lib.hid hG
  have HB0 := Lib.hid hB
  have HS0 := Lib.hid hS
  clear hV hX hG hB hS
  go_enter Tryz.func174, Tryz.ntmps174
  go_upto_region 1 with (fail)
  rw [← HV2.out]
  have c0 := HX0.out.at 0 _ rfl
  have c1 := HX0.out.at 1 _ rfl
  have c2 := HX0.out.at 2 _ rfl
  obtain ⟨y0, q0⟩ := cells_of_heap HG0.out 0 (by simp)
  obtain ⟨y1, q1⟩ := cells_of_heap HG0.out 1 (by simp)
  obtain ⟨y2, q2⟩ := cells_of_heap HG0.out 2 (by simp)
  obtain ⟨y3, q3⟩ := cells_of_heap HG0.out 3 (by simp)
  go_wp2
  clear c0 c1 c2 y0 y1 y2 y3 q0 q1 q2 q3
  obtain ⟨wf, hwf⟩ : ∃ x, x = putW (V) (w.heap.size + 1) 0 [.int .i64 2, .int .i64 c, .int .i64 m, .int .i64 0] := ⟨_, rfl⟩
  have kf := putW_all [.int .i64 2, .int .i64 c, .int .i64 m, .int .i64 0] HG0.out rfl
  have bf := putW_below (b := w.heap.size + 1) (by first | omega | simp) [.int .i64 2, .int .i64 c, .int .i64 m, .int .i64 0] 0 _ HB0.out
  rw [← hwf] at kf bf
  have cf := hwf.symm
  simp only [putW, Nat.reduceAdd] at cf
  rw [cf]
  clear cf hwf
  have f0 := (cells_of_heap kf 0 (by simp)).1
  have f1 := (cells_of_heap kf 1 (by simp)).1
  have f2 := (cells_of_heap kf 2 (by simp)).1
  have f3 := (cells_of_heap kf 3 (by simp)).1
  simp only [List.getElem_toArray, List.getElem_cons_zero, List.getElem_cons_succ] at f0 f1 f2 f3
  refine bodyPost_ret (v := acv 2 c m 0) (by simp [results, Tryz.results174, go_sem, f0, f1, f2, f3]) rfl ⟨rfl, bf⟩

set_option maxRecDepth 100000 in
set_option maxHeartbeats 4000000 in
theorem specFind_any (v : Value) (d : List Hd) (x : St) (w : World) (hn : d.length ≤ maxLen) (h : RdN w v d.length (flatHd d)) :
    Calls Tryz.prog 177 #[v, stv x.k x.c x.m] w fun e w' => e = .returned (.int .i64 (fiI d x)) ∧ Below w.heap.size w w' := by
  obtain ⟨a, cap, rfl⟩ := RdN.shape h
  obtain ⟨r, hr⟩ : ∃ r, r = fiI d x := ⟨_, rfl⟩
  rw [← hr]
  have HR := Lib.hid hr
  obtain ⟨n, hnl⟩ : ∃ n, n = d.length := ⟨_, rfl⟩
  have HNL := Lib.hid hnl
  have H := Lib.hid h
  have hnm : n ≤ maxLen := by rw [hnl]; exact hn
  unfold maxLen at hnm
  rw [← hnl]
  clear hr hn h hnl
  obtain ⟨W, hW⟩ : ∃ W, W = w.alloc (.cells #[.int .i64 x.k, .int .i64 x.c, .int .i64 x.m] 182) := ⟨_, rfl⟩
  have HX0 := Lib.hid (show Bxd W w.heap.size [.int .i64 x.k, .int .i64 x.c, .int .i64 x.m] by rw [hW]; exact Bxd.new _ _ _)
  have HB0 := Lib.hid (show Below w.heap.size w W by rw [hW]; exact (Below.refl _ _).alloc (Nat.le_refl _) _)
  have HS0 := Lib.hid (show w.heap.size < W.heap.size by rw [hW]; simp)
  have HW := Lib.hid hW
  clear hW
  go_enter Tryz.func177, Tryz.ntmps177
  go_upto_region 1 with (fail)
  rw [← HW.out]
  go_wp2
  go_loopw [5] (fun i wr => ∃ j : Nat, j ≤ n ∧ i = .int .i64 j ∧ (∀ q, q < j → mtS x (hdD d q) = false) ∧ Below W.heap.size W wr) (fun i _ => n - (intOf i).toNat)
  case atStart => exact ⟨0, Nat.zero_le _, rfl, fun q hq => absurd hq (Nat.not_lt_zero _), Below.refl _ _⟩
  case round =>
    obtain ⟨j, hj, rfl, hno, hb⟩ := hrel
    have HNo := Lib.hid hno
    have HB := Lib.hid hb
    clear hno
    by_cases hlt' : j < n
    · have hjz : j < d.length := by rw [← HNL.out]; exact hlt'
      obtain ⟨b, off, rfl, hlt, c0, c1, c2', c3, c4⟩ := hd_at H.out hjz
      have hbw := HB0.out.trans (hb.mono HB0.out.size)
      have e2 := (hbw.cell (p := ⟨b, off + j * 5 + 2, none⟩) hlt).trans c2'
      have e3 := (hbw.cell (p := ⟨b, off + j * 5 + 3, none⟩) hlt).trans c3
      have x1 := (HX0.out.below hb HS0.out).at 1 _ rfl
      have x2 := (HX0.out.below hb HS0.out).at 2 _ rfl
      have hmt : mtS x (hdD d j) = (decide ((hdD d j).c = x.c) && decide ((hdD d j).m = x.m)) := rfl
      have hat : mtS x (hdD d j) = true → r = (j : Int) := fun hm => by rw [HR.out]; exact fiI_at hjz HNo.out hm
      have hnx : mtS x (hdD d j) = false → ∀ q, q < j + 1 → mtS x (hdD d q) = false := fun hm q hq => by
        rcases Nat.lt_or_ge q j with h3 | h3
        · exact HNo.out q h3
        · obtain rfl : q = j := by omega
          exact hm
      rw [hmt] at hat hnx
      obtain ⟨p, hp⟩ : ∃ p, p = (hdD d j).c := ⟨_, rfl⟩
      obtain ⟨s, hs⟩ : ∃ s, s = (hdD d j).m := ⟨_, rfl⟩
      obtain ⟨xc, hxc⟩ : ∃ t, t = x.c := ⟨_, rfl⟩
      obtain ⟨xm, hxm⟩ : ∃ t, t = x.m := ⟨_, rfl⟩
      rw [← hp, ← hs, ← hxc, ← hxm] at hat hnx
      rw [← hp] at e2
      rw [← hs] at e3
      rw [← hxc] at x1
      rw [← hxm] at x2
      have HAt := Lib.hid hat
      have HNx := Lib.hid hnx
      clear c0 c1 c2' c3 c4 hmt hat hnx hp hs hxc hxm hbw hb
      go_upto_region 4 with (fail)
      by_cases h1 : p = xc
      · subst h1
        by_cases h2 : s = xm
        · subst h2
          have hr := HAt.out (by simp)
          go_quiet (fail)
          go_wp2
          go_ret
          exact ⟨by first | rfl | exact ret_int hr.symm, below_drewN (HB0.out.trans (HB.out.mono HB0.out.size)) _⟩
        · have b2 : (s == xm) = false := by simp [h2]
          have hq := Lib.hid (HNx.out (by simp [h2]))
          go_quiet (fail)
          go_wp2
          go_roundw
          case rel => exact ⟨j + 1, by omega, by go_num, hq.out, below_drewN HB.out _⟩
          case measure => simp [intOf]; omega
      · have b1 : (p == xc) = false := by simp [h1]
        have hq := Lib.hid (HNx.out (by simp [h1]))
        go_quiet (fail)
        go_wp2
        go_roundw
        case rel => exact ⟨j + 1, by omega, by go_num, hq.out, below_drewN HB.out _⟩
        case measure => simp [intOf]; omega
    · obtain rfl : j = n := by omega
      have hr : r = -1 := by rw [HR.out]; exact fiI_no (fun q hq => HNo.out q (by rw [HNL.out]; exact hq))
      go_wp2
      go_ret
      exact ⟨by first | rfl | exact ret_int hr.symm, HB0.out.trans (HB.out.mono HB0.out.size)⟩
theorem specFind_q (v : Value) (d : List Hd) (k c m i : Int) (hi : i = fiI d ⟨k, c, m⟩) (w : World) (hn : d.length ≤ maxLen) (h : RdN w v d.length (flatHd d)) :
    Calls Tryz.prog 177 #[v, stv k c m] w fun e w' => e = .returned (.int .i64 i) ∧ Below w.heap.size w w' := by
  rw [hi]; exact specFind_any v d ⟨k, c, m⟩ w hn h
end Go.Proofs.YtjfckchoklepbaaGreat

namespace Go.Proofs.YtjfckchoklepbaaGreat
open Go.RowKit

/-- An append of a region that draws its order, of any number of elements. -/
theorem step_append_any8 {P : Program} {w : World} {ops : Array Oper} {o : Oper} {a : Act} {K : Act → World → Prop} {Q : Exit → Act → World → Prop} {E : Prop} (hgd : o.guard = none) (s x : Operand) (t : TypeId)
    (ho : o.op = .call { callee := .builtin .append, args := #[s, x], argTypes := #[t, t] })
    (base : Nat) (e : TypeId) (i : TypeInfo) (z : Value) (size bytes : Nat) (ht : P.underlying t = some (.slice e)) (hi : P.info? e = some i) (hz : i.zero = some z)
    (hsize : i.size = size) (hby : i.bytes = bytes) (hzs : z.cells.size = size) (hsz : 0 < size)
    (v : Value) (n : Nat) (xs : List Value) (hs : a.eval s = v) (hown : w.ownsRow base e size v n xs)
    (ad : Addr) (m c : Nat) (news : List Value) (hx : a.eval x = .slice (some ad) m c) (hl : news.length = m * size) (hnews : ∀ j u, news[j]? = some u → w.cell? (ad.add j) = some u) (h1 : ∀ u ∈ news, u.oneCell' = true)
    (h63 : n + m ≤ maxLen) (hbytes : (n + m) * bytes ≤ 140737488355328) (hbase : base ≤ w.heap.size)
    (h : ∀ v' w', w'.ownsRow base e size v' (n + m) (xs ++ news) → w.grownBy w' v.ownBlock → K (a.put o.dst v') w') :
    if Region.wanted o (yielded ops a.tmps) = true then Oper.wp P o a w K Q else E := by
  have hw : Region.wanted o (yielded ops a.tmps) = true := by simp [Region.wanted, hgd]
  rw [if_pos hw]
  exact wp_append_own w s x t ho base e i z size bytes ht hi hz hsize hby hzs hsz v n xs hs hown ad m c news hx hl hnews h1 h63 hbytes hbase fun v' w' h2 h3 _ => h v' w' h2 h3
theorem flatHd_take (d : List Hd) (k : Nat) (hk : k ≤ d.length) : flatHd (d.take k) = (flatHd d).take (k * 5) := by
  have h1 : flatHd d = flatHd (d.take k) ++ flatHd (d.drop k) := by
    unfold flatHd; rw [← List.flatMap_append, List.take_append_drop]
  have h2 : (flatHd (d.take k)).length = k * 5 := by rw [flatHd_len, List.length_take]; omega
  rw [h1, ← h2, List.take_left]
theorem flatHd_drop (d : List Hd) (k : Nat) (hk : k ≤ d.length) : flatHd (d.drop k) = (flatHd d).drop (k * 5) := by
  have h1 : flatHd d = flatHd (d.take k) ++ flatHd (d.drop k) := by
    unfold flatHd; rw [← List.flatMap_append, List.take_append_drop]
  have h2 : (flatHd (d.take k)).length = k * 5 := by rw [flatHd_len, List.length_take]; omega
  rw [h1, ← h2, List.drop_left]
theorem erase_flat (d : List Hd) (k : Nat) : flatHd (d.take k) ++ flatHd (d.drop (k + 1)) = flatHd (d.eraseIdx k) := by
  unfold flatHd; rw [← List.flatMap_append, List.eraseIdx_eq_take_drop_succ]
/-- Cells of an owned row, from a place on, in whatever world that keeps it. -/
theorem owned_news {w : World} {B c n g cap : Nat} {T : TypeId} {xs : List Value} (h : w.ownsRow B T c (.slice (some ⟨g, 0, none⟩) n cap) n xs) (o : Nat) (ys : List Value) (hy : ∀ q u, ys[q]? = some u → xs[o + q]? = some u) :
    ∀ w', Below w.heap.size w w' → ∀ q u, ys[q]? = some u → w'.cell? ((⟨g, o, none⟩ : Addr).add q) = some u := by
  intro w' hb q u hu
  have h2 := hy q u hu
  have hl := (List.getElem?_eq_some_iff.mp h2).1
  have hadd : (⟨g, o, none⟩ : Addr).add q = ⟨g, o + q, none⟩ := by unfold Addr.add; split <;> simp_all
  rw [hadd, hb.cell (p := ⟨g, o + q, none⟩) (h.lt g (by simp [Value.ownBlock])).2, World.ownsRow.cellAt h (o + q) (by rw [← h.1]; exact hl), h2]

set_option maxRecDepth 100000 in
set_option maxHeartbeats 8000000 in
theorem specWithout_any (B g0 cap : Nat) (d : List Hd) (k : Nat) (w : World) (hk : k < d.length) (hl : d.length ≤ 1048576) (h : w.ownsRow B 43 5 (.slice (some ⟨g0, 0, none⟩) d.length cap) d.length (flatHd d)) :
    Calls Tryz.prog 176 #[.slice (some ⟨g0, 0, none⟩) d.length cap, .int .i64 k] w fun e w' => ∃ a c, e = .returned (.slice a (d.eraseIdx k).length c) ∧ w'.ownsRow w.heap.size 43 5 (.slice a (d.eraseIdx k).length c) (d.eraseIdx k).length (flatHd (d.eraseIdx k)) ∧ Below w.heap.size w w' := by
  obtain ⟨i0, hi, hz0, hz1, hz2⟩ := info_parts info_hd
  have hcap : d.length ≤ cap ∧ cap ≤ maxLen := by
    rcases h.2 with ⟨e, _⟩ | ⟨g, cap', cur, e, _, _, h2, h3, _⟩
    · simp at e
    · simp only [Value.slice.injEq] at e
      obtain ⟨_, _, rfl⟩ := e
      exact ⟨h2, h3⟩
  have hg0 : g0 < w.heap.size := (h.lt g0 (by simp [Value.ownBlock])).2
  have hel : (d.eraseIdx k).length = k + (d.length - (k + 1)) := by rw [List.length_eraseIdx_of_lt hk]; omega
  have hn1 := owned_news h 0 (flatHd (d.take k)) (fun q u hq => by
    rw [flatHd_take d k (by omega)] at hq
    have hlt := (List.getElem?_eq_some_iff.mp hq).1
    rw [List.length_take] at hlt
    rw [List.getElem?_take_of_lt (by omega)] at hq
    rw [Nat.zero_add]; exact hq)
  have hn2 := owned_news h ((k + 1) * 5) (flatHd (d.drop (k + 1))) (fun q u hq => by
    rw [flatHd_drop d (k + 1) (by omega), List.getElem?_drop] at hq; exact hq)
  have hl1 : (flatHd (d.take k)).length = k * 5 := by rw [flatHd_len, List.length_take]; omega
  have hl2 : (flatHd (d.drop (k + 1))).length = (d.length - (k + 1)) * 5 := by rw [flatHd_len, List.length_drop]
  obtain ⟨n, hnl⟩ : ∃ n, n = d.length := ⟨_, rfl⟩
  have HE := Lib.hid hel
  have HN1 := Lib.hid hn1
  have HN2 := Lib.hid hn2
  have HL1 := Lib.hid hl1
  have HL2 := Lib.hid hl2
  have HER := Lib.hid (erase_flat d k)
  rw [← hnl] at HE HL2 hk hl hcap h ⊢
  have HG := Lib.hid hg0
  obtain ⟨hc1, hc2⟩ := hcap
  unfold maxLen at hc2
  clear hel hn1 hn2 hl1 hl2 hnl h hg0
  have hkk : (k : Int) + 1 ≤ (n : Int) := by omega
  have hkc : (k : Int) ≤ (cap : Int) := by omega
  have hkc2 : (k : Int) ≤ (k : Int) + 1 := by omega
  have hk02 : (0 : Int) ≤ (k : Int) + 1 := by omega
  have hkw : IntKind.i64.wrap ((k : Int) + 1) = ((k + 1 : Nat) : Int) := IntWalk.i64_in _ ⟨by omega, by omega⟩
  have hnc : n ≤ cap := hc1
  have hkn : k + 1 ≤ n := hk
  have b63 : 0 + k ≤ maxLen := by unfold maxLen; omega
  have b47 : (0 + k) * 40 ≤ 140737488355328 := by omega
  have d63 : k + (n - (k + 1)) ≤ maxLen := by unfold maxLen; omega
  have d47 : (k + (n - (k + 1))) * 40 ≤ 140737488355328 := by omega
  have HLit := Lib.hid (World.ownsRow_lit (e := 43) (size := 5) w #[] 0 (Nat.le_refl _) (by simp [maxLen]) rfl)
  have HA := Lib.hid (below_alloc1 w (.cells #[] 43))
  go_enter Tryz.func176, Tryz.ntmps176
  go_upto_region 1 with (fail)
  by_cases hcl : cap = k + 1
  · have HN3 := Lib.hid (show ∀ w', Below w.heap.size w w' → ∀ q u, (flatHd (d.drop (k + 1)))[q]? = some u → w'.cell? ((⟨g0, 0, none⟩ : Addr).add q) = some u from fun _ _ q u hq => by have h0 := (List.getElem?_eq_some_iff.mp hq).1; rw [HL2.out] at h0; omega)
    go_region_law (first
      | (refine step_append_any8 (by rfl) (.tmp 5) (.tmp 8) 28 (by rfl) w.heap.size 43 i0 (.agg #[.int .i64 0, .int .i64 0, .int .i64 0, .int .i64 0, .int .i64 0]) 5 40 Tryz.underlying28 hi hz0 hz1 hz2 rfl (by decide) (.slice (some ⟨w.heap.size, 0, none⟩) 0 0) 0 [] (by rfl) (owns_below HLit.out (by first | exact (Below.refl _ _) | exact (Below.refl _ _).drew | exact (Below.refl _ _).drew.drew | exact (Below.refl _ _).drew.drew.drew)) ⟨g0, 0, none⟩ k _ (flatHd (d.take k)) (by rfl) HL1.out (HN1.out _ (by first | exact HA.out | exact HA.out.drew | exact HA.out.drew.drew | exact HA.out.drew.drew.drew)) (flatHd_one _) b63 b47 (by simp) ?_; intro v1 w1 hown1 hgrow1; have hb1 : Below w.heap.size w w1 := Below.grown (by first | exact HA.out | exact HA.out.drew | exact HA.out.drew.drew | exact HA.out.drew.drew.drew) hgrow1 (by simp) (fun q hq => by simp [Value.ownBlock] at hq; omega); simp only [Nat.zero_add, List.nil_append] at hown1; obtain ⟨a1, c1, rfl⟩ := owns_shape hown1; have HB1 := Lib.hid hb1; have HO1 := Lib.hid hown1; clear hb1 hown1 hgrow1)
      | (refine step_append_any8 (by rfl) (.tmp 9) (.tmp 13) 28 (by rfl) w.heap.size 43 i0 (.agg #[.int .i64 0, .int .i64 0, .int .i64 0, .int .i64 0, .int .i64 0]) 5 40 Tryz.underlying28 hi hz0 hz1 hz2 rfl (by decide) (.slice a1 k c1) k (flatHd (d.take k)) (by rfl) (owns_below HO1.out (by first | exact (Below.refl _ _) | exact (Below.refl _ _).drew | exact (Below.refl _ _).drew.drew | exact (Below.refl _ _).drew.drew.drew)) ⟨g0, 0, none⟩ (n - (k + 1)) _ (flatHd (d.drop (k + 1))) (by rfl) HL2.out (HN3.out _ (by first | exact HB1.out | exact HB1.out.drew | exact HB1.out.drew.drew | exact HB1.out.drew.drew.drew)) (flatHd_one _) d63 d47 (Nat.le_trans HB1.out.size (by simp)) ?_; intro v2 w2 hown2 hgrow2; have hb2 : Below w.heap.size w w2 := Below.grown (by first | exact HB1.out | exact HB1.out.drew | exact HB1.out.drew.drew | exact HB1.out.drew.drew.drew) hgrow2 (Nat.le_trans HB1.out.size (by simp)) (fun q hq => (HO1.out.lt q hq).1); obtain ⟨a2, c2, rfl⟩ := owns_shape hown2; have HB2 := Lib.hid hb2; have HO2 := Lib.hid hown2; clear hb2 hown2 hgrow2))
    all_goals
      go_wp2
      go_ret
      exact ⟨a2, c2, by rw [HE.out]; rfl, by rw [HE.out, ← HER.out]; exact (by first | exact HO2.out | exact owns_below HO2.out (Below.refl _ _).drew), (by first | exact HB2.out | exact HB2.out.drew)⟩
  · go_region_law (first
      | (refine step_append_any8 (by rfl) (.tmp 5) (.tmp 8) 28 (by rfl) w.heap.size 43 i0 (.agg #[.int .i64 0, .int .i64 0, .int .i64 0, .int .i64 0, .int .i64 0]) 5 40 Tryz.underlying28 hi hz0 hz1 hz2 rfl (by decide) (.slice (some ⟨w.heap.size, 0, none⟩) 0 0) 0 [] (by rfl) (owns_below HLit.out (by first | exact (Below.refl _ _) | exact (Below.refl _ _).drew | exact (Below.refl _ _).drew.drew | exact (Below.refl _ _).drew.drew.drew)) ⟨g0, 0, none⟩ k _ (flatHd (d.take k)) (by rfl) HL1.out (HN1.out _ (by first | exact HA.out | exact HA.out.drew | exact HA.out.drew.drew | exact HA.out.drew.drew.drew)) (flatHd_one _) b63 b47 (by simp) ?_; intro v1 w1 hown1 hgrow1; have hb1 : Below w.heap.size w w1 := Below.grown (by first | exact HA.out | exact HA.out.drew | exact HA.out.drew.drew | exact HA.out.drew.drew.drew) hgrow1 (by simp) (fun q hq => by simp [Value.ownBlock] at hq; omega); simp only [Nat.zero_add, List.nil_append] at hown1; obtain ⟨a1, c1, rfl⟩ := owns_shape hown1; have HB1 := Lib.hid hb1; have HO1 := Lib.hid hown1; clear hb1 hown1 hgrow1)
      | (refine step_append_any8 (by rfl) (.tmp 9) (.tmp 13) 28 (by rfl) w.heap.size 43 i0 (.agg #[.int .i64 0, .int .i64 0, .int .i64 0, .int .i64 0, .int .i64 0]) 5 40 Tryz.underlying28 hi hz0 hz1 hz2 rfl (by decide) (.slice a1 k c1) k (flatHd (d.take k)) (by rfl) (owns_below HO1.out (by first | exact (Below.refl _ _) | exact (Below.refl _ _).drew | exact (Below.refl _ _).drew.drew | exact (Below.refl _ _).drew.drew.drew)) ⟨g0, (k + 1) * 5, none⟩ (n - (k + 1)) _ (flatHd (d.drop (k + 1))) (by rfl) HL2.out (HN2.out _ (by first | exact HB1.out | exact HB1.out.drew | exact HB1.out.drew.drew | exact HB1.out.drew.drew.drew)) (flatHd_one _) d63 d47 (Nat.le_trans HB1.out.size (by simp)) ?_; intro v2 w2 hown2 hgrow2; have hb2 : Below w.heap.size w w2 := Below.grown (by first | exact HB1.out | exact HB1.out.drew | exact HB1.out.drew.drew | exact HB1.out.drew.drew.drew) hgrow2 (Nat.le_trans HB1.out.size (by simp)) (fun q hq => (HO1.out.lt q hq).1); obtain ⟨a2, c2, rfl⟩ := owns_shape hown2; have HB2 := Lib.hid hb2; have HO2 := Lib.hid hown2; clear hb2 hown2 hgrow2))
    all_goals
      go_wp2
      go_ret
      exact ⟨a2, c2, by rw [HE.out]; rfl, by rw [HE.out, ← HER.out]; exact (by first | exact HO2.out | exact owns_below HO2.out (Below.refl _ _).drew), (by first | exact HB2.out | exact HB2.out.drew)⟩
end Go.Proofs.YtjfckchoklepbaaGreat

namespace Go.Proofs.YtjfckchoklepbaaGreat
open Go.RowKit

theorem st_at {w : World} {ua : Option Addr} {m uc : Nat} {l : List St} (h : RdN w (.slice ua m uc) l.length (flatSt l)) {k : Nat} (hk : k < l.length) : ∃ b off, ua = some ⟨b, off, none⟩ ∧ b < w.heap.size ∧
    w.cell? ⟨b, off + k * 3, none⟩ = some (.int .i64 (stD l k).k) ∧ w.cell? ⟨b, off + k * 3 + 1, none⟩ = some (.int .i64 (stD l k).c) ∧ w.cell? ⟨b, off + k * 3 + 2, none⟩ = some (.int .i64 (stD l k).m) := by
  rcases rd_sts (l := l) h with ⟨rfl, _⟩ | ⟨b, off, cap, _, hs, hlt, hc⟩
  · simp at hk
  · obtain ⟨rfl, _, _⟩ := by simpa using hs
    exact ⟨b, off, rfl, hlt, hc k hk⟩
theorem specWithout_n (B n i : Nat) (a : Option Addr) (cap : Nat) (d : List Hd) (w : World) (hn : n = d.length) (hk : i < d.length) (hl : d.length ≤ 1048576) (h : w.ownsRow B 43 5 (.slice a n cap) n (flatHd d)) :
    Calls Tryz.prog 176 #[.slice a n cap, .int .i64 i] w fun e w' => ∃ a c, e = .returned (.slice a (d.eraseIdx i).length c) ∧ w'.ownsRow w.heap.size 43 5 (.slice a (d.eraseIdx i).length c) (d.eraseIdx i).length (flatHd (d.eraseIdx i)) ∧ Below w.heap.size w w' := by
  subst hn
  have h2 := h
  rcases h.2 with ⟨e, e2⟩ | ⟨g, cap', cur, e, _⟩
  · omega
  · simp only [Value.slice.injEq] at e
    obtain ⟨rfl, _, rfl⟩ := e
    exact specWithout_any B g cap d i w hk hl h2
theorem nxS_zero {d : List Hd} {x : St} (h : x.k = 0) : nxS d x = d := by rw [nxS, if_neg (by omega), if_neg (by omega)]
theorem nxS_one {d : List Hd} {x : St} (h : x.k = 1) : nxS d x = d ++ [stA x] := by rw [nxS, if_pos h]
theorem nxS_two {d : List Hd} {x : St} (h : x.k = 2) : nxS d x = d.eraseIdx (fiH d x) := by rw [nxS, if_neg (by omega), if_pos h]

set_option maxRecDepth 100000 in
set_option maxHeartbeats 8000000 in
theorem specIsMacro_any (v : Value) (l : List St) (w : World) (hn : l.length ≤ 1048576) (h : RdN w v l.length (flatSt l)) :
    Calls Tryz.prog 169 #[v] w fun e w' => e = .returned (.bool (okMc l)) ∧ Below w.heap.size w w' := by
  obtain ⟨i0, hi, hz0, hz1, hz2⟩ := info_parts info_hd
  obtain ⟨r, hr⟩ : ∃ r, r = okMc l := ⟨_, rfl⟩
  rw [← hr]
  have HR := Lib.hid hr
  obtain ⟨a, cap, rfl⟩ := RdN.shape h
  obtain ⟨n, hnl⟩ : ∃ n, n = l.length := ⟨_, rfl⟩
  have HNL := Lib.hid hnl
  have H := Lib.hid h
  have hn2 : n ≤ 1048576 := by rw [hnl]; exact hn
  rw [← hnl]
  clear hr h hnl hn
  go_enter Tryz.func169, Tryz.ntmps169
  go_upto_region 2 with (fail)
  obtain ⟨W, hW⟩ : ∃ W, W = w.alloc (.cells #[] 43) := ⟨_, rfl⟩
  obtain ⟨g0, hg0⟩ : ∃ x, x = w.heap.size := ⟨_, rfl⟩
  have hB0 : Below w.heap.size w W := by rw [hW]; exact below_alloc1 _ _
  have hO0 : W.ownsRow w.heap.size 43 5 (.slice (some ⟨g0, 0, none⟩) (dwN l 0).length 0) (dwN l 0).length (flatHd (dwN l 0)) := by
    rw [hW, hg0]; exact World.ownsRow_lit (e := 43) (size := 5) w #[] 0 (Nat.le_refl _) (by simp [maxLen]) rfl
  have HB0 := Lib.hid hB0
  have HO0 := Lib.hid hO0
  rw [← hW, ← hg0]
  clear hW hg0 hB0 hO0
  go_wp2
  go_loopw [3, 4, 5, 6] (fun dn i _ _ wr => ∃ (j : Nat) (a : Option Addr) (c : Nat), j ≤ n ∧ i = .int .i64 j ∧ mcN l j = true ∧ dn = .slice a (dwN l j).length c ∧ wr.ownsRow w.heap.size 43 5 (.slice a (dwN l j).length c) (dwN l j).length (flatHd (dwN l j)) ∧ Below w.heap.size w wr) (fun _ i _ _ _ => n - (intOf i).toNat)
  case atStart => exact ⟨0, _, _, Nat.zero_le _, rfl, rfl, rfl, HO0.out, HB0.out⟩
  case round =>
    obtain ⟨j, da, dc, hj, rfl, hmc, rfl, ho, hb⟩ := hrel
    have HMC := Lib.hid hmc
    have HO := Lib.hid ho
    have HB := Lib.hid hb
    by_cases hlt' : j < n
    · have hjz : j < l.length := by rw [← HNL.out]; exact hlt'
      obtain ⟨b, off, rfl, hlt, s0, s1, s2⟩ := st_at H.out hjz
      have e0 := (hb.cell (p := ⟨b, off + j * 3, none⟩) hlt).trans s0
      have e1 := (hb.cell (p := ⟨b, off + j * 3 + 1, none⟩) hlt).trans s1
      have e2 := (hb.cell (p := ⟨b, off + j * 3 + 2, none⟩) hlt).trans s2
      have hdl := dwN_len l j
      have hbad : okX (dwN l j) (stD l j) = false → r = false := fun h0 => by rw [HR.out, okMc, mcN_no h0 _ hjz]; rfl
      have hnx : okX (dwN l j) (stD l j) = true → mcN l (j + 1) = true := fun h0 => by rw [mcN, HMC.out, h0]; rfl
      have hdw : dwN l (j + 1) = nxS (dwN l j) (stD l j) := rfl
      obtain ⟨d, hd⟩ : ∃ d, d = dwN l j := ⟨_, rfl⟩
      obtain ⟨x, hx⟩ : ∃ x, x = stD l j := ⟨_, rfl⟩
      rw [← hd, ← hx] at hbad hnx hdw
      rw [← hd] at HO hdl ⊢
      rw [← hx] at e0 e1 e2
      have hfc := fiI_cases d x
      obtain ⟨k, c, m⟩ := x
      simp only at e0 e1 e2
      obtain ⟨fi, hfi⟩ : ∃ t, t = fiI d ⟨k, c, m⟩ := ⟨_, rfl⟩
      obtain ⟨fn, hfn⟩ : ∃ t, t = fiH d ⟨k, c, m⟩ := ⟨_, rfl⟩
      rw [← hfi, ← hfn] at hfc
      obtain ⟨V, hV⟩ : ∃ V, V = inB k 0 2 := ⟨_, rfl⟩
      obtain ⟨vo, hvo⟩ : ∃ vo, vo = okAc 2 c m 0 := ⟨_, rfl⟩
      have hokx : okX d ⟨k, c, m⟩ = (V && (vo && (decide (k = 2) == decide (0 ≤ fi)))) := by rw [hV, hvo, hfi]; rfl
      have hz : k = 0 → dwN l (j + 1) = d := fun e => by rw [hdw]; exact nxS_zero e
      have ho1 : k = 1 → dwN l (j + 1) = d ++ [⟨0, 2, c, m, 0⟩] := fun e => by rw [hdw]; exact nxS_one e
      have ht : k = 2 → dwN l (j + 1) = d.eraseIdx fn := fun e => by rw [hdw, hfn]; exact nxS_two e
      rw [hokx] at hbad hnx
      have HZ := Lib.hid hz
      have HO1 := Lib.hid ho1
      have HT := Lib.hid ht
      have HBad := Lib.hid hbad
      have HNx := Lib.hid hnx
      have HFC := Lib.hid hfc
      have HFI := Lib.hid hfi
      have HV := Lib.hid hV
      have HVO := Lib.hid hvo
      have HDL := Lib.hid hdl
      clear hz ho1 ht hbad hnx hfc hfi hfn hV hvo hdl hokx hdw s0 s1 s2 hd hx ho hb hmc HMC
      go_upto_region 6 with (fail)
      obtain ⟨U, hU⟩ : ∃ U, U = wr.alloc (.cells #[.int .i64 k, .int .i64 c, .int .i64 m] 182) := ⟨_, rfl⟩
      obtain ⟨g, hg⟩ : ∃ g, g = wr.heap.size := ⟨_, rfl⟩
      have hbx : Bxd U g [.int .i64 k, .int .i64 c, .int .i64 m] := by rw [hU, hg]; exact Bxd.new _ _ _
      have hu : Below wr.heap.size wr U := by rw [hU]; exact below_alloc1 _ _
      have hgs : g < U.heap.size := by rw [hU, hg]; simp
      rw [← hU, ← hg]
      have HXU := Lib.hid hbx
      have HBU := Lib.hid (HB.out.trans (hu.mono HB.out.size))
      have HGS := Lib.hid hgs
      have HOU := Lib.hid (owns_below HO.out hu)
      clear hU hg hbx hu hgs e0 e1 e2
      have a0 := HXU.out.at 0 _ rfl
      have a1 := HXU.out.at 1 _ rfl
      have a2 := HXU.out.at 2 _ rfl
      go_wp2_with fail
      refine (specFind_q _ d k c m fi HFI.out _ (by have := HDL.out; unfold maxLen; omega) (RdN.of_owns HOU.out)).mono ?_
      rintro e w1 ⟨rfl, hb1⟩
      have HB1 := Lib.hid (HBU.out.trans (hb1.mono HBU.out.size))
      have HX1 := Lib.hid (HXU.out.below hb1 HGS.out)
      have HG1 := Lib.hid (Nat.lt_of_lt_of_le HGS.out hb1.size)
      have HP1 := Lib.hid (owns_below HOU.out hb1)
      clear hb1 a0 a1 a2
      have a0 := HX1.out.at 0 _ rfl
      have a1 := HX1.out.at 1 _ rfl
      have a2 := HX1.out.at 2 _ rfl
      go_wp2_with fail
      refine (inB_any k 0 2 _).mono ?_
      rw [← HV.out]
      rintro e w9 ⟨rfl, rfl⟩
      cases V
      · obtain rfl : r = false := HBad.out rfl
        go_wp2
        go_ret
        exact ⟨rfl, HB1.out⟩
      · have hk : 0 ≤ k ∧ k ≤ 2 := of_decide_eq_true HV.out.symm
        go_wp2_with fail
        refine (specL8Action_any k c m _).mono ?_
        rintro e w2 ⟨rfl, hb2⟩
        have HB2 := Lib.hid (HB1.out.trans (hb2.mono HB1.out.size))
        have HX2 := Lib.hid (HX1.out.below hb2 HG1.out)
        have HG2 := Lib.hid (Nat.lt_of_lt_of_le HG1.out hb2.size)
        have HP2 := Lib.hid (owns_below HP1.out hb2)
        clear hb2 a0 a1 a2
        go_wp2_with fail
        refine (specIsAction_q 2 c m 0 vo HVO.out _).mono ?_
        rintro e w3 ⟨rfl, hb3⟩
        have HB3 := Lib.hid (HB2.out.trans (hb3.mono HB2.out.size))
        have HX3 := Lib.hid (HX2.out.below hb3 HG2.out)
        have HG3 := Lib.hid (Nat.lt_of_lt_of_le HG2.out hb3.size)
        have HP3 := Lib.hid (owns_below HP2.out hb3)
        clear hb3
        have a0 := HX3.out.at 0 _ rfl
        have a1 := HX3.out.at 1 _ rfl
        have a2 := HX3.out.at 2 _ rfl
        cases vo
        · obtain rfl : r = false := HBad.out rfl
          go_wp2
          go_ret
          exact ⟨rfl, HB3.out⟩
        · rcases HFC.out with ⟨rfl, hfl⟩ | ⟨rfl, hfl⟩
          · rcases (show k = 0 ∨ k = 1 ∨ k = 2 by omega) with rfl | rfl | rfl
            · have HM := Lib.hid (HNx.out (by simp))
              have HD := Lib.hid (HZ.out rfl)
              clear hk hfl
              go_wp2
              go_roundw
              case rel => exact ⟨j + 1, da, dc, by omega, by go_num, HM.out, by rw [HD.out], by rw [HD.out]; exact HP3.out, HB3.out⟩
              case measure => simp [intOf]; omega
            · have HM := Lib.hid (HNx.out (by simp))
              have HD := Lib.hid (HO1.out rfl)
              clear hk hfl
              go_wp2_with fail
              refine (specL8Action_any 1 c m _).mono ?_
              rintro e w4 ⟨rfl, hb4⟩
              have HB4 := Lib.hid (HB3.out.trans (hb4.mono HB3.out.size))
              have HP4 := Lib.hid (owns_below HP3.out hb4)
              have b63 : d.length + 1 ≤ maxLen := by have := HDL.out; unfold maxLen; omega
              have b47 : (d.length + 1) * 40 ≤ 140737488355328 := by have := HDL.out; omega
              have hws : w.heap.size ≤ w4.heap.size := HB4.out.size
              clear hb4 a0 a1 a2
              go_wp2_with (at_builtin; refine wpList_append_own _ rfl _ _ 28 rfl w.heap.size 43 i0 (.agg #[.int .i64 0, .int .i64 0, .int .i64 0, .int .i64 0, .int .i64 0]) 5 40 Tryz.underlying28 hi hz0 hz1 hz2 rfl (by decide) _ _ _ rfl (HP4.out.alloc _) ⟨w4.heap.size, 0, none⟩ 1 1 [.int .i64 0, .int .i64 2, .int .i64 c, .int .i64 m, .int .i64 0] rfl rfl ?c1 ?c2 b63 b47 ?c5 ?_)
              case c1 => exact World.news_of_block (cs := #[.int .i64 0, .int .i64 2, .int .i64 c, .int .i64 m, .int .i64 0]) (t := 43) (fr := (0, 0)) (heap_alloc_new w4 _)
              case c2 => intro u hu; simp at hu; rcases hu with rfl | rfl | rfl | rfl | rfl <;> rfl
              case c5 => simp; omega
              · intro v' w7 hown1 hgrow _
                obtain ⟨a', c', rfl⟩ := owns_shape hown1
                have HB7 := Lib.hid ((HB4.out.alloc hws (.cells #[.int .i64 0, .int .i64 2, .int .i64 c, .int .i64 m, .int .i64 0] 43)).grown hgrow (by simp; omega) (fun q hq => (HP4.out.lt q hq).1))
                have hlen : (d ++ [(⟨0, 2, c, m, 0⟩ : Hd)]).length = d.length + 1 := by simp
                have HO7 := Lib.hid (show w7.ownsRow w.heap.size 43 5 (.slice a' (d.length + 1) c') (d.length + 1) (flatHd (d ++ [(⟨0, 2, c, m, 0⟩ : Hd)])) by rw [flatHd_snoc]; exact hown1)
                have HLen := Lib.hid hlen
                clear hown1 hgrow hlen b63 b47 hws
                go_wp2
                go_roundw
                case rel => exact ⟨j + 1, a', c', by omega, by go_num, HM.out, by rw [HD.out, HLen.out], by rw [HD.out, HLen.out]; exact HO7.out, HB7.out⟩
                case measure => simp [intOf]; omega
            · obtain rfl : r = false := HBad.out (by simp)
              go_wp2
              go_ret
              exact ⟨rfl, HB3.out⟩
          · have hge : (0 : Int) ≤ (fn : Int) := Int.natCast_nonneg _
            rcases (show k = 0 ∨ k = 1 ∨ k = 2 by omega) with rfl | rfl | rfl
            · obtain rfl : r = false := HBad.out (by simp [hge])
              go_wp2
              go_ret
              exact ⟨rfl, HB3.out⟩
            · obtain rfl : r = false := HBad.out (by simp [hge])
              go_wp2
              go_ret
              exact ⟨rfl, HB3.out⟩
            · have HM := Lib.hid (HNx.out (by simp [hge]))
              have HD := Lib.hid (HT.out rfl)
              have HFL := Lib.hid hfl
              clear hk hfl
              go_wp2_with fail
              refine (specWithout_n w.heap.size d.length fn _ _ d _ rfl HFL.out (by have := HDL.out; omega) HP3.out).mono ?_
              rintro e w4 ⟨a', c', rfl, ho4, hb4⟩
              have HB4 := Lib.hid (HB3.out.trans (hb4.mono HB3.out.size))
              have HO4 := Lib.hid (owns_base ho4 HB3.out.size)
              clear hb4 ho4 a0 a1 a2
              go_wp2
              go_roundw
              case rel => exact ⟨j + 1, a', c', by omega, by go_num, HM.out, by rw [HD.out], by rw [HD.out]; exact HO4.out, HB4.out⟩
              case measure => simp [intOf]; omega
    · obtain rfl : j = n := by omega
      have hres : r = (decide ((j : Int) ≤ 8) && decide ((dwN l j).length = 0)) := by rw [HR.out, okMc, ← HNL.out, HMC.out, Bool.true_and]
      obtain ⟨D, hD⟩ : ∃ D, D = (dwN l j).length := ⟨_, rfl⟩
      rw [← hD] at hres ⊢
      have HRes := Lib.hid hres
      clear hres hD ho hb hmc
      by_cases h8 : (j : Int) ≤ 8
      · by_cases h0 : D = 0
        · subst h0
          go_wp2
          go_ret
          exact ⟨ret_bool (by rw [HRes.out]; simp [h8]), HB.out⟩
        · have b0 : ((D : Int) == 0) = false := by simp; omega
          go_wp2
          go_ret
          exact ⟨ret_bool (by rw [HRes.out]; simp [h0]), HB.out⟩
      · have b8 : decide ((j : Int) ≤ 8) = false := decide_eq_false h8
        go_wp2
        go_ret
        exact ⟨ret_bool (by rw [HRes.out, decide_eq_false (show ¬ (j : Int) ≤ 8 by omega)]; rfl), HB.out⟩

end Go.Proofs.YtjfckchoklepbaaGreat
