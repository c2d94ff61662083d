/- DERIVED. The reference's l11Copy; the program's Clone at combinations and at what is active; NewCombiner of both. -/
import Derived.Test.YtagmdkblcgnddaaCnFn
import Derived.Test.YtagmdkblcgnddaaAppRd
import Derived.Test.YtagmdkblcgnddaaCnSpec2
import Derived.Test.YtagmdkblcgnddaaCnImpl2
import Derived.ShutString
namespace Go.Proofs.Ytagmdkblcgnddaa
open Go.RowKit

/-- Worlds on the way of a copy: the combiner's box, the result's box (still empty) and the copy's box, at g, g + 1, g + 1 + 1. -/
structure CqW (w W : World) (g : Nat) (ce co : Array Value) : Prop where
  hx : W.heap[g]? = some (.cells ce 28 (0, 0))
  hr : W.heap[g + 1]? = some (.cells #[.slice none 0 0, .int .i64 0, .slice none 0 0, .int .i64 0, .int .i64 0, .int .i64 0, .slice none 0 0] 28 (0, 0))
  ho : W.heap[g + 1 + 1]? = some (.cells co 28 (0, 0))
  hb : Below w.heap.size w W
  hg : g = w.heap.size
theorem CqW.lt {w W : World} {g : Nat} {ce co : Array Value} (h : CqW w W g ce co) : g + 1 + 1 < W.heap.size := (Array.getElem?_eq_some_iff.mp h.ho).1
theorem CqW.below {w W W' : World} {g : Nat} {ce co : Array Value} (h : CqW w W g ce co) (hb : Below W.heap.size W W') : CqW w W' g ce co :=
  ⟨blk_below h.hx hb, blk_below h.hr hb, blk_below h.ho hb, h.hb.trans (hb.mono h.hb.size), h.hg⟩
theorem CqW.set {w W : World} {g : Nat} {ce co : Array Value} (h : CqW w W g ce co) (i : Nat) (v : Value) : CqW w (W.setCell ⟨g + 1 + 1, i, none⟩ v) g ce (co.setIfInBounds i v) :=
  ⟨(Below.heap_setCell W ⟨g + 1 + 1, i, none⟩ v g (show g ≠ g + 1 + 1 by omega)).trans h.hx, (Below.heap_setCell W ⟨g + 1 + 1, i, none⟩ v (g + 1) (show g + 1 ≠ g + 1 + 1 by omega)).trans h.hr, heap_setCell_same W (g + 1 + 1) i co _ v h.ho, h.hb.setCell (show w.heap.size ≤ g + 1 + 1 by have := h.hg; omega) v, h.hg⟩

set_option maxRecDepth 100000 in
set_option maxHeartbeats 4000000 in
theorem cloneCb_any (v : Value) (l : List Cb) (w : World) (hl : l.length ≤ 1048576) (h : RdN w v l.length (flatCb l)) :
    Calls Try.prog 69 #[v] w fun e w' => ∃ a c, e = .returned (.slice a l.length c) ∧ w'.ownsRow w.heap.size 94 2 (.slice a l.length c) l.length (flatCb l) ∧ Below w.heap.size w w' := by
  obtain ⟨i0, hi, hz0, hz1, hz2⟩ := info_parts info_cb
  obtain ⟨xa, cap, rfl⟩ := rdN_shape h
  have qT : ∀ (w : World) (a : Option Addr) (n c n' c' : Nat), (Go.binOp .eql 24 (.slice a n c) (.slice none n' c')).run Try.prog w = .ok (.bool a.isNone) w := fun w a n c n' c' => Lib.run_eql_slice_nil w _ _ a n c n' c' Try.underlying24
  obtain ⟨n, hn⟩ : ∃ n, n = l.length := ⟨_, rfl⟩
  have HN := Lib.hid hn
  have H := Lib.hid (show RdN w (.slice xa n cap) n (flatCb l) by rw [hn]; exact h)
  rw [← hn] at hl ⊢
  clear hn h
  rcases xa with _ | ad
  · obtain rfl : n = 0 := by
      obtain ⟨a, c, hv, hh⟩ := H.out
      rcases hh with h0 | ⟨b, off, ha, _⟩
      · exact h0
      · rw [ha] at hv; simp at hv
    obtain rfl : l = [] := List.eq_nil_of_length_eq_zero HN.out.symm
    clear H hi hz0 hz1 hz2
    go_enter Try.func69, Try.ntmps69
    go_wp2
    go_ret
    exact ⟨none, 0, rfl, World.ownsRow_nil _ _ _ _, Below.refl _ _⟩
  · have HL := Lib.hid (show (flatCb l).length = n * 2 by rw [flatCb_len, HN.out])
    have HA := Lib.hid (below_alloc1 w (.cells #[] 94))
    have b63 : 0 + n ≤ maxLen := by unfold maxLen; omega
    have b47 : (0 + n) * 16 ≤ 140737488355328 := by omega
    go_enter Try.func69, Try.ntmps69
    go_wp2_with (at_builtin; refine wpList_append_rd (by rfl) (.tmp 5) (.tmp 6) 24 (by rfl) w.heap.size 94 i0 (.agg #[.int .i64 0, .int .i64 0]) 2 16 Try.underlying24 hi hz0 hz1 hz2 rfl (by decide) (.slice (some ⟨w.heap.size, 0, none⟩) 0 0) 0 [] (by rfl) (World.ownsRow_lit (e := 94) (size := 2) w #[] 0 (by simp) (by simp [maxLen]) rfl) (.slice (some ad) n cap) n (flatCb l) (by rfl) (H.out.below HA.out) HL.out (flatCb_one _) b63 b47 (by simp) ?_)
    intro v1 w1 hown hgrow
    obtain ⟨a1, c1, rfl⟩ := owns_shape hown
    try simp only [Nat.zero_add, List.nil_append] at hown
    try simp only [Nat.zero_add]
    have HB1 := Lib.hid (show Below w.heap.size w w1 from HA.out.grown hgrow (by simp) (fun q hq => by simp [Value.ownBlock] at hq; omega))
    have HO1 := Lib.hid hown
    clear hown hgrow b63 b47
    go_wp2
    go_ret
    exact ⟨a1, c1, rfl, HO1.out, HB1.out⟩

set_option maxRecDepth 100000 in
set_option maxHeartbeats 4000000 in
theorem cloneAv_any (v : Value) (l : List Av) (w : World) (hl : l.length ≤ 1048576) (h : RdN w v l.length (flatAv l)) :
    Calls Try.prog 70 #[v] w fun e w' => ∃ a c, e = .returned (.slice a l.length c) ∧ w'.ownsRow w.heap.size 97 3 (.slice a l.length c) l.length (flatAv l) ∧ Below w.heap.size w w' := by
  obtain ⟨i0, hi, hz0, hz1, hz2⟩ := info_parts info_av
  obtain ⟨xa, cap, rfl⟩ := rdN_shape h
  have qT : ∀ (w : World) (a : Option Addr) (n c n' c' : Nat), (Go.binOp .eql 26 (.slice a n c) (.slice none n' c')).run Try.prog w = .ok (.bool a.isNone) w := fun w a n c n' c' => Lib.run_eql_slice_nil w _ _ a n c n' c' Try.underlying26
  obtain ⟨n, hn⟩ : ∃ n, n = l.length := ⟨_, rfl⟩
  have HN := Lib.hid hn
  have H := Lib.hid (show RdN w (.slice xa n cap) n (flatAv l) by rw [hn]; exact h)
  rw [← hn] at hl ⊢
  clear hn h
  rcases xa with _ | ad
  · obtain rfl : n = 0 := by
      obtain ⟨a, c, hv, hh⟩ := H.out
      rcases hh with h0 | ⟨b, off, ha, _⟩
      · exact h0
      · rw [ha] at hv; simp at hv
    obtain rfl : l = [] := List.eq_nil_of_length_eq_zero HN.out.symm
    clear H hi hz0 hz1 hz2
    go_enter Try.func70, Try.ntmps70
    go_wp2
    go_ret
    exact ⟨none, 0, rfl, World.ownsRow_nil _ _ _ _, Below.refl _ _⟩
  · have HL := Lib.hid (show (flatAv l).length = n * 3 by rw [flatAv_len, HN.out])
    have HA := Lib.hid (below_alloc1 w (.cells #[] 97))
    have b63 : 0 + n ≤ maxLen := by unfold maxLen; omega
    have b47 : (0 + n) * 24 ≤ 140737488355328 := by omega
    go_enter Try.func70, Try.ntmps70
    go_wp2_with (at_builtin; refine wpList_append_rd (by rfl) (.tmp 5) (.tmp 6) 26 (by rfl) w.heap.size 97 i0 (.agg #[.int .i64 0, .int .i64 0, .bool false]) 3 24 Try.underlying26 hi hz0 hz1 hz2 rfl (by decide) (.slice (some ⟨w.heap.size, 0, none⟩) 0 0) 0 [] (by rfl) (World.ownsRow_lit (e := 97) (size := 3) w #[] 0 (by simp) (by simp [maxLen]) rfl) (.slice (some ad) n cap) n (flatAv l) (by rfl) (H.out.below HA.out) HL.out (flatAv_one _) b63 b47 (by simp) ?_)
    intro v1 w1 hown hgrow
    obtain ⟨a1, c1, rfl⟩ := owns_shape hown
    try simp only [Nat.zero_add, List.nil_append] at hown
    try simp only [Nat.zero_add]
    have HB1 := Lib.hid (show Below w.heap.size w w1 from HA.out.grown hgrow (by simp) (fun q hq => by simp [Value.ownBlock] at hq; omega))
    have HO1 := Lib.hid hown
    clear hown hgrow b63 b47
    go_wp2
    go_ret
    exact ⟨a1, c1, rfl, HO1.out, HB1.out⟩

set_option maxRecDepth 100000 in
set_option maxHeartbeats 8000000 in
theorem specCopyC_any (c : Cn) (u1 u2 u3 : Value) (w : World) (hs : CnSz c) (h : RdCn w c u1 u2 u3) :
    Calls Try.prog 109 #[c.val u1 u2 u3] w (CnO c w) := by
  obtain ⟨i0, hi, hz0, hz1, hz2⟩ := info_parts info_cb
  obtain ⟨i1, hI1, hy0, hy1, hy2⟩ := info_parts info_ev
  obtain ⟨i2, hI2, hx0, hx1, hx2⟩ := info_parts info_av
  obtain ⟨h1, h2, h3⟩ := h
  obtain ⟨a1, c1, rfl⟩ := rdN_shape h1
  obtain ⟨a2, c2, rfl⟩ := rdN_shape h2
  obtain ⟨a3, c3, rfl⟩ := rdN_shape h3
  obtain ⟨nC, hnC⟩ : ∃ n, n = c.C.length := ⟨_, rfl⟩
  obtain ⟨nQ, hnQ⟩ : ∃ n, n = c.Q.length := ⟨_, rfl⟩
  obtain ⟨nA, hnA⟩ : ∃ n, n = c.A.length := ⟨_, rfl⟩
  have hsC := hs.c
  have hsQ := hs.q
  have hsA := hs.a
  rw [← hnC] at hsC
  rw [← hnQ] at hsQ
  rw [← hnA] at hsA
  obtain ⟨g, hg⟩ : ∃ g, g = w.heap.size := ⟨_, rfl⟩
  obtain ⟨U, hU⟩ : ∃ U, U = ((w.alloc (.cells #[.slice a1 nC c1, .int .i64 c.t, .slice a2 nQ c2, .int .i64 c.n, .int .i64 c.k, .int .i64 c.d, .slice a3 nA c3] 28)).alloc (.cells #[.slice none 0 0, .int .i64 0, .slice none 0 0, .int .i64 0, .int .i64 0, .int .i64 0, .slice none 0 0] 28)).alloc (.cells #[.slice a1 nC c1, .int .i64 c.t, .slice a2 nQ c2, .int .i64 c.n, .int .i64 c.k, .int .i64 c.d, .slice a3 nA c3] 28) := ⟨_, rfl⟩
  have k0 : CqW w U g #[.slice a1 nC c1, .int .i64 c.t, .slice a2 nQ c2, .int .i64 c.n, .int .i64 c.k, .int .i64 c.d, .slice a3 nA c3] #[.slice a1 nC c1, .int .i64 c.t, .slice a2 nQ c2, .int .i64 c.n, .int .i64 c.k, .int .i64 c.d, .slice a3 nA c3] := by
    rw [hU, hg]
    refine ⟨?_, ?_, ?_, ?_, rfl⟩
    · rw [Below.heap_alloc _ _ _ (by simp; omega), Below.heap_alloc _ _ _ (by simp)]; exact heap_alloc_new w _
    · rw [Below.heap_alloc _ _ _ (by simp)]; simpa using heap_alloc_new (w.alloc (.cells #[.slice a1 nC c1, .int .i64 c.t, .slice a2 nQ c2, .int .i64 c.n, .int .i64 c.k, .int .i64 c.d, .slice a3 nA c3] 28)) _
    · simpa using heap_alloc_new ((w.alloc (.cells #[.slice a1 nC c1, .int .i64 c.t, .slice a2 nQ c2, .int .i64 c.n, .int .i64 c.k, .int .i64 c.d, .slice a3 nA c3] 28)).alloc (.cells #[.slice none 0 0, .int .i64 0, .slice none 0 0, .int .i64 0, .int .i64 0, .int .i64 0, .slice none 0 0] 28)) _
    · exact (((Below.refl _ _).alloc (Nat.le_refl _) _).alloc (by simp) _).alloc (by simp; omega) _
  have HU := Lib.hid hU
  have HG := Lib.hid hg
  have HNC := Lib.hid hnC
  have HNQ := Lib.hid hnQ
  have HNA := Lib.hid hnA
  have HLC := Lib.hid (show (flatCb c.C).length = nC * 2 by rw [flatCb_len, ← hnC])
  have HLQ := Lib.hid (show (flatEv c.Q).length = nQ * 3 by rw [flatEv_len, ← hnQ])
  have HLA := Lib.hid (show (flatAv c.A).length = nA * 3 by rw [flatAv_len, ← hnA])
  have H1 := Lib.hid (show RdN w (.slice a1 nC c1) nC (flatCb c.C) by rw [hnC]; exact h1)
  have H2 := Lib.hid (show RdN w (.slice a2 nQ c2) nQ (flatEv c.Q) by rw [hnQ]; exact h2)
  have H3 := Lib.hid (show RdN w (.slice a3 nA c3) nA (flatAv c.A) by rw [hnA]; exact h3)
  have eC : 0 + nC ≤ maxLen ∧ (0 + nC) * 16 ≤ 140737488355328 := by unfold maxLen; omega
  have eQ : 0 + nQ ≤ maxLen ∧ (0 + nQ) * 24 ≤ 140737488355328 := by unfold maxLen; omega
  have eA : 0 + nA ≤ maxLen ∧ (0 + nA) * 24 ≤ 140737488355328 := by unfold maxLen; omega
  have EC := Lib.hid eC
  have EQ := Lib.hid eQ
  have EA := Lib.hid eA
  have K0 := Lib.hid k0
  rw [← hnC, ← hnQ, ← hnA]
  clear hU hg k0 hnC hnQ hnA h1 h2 h3 hs hsC hsQ hsA eC eQ eA
  go_enter Try.func109, Try.ntmps109
  go_upto_region 2 with (fail)
  rw [← HU.out, ← HG.out]
  have HA1 := Lib.hid (below_alloc1 U (.cells #[] 94))
  have kA := K0.out.below HA1.out
  have KA := Lib.hid kA
  obtain ⟨x0, -⟩ := cells_of_heap KA.out.hx 0 (by simp)
  simp only [List.getElem_toArray, List.getElem_cons_zero] at x0
  clear kA
  go_wp2_with (at_builtin; refine wpList_append_rd (by rfl) (.tmp 5) (.tmp 7) 24 (by rfl) U.heap.size 94 i0 (.agg #[.int .i64 0, .int .i64 0]) 2 16 Try.underlying24 hi hz0 hz1 hz2 rfl (by decide) (.slice (some ⟨U.heap.size, 0, none⟩) 0 0) 0 [] (by rfl) (World.ownsRow_lit (e := 94) (size := 2) U #[] 0 (by simp) (by simp [maxLen]) rfl) (.slice a1 nC c1) nC _ (by rfl) (H1.out.below KA.out.hb) HLC.out (flatCb_one _) EC.out.1 EC.out.2 (by simp) ?_)
  intro v1 w1 hown1 hgrow1
  obtain ⟨b1, d1, rfl⟩ := owns_shape hown1
  try simp only [Nat.zero_add, List.nil_append] at hown1
  try rw [Nat.zero_add]
  have hb2 : Below U.heap.size U w1 := HA1.out.grown hgrow1 (by simp) (fun q hq => by simp [Value.ownBlock] at hq; omega)
  have HO1 := Lib.hid hown1
  have HB1 := Lib.hid hb2
  have KB1 := Lib.hid (K0.out.below hb2)
  clear x0 hown1 hgrow1 hb2 KA
  obtain ⟨o0, p0⟩ := cells_of_heap KB1.out.ho 0 (by simp)
  simp only [List.getElem_toArray, List.getElem_cons_zero] at o0
  go_upto_region 3 with (fail)
  obtain ⟨W1, hW1⟩ : ∃ W, W = w1.setCell ⟨g + 1 + 1, 0, none⟩ (.slice b1 nC d1) := ⟨_, rfl⟩
  rw [← hW1]
  have KC1 := Lib.hid (show CqW w W1 g #[.slice a1 nC c1, .int .i64 c.t, .slice a2 nQ c2, .int .i64 c.n, .int .i64 c.k, .int .i64 c.d, .slice a3 nA c3] #[.slice b1 nC d1, .int .i64 c.t, .slice a2 nQ c2, .int .i64 c.n, .int .i64 c.k, .int .i64 c.d, .slice a3 nA c3] by rw [hW1]; exact KB1.out.set 0 _)
  have HT1 := Lib.hid (show Turn w1 W1 [g + 1 + 1] by rw [hW1]; exact (Turn.refl _ _).setCell 0 _)
  have HF1 := Lib.hid (show OwF w1 U.heap.size 94 2 (.slice b1 nC d1) nC _ (ownFp (.slice b1 nC d1)) from ⟨HO1.out, rfl⟩)
  have HS1 := Lib.hid (show U.heap.size ≤ w1.heap.size from HB1.out.size)
  have HZ1 := Lib.hid (show W1.heap.size = w1.heap.size by rw [hW1]; simp)
  clear hW1 o0 p0
  have HA2 := Lib.hid (below_alloc1 W1 (.cells #[] 36))
  have kA := KC1.out.below HA2.out
  have KA := Lib.hid kA
  obtain ⟨x2, -⟩ := cells_of_heap KA.out.hx 2 (by simp)
  simp only [List.getElem_toArray, List.getElem_cons_zero, List.getElem_cons_succ] at x2
  clear kA
  go_wp2_with (at_builtin; refine wpList_append_rd (by rfl) (.tmp 10) (.tmp 12) 25 (by rfl) W1.heap.size 36 i1 (.agg #[.int .i64 0, .int .i64 0, .bool false]) 3 24 Try.underlying25 hI1 hy0 hy1 hy2 rfl (by decide) (.slice (some ⟨W1.heap.size, 0, none⟩) 0 0) 0 [] (by rfl) (World.ownsRow_lit (e := 36) (size := 3) W1 #[] 0 (by simp) (by simp [maxLen]) rfl) (.slice a2 nQ c2) nQ _ (by rfl) (H2.out.below KA.out.hb) HLQ.out (flatEv_one _) EQ.out.1 EQ.out.2 (by simp) ?_)
  intro v1 w2 hown1 hgrow1
  obtain ⟨b2, d2, rfl⟩ := owns_shape hown1
  try simp only [Nat.zero_add, List.nil_append] at hown1
  try rw [Nat.zero_add]
  have hb2 : Below W1.heap.size W1 w2 := HA2.out.grown hgrow1 (by simp) (fun q hq => by simp [Value.ownBlock] at hq; omega)
  have HO2 := Lib.hid hown1
  have HB2 := Lib.hid hb2
  have KB2 := Lib.hid (KC1.out.below hb2)
  clear x2 hown1 hgrow1 hb2 KA
  obtain ⟨o2, p2⟩ := cells_of_heap KB2.out.ho 2 (by simp)
  simp only [List.getElem_toArray, List.getElem_cons_zero, List.getElem_cons_succ] at o2
  go_upto_region 4 with (fail)
  obtain ⟨W2, hW2⟩ : ∃ W, W = w2.setCell ⟨g + 1 + 1, 2, none⟩ (.slice b2 nQ d2) := ⟨_, rfl⟩
  rw [← hW2]
  have KC2 := Lib.hid (show CqW w W2 g #[.slice a1 nC c1, .int .i64 c.t, .slice a2 nQ c2, .int .i64 c.n, .int .i64 c.k, .int .i64 c.d, .slice a3 nA c3] #[.slice b1 nC d1, .int .i64 c.t, .slice b2 nQ d2, .int .i64 c.n, .int .i64 c.k, .int .i64 c.d, .slice a3 nA c3] by rw [hW2]; exact KB2.out.set 2 _)
  have HT2 := Lib.hid (show Turn w2 W2 [g + 1 + 1] by rw [hW2]; exact (Turn.refl _ _).setCell 2 _)
  have HF2 := Lib.hid (show OwF w2 W1.heap.size 36 3 (.slice b2 nQ d2) nQ _ (ownFp (.slice b2 nQ d2)) from ⟨HO2.out, rfl⟩)
  have HS2 := Lib.hid (show W1.heap.size ≤ w2.heap.size from HB2.out.size)
  have HZ2 := Lib.hid (show W2.heap.size = w2.heap.size by rw [hW2]; simp)
  clear hW2 o2 p2
  have HA3 := Lib.hid (below_alloc1 W2 (.cells #[] 97))
  have kA := KC2.out.below HA3.out
  have KA := Lib.hid kA
  obtain ⟨x6, -⟩ := cells_of_heap KA.out.hx 6 (by simp)
  simp only [List.getElem_toArray, List.getElem_cons_zero, List.getElem_cons_succ] at x6
  clear kA
  go_wp2_with (at_builtin; refine wpList_append_rd (by rfl) (.tmp 15) (.tmp 17) 26 (by rfl) W2.heap.size 97 i2 (.agg #[.int .i64 0, .int .i64 0, .bool false]) 3 24 Try.underlying26 hI2 hx0 hx1 hx2 rfl (by decide) (.slice (some ⟨W2.heap.size, 0, none⟩) 0 0) 0 [] (by rfl) (World.ownsRow_lit (e := 97) (size := 3) W2 #[] 0 (by simp) (by simp [maxLen]) rfl) (.slice a3 nA c3) nA _ (by rfl) (H3.out.below KA.out.hb) HLA.out (flatAv_one _) EA.out.1 EA.out.2 (by simp) ?_)
  intro v1 w3 hown1 hgrow1
  obtain ⟨b3, d3, rfl⟩ := owns_shape hown1
  try simp only [Nat.zero_add, List.nil_append] at hown1
  try rw [Nat.zero_add]
  have hb2 : Below W2.heap.size W2 w3 := HA3.out.grown hgrow1 (by simp) (fun q hq => by simp [Value.ownBlock] at hq; omega)
  have HO3 := Lib.hid hown1
  have HB3 := Lib.hid hb2
  have KB3 := Lib.hid (KC2.out.below hb2)
  clear x6 hown1 hgrow1 hb2 KA
  obtain ⟨o6, p6⟩ := cells_of_heap KB3.out.ho 6 (by simp)
  simp only [List.getElem_toArray, List.getElem_cons_zero, List.getElem_cons_succ] at o6
  go_upto_region 5 with (fail)
  obtain ⟨W3, hW3⟩ : ∃ W, W = w3.setCell ⟨g + 1 + 1, 6, none⟩ (.slice b3 nA d3) := ⟨_, rfl⟩
  rw [← hW3]
  have KC3 := Lib.hid (show CqW w W3 g #[.slice a1 nC c1, .int .i64 c.t, .slice a2 nQ c2, .int .i64 c.n, .int .i64 c.k, .int .i64 c.d, .slice a3 nA c3] #[.slice b1 nC d1, .int .i64 c.t, .slice b2 nQ d2, .int .i64 c.n, .int .i64 c.k, .int .i64 c.d, .slice b3 nA d3] by rw [hW3]; exact KB3.out.set 6 _)
  have HT3 := Lib.hid (show Turn w3 W3 [g + 1 + 1] by rw [hW3]; exact (Turn.refl _ _).setCell 6 _)
  have HF3 := Lib.hid (show OwF w3 W2.heap.size 97 3 (.slice b3 nA d3) nA _ (ownFp (.slice b3 nA d3)) from ⟨HO3.out, rfl⟩)
  have HS3 := Lib.hid (show W2.heap.size ≤ w3.heap.size from HB3.out.size)
  have HZ3 := Lib.hid (show W3.heap.size = w3.heap.size by rw [hW3]; simp)
  clear hW3 o6 p6
  have hg0 := HG.out
  have hlt := K0.out.lt
  have s1 := HS1.out
  have s2 := HS2.out
  have s3 := HS3.out
  have z1 := HZ1.out
  have z2 := HZ2.out
  have z3 := HZ3.out
  have g1 : ∀ b ∈ ownFp (.slice b1 nC d1), U.heap.size ≤ b ∧ b < w1.heap.size := HF1.out.rng
  have g2 : ∀ b ∈ ownFp (.slice b2 nQ d2), W1.heap.size ≤ b ∧ b < w2.heap.size := HF2.out.rng
  have g3 : ∀ b ∈ ownFp (.slice b3 nA d3), W2.heap.size ≤ b ∧ b < w3.heap.size := HF3.out.rng
  have no : ∀ b, g + 1 + 1 < b → b ∉ [g + 1 + 1] := fun b hb hm => by rw [List.mem_singleton] at hm; omega
  have r1 := (((((HF1.out.turn HT1.out (fun b hb => no b (by have := (g1 b hb).1; omega))).below HB2.out).turn HT2.out (fun b hb => no b (by have := (g1 b hb).1; omega))).below HB3.out).turn HT3.out (fun b hb => no b (by have := (g1 b hb).1; omega))).up (show w.heap.size ≤ U.heap.size by omega)
  have r2 := (((HF2.out.turn HT2.out (fun b hb => no b (by have := (g2 b hb).1; omega))).below HB3.out).turn HT3.out (fun b hb => no b (by have := (g2 b hb).1; omega))).up (show w.heap.size ≤ W1.heap.size by omega)
  have r3 := (HF3.out.turn HT3.out (fun b hb => no b (by have := (g3 b hb).1; omega))).up (show w.heap.size ≤ W2.heap.size by omega)
  have hnd := nodup_three (owF_nodup HF1.out) (owF_nodup HF2.out) (owF_nodup HF3.out) g1 g2 g3 (by omega) (by omega) (by omega)
  have hown : OwCn W3 w.heap.size c (.slice b1 nC d1) (.slice b2 nQ d2) (.slice b3 nA d3) (ownFp (.slice b1 nC d1) ++ (ownFp (.slice b2 nQ d2) ++ ownFp (.slice b3 nA d3))) := ⟨_, _, _, by rw [← HNC.out]; exact r1, by rw [← HNQ.out]; exact r2, by rw [← HNA.out]; exact r3, rfl, hnd⟩
  have hng : g + 1 ∉ ownFp (.slice b1 nC d1) ++ (ownFp (.slice b2 nQ d2) ++ ownFp (.slice b3 nA d3)) := fun hm => by
    rcases List.mem_append.1 hm with h | h
    · have := (g1 _ h).1; omega
    · rcases List.mem_append.1 h with h | h
      · have := (g2 _ h).1; omega
      · have := (g3 _ h).1; omega
  have HOW := Lib.hid hown
  have HNG := Lib.hid hng
  clear hown hng hnd r1 r2 r3 no g1 g2 g3 hg0 hlt s1 s2 s3 z1 z2 z3
  obtain ⟨o0, -⟩ := cells_of_heap KC3.out.ho 0 (by simp)
  obtain ⟨o1, -⟩ := cells_of_heap KC3.out.ho 1 (by simp)
  obtain ⟨o2, -⟩ := cells_of_heap KC3.out.ho 2 (by simp)
  obtain ⟨o3, -⟩ := cells_of_heap KC3.out.ho 3 (by simp)
  obtain ⟨o4, -⟩ := cells_of_heap KC3.out.ho 4 (by simp)
  obtain ⟨o5, -⟩ := cells_of_heap KC3.out.ho 5 (by simp)
  obtain ⟨o6, -⟩ := cells_of_heap KC3.out.ho 6 (by simp)
  obtain ⟨r0, q0⟩ := cells_of_heap KC3.out.hr 0 (by simp)
  obtain ⟨r1, q1⟩ := cells_of_heap KC3.out.hr 1 (by simp)
  obtain ⟨r2, q2⟩ := cells_of_heap KC3.out.hr 2 (by simp)
  obtain ⟨r3, q3⟩ := cells_of_heap KC3.out.hr 3 (by simp)
  obtain ⟨r4, q4⟩ := cells_of_heap KC3.out.hr 4 (by simp)
  obtain ⟨r5, q5⟩ := cells_of_heap KC3.out.hr 5 (by simp)
  obtain ⟨r6, q6⟩ := cells_of_heap KC3.out.hr 6 (by simp)
  simp only [List.getElem_toArray, List.getElem_cons_zero, List.getElem_cons_succ] at o0 o1 o2 o3 o4 o5 o6
  go_wp2
  clear o0 o1 o2 o3 o4 o5 o6 r0 r1 r2 r3 r4 r5 r6 q0 q1 q2 q3 q4 q5 q6
  have hle : w.heap.size ≤ g + 1 := by rw [HG.out]; omega
  obtain ⟨wf, hwf⟩ : ∃ x, x = putW (W3) (g + 1) 0 [.slice b1 nC d1, .int .i64 c.t, .slice b2 nQ d2, .int .i64 c.n, .int .i64 c.k, .int .i64 c.d, .slice b3 nA d3] := ⟨_, rfl⟩
  have kf := putW_all [.slice b1 nC d1, .int .i64 c.t, .slice b2 nQ d2, .int .i64 c.n, .int .i64 c.k, .int .i64 c.d, .slice b3 nA d3] KC3.out.hr rfl
  have bf := putW_below (b := g + 1) (by first | omega | simp) [.slice b1 nC d1, .int .i64 c.t, .slice b2 nQ d2, .int .i64 c.n, .int .i64 c.k, .int .i64 c.d, .slice b3 nA d3] 0 _ KC3.out.hb
  have of := HOW.out.putAt (y := g + 1) [.slice b1 nC d1, .int .i64 c.t, .slice b2 nQ d2, .int .i64 c.n, .int .i64 c.k, .int .i64 c.d, .slice b3 nA d3] HNG.out 0
  rw [← hwf] at kf bf of
  have cf := hwf.symm
  simp only [putW, Nat.reduceAdd] at cf
  rw [cf]
  clear cf hwf
  have f0 := (cells_of_heap kf 0 (by simp)).1
  have f1 := (cells_of_heap kf 1 (by simp)).1
  have f2 := (cells_of_heap kf 2 (by simp)).1
  have f3 := (cells_of_heap kf 3 (by simp)).1
  have f4 := (cells_of_heap kf 4 (by simp)).1
  have f5 := (cells_of_heap kf 5 (by simp)).1
  have f6 := (cells_of_heap kf 6 (by simp)).1
  simp only [List.getElem_toArray, List.getElem_cons_zero, List.getElem_cons_succ] at f0 f1 f2 f3 f4 f5 f6
  refine bodyPost_ret (v := c.val (.slice b1 nC d1) (.slice b2 nQ d2) (.slice b3 nA d3)) (by simp [results, Try.results109, go_sem, f0, f1, f2, f3, f4, f5, f6]) rfl ⟨b1, d1, b2, d2, b3, d3, _, by rw [← HNC.out, ← HNQ.out, ← HNA.out], by rw [← HNC.out, ← HNQ.out, ← HNA.out]; exact of, bf⟩

/-- A combiner that is returned with a Bool. -/
def CnB (c : Cn) (b : Bool) (w : World) (r : Ending) (w' : World) : Prop := ∃ a1 c1 a2 c2 a3 c3 fp, r = .returned (.tuple #[c.val (.slice a1 c.C.length c1) (.slice a2 c.Q.length c2) (.slice a3 c.A.length c3), .bool b]) ∧ OwCn w' w.heap.size c (.slice a1 c.C.length c1) (.slice a2 c.Q.length c2) (.slice a3 c.A.length c3) fp ∧ Below w.heap.size w w'
def cn0 : Cn := ⟨[], 0, [], 0, 0, 0, []⟩
def newC (l : List Cb) (t : Int) : Cn := ⟨l, t, [], 0, 0, 0, []⟩
def newCV (l : List Cb) (t : Int) : Cn := if okCn (newC l t) = true then newC l t else cn0
theorem rdN_none (w : World) (xs : List Value) : RdN w (.slice none 0 0) 0 xs := ⟨none, 0, rfl, .inl rfl⟩
theorem owCn_zero (w : World) (B : Nat) : OwCn w B cn0 (.slice none 0 0) (.slice none 0 0) (.slice none 0 0) [] := by
  have h : ∀ (T k : Nat), OwF w B T k (.slice none 0 0) 0 [] [] := fun T k => ⟨World.ownsRow_nil _ _ _ _, rfl⟩
  exact ⟨[], [], [], h _ _, h _ _, h _ _, rfl, List.nodup_nil⟩
theorem avWf_nil : AvWf [] := fun j hj => by simp at hj

set_option maxRecDepth 100000 in
set_option maxHeartbeats 4000000 in
theorem specNewCombiner_any (u1 : Value) (l : List Cb) (t : Int) (r : Cn) (b : Bool) (hr : r = newCV l t) (hb : b = okCn (newC l t)) (w : World) (hl : l.length ≤ 1048576) (h1 : RdN w u1 l.length (flatCb l)) :
    Calls Try.prog 48 #[u1, .int .i64 t] w (CnB r b w) := by
  rw [newCV, ← hb] at hr
  have HR := Lib.hid hr
  have HB := Lib.hid hb
  obtain ⟨a1, c1, rfl⟩ := rdN_shape h1
  obtain ⟨nC, hnC⟩ : ∃ n, n = l.length := ⟨_, rfl⟩
  have HNC := Lib.hid hnC
  have HLe := Lib.hid hl
  have H1 := Lib.hid h1
  have HRd := Lib.hid (show ∀ w', Below w.heap.size w w' → RdCn w' (newC l t) (.slice a1 nC c1) (.slice none 0 0) (.slice none 0 0) from fun w' hw => ⟨by rw [hnC]; exact h1.below hw, rdN_none _ _, rdN_none _ _⟩)
  rw [← hnC]
  obtain ⟨g, hg⟩ : ∃ g, g = w.heap.size := ⟨_, rfl⟩
  obtain ⟨U, hU⟩ : ∃ U, U = (w.alloc (.cells #[.slice none 0 0, .int .i64 0, .slice none 0 0, .int .i64 0, .int .i64 0, .int .i64 0, .slice none 0 0] 28)).alloc (.cells #[.slice a1 nC c1, .int .i64 t, .slice none 0 0, .int .i64 0, .int .i64 0, .int .i64 0, .slice none 0 0] 28) := ⟨_, rfl⟩
  have HR0 := Lib.hid (show U.heap[g]? = some (.cells #[.slice none 0 0, .int .i64 0, .slice none 0 0, .int .i64 0, .int .i64 0, .int .i64 0, .slice none 0 0] 28 (0, 0)) by rw [hU, hg, Below.heap_alloc _ _ _ (by simp)]; exact heap_alloc_new w _)
  have HE0 := Lib.hid (show U.heap[g + 1]? = some (.cells #[.slice a1 nC c1, .int .i64 t, .slice none 0 0, .int .i64 0, .int .i64 0, .int .i64 0, .slice none 0 0] 28 (0, 0)) by rw [hU, hg]; simpa using heap_alloc_new (w.alloc (.cells #[.slice none 0 0, .int .i64 0, .slice none 0 0, .int .i64 0, .int .i64 0, .int .i64 0, .slice none 0 0] 28)) _)
  have HB0 := Lib.hid (show Below w.heap.size w U by rw [hU]; exact ((Below.refl _ _).alloc (Nat.le_refl _) _).alloc (by simp) _)
  have HG := Lib.hid hg
  have HU := Lib.hid hU
  clear hr hb h1 hnC hl hg hU
  go_enter Try.func48, Try.ntmps48
  go_upto_region 2 with (fail)
  rw [← HU.out, ← HG.out]
  obtain ⟨e0, m0⟩ := cells_of_heap HE0.out 0 (by simp)
  obtain ⟨e1, m1⟩ := cells_of_heap HE0.out 1 (by simp)
  obtain ⟨e2, m2⟩ := cells_of_heap HE0.out 2 (by simp)
  obtain ⟨e3, m3⟩ := cells_of_heap HE0.out 3 (by simp)
  obtain ⟨e4, m4⟩ := cells_of_heap HE0.out 4 (by simp)
  obtain ⟨e5, m5⟩ := cells_of_heap HE0.out 5 (by simp)
  obtain ⟨e6, m6⟩ := cells_of_heap HE0.out 6 (by simp)
  simp only [List.getElem_toArray, List.getElem_cons_zero, List.getElem_cons_succ] at e0 e1 e2 e3 e4 e5 e6
  go_wp2_with fail
  refine (specIsCombiner_q (newC l t) (.slice a1 nC c1) (.slice none 0 0) (.slice none 0 0) b HB.out _ (by have := HLe.out; show l.length ≤ maxLen; unfold maxLen; omega) (Nat.zero_le _) (Nat.zero_le _) avWf_nil (HRd.out _ HB0.out)).mono ?_
  rintro r1 w1 ⟨rfl, hb⟩
  have HB1 := Lib.hid (HB0.out.trans (hb.mono HB0.out.size))
  have HR1 := Lib.hid (blk_below HR0.out hb)
  have HE1 := Lib.hid (blk_below HE0.out hb)
  clear hb e0 m0 e1 m1 e2 m2 e3 m3 e4 m4 e5 m5 e6 m6
  have hle : w.heap.size ≤ g := by rw [HG.out]; exact Nat.le_refl _
  cases b
  · obtain rfl : r = cn0 := HR.out
    obtain ⟨r0, q0⟩ := cells_of_heap HR1.out 0 (by simp)
    obtain ⟨r1, q1⟩ := cells_of_heap HR1.out 1 (by simp)
    obtain ⟨r2, q2⟩ := cells_of_heap HR1.out 2 (by simp)
    obtain ⟨r3, q3⟩ := cells_of_heap HR1.out 3 (by simp)
    obtain ⟨r4, q4⟩ := cells_of_heap HR1.out 4 (by simp)
    obtain ⟨r5, q5⟩ := cells_of_heap HR1.out 5 (by simp)
    obtain ⟨r6, q6⟩ := cells_of_heap HR1.out 6 (by simp)
    go_wp2
    clear r0 r1 r2 r3 r4 r5 r6 q0 q1 q2 q3 q4 q5 q6
    obtain ⟨wf, hwf⟩ : ∃ x, x = putW (w1) (g) 0 [.slice none 0 0, .int .i64 0, .slice none 0 0, .int .i64 0, .int .i64 0, .int .i64 0, .slice none 0 0] := ⟨_, rfl⟩
    have kf := putW_all [.slice none 0 0, .int .i64 0, .slice none 0 0, .int .i64 0, .int .i64 0, .int .i64 0, .slice none 0 0] HR1.out rfl
    have bf := putW_below (b := g) (by first | omega | simp) [.slice none 0 0, .int .i64 0, .slice none 0 0, .int .i64 0, .int .i64 0, .int .i64 0, .slice none 0 0] 0 _ HB1.out
    rw [← hwf] at kf bf
    have cf := hwf.symm
    simp only [putW, Nat.reduceAdd] at cf
    rw [cf]
    clear cf hwf
    have f0 := (cells_of_heap kf 0 (by simp)).1
    have f1 := (cells_of_heap kf 1 (by simp)).1
    have f2 := (cells_of_heap kf 2 (by simp)).1
    have f3 := (cells_of_heap kf 3 (by simp)).1
    have f4 := (cells_of_heap kf 4 (by simp)).1
    have f5 := (cells_of_heap kf 5 (by simp)).1
    have f6 := (cells_of_heap kf 6 (by simp)).1
    simp only [List.getElem_toArray, List.getElem_cons_zero, List.getElem_cons_succ] at f0 f1 f2 f3 f4 f5 f6
    refine bodyPost_ret (v := .tuple #[cnv (.slice none 0 0) 0 (.slice none 0 0) 0 0 0 (.slice none 0 0), .bool false]) (by simp [results, Try.results48, go_sem, f0, f1, f2, f3, f4, f5, f6]) rfl ⟨none, 0, none, 0, none, 0, _, rfl, owCn_zero _ _, bf⟩
  · obtain rfl : r = newC l t := HR.out
    obtain ⟨e0, m0⟩ := cells_of_heap HE1.out 0 (by simp)
    obtain ⟨e1, m1⟩ := cells_of_heap HE1.out 1 (by simp)
    obtain ⟨e2, m2⟩ := cells_of_heap HE1.out 2 (by simp)
    obtain ⟨e3, m3⟩ := cells_of_heap HE1.out 3 (by simp)
    obtain ⟨e4, m4⟩ := cells_of_heap HE1.out 4 (by simp)
    obtain ⟨e5, m5⟩ := cells_of_heap HE1.out 5 (by simp)
    obtain ⟨e6, m6⟩ := cells_of_heap HE1.out 6 (by simp)
    simp only [List.getElem_toArray, List.getElem_cons_zero, List.getElem_cons_succ] at e0 e1 e2 e3 e4 e5 e6
    go_wp2_with fail
    refine (specCopyC_any (newC l t) (.slice a1 nC c1) (.slice none 0 0) (.slice none 0 0) _ ⟨HLe.out, Nat.zero_le _, Nat.zero_le _⟩ (HRd.out _ HB1.out)).mono ?_
    rintro r1 w2 ⟨b1, d1, b2, d2, b3, d3, fp, rfl, ho, hb⟩
    have HB2 := Lib.hid (HB1.out.trans (hb.mono HB1.out.size))
    have HR2 := Lib.hid (blk_below HR1.out hb)
    have HO2 := Lib.hid (ho.base HB1.out.size)
    have HNG := Lib.hid (show g ∉ fp from fun hm => by have := (ho.rng g hm).1; have := (Array.getElem?_eq_some_iff.mp HR1.out).1; omega)
    clear hb ho e0 m0 e1 m1 e2 m2 e3 m3 e4 m4 e5 m5 e6 m6
    obtain ⟨r0, q0⟩ := cells_of_heap HR2.out 0 (by simp)
    obtain ⟨r1, q1⟩ := cells_of_heap HR2.out 1 (by simp)
    obtain ⟨r2, q2⟩ := cells_of_heap HR2.out 2 (by simp)
    obtain ⟨r3, q3⟩ := cells_of_heap HR2.out 3 (by simp)
    obtain ⟨r4, q4⟩ := cells_of_heap HR2.out 4 (by simp)
    obtain ⟨r5, q5⟩ := cells_of_heap HR2.out 5 (by simp)
    obtain ⟨r6, q6⟩ := cells_of_heap HR2.out 6 (by simp)
    go_wp2
    clear r0 r1 r2 r3 r4 r5 r6 q0 q1 q2 q3 q4 q5 q6
    obtain ⟨wf, hwf⟩ : ∃ x, x = putW (w2) (g) 0 [.slice b1 (newC l t).C.length d1, .int .i64 (newC l t).t, .slice b2 (newC l t).Q.length d2, .int .i64 (newC l t).n, .int .i64 (newC l t).k, .int .i64 (newC l t).d, .slice b3 (newC l t).A.length d3] := ⟨_, rfl⟩
    have kf := putW_all [.slice b1 (newC l t).C.length d1, .int .i64 (newC l t).t, .slice b2 (newC l t).Q.length d2, .int .i64 (newC l t).n, .int .i64 (newC l t).k, .int .i64 (newC l t).d, .slice b3 (newC l t).A.length d3] HR2.out rfl
    have bf := putW_below (b := g) (by first | omega | simp) [.slice b1 (newC l t).C.length d1, .int .i64 (newC l t).t, .slice b2 (newC l t).Q.length d2, .int .i64 (newC l t).n, .int .i64 (newC l t).k, .int .i64 (newC l t).d, .slice b3 (newC l t).A.length d3] 0 _ HB2.out
    have of := HO2.out.putAt (y := g) [.slice b1 (newC l t).C.length d1, .int .i64 (newC l t).t, .slice b2 (newC l t).Q.length d2, .int .i64 (newC l t).n, .int .i64 (newC l t).k, .int .i64 (newC l t).d, .slice b3 (newC l t).A.length d3] HNG.out 0
    rw [← hwf] at kf bf of
    have cf := hwf.symm
    simp only [putW, Nat.reduceAdd] at cf
    rw [cf]
    clear cf hwf
    have f0 := (cells_of_heap kf 0 (by simp)).1
    have f1 := (cells_of_heap kf 1 (by simp)).1
    have f2 := (cells_of_heap kf 2 (by simp)).1
    have f3 := (cells_of_heap kf 3 (by simp)).1
    have f4 := (cells_of_heap kf 4 (by simp)).1
    have f5 := (cells_of_heap kf 5 (by simp)).1
    have f6 := (cells_of_heap kf 6 (by simp)).1
    simp only [List.getElem_toArray, List.getElem_cons_zero, List.getElem_cons_succ] at f0 f1 f2 f3 f4 f5 f6
    refine bodyPost_ret (v := .tuple #[(newC l t).val (.slice b1 (newC l t).C.length d1) (.slice b2 (newC l t).Q.length d2) (.slice b3 (newC l t).A.length d3), .bool true]) (by simp [results, Try.results48, go_sem, f0, f1, f2, f3, f4, f5, f6]) rfl ⟨b1, d1, b2, d2, b3, d3, _, rfl, of, bf⟩
set_option maxRecDepth 100000 in
set_option maxHeartbeats 4000000 in
theorem implNewCombiner_any (u1 : Value) (l : List Cb) (t : Int) (r : Cn) (b : Bool) (hr : r = newCV l t) (hb : b = okCn (newC l t)) (w : World) (hl : l.length ≤ 1048576) (hcap : CapLe u1) (h1 : RdN w u1 l.length (flatCb l)) :
    Calls Try.prog 29 #[u1, .int .i64 t] w (CnB r b w) := by
  rw [newCV, ← hb] at hr
  have HR := Lib.hid hr
  have HB := Lib.hid hb
  obtain ⟨a1, c1, rfl⟩ := rdN_shape h1
  obtain ⟨nC, hnC⟩ : ∃ n, n = l.length := ⟨_, rfl⟩
  have HNC := Lib.hid hnC
  have HLe := Lib.hid hl
  have H1 := Lib.hid h1
  have HCap := Lib.hid (show CapLe (.slice a1 nC c1) by rw [hnC]; exact hcap)
  have HRd := Lib.hid (show ∀ w', Below w.heap.size w w' → RdCn w' (newC l t) (.slice a1 nC c1) (.slice none 0 0) (.slice none 0 0) from fun w' hw => ⟨by rw [hnC]; exact h1.below hw, rdN_none _ _, rdN_none _ _⟩)
  rw [← hnC]
  obtain ⟨g, hg⟩ : ∃ g, g = w.heap.size := ⟨_, rfl⟩
  obtain ⟨U, hU⟩ : ∃ U, U = (w.alloc (.cells #[.slice none 0 0, .int .i64 0, .slice none 0 0, .int .i64 0, .int .i64 0, .int .i64 0, .slice none 0 0] 28)).alloc (.cells #[.slice a1 nC c1, .int .i64 t, .slice none 0 0, .int .i64 0, .int .i64 0, .int .i64 0, .slice none 0 0] 28) := ⟨_, rfl⟩
  have HR0 := Lib.hid (show U.heap[g]? = some (.cells #[.slice none 0 0, .int .i64 0, .slice none 0 0, .int .i64 0, .int .i64 0, .int .i64 0, .slice none 0 0] 28 (0, 0)) by rw [hU, hg, Below.heap_alloc _ _ _ (by simp)]; exact heap_alloc_new w _)
  have HE0 := Lib.hid (show U.heap[g + 1]? = some (.cells #[.slice a1 nC c1, .int .i64 t, .slice none 0 0, .int .i64 0, .int .i64 0, .int .i64 0, .slice none 0 0] 28 (0, 0)) by rw [hU, hg]; simpa using heap_alloc_new (w.alloc (.cells #[.slice none 0 0, .int .i64 0, .slice none 0 0, .int .i64 0, .int .i64 0, .int .i64 0, .slice none 0 0] 28)) _)
  have HB0 := Lib.hid (show Below w.heap.size w U by rw [hU]; exact ((Below.refl _ _).alloc (Nat.le_refl _) _).alloc (by simp) _)
  have HG := Lib.hid hg
  have HU := Lib.hid hU
  clear hr hb h1 hnC hl hg hU hcap
  go_enter Try.func29, Try.ntmps29
  go_upto_region 2 with (fail)
  rw [← HU.out, ← HG.out]
  obtain ⟨e0, m0⟩ := cells_of_heap HE0.out 0 (by simp)
  obtain ⟨e1, m1⟩ := cells_of_heap HE0.out 1 (by simp)
  obtain ⟨e2, m2⟩ := cells_of_heap HE0.out 2 (by simp)
  obtain ⟨e3, m3⟩ := cells_of_heap HE0.out 3 (by simp)
  obtain ⟨e4, m4⟩ := cells_of_heap HE0.out 4 (by simp)
  obtain ⟨e5, m5⟩ := cells_of_heap HE0.out 5 (by simp)
  obtain ⟨e6, m6⟩ := cells_of_heap HE0.out 6 (by simp)
  simp only [List.getElem_toArray, List.getElem_cons_zero, List.getElem_cons_succ] at e0 e1 e2 e3 e4 e5 e6
  go_wp2_with fail
  refine (implIsCombiner_q (newC l t) (.slice a1 nC c1) (.slice none 0 0) (.slice none 0 0) b HB.out _ (by have := HLe.out; show l.length ≤ maxLen; unfold maxLen; omega) (Nat.zero_le _) (Nat.zero_le _) avWf_nil HCap.out (HRd.out _ HB0.out)).mono ?_
  rintro r1 w1 ⟨rfl, hb⟩
  have HB1 := Lib.hid (HB0.out.trans (hb.mono HB0.out.size))
  have HR1 := Lib.hid (blk_below HR0.out hb)
  have HE1 := Lib.hid (blk_below HE0.out hb)
  clear hb e0 m0 e1 m1 e2 m2 e3 m3 e4 m4 e5 m5 e6 m6
  have hle : w.heap.size ≤ g := by rw [HG.out]; exact Nat.le_refl _
  cases b
  · obtain rfl : r = cn0 := HR.out
    obtain ⟨r0, q0⟩ := cells_of_heap HR1.out 0 (by simp)
    obtain ⟨r1, q1⟩ := cells_of_heap HR1.out 1 (by simp)
    obtain ⟨r2, q2⟩ := cells_of_heap HR1.out 2 (by simp)
    obtain ⟨r3, q3⟩ := cells_of_heap HR1.out 3 (by simp)
    obtain ⟨r4, q4⟩ := cells_of_heap HR1.out 4 (by simp)
    obtain ⟨r5, q5⟩ := cells_of_heap HR1.out 5 (by simp)
    obtain ⟨r6, q6⟩ := cells_of_heap HR1.out 6 (by simp)
    go_wp2
    clear r0 r1 r2 r3 r4 r5 r6 q0 q1 q2 q3 q4 q5 q6
    obtain ⟨wf, hwf⟩ : ∃ x, x = putW (w1) (g) 0 [.slice none 0 0, .int .i64 0, .slice none 0 0, .int .i64 0, .int .i64 0, .int .i64 0, .slice none 0 0] := ⟨_, rfl⟩
    have kf := putW_all [.slice none 0 0, .int .i64 0, .slice none 0 0, .int .i64 0, .int .i64 0, .int .i64 0, .slice none 0 0] HR1.out rfl
    have bf := putW_below (b := g) (by first | omega | simp) [.slice none 0 0, .int .i64 0, .slice none 0 0, .int .i64 0, .int .i64 0, .int .i64 0, .slice none 0 0] 0 _ HB1.out
    rw [← hwf] at kf bf
    have cf := hwf.symm
    simp only [putW, Nat.reduceAdd] at cf
    rw [cf]
    clear cf hwf
    have f0 := (cells_of_heap kf 0 (by simp)).1
    have f1 := (cells_of_heap kf 1 (by simp)).1
    have f2 := (cells_of_heap kf 2 (by simp)).1
    have f3 := (cells_of_heap kf 3 (by simp)).1
    have f4 := (cells_of_heap kf 4 (by simp)).1
    have f5 := (cells_of_heap kf 5 (by simp)).1
    have f6 := (cells_of_heap kf 6 (by simp)).1
    simp only [List.getElem_toArray, List.getElem_cons_zero, List.getElem_cons_succ] at f0 f1 f2 f3 f4 f5 f6
    refine bodyPost_ret (v := .tuple #[cnv (.slice none 0 0) 0 (.slice none 0 0) 0 0 0 (.slice none 0 0), .bool false]) (by simp [results, Try.results29, go_sem, f0, f1, f2, f3, f4, f5, f6]) rfl ⟨none, 0, none, 0, none, 0, _, rfl, owCn_zero _ _, bf⟩
  · obtain rfl : r = newC l t := HR.out
    obtain ⟨e0, m0⟩ := cells_of_heap HE1.out 0 (by simp)
    obtain ⟨e1, m1⟩ := cells_of_heap HE1.out 1 (by simp)
    obtain ⟨e2, m2⟩ := cells_of_heap HE1.out 2 (by simp)
    obtain ⟨e3, m3⟩ := cells_of_heap HE1.out 3 (by simp)
    obtain ⟨e4, m4⟩ := cells_of_heap HE1.out 4 (by simp)
    obtain ⟨e5, m5⟩ := cells_of_heap HE1.out 5 (by simp)
    obtain ⟨e6, m6⟩ := cells_of_heap HE1.out 6 (by simp)
    simp only [List.getElem_toArray, List.getElem_cons_zero, List.getElem_cons_succ] at e0 e1 e2 e3 e4 e5 e6
    go_wp2_with fail
    refine (cloneCb_any _ l _ HLe.out (by have h := H1.out.below HB1.out; rw [← HNC.out] at h ⊢; exact h)).mono ?_
    rw [← HNC.out]
    rintro r1 w2 ⟨b1, d1, rfl, ho, hb⟩
    have HB2 := Lib.hid (HB1.out.trans (hb.mono HB1.out.size))
    have HR2 := Lib.hid (blk_below HR1.out hb)
    have HE2 := Lib.hid (blk_below HE1.out hb)
    have HO2 := Lib.hid (show OwF w2 w1.heap.size 94 2 (.slice b1 nC d1) nC (flatCb l) (ownFp (.slice b1 nC d1)) from ⟨ho, rfl⟩)
    have HSE := Lib.hid (show g + 1 < w1.heap.size from (Array.getElem?_eq_some_iff.mp HE1.out).1)
    clear hb ho e0 m0 e1 m1 e2 m2 e3 m3 e4 m4 e5 m5 e6 m6
    obtain ⟨e0, m0⟩ := cells_of_heap HE2.out 0 (by simp)
    go_upto_region 5 with (fail)
    obtain ⟨W3, hW3⟩ : ∃ W, W = w2.setCell ⟨g + 1, 0, none⟩ (.slice b1 nC d1) := ⟨_, rfl⟩
    rw [← hW3]
    have HE3 := Lib.hid (show W3.heap[g + 1]? = some (.cells #[.slice b1 nC d1, .int .i64 t, .slice none 0 0, .int .i64 0, .int .i64 0, .int .i64 0, .slice none 0 0] 28 (0, 0)) by rw [hW3]; exact heap_setCell_same w2 (g + 1) 0 _ _ _ HE2.out)
    have ht : Turn w2 W3 [g + 1] := by rw [hW3]; exact Turn.of_grown (grown_set w2 (g + 1) 0 _)
    have HR3 := Lib.hid (blk_turn HR2.out ht (by simp))
    have HB3 := Lib.hid (HB2.out.trans (ht.below (fun b hb => show w.heap.size ≤ b by rw [List.mem_singleton] at hb; omega) HB2.out.size))
    have hrng := HO2.out.rng
    have hO3 := (HO2.out.turn ht (fun b hb hm => by rw [List.mem_singleton] at hm; have := (hrng b hb).1; have := HSE.out; omega)).up (show w.heap.size ≤ w1.heap.size from HB1.out.size)
    have hown : OwCn W3 w.heap.size (newC l t) (.slice b1 nC d1) (.slice none 0 0) (.slice none 0 0) (ownFp (.slice b1 nC d1) ++ ([] ++ [])) := ⟨_, [], [], by rw [HNC.out] at hO3 ⊢; exact hO3, ⟨World.ownsRow_nil _ _ _ _, rfl⟩, ⟨World.ownsRow_nil _ _ _ _, rfl⟩, rfl, by simpa using owF_nodup HO2.out⟩
    have HNG := Lib.hid (show g ∉ ownFp (.slice b1 nC d1) ++ ([] ++ []) from fun hm => by have := (hrng g (by simpa using hm)).1; have := HSE.out; omega)
    have HOW := Lib.hid hown
    clear hW3 ht hrng hO3 hown e0 m0
    obtain ⟨e0, m0⟩ := cells_of_heap HE3.out 0 (by simp)
    obtain ⟨e1, m1⟩ := cells_of_heap HE3.out 1 (by simp)
    obtain ⟨e2, m2⟩ := cells_of_heap HE3.out 2 (by simp)
    obtain ⟨e3, m3⟩ := cells_of_heap HE3.out 3 (by simp)
    obtain ⟨e4, m4⟩ := cells_of_heap HE3.out 4 (by simp)
    obtain ⟨e5, m5⟩ := cells_of_heap HE3.out 5 (by simp)
    obtain ⟨e6, m6⟩ := cells_of_heap HE3.out 6 (by simp)
    simp only [List.getElem_toArray, List.getElem_cons_zero, List.getElem_cons_succ] at e0 e1 e2 e3 e4 e5 e6
    obtain ⟨r0, q0⟩ := cells_of_heap HR3.out 0 (by simp)
    obtain ⟨r1, q1⟩ := cells_of_heap HR3.out 1 (by simp)
    obtain ⟨r2, q2⟩ := cells_of_heap HR3.out 2 (by simp)
    obtain ⟨r3, q3⟩ := cells_of_heap HR3.out 3 (by simp)
    obtain ⟨r4, q4⟩ := cells_of_heap HR3.out 4 (by simp)
    obtain ⟨r5, q5⟩ := cells_of_heap HR3.out 5 (by simp)
    obtain ⟨r6, q6⟩ := cells_of_heap HR3.out 6 (by simp)
    go_wp2
    clear r0 r1 r2 r3 r4 r5 r6 q0 q1 q2 q3 q4 q5 q6 e0 m0 e1 m1 e2 m2 e3 m3 e4 m4 e5 m5 e6 m6
    obtain ⟨wf, hwf⟩ : ∃ x, x = putW (W3) (g) 0 [.slice b1 nC d1, .int .i64 t, .slice none 0 0, .int .i64 0, .int .i64 0, .int .i64 0, .slice none 0 0] := ⟨_, rfl⟩
    have kf := putW_all [.slice b1 nC d1, .int .i64 t, .slice none 0 0, .int .i64 0, .int .i64 0, .int .i64 0, .slice none 0 0] HR3.out rfl
    have bf := putW_below (b := g) (by first | omega | simp) [.slice b1 nC d1, .int .i64 t, .slice none 0 0, .int .i64 0, .int .i64 0, .int .i64 0, .slice none 0 0] 0 _ HB3.out
    have of := HOW.out.putAt (y := g) [.slice b1 nC d1, .int .i64 t, .slice none 0 0, .int .i64 0, .int .i64 0, .int .i64 0, .slice none 0 0] HNG.out 0
    rw [← hwf] at kf bf of
    have cf := hwf.symm
    simp only [putW, Nat.reduceAdd] at cf
    rw [cf]
    clear cf hwf
    have f0 := (cells_of_heap kf 0 (by simp)).1
    have f1 := (cells_of_heap kf 1 (by simp)).1
    have f2 := (cells_of_heap kf 2 (by simp)).1
    have f3 := (cells_of_heap kf 3 (by simp)).1
    have f4 := (cells_of_heap kf 4 (by simp)).1
    have f5 := (cells_of_heap kf 5 (by simp)).1
    have f6 := (cells_of_heap kf 6 (by simp)).1
    simp only [List.getElem_toArray, List.getElem_cons_zero, List.getElem_cons_succ] at f0 f1 f2 f3 f4 f5 f6
    refine bodyPost_ret (v := .tuple #[cnv (.slice b1 nC d1) t (.slice none 0 0) 0 0 0 (.slice none 0 0), .bool true]) (by simp [results, Try.results29, go_sem, f0, f1, f2, f3, f4, f5, f6]) rfl ⟨b1, d1, none, 0, none, 0, _, by rw [HNC.out]; rfl, by rw [HNC.out] at of; exact of, bf⟩

end Go.Proofs.Ytagmdkblcgnddaa
