/- DERIVED. Drawing what is to be matched by the reference's cursor. -/
import Derived.Test.YtagmdkblcgnddaaCnDraw
namespace Go.Proofs.Ytagmdkblcgnddaa
open Go.RowKit

/-- Events with another key at one place. -/
def setK : List Ev → Nat → Int → List Ev
  | [], _, _ => []
  | e :: l, 0, s => ⟨e.t, s, e.d⟩ :: l
  | e :: l, x + 1, s => e :: setK l x s
theorem setK_len : ∀ (l : List Ev) (x : Nat) (s : Int), (setK l x s).length = l.length
  | [], _, _ => rfl
  | _ :: _, 0, _ => rfl
  | _ :: l, x + 1, s => by show (setK l x s).length + 1 = l.length + 1; rw [setK_len l x s]
theorem setK_all {P : Int → Prop} : ∀ (l : List Ev) (x : Nat) (s : Int), (∀ e ∈ l, P e.t) → ∀ e ∈ setK l x s, P e.t
  | [], _, _, _, e, he => by cases he
  | q :: l, 0, s, h, e, he => by
    rcases List.mem_cons.1 he with rfl | he
    · exact h q (List.mem_cons_self ..)
    · exact h e (List.mem_cons_of_mem _ he)
  | q :: l, x + 1, s, h, e, he => by
    rcases List.mem_cons.1 he with rfl | he
    · exact h _ (List.mem_cons_self ..)
    · exact setK_all l x s (fun e he => h e (List.mem_cons_of_mem _ he)) e he
theorem flatEv_setK : ∀ (l : List Ev) (x : Nat) (s : Int), x < l.length → (flatEv l).take (x * 3 + 1) ++ [.int .i64 s] ++ (flatEv l).drop (x * 3 + 1 + 1) = flatEv (setK l x s)
  | [], _, _, h => absurd h (by simp)
  | e :: l, 0, s, _ => rfl
  | e :: l, x + 1, s, h => by
    have ih := flatEv_setK l x s (by simpa using h)
    have h1 : flatEv (e :: l) = e.cells ++ flatEv l := by simp [flatEv]
    have h2 : flatEv (setK (e :: l) (x + 1) s) = e.cells ++ flatEv (setK l x s) := by simp [flatEv, setK]
    have hc : e.cells.length = 3 := rfl
    rw [h1, h2, ← ih, show (x + 1) * 3 + 1 = e.cells.length + (x * 3 + 1) by rw [hc]; omega, List.take_length_add_append, show e.cells.length + (x * 3 + 1) + 1 = e.cells.length + (x * 3 + 1 + 1) by omega, List.drop_length_add_append, List.append_assoc, List.append_assoc, List.append_assoc]

set_option maxHeartbeats 1000000 in
theorem l11Last_q (Q : List Ev) (u : Value) (d : Int) (w : World) (hn : Q.length ≤ 1048576) (h : RdN w u Q.length (flatEv Q)) :
    Calls Try.prog 65 #[u, .int .i64 d] w fun e w' => e = .returned (.int .i64 (lastT Q d)) ∧ w = w' := by
  obtain ⟨a, cap, rfl⟩ := rdN_shape h
  by_cases h0 : Q.length = 0
  · obtain rfl : Q = [] := List.eq_nil_of_length_eq_zero h0
    go_enter Try.func65, Try.ntmps65
    go_wp2
    go_ret
    exact ⟨rfl, rfl⟩
  · obtain ⟨i, hi⟩ : ∃ i, Q.length = i + 1 := ⟨Q.length - 1, by omega⟩
    obtain ⟨b, off, rfl, -, y, -, -⟩ := ev_at h (j := i) (by omega)
    rw [← lastT_at hi d] at y
    obtain ⟨tl, htl⟩ : ∃ t, t = lastT Q d := ⟨_, rfl⟩
    rw [← htl] at y ⊢
    clear htl h
    obtain ⟨N, hN⟩ : ∃ N, N = Q.length := ⟨_, rfl⟩
    rw [← hN] at hn hi h0 ⊢
    clear hN
    have e0 : ((N : Int) == 0) = false := by simp; omega
    have e1 : wrap64 ((N : Int) - 1) = (i : Int) := by rw [show (N : Int) - 1 = (i : Int) by omega]; exact IntWalk.wrap64_in _ ⟨by omega, by omega⟩
    have e2 : (N : Int) - 1 = (i : Int) := by omega
    have hlt : (i : Int) < (N : Int) := by omega
    have h00 : ¬ (N : Int) = 0 := by omega
    clear hi h0
    go_enter Try.func65, Try.ntmps65
    go_wp2
    go_ret
    exact ⟨rfl, rfl⟩

/-- What is to be matched: at most five combinations, a term, at most five events with small times. -/
def MaDrawn (w : World) (e : Ending) (w' : World) : Prop := ∃ (l : List Cb) (a1 : Option Addr) (c1 : Nat) (t : Int) (Q : List Ev) (a2 : Option Addr) (c2 : Nat) (now : Int), e = .returned (.tuple #[.slice a1 l.length c1, .int .i64 t, .slice a2 Q.length c2, .int .i64 now]) ∧ l.length ≤ 5 ∧ Q.length ≤ 5 ∧ (∀ e ∈ Q, 0 ≤ e.t ∧ e.t ≤ 40) ∧ RdN w' (.slice a1 l.length c1) l.length (flatCb l) ∧ RdN w' (.slice a2 Q.length c2) Q.length (flatEv Q) ∧ l.length ≤ c1 ∧ Q.length ≤ c2 ∧ Below w.heap.size w w'
set_option maxHeartbeats 8000000 in
set_option maxRecDepth 100000 in
theorem DrawMatchCombo_draw (a : Option Addr) (cap : Nat) (zs : List Int) (w : World) (hl : zs.length ≤ 1099511627776) (hz : ∀ z ∈ zs, 0 ≤ z ∧ z < 256) (h : Rd w (.slice a zs.length cap) (zs.map (.int .u8))) :
    Calls Try.prog 30 #[.slice a zs.length cap] w (MaDrawn w) := by
  go_enter Try.func30, Try.ntmps30
  go_wp2_with fail
  refine (l1New_draw (.slice a zs.length cap) zs w hl hz h).mono ?_
  rintro e w1 ⟨rfl, hd, hb, hlt1⟩
  obtain ⟨b, hbe⟩ : ∃ b, b = w.heap.size := ⟨_, rfl⟩
  rw [← hbe] at hd hb hlt1 ⊢
  have HBE := Lib.hid hbe
  have HD1 := Lib.hid hd
  have HB1 := Lib.hid (show Below w.heap.size w w1 by rw [← HBE.out]; exact hb)
  have HBL := Lib.hid hlt1
  clear hd hb hz hbe hlt1 h hl
  go_wp2_with fail
  refine (l11New_draw HD1.out).mono ?_
  rintro e w2 ⟨l, t, c, a1, c1, a2, c2, a3, c3, fp, hl4, ⟨t0, t1⟩, hc, rfl, how, hd, hg⟩
  have HD2 := Lib.hid hd
  have HB2 := Lib.hid (HB1.out.grown hg HB1.out.size (fun k hk => by cases hk; have := HBE.out; omega))
  obtain ⟨f1, f2, f3, how1, -, -, -, -⟩ := how
  have HO2 := Lib.hid how1
  have HC4 := Lib.hid (show c.C.length ≤ 4 by rw [hc]; exact newCV_C l t hl4)
  have HT6 := Lib.hid (show 0 ≤ c.t ∧ c.t ≤ 6 by rw [hc]; exact newCV_t l t t0 t1)
  have HS12 := Lib.hid hg.size
  clear how1 hd hg hc hl4 t0 t1
  go_upto_region 3 with (fail)
  obtain ⟨g7, hg7⟩ : ∃ g, g = w2.heap.size := ⟨_, rfl⟩
  obtain ⟨W2, hW2⟩ : ∃ x, x = w2.alloc (.cells #[.slice a1 c.C.length c1, .int .i64 c.t, .slice a2 c.Q.length c2, .int .i64 c.n, .int .i64 c.k, .int .i64 c.d, .slice a3 c.A.length c3] 28) := ⟨_, rfl⟩
  have hb2 : Below w2.heap.size w2 W2 := by rw [hW2]; exact (Below.refl _ _).alloc (Nat.le_refl _) _
  have KW := Lib.hid (show W2.heap[g7]? = some (.cells #[.slice a1 c.C.length c1, .int .i64 c.t, .slice a2 c.Q.length c2, .int .i64 c.n, .int .i64 c.k, .int .i64 c.d, .slice a3 c.A.length c3] 28 (0, 0)) by rw [hW2, hg7]; exact heap_alloc_new _ _)
  have HDW := Lib.hid (HD2.out.below hb2)
  have HBW := Lib.hid (HB2.out.trans (hb2.mono HB2.out.size))
  have HOW := Lib.hid (HO2.out.below hb2)
  have HG7 := Lib.hid (show b < g7 by have := HBL.out; have := HS12.out; omega)
  have HFP := Lib.hid (show ∀ q ∈ f1, w1.heap.size ≤ q ∧ q < g7 from fun q hq => by rw [hg7]; exact HO2.out.rng q hq)
  have hne : g7 ≠ b := by have := HG7.out; omega
  rw [← hW2, ← hg7]
  clear hW2 hg7 hb2
  have y1 := (cells_of_heap KW.out 1 (by simp)).1
  simp only [List.getElem_toArray, List.getElem_cons_zero, List.getElem_cons_succ] at y1
  go_wp2_with fail
  refine (l11Events_draw 0 0 c.t 5 HDW.out (by decide) (by omega) (by omega) HT6.out.1 (by have := HT6.out.2; omega) (by omega) (by omega)).mono ?_
  rintro e w3 ⟨u, Q, rfl, hq5, htm, ho, hd, hg⟩
  obtain ⟨g, cq, rfl⟩ := owns_shape ho
  have HQ5 := Lib.hid (show Q.length ≤ 5 by omega)
  have HTM := Lib.hid (show ∀ e ∈ Q, 0 ≤ e.t ∧ e.t ≤ 40 from fun e he => by
    have h1 := htm e he
    have h2 : (c.t + 2) * (Q.length : Int) ≤ 8 * 5 := Int.mul_le_mul (by have := HT6.out; omega) (by omega) (by omega) (by omega)
    omega)
  have HD3 := Lib.hid hd
  have HB3 := Lib.hid (HBW.out.grown hg HBW.out.size (fun k hk => by cases hk; have := HBE.out; omega))
  have K3 := Lib.hid (blk_grown KW.out hg hne)
  have HO3 := Lib.hid (ho)
  have HOC3 := Lib.hid (HOW.out.turn (Turn.of_grown hg) (fun q hq hm => by have := (HFP.out q hq).1; have := HBL.out; rw [List.mem_singleton] at hm; omega))
  clear y1 ho hd hg htm hq5
  have HSW := Lib.hid (show w.heap.size ≤ g7 ∧ g7 < W2.heap.size by have := HBE.out; have := HG7.out; exact ⟨by omega, (Array.getElem?_eq_some_iff.mp KW.out).1⟩)
  have hw1b : b < w1.heap.size := HBL.out
  have HNB := Lib.hid (show ∀ q ∈ f1, q ∉ [b] from fun q hq hm => by have := (HFP.out q hq).1; rw [List.mem_singleton] at hm; omega)
  go_upto_region 4 with (fail)
  go_cut [23] (fun s23 wx => (∃ tt : Bool, s23 = .bool tt ∧ (tt = true → 0 < Q.length)) ∧ Draws b b (.slice a zs.length cap) zs.length zs wx ∧ w3.grownBy wx (some b))
  case first =>
    by_cases h0 : 0 < Q.length
    · have h0' : (0 : Int) < (Q.length : Int) := by omega
      go_wp2_with fail
      refine (l1Once_draw 10 HD3.out (by omega) (by omega)).mono ?_
      rintro e w4 ⟨tt, rfl, hd, hg⟩
      have HD4 := Lib.hid hd
      have HG4 := Lib.hid hg
      clear hd hg
      go_wp2
      go_meet
      exact ⟨⟨_, rfl, fun _ => h0⟩, HD4.out, HG4.out⟩
    · have h0' : ¬ (0 : Int) < (Q.length : Int) := by omega
      go_wp2
      go_meet
      exact ⟨⟨false, rfl, fun h => by cases h⟩, HD3.out, grown_refl _ _⟩
  case rest =>
    obtain ⟨⟨tt, rfl, htt⟩, hd, hg⟩ := hcut
    obtain ⟨w4, rfl⟩ : ∃ w4, w4 = wc := ⟨_, rfl⟩
    have HD4 := Lib.hid hd
    have HB4 := Lib.hid (HB3.out.grown hg HB3.out.size (fun k hk => by cases hk; have := HBE.out; omega))
    have HO4 := Lib.hid (owns_grown HO3.out hg (by have := HSW.out; have := HG7.out; omega))
    have K4 := Lib.hid (blk_grown K3.out hg hne)
    have HC4' := Lib.hid (HOC3.out.turn (Turn.of_grown hg) HNB.out)
    have HTT := Lib.hid htt
    clear hd hg htt
    go_upto_if 23 with (fail)
    go_cut [8] (fun s8 wx => ∃ Q' : List Ev, s8 = .slice g Q.length cq ∧ Q'.length = Q.length ∧ (∀ e ∈ Q', 0 ≤ e.t ∧ e.t ≤ 40) ∧ wx.ownsRow W2.heap.size 36 3 (.slice g Q.length cq) Q.length (flatEv Q') ∧ Draws b b (.slice a zs.length cap) zs.length zs wx ∧ Below w.heap.size w wx ∧ wx.heap[g7]? = some (.cells #[.slice a1 c.C.length c1, .int .i64 c.t, .slice a2 c.Q.length c2, .int .i64 c.n, .int .i64 c.k, .int .i64 c.d, .slice a3 c.A.length c3] 28 (0, 0)) ∧ OwF wx w1.heap.size 94 2 (.slice a1 c.C.length c1) c.C.length (flatCb c.C) f1)
    case first =>
      cases tt
      · go_wp2
        go_meet
        exact ⟨Q, rfl, rfl, HTM.out, HO4.out, HD4.out, HB4.out, K4.out, HC4'.out⟩
      · have h0 := HTT.out rfl
        have hn0 : Q.length ≤ 5 := HQ5.out
        go_wp2_with fail
        refine (l1Below_draw (Q.length : Int) HD4.out (by omega) (by omega)).mono ?_
        rintro e w5 ⟨x, rfl, x0, x1, hd, hg⟩
        obtain ⟨x, rfl⟩ := Int.eq_ofNat_of_zero_le x0
        have hx : x < Q.length := by omega
        have HD5 := Lib.hid hd
        have HB5 := Lib.hid (HB4.out.grown hg HB4.out.size (fun k hk => by cases hk; have := HBE.out; omega))
        have HO5 := Lib.hid (owns_grown HO4.out hg (by have := HSW.out; have := HG7.out; omega))
        have K5 := Lib.hid (blk_grown K4.out hg hne)
        have HC5 := Lib.hid (HC4'.out.turn (Turn.of_grown hg) HNB.out)
        have hb5 := HD5.out.lt
        clear hd hg
        go_wp2_with fail
        have hcell : ∀ i, i < ([-1, 24, 31, 32] : List Int).length → (w5.alloc (.cells #[.int .i64 (-1), .int .i64 24, .int .i64 31, .int .i64 32] 3)).cell? ⟨w5.heap.size, i, none⟩ = some (.int .i64 (([-1, 24, 31, 32] : List Int).getD i 0)) := by
          intro i hi'
          have hh := heap_alloc_new w5 (.cells #[.int .i64 (-1), .int .i64 24, .int .i64 31, .int .i64 32] 3)
          simp only [List.length_cons, List.length_nil] at hi'
          have : i = 0 ∨ i = 1 ∨ i = 2 ∨ i = 3 := by omega
          rcases this with rfl | rfl | rfl | rfl <;> exact (cells_of_heap hh _ (by simp)).1
        refine (l1PickInt_draw w5.heap.size [-1, 24, 31, 32] (HD5.out.alloc _) (by simp) (by simp) (by omega) hcell).mono ?_
        clear hcell
        rintro e w6 ⟨s, rfl, -, hd, hg⟩
        have HD6 := Lib.hid hd
        have HB6 := Lib.hid ((HB5.out.alloc HB5.out.size (.cells #[.int .i64 (-1), .int .i64 24, .int .i64 31, .int .i64 32] 3)).grown hg (by have := HB5.out.size; simp; omega) (fun k hk => by cases hk; have := HBE.out; omega))
        have HO6 := Lib.hid (owns_grown (HO5.out.alloc (.cells #[.int .i64 (-1), .int .i64 24, .int .i64 31, .int .i64 32] 3)) hg (by have := HSW.out; have := HG7.out; omega))
        have K6 := Lib.hid (blk_grown (blk_alloc K5.out) hg hne)
        have HC6 := Lib.hid ((HC5.out.below ((Below.refl _ _).alloc (Nat.le_refl _) (.cells #[.int .i64 (-1), .int .i64 24, .int .i64 31, .int .i64 32] 3))).turn (Turn.of_grown hg) HNB.out)
        clear hd hg
        obtain ⟨gb, cap', rfl, hgb, hcap⟩ : ∃ gb cap', g = some ⟨gb, 0, none⟩ ∧ W2.heap.size ≤ gb ∧ cap' = cq := by
          rcases HO6.out.2 with ⟨e1, _⟩ | ⟨g', cap', cur, e1, e2, _⟩
          · omega
          · simp only [Value.slice.injEq] at e1
            exact ⟨g', cap', e1.1, by simpa using e2, e1.2.2.symm⟩
        subst hcap
        have hrow := HO6.out
        obtain ⟨cur, hcur, hcs⟩ : ∃ cur : Array Value, w6.heap[gb]? = some (.cells cur 36 (0, 0)) ∧ Q.length * 3 ≤ cur.size := by
          rcases hrow.2 with ⟨e1, _⟩ | ⟨g', cap'', cur, e1, _, hh, hnc, _, hsz, _⟩
          · omega
          · simp only [Value.slice.injEq, Option.some.injEq, Addr.mk.injEq, and_true, true_and] at e1
            obtain ⟨rfl, rfl⟩ := e1
            exact ⟨cur, hh, by rw [hsz]; exact Nat.mul_le_mul_right _ hnc⟩
        obtain ⟨xc, fc⟩ := cells_of_heap hcur (x * 3 + 1) (by omega)
        have HP := Lib.hid (owns_put hrow (x * 3 + 1) [.int .i64 s] (by rw [flatEv_len]; simp; omega))
        have HSW' := HSW.out
        have hg7b := HG7.out
        clear hrow hcur
        go_wp2
        go_meet
        refine ⟨setK Q x s, rfl, setK_len Q x s, setK_all Q x s (P := fun t => 0 ≤ t ∧ t ≤ 40) HTM.out, ?_, HD6.out.setCell _ _ _ (by omega) (by omega), HB6.out.setCell (show w.heap.size ≤ gb by omega) _, ?_, ?_⟩
        · rw [← flatEv_setK Q x s hx]
          have := HP.out
          simpa [putW] using this
        · exact (Below.heap_setCell w6 ⟨gb, _, none⟩ _ g7 (fun e => by simp at e; omega)).trans K6.out
        · exact HC6.out.turn (Turn.of_grown (grown_set _ gb _ _)) (fun q hq hm => by have := (HFP.out q hq).2; rw [List.mem_singleton] at hm; omega)
    case rest =>
      obtain ⟨Q', rfl, hl', htm, ho, hd, hb, k5, hoc⟩ := hcut
      obtain ⟨w5, rfl⟩ : ∃ w5, w5 = wc := ⟨_, rfl⟩
      have HL' := Lib.hid hl'
      have HTM' := Lib.hid htm
      have HD5 := Lib.hid hd
      have HO5 := Lib.hid ho
      have HB5 := Lib.hid hb
      have K5 := Lib.hid k5
      have HC5 := Lib.hid hoc
      clear hl' htm ho hd hb k5 hoc
      go_wp2_with fail
      refine (l1Once_draw 10 HD5.out (by omega) (by omega)).mono ?_
      rintro e w6 ⟨tt2, rfl, hd, hg⟩
      have HD6 := Lib.hid hd
      have HB6 := Lib.hid (HB5.out.grown hg HB5.out.size (fun k hk => by cases hk; have := HBE.out; omega))
      have HO6 := Lib.hid (owns_grown HO5.out hg (by have := HSW.out; have := HG7.out; omega))
      have K6 := Lib.hid (blk_grown K5.out hg hne)
      have HC6 := Lib.hid (HC5.out.turn (Turn.of_grown hg) HNB.out)
      clear hd hg
      have HCQ := Lib.hid (show Q.length ≤ cq from capLe_of HO6.out _ _ _ rfl)
      have HQM := Lib.hid (show Q'.length ≤ 1048576 by have := HL'.out; have := HQ5.out; omega)
      have HRD := Lib.hid (show ∀ wx : World, w6.grownBy wx (some b) → RdN wx (.slice g Q.length cq) Q'.length (flatEv Q') from fun wx hx => by rw [HL'.out]; exact RdN.of_owns (owns_grown HO6.out hx (by have := HSW.out; have := HG7.out; omega)))
      have HRC := Lib.hid (show ∀ wx : World, w6.grownBy wx (some b) → RdN wx (.slice a1 c.C.length c1) c.C.length (flatCb c.C) from fun wx hx => (HC6.out.turn (Turn.of_grown hx) HNB.out).rd)
      have HBX := Lib.hid (show ∀ wx : World, w6.grownBy wx (some b) → Below w.heap.size w wx from fun wx hx => HB6.out.grown hx HB6.out.size (fun k hk => by cases hk; have := HBE.out; omega))
      cases tt2
      · have HCC := Lib.hid (show c.C.length ≤ c1 from capLe_of HC6.out.1 _ _ _ rfl)
        have HGX := Lib.hid (grown_refl w6 (some b))
        have HD := Lib.hid HD6.out
        have ds0 := (cells_of_heap K6.out 0 (by simp)).1
        have ds1 := (cells_of_heap K6.out 1 (by simp)).1
        simp only [List.getElem_toArray, List.getElem_cons_zero, List.getElem_cons_succ] at ds0 ds1
        go_upto_region 8 with (fail)
        go_region_held3 (fun w' => w'.cell? ⟨g7, 0, none⟩ = some (.slice a1 c.C.length c1) ∧ w'.cell? ⟨g7, 1, none⟩ = some (.int .i64 c.t)) (first | go_keep | simp [go_sem, *])
          (first
            | (go_at_call 66; refine Calls.mono (l1Below_draw (B := b) (v := .slice a zs.length cap) (n := zs.length) (zs := zs) 8 ?_ (by omega) (by omega)) ?_; (focus repeat (first | with_reducible exact HD.out | with_reducible refine Draws.alloc ?_ _ | with_reducible refine Draws.dr ?_)); rintro e wl ⟨y, rfl, -, -, hd, hg⟩; have hgx : w6.grownBy wl (some b) := (by refine grown_trans ?_ hg; repeat (first | with_reducible exact HGX.out | with_reducible refine grown_al ?_ | with_reducible refine grown_dr ?_)); have HGX := Lib.hid hgx; have HD := Lib.hid hd; have KR := Lib.hid (blk_grown K6.out hgx hne); clear ds0 ds1; have ds0 := (cells_of_heap KR.out 0 (by simp)).1; have ds1 := (cells_of_heap KR.out 1 (by simp)).1; (simp only [List.getElem_toArray, List.getElem_cons_zero, List.getElem_cons_succ] at ds0 ds1); clear hg hd hgx)
            | (go_at_call 65; refine Calls.mono (l11Last_q Q' (.slice g Q.length cq) 0 _ HQM.out ?_) ?_; (focus (refine HRD.out _ ?_; repeat (first | with_reducible exact HGX.out | with_reducible refine grown_al ?_ | with_reducible refine grown_dr ?_))); rintro e _ ⟨rfl, rfl⟩))
        all_goals
          go_wp2
          exact bodyPost_ret (v := .tuple #[.slice a1 c.C.length c1, .int .i64 c.t, .slice g Q.length cq, .int .i64 (IntKind.i64.wrap (lastT Q' 0 + y))]) (by simp [results, Try.results30, go_sem]) rfl ⟨c.C, a1, c1, c.t, Q', g, cq, _, by rw [HL'.out], by have := HC4.out; omega, by rw [HL'.out]; exact HQ5.out, HTM'.out, HRC.out _ HGX.out, by have := HRD.out _ HGX.out; rw [HL'.out] at this ⊢; exact this, HCC.out, by rw [HL'.out]; exact HCQ.out, HBX.out _ HGX.out⟩
      · go_wp2_with fail
        refine (l11Bent_draw HD6.out).mono ?_
        rintro e w7 ⟨lb, ab, cb, rfl, hl5, ho, hd, hg⟩
        have HD7 := Lib.hid hd
        have HGX := Lib.hid hg
        have HOB := Lib.hid ho
        have HCB := Lib.hid (show lb.length ≤ cb from capLe_of ho _ _ _ rfl)
        have hb7 := hd.lt
        have hs67 := HD6.out.lt
        clear ho hd hg
        go_wp2_with fail
        have hcell : ∀ i, i < ([0, 3, 201] : List Int).length → (w7.alloc (.cells #[.int .i64 0, .int .i64 3, .int .i64 201] 3)).cell? ⟨w7.heap.size, i, none⟩ = some (.int .i64 (([0, 3, 201] : List Int).getD i 0)) := by
          intro i hi'
          have hh := heap_alloc_new w7 (.cells #[.int .i64 0, .int .i64 3, .int .i64 201] 3)
          simp only [List.length_cons, List.length_nil] at hi'
          have : i = 0 ∨ i = 1 ∨ i = 2 := by omega
          rcases this with rfl | rfl | rfl <;> exact (cells_of_heap hh _ (by simp)).1
        refine (l1PickInt_draw w7.heap.size [0, 3, 201] (HD7.out.alloc _) (by simp) (by simp) (by omega) hcell).mono ?_
        clear hcell
        rintro e w8 ⟨s, rfl, -, -, hg⟩
        have HOB8 := Lib.hid (RdN.of_owns (owns_grown (HOB.out.alloc (.cells #[.int .i64 0, .int .i64 3, .int .i64 201] 3)) hg hs67))
        have HGY := Lib.hid (grown_trans (grown_al HGX.out (o := .cells #[.int .i64 0, .int .i64 3, .int .i64 201] 3)) hg)
        clear hg
        go_wp2
        exact bodyPost_ret (v := .tuple #[.slice ab lb.length cb, .int .i64 s, .slice g Q.length cq, .int .i64 5]) (by simp [results, Try.results30, go_sem]) rfl ⟨lb, ab, cb, s, Q', g, cq, 5, by rw [HL'.out], hl5, by rw [HL'.out]; exact HQ5.out, HTM'.out, HOB8.out, by have := HRD.out _ HGY.out; rw [HL'.out] at this ⊢; exact this, HCB.out, by rw [HL'.out]; exact HCQ.out, HBX.out _ HGY.out⟩

end Go.Proofs.Ytagmdkblcgnddaa
