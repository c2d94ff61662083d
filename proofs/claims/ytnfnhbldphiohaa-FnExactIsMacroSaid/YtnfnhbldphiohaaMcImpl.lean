/- DERIVED. The program's followMacro: it tells whether a macro is valid and returns what is down behind each of its moves. Called with any steps. -/
import Derived.Test.YtnfnhbldphiohaaMcMov
import Derived.Deep.RegionHeld3
namespace Go.Proofs.Ytnfnhbldphiohaa
open Go.RowKit

theorem movesOf_n (k : Int) (F : List FuncId) (hF : F = mvF k) (w : World) : Calls Try.prog 39 #[.int .i64 k] w fun e w' => ∃ a c, e = .returned (.slice a F.length c) ∧ (∀ w'', (∀ i, w.heap.size ≤ i → w''.heap[i]? = w'.heap[i]?) → Rd w'' (.slice a F.length c) (F.map mvV)) ∧ (∀ p, a = some p → w.heap.size ≤ p.block) ∧ Below w.heap.size w w' := by
  subst hF
  exact (movesOf_any k w).mono fun e w' ⟨u, he, a, c, hu, hr, hp, hb⟩ => ⟨a, c, by rw [he, hu], hr, hp, hb⟩
/-- The row of moves in memory. -/
def MvW (w : World) (b o : Nat) (F : List FuncId) : Prop := b < w.heap.size ∧ ∀ i, i < F.length → w.cell? ⟨b, o + i, none⟩ = some (mvV (F.getD i 0))
theorem MvW.keep {w w' : World} {b o : Nat} {F : List FuncId} (h : MvW w b o F) (hh : w'.heap[b]? = w.heap[b]?) : MvW w' b o F := by
  have h0 : w.heap[b]? = some (w.heap[b]'h.1) := Array.getElem?_eq_getElem h.1
  refine ⟨(Array.getElem?_eq_some_iff.mp (hh.trans h0)).1, fun i hi => ?_⟩
  have := h.2 i hi
  simp only [World.cell?, hh] at this ⊢
  exact this
theorem MvW.below {w w' : World} {b o : Nat} {F : List FuncId} (h : MvW w b o F) (hb : Below w.heap.size w w') : MvW w' b o F := h.keep (hb.block b h.1)
theorem MvW.of_rd {w : World} {n c B : Nat} {a : Option Addr} {F : List FuncId} (h : Rd w (.slice a n c) (F.map mvV)) (hF : F ≠ []) (hp : ∀ p, a = some p → B ≤ p.block) : ∃ b o, a = some ⟨b, o, none⟩ ∧ B ≤ b ∧ MvW w b o F := by
  rcases h.cases with ⟨h0, _⟩ | ⟨_, b, off, cap, hv, hlt, hc⟩
  · exact absurd (List.map_eq_nil_iff.1 h0) hF
  · simp only [Value.slice.injEq] at hv
    refine ⟨b, off, hv.1, hp _ hv.1, hlt, fun i hi => ?_⟩
    rw [hc i (by simpa using hi)]
    simp [List.getD_eq_getElem?_getD, List.getElem?_eq_getElem hi]
/-- What followMacro returns. -/
def FoO (s : List St) (w : World) (e : Ending) (w' : World) : Prop := ∃ u, e = .returned (.tuple #[u, .bool (okMc s)]) ∧ (okMc s = true → RdS Ac.cells w' u (skN s s.length)) ∧ Below w.heap.size w w'

set_option maxRecDepth 100000 in
set_option maxHeartbeats 16000000 in
theorem followMacro_any (v : Value) (s : List St) (w : World) (hs : s.length ≤ maxLen) (h : RdN w v s.length (flatSt s)) :
    Calls Try.prog 26 #[v] w (FoO s w) := by
  obtain ⟨iS, hi, hz0, hz1, hz2⟩ := info_parts info_stk
  obtain ⟨a, cap, rfl⟩ := RdN.shape h
  obtain ⟨n, hnl⟩ : ∃ n, n = s.length := ⟨_, rfl⟩
  have HNL := Lib.hid hnl
  have H := Lib.hid h
  obtain ⟨R, hR⟩ : ∃ R, R = okMc s := ⟨_, rfl⟩
  have HR := Lib.hid hR
  unfold maxLen at hs
  rw [← hnl] at hs ⊢
  by_cases hn8 : n ≤ 8
  · have hno : ∀ w', Below w.heap.size w w' → R = false → FoO s w (.returned (.tuple #[.slice none 0 0, .bool false])) w' := fun w' hb hr => ⟨_, by rw [← HR.out, hr], fun h => (by rw [← HR.out, hr] at h; exact absurd h (by decide)), hb⟩
    have HNO := Lib.hid hno
    have hn8' : ¬ (8 : Int) < (n : Int) := by omega
    clear h hnl hR hno
    go_enter Try.func26, Try.ntmps26
    go_wp2
    go_loopw [4, 5, 19] (fun dn st i wr => ∃ (j : Nat), j ≤ n ∧ i = .int .i64 j ∧ mcN s j = true ∧ FoW wr w.heap.size dn st (dA (dwN s j)) (skN s j) ∧ Below w.heap.size w wr) (fun _ _ i _ => n - (intOf i).toNat)
    case atStart => exact ⟨0, Nat.zero_le _, rfl, rfl, FoW.start _ _, Below.refl _ _⟩
    case round =>
      obtain ⟨j, hj, rfl, hmc, hf, hb⟩ := hrel
      have HMC := Lib.hid hmc
      clear hmc
      by_cases hlt' : j < n
      · have hjz : j < s.length := by rw [← HNL.out]; exact hlt'
        obtain ⟨b, off, rfl, hlt, s0, s1, s2⟩ := st_at H.out hjz
        have e0 := (hb.cell (p := ⟨b, off + j * 3, none⟩) hlt).trans s0
        have e1 := (hb.cell (p := ⟨b, off + j * 3 + 1, none⟩) hlt).trans s1
        have e2 := (hb.cell (p := ⟨b, off + j * 3 + 2, none⟩) hlt).trans s2
        have hdl := dwN_len s j
        have hsl := skN_len s j
        have hbad : okX (dwN s j) (stD s j) = false → R = false := fun h0 => by rw [HR.out, okMc, mcN_no h0 _ hjz]; rfl
        have hnx : okX (dwN s j) (stD s j) = true → mcN s (j + 1) = true := fun h0 => by rw [mcN, HMC.out, h0]; rfl
        have hdw : dwN s (j + 1) = nxS (dwN s j) (stD s j) := rfl
        have hsk : skN s (j + 1) = skN s j ++ skX (dwN s j) (stD s j) := rfl
        obtain ⟨d, hd⟩ : ∃ d, d = dwN s j := ⟨_, rfl⟩
        obtain ⟨x, hx⟩ : ∃ x, x = stD s j := ⟨_, rfl⟩
        obtain ⟨S, hS⟩ : ∃ S, S = skN s j := ⟨_, rfl⟩
        rw [← hd, ← hx] at hbad hnx hdw hsk
        rw [← hS] at hsk hsl hf
        rw [← hd] at hdl hf
        rw [← hx] at e0 e1 e2
        have hall := fun (hk : mvF x.k ≠ []) (ha : okAc 2 x.c x.m 0 = true) => mv_all d x hk ha
        have hno2 : mvF x.k = [] → R = false := fun hk => hbad (mvF_no hk)
        have hml := mvF_len x.k
        have hmm := fun q (hq : q < (mvF x.k).length) => mvF_mem x.k hq
        obtain ⟨k, c, m⟩ := x
        simp only at e0 e1 e2 hall hno2 hml hmm
        obtain ⟨vo, hvo⟩ : ∃ vo, vo = okAc 2 c m 0 := ⟨_, rfl⟩
        have hacb : vo = false → R = false := fun h0 => hbad (by rw [okX]; show (inB k 0 2 && (okAc 2 c m 0 && _)) = false; rw [← hvo, h0, Bool.false_and, Bool.and_false])
        obtain ⟨D, hD⟩ : ∃ D, D = dA d := ⟨_, rfl⟩
        have hDl : D.length ≤ j := by rw [hD, dA_len]; exact hdl
        obtain ⟨F, hF⟩ : ∃ F, F = mvF k := ⟨_, rfl⟩
        rw [← hD] at hf
        rw [← hF] at hml hmm hno2
        have HVO := Lib.hid hvo
        have HACB := Lib.hid hacb
        have HBad := Lib.hid hbad
        have HNX := Lib.hid hnx
        have HDW := Lib.hid hdw
        have HSK := Lib.hid hsk
        have HALL := Lib.hid hall
        have HNO2 := Lib.hid hno2
        have HML := Lib.hid hml
        have HMM := Lib.hid hmm
        have HD := Lib.hid hD
        have HF := Lib.hid hF
        have HDL := Lib.hid hDl
        have HSL := Lib.hid hsl
        clear s0 s1 s2 hd hx hS hvo hacb hbad hnx hdw hsk hall hno2 hml hmm hD hF hDl hsl hdl
        go_upto_region 8 with (fail)
        obtain ⟨U, hU⟩ : ∃ U, U = wr.alloc (.cells #[.int .i64 k, .int .i64 c, .int .i64 m] 42) := ⟨_, rfl⟩
        obtain ⟨g, hg⟩ : ∃ g, g = wr.heap.size := ⟨_, rfl⟩
        have hu : Below wr.heap.size wr U := by rw [hU]; exact below_alloc1 _ _
        have hgu : U.heap[g]? = some (.cells #[.int .i64 k, .int .i64 c, .int .i64 m] 42 (0, 0)) := by rw [hU, hg]; exact heap_alloc_new _ _
        rw [← hU, ← hg]
        have FU := Lib.hid (hf.below hu)
        have HBU := Lib.hid (hb.trans (hu.mono hb.size))
        have hgs : g < U.heap.size := (Array.getElem?_eq_some_iff.mp hgu).1
        have HGU := Lib.hid hgu
        have HVS := Lib.hid (show ∀ t, u5.ownBlock = some t → t < U.heap.size from fun t ht => by
          obtain ⟨us, fps, hst⟩ := hf.st
          have h1 := (hst.rng t (List.mem_append_left _ (by simp [ownFp, ht]))).2
          have h2 := hu.size
          omega)
        clear hU hg hu hgu hf hb e0 e1 e2
        go_cut [8, 9] (fun sp sm wx => ∃ (y9 : Nat) (a9 : Option Addr) (c9 : Nat), sp = .pointer (some ⟨y9, 0, none⟩) ∧ sm = .slice a9 F.length c9 ∧ wx.heap[y9]? = some (.cells #[.int .i64 2, .int .i64 c, .int .i64 m, .int .i64 0] 47 (0, 0)) ∧ Rd wx (.slice a9 F.length c9) (F.map mvV) ∧ (U.heap.size ≤ y9 ∧ ∀ p, a9 = some p → U.heap.size ≤ p.block) ∧ Below U.heap.size U wx)
        case first =>
          have c0 := (cells_of_heap HGU.out 0 (by simp)).1
          have c1 := (cells_of_heap HGU.out 1 (by simp)).1
          have c2 := (cells_of_heap HGU.out 2 (by simp)).1
          simp only [List.getElem_toArray, List.getElem_cons_zero, List.getElem_cons_succ] at c0 c1 c2
          have n0 : ¬ g = U.heap.size := by omega
          have m0 : ¬ U.heap.size = g := by omega
          have X0 := Lib.hid (Below.refl U.heap.size U)
          go_region_held3 (fun w' => w'.cell? ⟨g, 0, none⟩ = some (.int .i64 k) ∧ w'.cell? ⟨g, 1, none⟩ = some (.int .i64 c) ∧ w'.cell? ⟨g, 2, none⟩ = some (.int .i64 m)) (first | go_keep | simp [go_sem, *])
            (first
              | (go_at_call 38; refine (pressOf_any k c m _).mono ?_; rintro e v1 ⟨rfl, hb⟩; have hbr : Below U.heap.size U v1 := below_via (by first | exact X0.out | exact X0.out.drew | exact X0.out.drew.drew | exact X0.out.alloc X0.out.size _ | exact (X0.out.alloc X0.out.size _).drew | exact (X0.out.alloc X0.out.size _).drew.drew) hb; have kc0 := (hbr.cell (p := ⟨g, 0, none⟩) hgs).trans c0; have kc1 := (hbr.cell (p := ⟨g, 1, none⟩) hgs).trans c1; have kc2 := (hbr.cell (p := ⟨g, 2, none⟩) hgs).trans c2; have n1 : ¬ g = v1.heap.size := (by have := hbr.size; omega); have m1 : ¬ v1.heap.size = g := (by have := hbr.size; omega); (first | (have KY := Lib.hid (ky_new X0.out.size hb)) | (have KY := Lib.hid (ky_drew X0.out.size hb)) | (have KY := Lib.hid (ky_old KY.out hb rfl)) | skip); have X1 := Lib.hid hbr; clear hbr hb)
              | (go_at_call 39; refine (movesOf_n k F HF.out _).mono ?_; rintro e v2 ⟨a9, c9, rfl, hr, hp9, hb⟩; have hbr : Below U.heap.size U v2 := below_via (by first | exact X1.out | exact X1.out.drew | exact X1.out.drew.drew | exact X1.out.alloc X1.out.size _ | exact (X1.out.alloc X1.out.size _).drew | exact (X1.out.alloc X1.out.size _).drew.drew) hb; have kc0 := (hbr.cell (p := ⟨g, 0, none⟩) hgs).trans c0; have kc1 := (hbr.cell (p := ⟨g, 1, none⟩) hgs).trans c1; have kc2 := (hbr.cell (p := ⟨g, 2, none⟩) hgs).trans c2; have n2 : ¬ g = v2.heap.size := (by have := hbr.size; omega); have m2 : ¬ v2.heap.size = g := (by have := hbr.size; omega); (first | (have KY := Lib.hid (ky_new X1.out.size hb)) | (have KY := Lib.hid (ky_drew X1.out.size hb)) | (have KY := Lib.hid (ky_old KY.out hb rfl)) | skip); have HRD := Lib.hid hr; have HP9 := Lib.hid (show ∀ p, a9 = some p → U.heap.size ≤ p.block from fun p h9 => Nat.le_trans (Below.size (B := U.heap.size) (w := U) (by first | exact X1.out | exact X1.out.drew | exact X1.out.drew.drew | exact X1.out.alloc X1.out.size _ | exact (X1.out.alloc X1.out.size _).drew | exact (X1.out.alloc X1.out.size _).drew.drew)) (hp9 p h9)); clear hr hp9; (try (have e0 := cells_of_heap KY.out.1 0 (by simp); have g0 := e0.2; replace e0 := e0.1; have e1 := cells_of_heap KY.out.1 1 (by simp); have g1 := e1.2; replace e1 := e1.1; have e2 := cells_of_heap KY.out.1 2 (by simp); have g2 := e2.2; replace e2 := e2.1; have e3 := cells_of_heap KY.out.1 3 (by simp); have g3 := e3.2; replace e3 := e3.1)); have X2 := Lib.hid hbr; clear hbr hb))
          all_goals
            go_wp2
            go_meet
            have hd1 := (HRD.out v2 (fun _ _ => rfl)).below (below_alloc1 v2 (.cells #[.int .i64 2, .int .i64 c, .int .i64 m, .int .i64 0] 47))
            have hx1 := X2.out.alloc X2.out.size (.cells #[.int .i64 2, .int .i64 c, .int .i64 m, .int .i64 0] 47)
            first
              | with_reducible exact ⟨_, a9, c9, rfl, rfl, heap_alloc_new _ _, hd1, ⟨X2.out.size, HP9.out⟩, hx1⟩
              | with_reducible exact ⟨_, a9, c9, rfl, rfl, heap_alloc_new _ _, hd1.below (Below.refl _ _).drew, ⟨X2.out.size, HP9.out⟩, hx1.drew⟩
              | (have hpa := putW_all [.int .i64 2, .int .i64 c, .int .i64 m, .int .i64 0] KY.out.1 rfl
                 have hpb := putW_below KY.out.2.2 [.int .i64 2, .int .i64 c, .int .i64 m, .int .i64 0] 0 _ X2.out
                 have hpr := HRD.out _ (fun q hq => putW_other (Nat.ne_of_gt (Nat.lt_of_lt_of_le KY.out.2.1 hq)) [.int .i64 2, .int .i64 c, .int .i64 m, .int .i64 0] 0 v2)
                 simp only [putW, Nat.reduceAdd] at hpa hpb hpr
                 first
                   | with_reducible exact ⟨_, a9, c9, rfl, rfl, hpa, hpr, ⟨KY.out.2.2, HP9.out⟩, hpb⟩
                   | with_reducible exact ⟨_, a9, c9, rfl, rfl, hpa, hpr.below (Below.refl _ _).drew, ⟨KY.out.2.2, HP9.out⟩, hpb.drew⟩)
        case rest =>
          obtain ⟨y9, a9, c9, rfl, rfl, hy, hr, ⟨hy9, hp9⟩, hb⟩ := hcut
          have HY9 := Lib.hid hy9
          have HP9 := Lib.hid hp9
          clear hy9 hp9
          obtain ⟨W4, hEq⟩ : ∃ x, x = wc := ⟨_, rfl⟩
          rw [← hEq] at hy hr hb ⊢
          clear hEq
          have F4 := Lib.hid (FU.out.below hb)
          have HB4 := Lib.hid (HBU.out.trans (hb.mono HBU.out.size))
          have HY4 := Lib.hid hy
          have HR4 := Lib.hid hr
          have HL4 := Lib.hid (show y9 < W4.heap.size from (Array.getElem?_eq_some_iff.mp hy).1)
          clear hy hr hb FU HBU HGU
          have c0 := (cells_of_heap HY4.out 0 (by simp)).1
          have c1 := (cells_of_heap HY4.out 1 (by simp)).1
          have c2 := (cells_of_heap HY4.out 2 (by simp)).1
          have c3 := (cells_of_heap HY4.out 3 (by simp)).1
          simp only [List.getElem_toArray, List.getElem_cons_zero, List.getElem_cons_succ] at c0 c1 c2 c3
          go_wp2_with fail
          refine (implIsAction_q 2 c m 0 vo HVO.out _).mono ?_
          rintro e w5 ⟨rfl, hb⟩
          have F5 := Lib.hid (F4.out.below hb)
          have HB5 := Lib.hid (HB4.out.trans (hb.mono HB4.out.size))
          have HY5 := Lib.hid ((hb.block y9 HL4.out).trans HY4.out)
          have HR5 := Lib.hid (HR4.out.below hb)
          have HL5 := Lib.hid (Nat.lt_of_lt_of_le HL4.out hb.size)
          clear hb F4 HB4 HY4 HR4 HL4 c0 c1 c2 c3
          cases vo
          · have hr := HACB.out rfl
            go_wp2
            go_ret2
            exact HNO.out _ HB5.out hr
          · rcases hF0 : F with _ | ⟨f1, F1⟩
            · have hr := HNO2.out hF0
              subst hF0
              go_wp2
              go_ret2
              exact HNO.out _ HB5.out hr
            · rw [← hF0]
              have hlp : ¬ F.length = 0 := by rw [hF0]; simp
              have HNE := Lib.hid (show mvF k ≠ [] by rw [← HF.out, hF0]; simp)
              obtain ⟨b9, o9, rfl, hb9, hmw⟩ := MvW.of_rd HR5.out (by rw [hF0]; simp) HP9.out
              obtain ⟨nf, hnf⟩ : ∃ x, x = F.length := ⟨_, rfl⟩
              have HNF := Lib.hid hnf
              rw [← hnf] at hlp HML ⊢
              have hlp2 : ¬ (nf : Int) = 0 := by omega
              have hnb : ((nf : Int) == 0) = false := by rw [beq_eq_false_iff_ne]; exact hlp2
              have HM5 := Lib.hid hmw
              have HB9 := Lib.hid hb9
              have HML2 := HML.out
              have hvs0 : ∀ t, u5.ownBlock = some t → t ≠ y9 ∧ t ≠ b9 := fun t ht => by
                have := HVS.out t ht
                have := HY9.out
                exact ⟨by omega, by omega⟩
              have HVS0 := Lib.hid hvs0
              clear hF0 hnf f1 F1 hmw hb9 hvs0
              go_wp2
              go_loopw [4, 5, 38] (fun dn st i wr => ∃ (q : Nat) (Dq : List Ac), q ≤ nf ∧ i = .int .i64 q ∧ mvN ⟨2, c, m, 0⟩ F D q = some Dq ∧ Dq.length ≤ j + q ∧ FoW wr w.heap.size dn st Dq (S ++ mvT ⟨2, c, m, 0⟩ F D q) ∧ (∀ t, st.ownBlock = some t → t ≠ y9 ∧ t ≠ b9) ∧ wr.heap[y9]? = some (.cells #[.int .i64 2, .int .i64 c, .int .i64 m, .int .i64 0] 47 (0, 0)) ∧ MvW wr b9 o9 F ∧ Below w.heap.size w wr) (fun _ _ i _ => nf - (intOf i).toNat)
              case atStart => exact ⟨0, D, Nat.zero_le _, rfl, rfl, HDL.out, by rw [mvT, List.append_nil]; exact F5.out, HVS0.out, HY5.out, HM5.out, HB5.out⟩
              case round =>
                obtain ⟨q, Dq, hq, rfl, hmq, hdq, hf, hvs, hy, hmw, hb⟩ := hrel
                by_cases hqlt : q < nf
                · have hfq := HMM.out q (by rw [← HNF.out]; exact hqlt)
                  have hmc := hmw.2 q (by rw [← HNF.out]; exact hqlt)
                  obtain ⟨us, fps, hst⟩ := hf.st
                  have hmn : mvN ⟨2, c, m, 0⟩ F D (q + 1) = mvOne (F.getD q 0) Dq ⟨2, c, m, 0⟩ := by rw [mvN, hmq]; rfl
                  have hmt : S ++ mvT ⟨2, c, m, 0⟩ F D (q + 1) = (S ++ mvT ⟨2, c, m, 0⟩ F D q) ++ [(mvN ⟨2, c, m, 0⟩ F D (q + 1)).getD []] := by rw [mvT, List.append_assoc]
                  have htl : (S ++ mvT ⟨2, c, m, 0⟩ F D q).length ≤ 2 * j + q := by rw [List.length_append, mvT_len]; have := HSL.out; omega
                  obtain ⟨f, hfe⟩ : ∃ f, f = F.getD q 0 := ⟨_, rfl⟩
                  obtain ⟨T, hT⟩ : ∃ T, T = S ++ mvT ⟨2, c, m, 0⟩ F D q := ⟨_, rfl⟩
                  rw [← hfe] at hfq hmc hmn
                  rw [← hT] at hmt htl hf hst
                  have hfail : mvN ⟨2, c, m, 0⟩ F D (q + 1) = none → R = false := fun h0 => by
                    rcases hk : okX d ⟨k, c, m⟩ with _ | _
                    · exact HBad.out hk
                    · have h1 := ((HALL.out HNE.out (by rw [← HVO.out])).2 hk).1
                      have h2 := mvN_no h0 nf (by omega)
                      rw [HNF.out, HF.out, HD.out] at h2
                      rw [show (⟨2, c, m, 0⟩ : Ac) = pA ⟨k, c, m⟩ from rfl, h1] at h2
                      exact absurd h2 (by simp)
                  have c0 := (cells_of_heap hy 0 (by simp)).1
                  have c1 := (cells_of_heap hy 1 (by simp)).1
                  have c2 := (cells_of_heap hy 2 (by simp)).1
                  have c3 := (cells_of_heap hy 3 (by simp)).1
                  simp only [List.getElem_toArray, List.getElem_cons_zero, List.getElem_cons_succ] at c0 c1 c2 c3
                  have HMN := Lib.hid hmn
                  have HMT := Lib.hid hmt
                  have HTL := Lib.hid htl
                  have HFail := Lib.hid hfail
                  have HFo := Lib.hid hf
                  have HST := Lib.hid hst
                  have HVs := Lib.hid hvs
                  have HYw := Lib.hid hy
                  have HMw := Lib.hid hmw
                  have HBw := Lib.hid hb
                  have HDq := Lib.hid hdq
                  have HMq := Lib.hid hmq
                  have hyl : y9 < wr.heap.size := (Array.getElem?_eq_some_iff.mp hy).1
                  have HYL := Lib.hid hyl
                  clear hmn hmt htl hfail hf hst hvs hy hmw hb hdq hmq hfe hT hyl
                  rcases hfq with rfl | rfl
                  · have HMP := Lib.hid (HMN.out.trans (mv_put Dq ⟨2, c, m, 0⟩))
                    unfold mvV at hmc
                    go_wp2_with fail
                    refine (putPress_any u4 Dq 2 c m 0 _ (by have := HDq.out; omega) HFo.out.nil HFo.out.dn).mono ?_
                    obtain ⟨O, hO⟩ : ∃ O, O = putV Dq ⟨2, c, m, 0⟩ := ⟨_, rfl⟩
                    rw [← hO] at HMP ⊢
                    rintro e w6 ⟨hm, hb⟩
                    have HB6 := Lib.hid hb
                    clear hb hO hmc c0 c1 c2 c3
                    rcases O with _ | l2
                    · subst hm
                      have hr := HFail.out HMP.out
                      go_wp2
                      go_ret2
                      exact HNO.out _ (HBw.out.trans (HB6.out.mono HBw.out.size)) hr
                    · obtain ⟨g2, c2, rfl, ho⟩ := hm
                      have hl2 := mvOne_len (HMN.out.symm.trans HMP.out)
                      obtain ⟨n2, hn2⟩ : ∃ x, x = l2.length := ⟨_, rfl⟩
                      have HN2 := Lib.hid hn2
                      have HO6 := Lib.hid ho
                      have HL2 := Lib.hid hl2
                      obtain ⟨M, hM⟩ : ∃ x, x = T.length := ⟨_, rfl⟩
                      have HM := Lib.hid hM
                      have b63 : M + 1 ≤ maxLen := by have := HTL.out; unfold maxLen; omega
                      have b47 : (M + 1) * 24 ≤ 140737488355328 := by have := HTL.out; omega
                      have hws : w.heap.size ≤ w6.heap.size := Nat.le_trans HBw.out.size HB6.out.size
                      have HOW := Lib.hid (show (w6.alloc (.cells #[.slice (some ⟨g2, 0, none⟩) n2 c2] 69)).ownsRow w.heap.size 69 1 u5 M us from by rw [hM]; exact owns_below (owns_below HST.out.own HB6.out) (below_alloc1 _ _))
                      rw [← hn2]
                      clear hn2 ho hl2 hM
                      go_wp2_with (at_builtin; refine wpList_append_lies _ rfl _ _ 54 rfl w.heap.size 69 iS (.slice none 0 0) 1 24 Try.underlying54 hi hz0 hz1 hz2 rfl (by decide) _ _ _ rfl HOW.out ⟨w6.heap.size, 0, none⟩ 1 1 [.slice (some ⟨g2, 0, none⟩) n2 c2] rfl rfl (World.news_of_block (cs := #[.slice (some ⟨g2, 0, none⟩) n2 c2]) (t := 69) (fr := (0, 0)) (heap_alloc_new w6 _)) (by intro u hu; rw [List.mem_singleton.1 hu]; rfl) (by decide) b63 b47 (by simp; omega) _ rfl ?_)
                      intro gs cs w7 hown hgrow hat hglt
                      have HB7 := Lib.hid (show Below w.heap.size w w7 from Below.grown ((HBw.out.trans (HB6.out.mono HBw.out.size)).alloc hws _) hgrow (by simp; omega) (fun q hq => (HOW.out.lt q hq).1))
                      have hblk : ∀ t, t < wr.heap.size → u5.ownBlock ≠ some t → w7.heap[t]? = wr.heap[t]? := fun t ht hne => (hgrow.block t (by simp; have := HB6.out.size; omega) (fun e => hne e.symm)).trans ((heap_alloc_old w6 _ (Nat.lt_of_lt_of_le ht HB6.out.size)).trans (HB6.out.block t ht))
                      have HY7 := Lib.hid (show w7.heap[y9]? = some (.cells #[.int .i64 2, .int .i64 c, .int .i64 m, .int .i64 0] 47 (0, 0)) from (hblk y9 HYL.out (fun e => (HVs.out y9 e).1 rfl)).trans HYw.out)
                      have HM7 := Lib.hid (HMw.out.keep (hblk b9 HMw.out.1 (fun e => (HVs.out b9 e).2 rfl)))
                      have HV7 := Lib.hid (show ∀ t, (Value.slice (some ⟨gs, 0, none⟩) (M + 1) cs).ownBlock = some t → t ≠ y9 ∧ t ≠ b9 from fun t ht => by
                        obtain rfl : gs = t := by simpa [Value.ownBlock] using ht
                        rcases hat with h1 | h1
                        · exact HVs.out gs h1
                        · have h2 := HYL.out
                          have h3 := HMw.out.1
                          have h4 := HB6.out.size
                          have h5 : gs = w6.heap.size + 1 := h1.trans (by simp)
                          exact ⟨by omega, by omega⟩)
                      have HF7 := Lib.hid (show FoW w7 w.heap.size (.slice (some ⟨g2, 0, none⟩) n2 c2) (.slice (some ⟨gs, 0, none⟩) (M + 1) cs) l2 (S ++ mvT ⟨2, c, m, 0⟩ F D (q + 1)) from by
                        rw [HMT.out, HMP.out, HM.out, HN2.out]
                        rw [HM.out, HN2.out] at hown
                        refine FoW.push HST.out HBw.out.size (HB6.out.alloc HB6.out.size _) (owns_below HO6.out (below_alloc1 _ _)) hown hgrow ?_
                        exact hat.imp id (fun h => h.trans (by simp)))
                      clear hown hgrow hat hglt b63 b47 hws hblk
                      go_wp2
                      go_roundw
                      case rel => exact ⟨q + 1, l2, by omega, by go_num, HMP.out, by have := HDq.out; have := HL2.out; omega, HF7.out, HV7.out, HY7.out, HM7.out, HB7.out⟩
                      case measure => simp [intOf]; omega
                  · have HMP := Lib.hid (HMN.out.trans (mv_take Dq ⟨2, c, m, 0⟩))
                    unfold mvV at hmc
                    go_wp2_with fail
                    refine (takePress_any u4 Dq 2 c m 0 _ (by have := HDq.out; omega) HFo.out.nil HFo.out.dn).mono ?_
                    obtain ⟨O, hO⟩ : ∃ O, O = takeV Dq ⟨2, c, m, 0⟩ := ⟨_, rfl⟩
                    rw [← hO] at HMP ⊢
                    rintro e w6 ⟨hm, hb⟩
                    have HB6 := Lib.hid hb
                    clear hb hO hmc c0 c1 c2 c3
                    rcases O with _ | l2
                    · subst hm
                      have hr := HFail.out HMP.out
                      go_wp2
                      go_ret2
                      exact HNO.out _ (HBw.out.trans (HB6.out.mono HBw.out.size)) hr
                    · obtain ⟨g2, c2, rfl, ho⟩ := hm
                      have hl2 := mvOne_len (HMN.out.symm.trans HMP.out)
                      obtain ⟨n2, hn2⟩ : ∃ x, x = l2.length := ⟨_, rfl⟩
                      have HN2 := Lib.hid hn2
                      have HO6 := Lib.hid ho
                      have HL2 := Lib.hid hl2
                      obtain ⟨M, hM⟩ : ∃ x, x = T.length := ⟨_, rfl⟩
                      have HM := Lib.hid hM
                      have b63 : M + 1 ≤ maxLen := by have := HTL.out; unfold maxLen; omega
                      have b47 : (M + 1) * 24 ≤ 140737488355328 := by have := HTL.out; omega
                      have hws : w.heap.size ≤ w6.heap.size := Nat.le_trans HBw.out.size HB6.out.size
                      have HOW := Lib.hid (show (w6.alloc (.cells #[.slice (some ⟨g2, 0, none⟩) n2 c2] 69)).ownsRow w.heap.size 69 1 u5 M us from by rw [hM]; exact owns_below (owns_below HST.out.own HB6.out) (below_alloc1 _ _))
                      rw [← hn2]
                      clear hn2 ho hl2 hM
                      go_wp2_with (at_builtin; refine wpList_append_lies _ rfl _ _ 54 rfl w.heap.size 69 iS (.slice none 0 0) 1 24 Try.underlying54 hi hz0 hz1 hz2 rfl (by decide) _ _ _ rfl HOW.out ⟨w6.heap.size, 0, none⟩ 1 1 [.slice (some ⟨g2, 0, none⟩) n2 c2] rfl rfl (World.news_of_block (cs := #[.slice (some ⟨g2, 0, none⟩) n2 c2]) (t := 69) (fr := (0, 0)) (heap_alloc_new w6 _)) (by intro u hu; rw [List.mem_singleton.1 hu]; rfl) (by decide) b63 b47 (by simp; omega) _ rfl ?_)
                      intro gs cs w7 hown hgrow hat hglt
                      have HB7 := Lib.hid (show Below w.heap.size w w7 from Below.grown ((HBw.out.trans (HB6.out.mono HBw.out.size)).alloc hws _) hgrow (by simp; omega) (fun q hq => (HOW.out.lt q hq).1))
                      have hblk : ∀ t, t < wr.heap.size → u5.ownBlock ≠ some t → w7.heap[t]? = wr.heap[t]? := fun t ht hne => (hgrow.block t (by simp; have := HB6.out.size; omega) (fun e => hne e.symm)).trans ((heap_alloc_old w6 _ (Nat.lt_of_lt_of_le ht HB6.out.size)).trans (HB6.out.block t ht))
                      have HY7 := Lib.hid (show w7.heap[y9]? = some (.cells #[.int .i64 2, .int .i64 c, .int .i64 m, .int .i64 0] 47 (0, 0)) from (hblk y9 HYL.out (fun e => (HVs.out y9 e).1 rfl)).trans HYw.out)
                      have HM7 := Lib.hid (HMw.out.keep (hblk b9 HMw.out.1 (fun e => (HVs.out b9 e).2 rfl)))
                      have HV7 := Lib.hid (show ∀ t, (Value.slice (some ⟨gs, 0, none⟩) (M + 1) cs).ownBlock = some t → t ≠ y9 ∧ t ≠ b9 from fun t ht => by
                        obtain rfl : gs = t := by simpa [Value.ownBlock] using ht
                        rcases hat with h1 | h1
                        · exact HVs.out gs h1
                        · have h2 := HYL.out
                          have h3 := HMw.out.1
                          have h4 := HB6.out.size
                          have h5 : gs = w6.heap.size + 1 := h1.trans (by simp)
                          exact ⟨by omega, by omega⟩)
                      have HF7 := Lib.hid (show FoW w7 w.heap.size (.slice (some ⟨g2, 0, none⟩) n2 c2) (.slice (some ⟨gs, 0, none⟩) (M + 1) cs) l2 (S ++ mvT ⟨2, c, m, 0⟩ F D (q + 1)) from by
                        rw [HMT.out, HMP.out, HM.out, HN2.out]
                        rw [HM.out, HN2.out] at hown
                        refine FoW.push HST.out HBw.out.size (HB6.out.alloc HB6.out.size _) (owns_below HO6.out (below_alloc1 _ _)) hown hgrow ?_
                        exact hat.imp id (fun h => h.trans (by simp)))
                      clear hown hgrow hat hglt b63 b47 hws hblk
                      go_wp2
                      go_roundw
                      case rel => exact ⟨q + 1, l2, by omega, by go_num, HMP.out, by have := HDq.out; have := HL2.out; omega, HF7.out, HV7.out, HY7.out, HM7.out, HB7.out⟩
                      case measure => simp [intOf]; omega
                · obtain rfl : q = nf := by omega
                  have hokx : okX d ⟨k, c, m⟩ = true := by
                    rcases hk : okX d ⟨k, c, m⟩ with _ | _
                    · have h1 := (HALL.out HNE.out (by rw [← HVO.out])).1 hk
                      rw [HNF.out, HF.out, HD.out] at hmq
                      rw [show (⟨2, c, m, 0⟩ : Ac) = pA ⟨k, c, m⟩ from rfl, h1] at hmq
                      exact absurd hmq (by simp)
                    · rfl
                  obtain ⟨h1, h2⟩ := (HALL.out HNE.out (by rw [← HVO.out])).2 hokx
                  have hDq : Dq = dA (dwN s (j + 1)) := by
                    rw [HNF.out, HF.out, HD.out] at hmq
                    rw [show (⟨2, c, m, 0⟩ : Ac) = pA ⟨k, c, m⟩ from rfl, h1] at hmq
                    rw [HDW.out]; exact (Option.some.inj hmq).symm
                  have hSq : S ++ mvT ⟨2, c, m, 0⟩ F D q = skN s (j + 1) := by
                    rw [HSK.out, HNF.out, HF.out, HD.out]
                    rw [show (⟨2, c, m, 0⟩ : Ac) = pA ⟨k, c, m⟩ from rfl, h2]
                  rw [hDq, hSq] at hf
                  have HFw := Lib.hid hf
                  have HBw := Lib.hid hb
                  have HMc := Lib.hid (HNX.out hokx)
                  clear h1 h2 hDq hSq hf hb hmq hdq hvs hy hmw hokx
                  go_wp2
                  go_roundw
                  case rel => exact ⟨j + 1, by omega, by go_num, HMc.out, HFw.out, HBw.out⟩
                  case measure => simp [intOf]; omega
      · obtain rfl : j = n := by omega
        obtain ⟨ad, cd, rfl⟩ := RdN.shape hf.dn
        obtain ⟨us, fps, hst⟩ := hf.st
        have hrs : RdS Ac.cells wr u5 (skN s s.length) := by rw [← HNL.out]; exact (hst.done rfl).rd
        have hRl : R = decide ((dA (dwN s j)).length = 0) := by
          have h8 : decide ((j : Int) ≤ 8) = true := decide_eq_true (by omega)
          rw [HR.out, okMc, ← HNL.out, HMC.out, h8, Bool.true_and, Bool.true_and, dA_len]
        obtain ⟨L, hL⟩ : ∃ L, L = (dA (dwN s j)).length := ⟨_, rfl⟩
        rw [← hL] at hRl ⊢
        have HRS := Lib.hid hrs
        have HRL := Lib.hid hRl
        have HBw := Lib.hid hb
        clear hrs hRl hf hst hb hL
        by_cases h0 : L = 0
        · have hr : R = true := by rw [HRL.out]; exact decide_eq_true h0
          have HRT := Lib.hid hr
          subst h0
          clear hr
          go_wp2
          go_ret2
          exact ⟨_, by rw [← HR.out, HRT.out]; rfl, fun _ => HRS.out, HBw.out⟩
        · have hr : R = false := by rw [HRL.out]; exact decide_eq_false h0
          have HRT := Lib.hid hr
          have hL0 : ¬ (L : Int) = 0 := by omega
          clear hr
          go_wp2
          go_ret2
          exact ⟨_, by rw [← HR.out, HRT.out]; simp [h0], fun _ => HRS.out, HBw.out⟩
  · have hr : R = false := by
      rw [hR, okMc, ← hnl, show decide ((n : Int) ≤ 8) = false from decide_eq_false (by omega), Bool.false_and, Bool.and_false]
    have hn8' : (8 : Int) < (n : Int) := by omega
    have HRT := Lib.hid hr
    clear h hnl hR hr
    go_enter Try.func26, Try.ntmps26
    go_wp2
    go_ret2
    exact ⟨_, by rw [← HR.out, HRT.out]; rfl, fun h => (by rw [← HR.out, HRT.out] at h; exact absurd h (by decide)), Below.refl _ _⟩
set_option maxRecDepth 100000 in
theorem implIsMacro_any (v : Value) (s : List St) (w : World) (hs : s.length ≤ maxLen) (h : RdN w v s.length (flatSt s)) :
    Calls Try.prog 8 #[v] w fun e w' => e = .returned (.bool (okMc s)) ∧ Below w.heap.size w w' := by
  have HS := Lib.hid hs
  have H := Lib.hid h
  clear hs h
  go_enter Try.func8, Try.ntmps8
  go_wp2_with fail
  refine (followMacro_any v s _ HS.out H.out).mono ?_
  rintro e w1 ⟨u, rfl, _, hb⟩
  have HB := Lib.hid hb
  clear hb
  go_wp2
  go_ret
  exact ⟨rfl, HB.out⟩
theorem implIsMacro_q (v : Value) (s : List St) (o : Bool) (ho : o = okMc s) (w : World) (hs : s.length ≤ maxLen) (h : RdN w v s.length (flatSt s)) :
    Calls Try.prog 8 #[v] w fun e w' => e = .returned (.bool o) ∧ Below w.heap.size w w' := by
  rw [ho]; exact implIsMacro_any v s w hs h

end Go.Proofs.Ytnfnhbldphiohaa
