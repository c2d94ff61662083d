/- DERIVED. The program's MacroReports: the reports of a macro while keys are held, in memory of the caller's own. Called with any arguments. -/
import Derived.Test.YtnfnhbldphiohaaMcImpl
import Derived.Test.YtnfnhbldphiohaaMcWith
import Derived.Test.YtnfnhbldphiohaaMcLaw
namespace Go.Proofs.Ytnfnhbldphiohaa
open Go.RowKit

theorem owC_nodup {w : World} {B : Nat} {k : IntKind} {v : Value} {c : Ce} {fp : List Nat} (h : OwC w B (.row [.int k]) v c fp) : fp.Nodup := by
  obtain ⟨rs, _, _, h⟩ := OwC.rowInv h
  rcases h with ⟨_, _, rfl⟩ | ⟨g, cap, cur, t, fps, _, _, _, _, rfl, hl, ho⟩
  · exact List.nodup_nil
  · have : fps.flatten = [] := by
      rw [List.flatten_eq_nil_iff]
      intro p hp
      obtain ⟨i, hi, rfl⟩ := List.getElem_of_mem hp
      have := ho i (by omega) hi
      rw [OwL] at this
      obtain ⟨v1, vs', c1, cs', f, f', _, _, hf, h1, h2⟩ := this
      rw [OwL] at h2
      rw [hf, (OwC.intInv h1).1, h2.2.2]; rfl
    rw [this]; simp
/-- The reports that are made so far: the row has n places, the first ones hold the reports L. -/
structure RpB (w : World) (B g n : Nat) (us : List Value) (L : List Rv) (fps : List (List Nat)) : Prop where
  own : ∃ xs, w.ownsRow B 61 2 (.slice (some ⟨g, 0, none⟩) n n) n xs ∧ xs.take (L.length * 2) = pC rpF L us
  ulen : us.length = L.length
  len : fps.length = L.length
  row : ∀ j, j < L.length → OwC w B (.row [.int .i64]) (uD us j) (.row (ones (qD L j).2)) (fD fps j)
  nd : (g :: fps.flatten).Nodup
theorem RpB.rng {w : World} {B g n : Nat} {us : List Value} {L : List Rv} {fps : List (List Nat)} (h : RpB w B g n us L fps) : ∀ b ∈ g :: fps.flatten, B ≤ b ∧ b < w.heap.size := by
  intro b hb
  rcases List.mem_cons.1 hb with rfl | h1
  · obtain ⟨xs, ho, _⟩ := h.own
    exact ho.lt b (by simp [Value.ownBlock])
  · obtain ⟨j, hj, hm⟩ := of_mem_flatten h1
    exact (h.row j (by rw [← h.len]; exact hj)).rng b hm
theorem RpB.below {w w' : World} {B g n : Nat} {us : List Value} {L : List Rv} {fps : List (List Nat)} (h : RpB w B g n us L fps) (hb : Below w.heap.size w w') : RpB w' B g n us L fps :=
  ⟨by obtain ⟨xs, ho, hx⟩ := h.own; exact ⟨xs, owns_below ho hb, hx⟩, h.ulen, h.len, fun j hj => (h.row j hj).below hb, h.nd⟩
theorem RpB.start {w : World} {B g n : Nat} {xs : List Value} (h : w.ownsRow B 61 2 (.slice (some ⟨g, 0, none⟩) n n) n xs) : RpB w B g n [] [] [] :=
  ⟨⟨xs, h, rfl⟩, rfl, rfl, fun j hj => absurd hj (Nat.not_lt_zero _), by simp⟩
theorem RpB.done {w : World} {B g : Nat} {us : List Value} {L : List Rv} {fps : List (List Nat)} (h : RpB w B g L.length us L fps) : OwZ rpF w B 1 (.slice (some ⟨g, 0, none⟩) L.length L.length) L (g :: fps.flatten) := by
  obtain ⟨xs, ho, hx⟩ := h.own
  rw [List.take_of_length_le (by rw [ho.1]; exact Nat.le_refl _)] at hx
  subst hx
  have e : ownFp (.slice (some ⟨g, 0, none⟩) L.length L.length) = [g] := by simp [ownFp, Value.ownBlock]
  exact ⟨us, fps, ⟨lowRow_of ho, h.ulen, h.len, h.row, by rw [e]; exact h.nd⟩, by rw [e]; rfl⟩
/-- The next report is stored. -/
theorem RpB.push {w : World} {B S g n : Nat} {us : List Value} {L : List Rv} {fps : List (List Nat)} {r : Int} {z : List Int} {u : Value} {fq : List Nat} (h : RpB w B g n us L fps) (hlt : L.length < n) (hB : B ≤ S) (hS : ∀ b ∈ g :: fps.flatten, b < S) (hu : OwC w S (.row [.int .i64]) u (.row (ones z)) fq) :
    RpB (putW w g (L.length * 2) [.int .i64 r, u]) B g n (us ++ [u]) (L ++ [(r, z)]) (fps ++ [fq]) := by
  have hq : ∀ b ∈ fq, b ∉ g :: fps.flatten := fun b hb hm => by have := (hu.rng b hb).1; have := hS b hm; omega
  have hnd := List.nodup_cons.1 h.nd
  refine ⟨?_, by simp [h.ulen], by simp [h.len], ?_, ?_⟩
  · obtain ⟨xs, ho, hx⟩ := h.own
    have hl : xs.length = n * 2 := ho.1
    refine ⟨_, owns_put ho (L.length * 2) [.int .i64 r, u] (by simp; omega), ?_⟩
    rw [pC_snoc L us (r, z) u h.ulen, ← hx, List.length_append, List.length_singleton]
    have hp : (xs.take (L.length * 2) ++ [Value.int .i64 r, u]).length = (L.length + 1) * 2 := by
      rw [List.length_append, List.length_take, Nat.min_eq_left (by omega)]; simp; omega
    rw [← hp, List.take_left]; rfl
  · intro j hj
    rw [qD_snoc, fD_snoc, uD_snoc, h.len, h.ulen]
    by_cases hjl : j < L.length
    · rw [if_pos hjl, if_pos hjl, if_pos hjl]
      exact OwC.putAt (h.row j hjl) _ (fun hm => hnd.1 (mem_fD hm)) _
    · have : j = L.length := by simp at hj; omega
      subst this
      rw [if_neg hjl, if_neg hjl, if_neg hjl, if_pos rfl, if_pos rfl, if_pos rfl]
      exact OwC.putAt (OwC.base _ _ _ _ hu hB) _ (fun hm => hq g hm List.mem_cons_self) _
  · have := nodup_flat_snoc (A := [g]) (F := fps) (p := fq) (by simpa using h.nd) (owC_nodup hu) (fun b hb hm => hq b hb (by simpa using hm))
    simpa using this

/-- The reports of the stacks. -/
theorem mrN_get (l : List Hd) (s : List St) : ∀ m, ∃ D : List (List Hd), (∀ d ∈ D, ∃ j, j < m ∧ (d = dwN s j ∨ d = dwN s j ++ [stA (stD s j)] ∨ d = (dwN s j).eraseIdx (fiH (dwN s j) (stD s j)))) ∧ skN s m = D.map dA ∧ mrN l s m = D.map (mrV l)
  | 0 => ⟨[], by simp, rfl, rfl⟩
  | m + 1 => by
    obtain ⟨D, h1, h2, h3⟩ := mrN_get l s m
    have key : ∀ E : List (List Hd), (∀ d ∈ E, d = dwN s m ∨ d = dwN s m ++ [stA (stD s m)] ∨ d = (dwN s m).eraseIdx (fiH (dwN s m) (stD s m))) → skX (dwN s m) (stD s m) = E.map dA → mrX l (dwN s m) (stD s m) = E.map (mrV l) → ∃ D : List (List Hd), (∀ d ∈ D, ∃ j, j < m + 1 ∧ (d = dwN s j ∨ d = dwN s j ++ [stA (stD s j)] ∨ d = (dwN s j).eraseIdx (fiH (dwN s j) (stD s j)))) ∧ skN s (m + 1) = D.map dA ∧ mrN l s (m + 1) = D.map (mrV l) := fun E e1 e2 e3 => by
      refine ⟨D ++ E, fun d hd => ?_, by rw [skN, h2, e2, List.map_append], by rw [mrN, h3, e3, List.map_append]⟩
      rcases List.mem_append.1 hd with hd | hd
      · obtain ⟨j, hj, h⟩ := h1 d hd
        exact ⟨j, by omega, h⟩
      · exact ⟨m, by omega, e1 d hd⟩
    by_cases k0 : (stD s m).k = 0
    · refine key [dwN s m ++ [stA (stD s m)], dwN s m] (fun d hd => ?_) (by rw [skX, if_pos k0]; rfl) (by rw [mrX, if_pos k0]; rfl)
      rcases List.mem_cons.1 hd with rfl | hd
      · exact .inr (.inl rfl)
      · exact .inl (List.mem_singleton.1 hd)
    · by_cases k1 : (stD s m).k = 1
      · exact key [dwN s m ++ [stA (stD s m)]] (fun d hd => .inr (.inl (List.mem_singleton.1 hd))) (by rw [skX, if_neg k0, if_pos k1]; rfl) (by rw [mrX, if_neg k0, if_pos k1]; rfl)
      · exact key [(dwN s m).eraseIdx (fiH (dwN s m) (stD s m))] (fun d hd => .inr (.inr (List.mem_singleton.1 hd))) (by rw [skX, if_neg k0, if_neg k1]; rfl) (by rw [mrX, if_neg k0, if_neg k1]; rfl)
theorem rofK_in {l : List Hd} (h : okHd l = true) : ∀ x ∈ rofK l, 1 ≤ x ∧ x ≤ 56 := fun x hx => by
  rw [rofK, if_pos h] at hx
  exact codesN_mem l 56 x hx
theorem map_lD {α β : Type} (f : List α → β) (D : List (List α)) (j : Nat) (h : j < D.length) (x : β) : (D.map f).getD j x = f (lD D j) := by
  rw [lD, List.getD_eq_getElem?_getD, List.getD_eq_getElem?_getD, List.getElem?_map, List.getElem?_eq_getElem h]; rfl

set_option maxRecDepth 100000 in
set_option maxHeartbeats 8000000 in
theorem implMacroReports_any (v vs : Value) (l : List Hd) (s : List St) (w : World) (hl : l.length ≤ maxLen) (hs : s.length ≤ maxLen) (h : RdN w v l.length (flatHd l)) (h2 : RdN w vs s.length (flatSt s)) :
    Calls Try.prog 13 #[v, vs] w (MrZ (mrP l s) w) := by
  obtain ⟨iR, hi, hz0, hz1, hz2⟩ := info_parts info_rp
  obtain ⟨X, hX⟩ : ∃ X, X = mrP l s := ⟨_, rfl⟩
  rw [← hX]
  obtain ⟨O1, hO1⟩ : ∃ O1, O1 = okHd l := ⟨_, rfl⟩
  obtain ⟨O2, hO2⟩ : ∃ O2, O2 = okMc s := ⟨_, rfl⟩
  have hX' := hX
  rw [mrP, ← hO1, ← hO2] at hX'
  have HX := Lib.hid hX'
  have HO1 := Lib.hid hO1
  have HO2 := Lib.hid hO2
  have H1 := Lib.hid h
  have H2 := Lib.hid h2
  have HL := Lib.hid hl
  have HSL := Lib.hid hs
  have hno : ∀ w', Below w.heap.size w w' → X = [] → MrZ X w (.returned (.slice none 0 0)) w' := fun w' hb hx => by
    subst hx
    exact ⟨none, 0, [], rfl, ⟨[], [], ⟨⟨rfl, .inl ⟨rfl, rfl⟩⟩, rfl, rfl, fun j hj => absurd hj (Nat.not_lt_zero _), by simp [ownFp, Value.ownBlock]⟩, by simp [ownFp, Value.ownBlock]⟩, hb⟩
  have HNO := Lib.hid hno
  clear hX hX' hO1 hO2 h h2 hl hs hno
  go_enter Try.func13, Try.ntmps13
  go_wp2_with fail
  refine (followMacro_any vs s _ HSL.out H2.out).mono ?_
  rintro e w1 ⟨u, rfl, hru, hb⟩
  rw [← HO2.out] at hru ⊢
  have HRU := Lib.hid hru
  have HB1 := Lib.hid hb
  clear hru hb
  cases O2
  · have hx : X = [] := by rw [HX.out, Bool.and_false]; rfl
    go_wp2
    go_ret
    exact HNO.out _ HB1.out hx
  · go_wp2_with fail
    refine (implIsHeld_q v l O1 HO1.out _ HL.out (H1.out.below HB1.out)).mono ?_
    rintro e w2 ⟨rfl, hb⟩
    have HB2 := Lib.hid (HB1.out.trans (hb.mono HB1.out.size))
    have HRU2 := Lib.hid ((HRU.out (by first | rfl | trivial)).below hb)
    clear hb
    cases O1
    · have hx : X = [] := by rw [HX.out]; rfl
      go_wp2
      go_ret
      exact HNO.out _ HB2.out hx
    · have hX1 : X = mrN l s s.length := by rw [HX.out, Bool.and_self, if_pos rfl]
      have hX2 : X = mrP l s := by rw [mrP, ← HO1.out, ← HO2.out, Bool.and_self, if_pos rfl]; exact hX1
      have hX16 := mrP_len_any l s
      rw [← hX2] at hX16
      obtain ⟨D, hD1, hD2, hD3⟩ := mrN_get l s s.length
      have hmc := okMc_at HO2.out.symm
      have hpre : ∀ j, j ≤ s.length → mcN s j = true := mcN_pre (by have := HO2.out.symm; rw [okMc, Bool.and_eq_true] at this; exact this.1)
      have hdd : ∀ d ∈ D, DwOk d ∧ d.length ≤ 16 := fun d hd => by
        obtain ⟨j, hj, h⟩ := hD1 d hd
        have hok := dwOk_dw (hpre j (Nat.le_of_lt hj))
        have hlen := dwN_len s j
        have h8 := hmc.1
        rcases h with rfl | rfl | rfl
        · exact ⟨hok, by omega⟩
        · exact ⟨dwOk_snoc hok (hmc.2.2 j hj), by rw [List.length_append, List.length_singleton]; omega⟩
        · exact ⟨dwOk_erase hok _, by have := List.length_eraseIdx_le (dwN s j) (fiH (dwN s j) (stD s j)); omega⟩
      obtain ⟨m, hm⟩ : ∃ m, m = D.length := ⟨_, rfl⟩
      have hXm : X.length = m := by rw [hX1, hD3, List.length_map, hm]
      have hXD : X = D.map (mrV l) := by rw [hX1, hD3]
      have hru := HRU2.out
      rw [hD2] at hru
      have hm16 : m ≤ 16 := by omega
      have HOk := Lib.hid HO1.out.symm
      have HDd := Lib.hid hdd
      have HM := Lib.hid hm
      have HXm := Lib.hid hXm
      have HXD := Lib.hid hXD
      have HR3 := Lib.hid hru
      clear hX1 hX2 hX16 hD1 hD2 hD3 hmc hpre hdd hm hXm hXD hru HRU HRU2
      obtain ⟨ua, uc, rfl⟩ : ∃ a c, u = .slice a m c := by
        obtain ⟨us, hul, ⟨a, c, rfl, _⟩, _⟩ := HR3.out
        exact ⟨a, c, by rw [hul, List.length_map, HM.out]⟩
      go_wp2_with fail
      refine (implReportOf_any v l _ HL.out (H1.out.below HB2.out)).mono ?_
      rintro e w3 ⟨ra, rc, rfp, rfl, hro, hb⟩
      obtain ⟨Mr, hMr⟩ : ∃ x, x = rofM l := ⟨_, rfl⟩
      obtain ⟨Z, hZ⟩ : ∃ x, x = rofK l := ⟨_, rfl⟩
      rw [← hZ] at hro
      rw [← hMr, ← hZ]
      have HMr := Lib.hid hMr
      have HZ := Lib.hid hZ
      obtain ⟨NZ, hNZ⟩ : ∃ x, x = Z.length := ⟨_, rfl⟩
      have HNZ := Lib.hid hNZ
      rw [← hNZ] at hro ⊢
      have HB3 := Lib.hid (HB2.out.trans (hb.mono HB2.out.size))
      have HR4 := Lib.hid (HR3.out.below hb)
      have HRo := Lib.hid (owC_rd hro)
      clear hb hro hMr hZ hNZ HR3
      go_upto_region 5 with (fail)
      obtain ⟨W4, hW4⟩ : ∃ x, x = w3.alloc (.cells #[.int .i64 Mr, .slice ra NZ rc] 61) := ⟨_, rfl⟩
      obtain ⟨gr, hgr⟩ : ∃ x, x = w3.heap.size := ⟨_, rfl⟩
      have hb4 : Below w3.heap.size w3 W4 := by rw [hW4]; exact below_alloc1 _ _
      have HG4 := Lib.hid (show W4.heap[gr]? = some (.cells #[.int .i64 Mr, .slice ra NZ rc] 61 (0, 0)) by rw [hW4, hgr]; exact heap_alloc_new _ _)
      have HB4 := Lib.hid (HB3.out.trans (hb4.mono HB3.out.size))
      have HR5 := Lib.hid (HR4.out.below hb4)
      have HRo4 := Lib.hid (HRo.out.below hb4)
      rw [← hW4, ← hgr]
      clear hW4 hgr hb4 HR4 HRo
      go_wp2_with (at_make; refine wpList_make_full _ rfl _ _ 31 rfl W4.heap.size 61 iR (.agg #[.int .i64 0, .slice none 0 0]) 2 Try.underlying31 hi hz0 hz1 .i64 .i64 _ _ m rfl rfl rfl rfl (by rw [hz2]; omega) ?_ ?_ ?_)
      · unfold maxLen; omega
      · exact Nat.le_refl _
      · intro w5 hown hg
        have hb5 : Below W4.heap.size W4 w5 := (Below.refl _ _).grown hg (Nat.le_refl _) (fun k hk => by cases hk)
        have hgl : gr < W4.heap.size := (Array.getElem?_eq_some_iff.mp HG4.out).1
        obtain ⟨go, hgo⟩ : ∃ x, x = W4.heap.size := ⟨_, rfl⟩
        rw [← hgo] at hown hgl hb5 ⊢
        have HGO := Lib.hid hgo
        have HQ5 := Lib.hid (RpB.start hown)
        have HB5 := Lib.hid hb5
        clear hown hg hb5 hgo
        go_wp2
        go_loopw [9, 10, 30] (fun _ _ i wr => ∃ (j : Nat) (us : List Value) (fps : List (List Nat)), j ≤ m ∧ i = .int .i64 j ∧ RpB wr go go m us (X.take j) fps ∧ Below go W4 wr) (fun _ _ i _ => m - (intOf i).toNat)
        case atStart => exact ⟨0, [], [], Nat.zero_le _, rfl, HQ5.out, HB5.out⟩
        case round =>
          obtain ⟨j, us, fps, hj, rfl, hq, hb⟩ := hrel
          by_cases hlt' : j < m
          · have hjD : j < D.length := by rw [← HM.out]; exact hlt'
            have hbW : Below W4.heap.size W4 wr := by rw [← HGO.out]; exact hb
            obtain ⟨u2, hul, hrd, hrows⟩ := HR5.out
            have hdl := hrows j (by rw [List.length_map]; exact hjD)
            have hlD : lD (D.map dA) j = dA (lD D j) := by rw [lD]; exact map_lD dA D j hjD []
            rw [hlD, dA_len] at hdl
            have hdd := HDd.out (lD D j) (by rw [lD, List.getD_eq_getElem?_getD, List.getElem?_eq_getElem hjD]; exact List.getElem_mem hjD)
            have hXj : X.take (j + 1) = X.take j ++ [(((mrM Mr (lD D j) (lD D j).length : Nat) : Int), mrK Z (lD D j) 56)] := by
              have hjX : j < X.length := by rw [HXm.out]; exact hlt'
              rw [List.take_succ_eq_append_getElem hjX]
              have : X[j] = mrV l (lD D j) := by
                have h9 := map_lD (α := Hd) (mrV l) D j hjD ((0 : Int), ([] : List Int))
                rw [← HXD.out, List.getD_eq_getElem?_getD, List.getElem?_eq_getElem hjX] at h9
                exact h9
              rw [this, mrV, HMr.out, HZ.out]
            have hXl : (X.take j).length = j := by rw [List.length_take, HXm.out]; omega
            obtain ⟨d, hd⟩ : ∃ d, d = lD D j := ⟨_, rfl⟩
            rw [← hd] at hdl hdd hXj
            rcases hrd.cases with ⟨hz, _⟩ | ⟨_, b, o, cap, hv, hblt, hcell⟩
            · rw [hz, List.length_map] at hul; simp at hul; omega
            · simp only [Value.slice.injEq] at hv
              obtain ⟨rfl, -, -⟩ := hv
              have hju : j < u2.length := by rw [hul, List.length_map]; exact hjD
              have huc : wr.cell? ⟨b, o + j, none⟩ = some (uD u2 j) := by
                rw [hbW.cell (p := ⟨b, o + j, none⟩) hblt, hcell j hju, uD, List.getD_eq_getElem?_getD, List.getElem?_eq_getElem hju]; rfl
              obtain ⟨vd, hvd⟩ : ∃ x, x = uD u2 j := ⟨_, rfl⟩
              rw [← hvd] at hdl huc
              obtain ⟨da, dc, rfl⟩ := RdN.shape hdl
              have HVD := Lib.hid (hdl.below hbW)
              have HDl := Lib.hid hdd
              have HXj := Lib.hid hXj
              have HXl := Lib.hid hXl
              have HQ := Lib.hid hq
              have HB := Lib.hid hb
              have HG := Lib.hid ((hbW.block gr (by rw [← HGO.out]; exact hgl)).trans HG4.out)
              obtain ⟨nd, hnd⟩ : ∃ x, x = d.length := ⟨_, rfl⟩
              have HND := Lib.hid hnd
              rw [← hnd] at huc
              have c0 := (cells_of_heap HG.out 0 (by simp)).1
              have c1 := (cells_of_heap HG.out 1 (by simp)).1
              simp only [List.getElem_toArray, List.getElem_cons_zero, List.getElem_cons_succ] at c0 c1
              have hjm : (j : Int) < (m : Int) := by omega
              clear hjD hul hrd hrows hdl hlD hdd hXj hXl hd hblt hcell hju hvd hq hb hbW hnd
              go_wp2_with fail
              refine (withPresses_any Mr (.slice ra NZ rc) (.slice da nd dc) Z d _ (by rw [HMr.out]; exact rofM_lt HOk.out) (by rw [HZ.out]; exact rofK_len l) (by rw [HZ.out]; exact rofK_in HOk.out) (HRo4.out.below (by rw [← HGO.out]; exact HB.out)) HDl.out.2 HDl.out.1 (by rw [HND.out]; exact HVD.out)).mono ?_
              rintro e w6 ⟨a6, c6, f6, rfl, ho6, hb6⟩
              obtain ⟨zz, hzz⟩ : ∃ x, x = mrK Z d 56 := ⟨_, rfl⟩
              obtain ⟨rr, hrr⟩ : ∃ x, x = mrM Mr d d.length := ⟨_, rfl⟩
              rw [← hzz] at ho6 ⊢
              rw [← hrr]
              have HXj2 := Lib.hid (show X.take (j + 1) = X.take j ++ [((rr : Int), zz)] by rw [HXj.out, hrr, hzz])
              obtain ⟨nz, hnz⟩ : ∃ x, x = zz.length := ⟨_, rfl⟩
              rw [← hnz] at ho6 ⊢
              have HQ6 := Lib.hid (HQ.out.below hb6)
              have HBW6 := Lib.hid (show Below go W4 w6 from HB.out.trans (hb6.mono (by rw [HGO.out]; exact HB.out.size)))
              have HO6 := Lib.hid ho6
              have hqr := HQ.out.rng
              have HRG := Lib.hid hqr
              have HSz := Lib.hid (show go ≤ wr.heap.size by rw [HGO.out]; exact HB.out.size)
              obtain ⟨xs6, hx6, _⟩ := HQ6.out.own
              obtain ⟨p0, p1⟩ := owns_place hx6 (j * 2) (by omega)
              obtain ⟨p2, p3⟩ := owns_place hx6 (j * 2 + 1) (by omega)
              obtain ⟨y0, p0⟩ := Option.isSome_iff_exists.1 p0
              obtain ⟨y1, p2⟩ := Option.isSome_iff_exists.1 p2
              clear hzz hrr hnz ho6 hb6 hqr hx6 c0 c1 huc
              go_wp2
              clear p0 p1 p2 p3
              obtain ⟨W7, eW7⟩ : ∃ x, x = putW w6 go (j * 2) [.int .i64 rr, .slice a6 nz c6] := ⟨_, rfl⟩
              have cW7 := eW7.symm
              simp only [putW] at cW7
              rw [cW7]
              clear cW7
              have HQ7 := Lib.hid (show RpB W7 go go m (us ++ [.slice a6 nz c6]) (X.take (j + 1)) (fps ++ [f6]) from by
                have h9 := HQ6.out.push (S := wr.heap.size) (r := rr) (by rw [HXl.out]; exact hlt') HSz.out (fun b hb => (HRG.out b hb).2) HO6.out
                rw [HXl.out, ← HXj2.out, ← eW7] at h9
                exact h9)
              have HB7 := Lib.hid (show Below go W4 W7 from by rw [eW7]; exact putW_below (Nat.le_refl go) _ _ _ HBW6.out)
              clear eW7
              go_roundw
              case rel => exact ⟨j + 1, _, _, by omega, by go_num, HQ7.out, HB7.out⟩
              case measure => simp [intOf]; omega
          · obtain rfl : j = m := by omega
            have hXt : X.take j = X := List.take_of_length_le (by rw [HXm.out]; exact Nat.le_refl _)
            rw [hXt] at hq
            have hq2 : RpB wr go go X.length us X fps := by rw [HXm.out]; exact hq
            have HQ := Lib.hid (hq2.done)
            have HB := Lib.hid (show Below w.heap.size w wr from HB4.out.trans (show Below w.heap.size W4 wr from hb.mono (by rw [HGO.out]; exact HB4.out.size)))
            have HXm2 := Lib.hid HXm.out.symm
            clear hq hq2 hXt hb
            go_wp2
            go_ret
            exact ⟨some ⟨go, 0, none⟩, j, _, by rw [← HXm2.out]; rfl, by have h9 := HQ.out.base (B := w.heap.size) (by rw [HGO.out]; exact HB4.out.size); rw [← HXm2.out] at h9 ⊢; exact h9, HB.out⟩

end Go.Proofs.Ytnfnhbldphiohaa
