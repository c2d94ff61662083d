/- DERIVED. The reference's l9Changes: reports without those that are the one before them. Called with at most 1048576 reports of at most 1048576 codes. · The reference's Release: the engine without the key, and the reports that change. Called with any engine of at most 1048576 layers, macros, steps and held keys. -/
import Derived.Test.YtjfckchoklepbaaGreatEnCpy
import Derived.Test.YtjfckchoklepbaaGreatRpSpec
import Derived.Test.YtjfckchoklepbaaGreatRpsLaw
import Derived.Test.YtjfckchoklepbaaGreatEnPr
namespace Go.Proofs.YtjfckchoklepbaaGreat
open Go.RowKit

/-- The report before the j-th. -/
def lastAt (r : Rv) (L : List Rv) (j : Nat) : Rv := (L.take j).getLastD r
theorem chgV_snoc : ∀ (L : List Rv) (r x : Rv), chgV r (L ++ [x]) = chgV r L ++ (if x = L.getLastD r then [] else [x])
  | [], r, x => by simp [chgV]
  | y :: L, r, x => by
    rw [List.cons_append, chgV, chgV, chgV_snoc L y x, List.getLastD_cons]
    split <;> simp
theorem takeR_snoc {L : List Rv} {j : Nat} (h : j < L.length) : L.take (j + 1) = L.take j ++ [qD L j] := by
  rw [List.take_succ_eq_append_getElem h, qD, List.getD_eq_getElem?_getD, List.getElem?_eq_getElem h]; rfl
theorem lastAt_next {r : Rv} {L : List Rv} {j : Nat} (h : j < L.length) : lastAt r L (j + 1) = qD L j := by
  rw [lastAt, takeR_snoc h]; simp
theorem chgV_next {r : Rv} {L : List Rv} {j : Nat} (h : j < L.length) : chgV r (L.take (j + 1)) = chgV r (L.take j) ++ (if qD L j = lastAt r L j then [] else [qD L j]) := by
  rw [takeR_snoc h, chgV_snoc]; rfl
theorem chgV_len : ∀ (L : List Rv) (r : Rv), (chgV r L).length ≤ L.length
  | [], r => by simp [chgV]
  | y :: L, r => by
    rw [chgV]
    have := chgV_len L y
    split <;> simp <;> omega
theorem qD_mem {L : List Rv} {j : Nat} (h : j < L.length) : qD L j ∈ L := by
  rw [qD, List.getD_eq_getElem?_getD, List.getElem?_eq_getElem h]; exact List.getElem_mem h

theorem OwP.pushB {W wb wc : World} {B g2 cap2 : Nat} {ao : Option Addr} {L : List Rv} {co : Nat} {us : List Value} {fps : List (List Nat)} {m : Int} {z : List Int} {u : Value} {fq : List Nat}
    (h : OwP rpF W B 47 1 (.slice ao L.length co) L (ownFp (.slice ao L.length co) ++ fps.flatten)) (hq : OwQ rpF W B (.slice ao L.length co) (W.ownsRow B 47 (1 + 1) (.slice ao L.length co) L.length) us L fps)
    (hb : Below W.heap.size W wb) (hu : OwC wb W.heap.size (.row [.int .i64]) u (.row (ones z)) fq) (hn : fq.Nodup) (hBW : B ≤ W.heap.size)
    (h' : wc.ownsRow B 47 (1 + 1) (.slice (some ⟨g2, 0, none⟩) (L.length + 1) cap2) (L.length + 1) (pC rpF L us ++ (rpF m ++ [u]))) (hg : wb.grownBy wc (Value.slice ao L.length co).ownBlock) (hat : (Value.slice ao L.length co).ownBlock = some g2 ∨ g2 = wb.heap.size) :
    OwP rpF wc B 47 1 (.slice (some ⟨g2, 0, none⟩) (L.length + 1) cap2) (L ++ [(m, z)]) (g2 :: (fps.flatten ++ fq)) := by
  have hb' : Turn W wb [] := Turn.of_below hb []
  have hq2 : OwQ rpF wb B (.slice ao L.length co) (wb.ownsRow B 47 (1 + 1) (.slice ao L.length co) L.length) us L fps := hq.turn (owns_below hq.own hb) hb' (fun _ _ hm => by simp at hm)
  have hrng := h.rng
  have hru := hu.rng
  exact OwP.push (p := (m, z)) hq2 (OwC.base _ _ _ _ hu hBW) hn (fun b hb1 hb2 => by have := (hru b hb1).1; have := (hrng b hb2).2; omega) h' hg hat

set_option maxRecDepth 100000 in
set_option maxHeartbeats 16000000 in
theorem specL9Changes_any (m0 : Int) (z0 : List Int) (ua : Option Addr) (uc : Nat) (v : Value) (L : List Rv) (w : World) (hl : L.length ≤ 1048576) (hrl : ∀ r ∈ L, r.2.length ≤ 1048576) (h0l : z0.length ≤ 1048576)
    (h0 : Rd w (.slice ua z0.length uc) (z0.map (.int .i64))) (h : RdQ rpF w v L) :
    Calls Tryz.prog 108 #[rpv m0 (.slice ua z0.length uc), v] w (MrO (chgV (m0, z0) L) w) := by
  obtain ⟨iR, hR, hR0, hR1, hR2⟩ := info_parts info_rp
  obtain ⟨n, hn⟩ : ∃ n, n = L.length := ⟨_, rfl⟩
  have hsh : ∃ a c, v = .slice a L.length c := by
    rcases RdQ.at h with ⟨rfl, a, c, rfl⟩ | ⟨b, off, c, _, rfl, _⟩
    · exact ⟨a, c, rfl⟩
    · exact ⟨_, _, rfl⟩
  obtain ⟨va, vc, rfl⟩ := hsh
  obtain ⟨g, hg⟩ : ∃ x, x = w.heap.size := ⟨_, rfl⟩
  obtain ⟨W0, hW0⟩ : ∃ x, x = (w.alloc (.cells #[.int .i64 m0, .slice ua z0.length uc] 47)).alloc (.cells #[] 47) := ⟨_, rfl⟩
  have hb0 : Below w.heap.size w W0 := by rw [hW0]; exact ((Below.refl _ _).alloc (Nat.le_refl _) _).alloc (by simp) _
  have hbox : W0.heap[g]? = some (.cells #[.int .i64 m0, .slice ua z0.length uc] 47 (0, 0)) := by
    rw [hW0, hg, heap_alloc_old _ _ (by simp)]; exact heap_alloc_new w _
  have hout : OwP rpF W0 (g + 1) 47 1 (.slice (some ⟨g + 1, 0, none⟩) 0 0) [] (ownFp (.slice (some ⟨g + 1, 0, none⟩) 0 0)) := by
    have hr := World.ownsRow_lit (base := g + 1) (e := 47) (size := 2) (w.alloc (.cells #[.int .i64 m0, .slice ua z0.length uc] 47)) #[] 0 (by rw [hg]; simp) (by simp [maxLen]) rfl
    rw [← hW0] at hr
    rw [show (w.alloc (.cells #[.int .i64 m0, .slice ua z0.length uc] 47)).heap.size = g + 1 by rw [hg]; simp] at hr
    exact OwP.start hr
  have HW0 := Lib.hid hW0
  have HG := Lib.hid hg
  have HB0 := Lib.hid hb0
  have HBox := Lib.hid hbox
  have HOut := Lib.hid hout
  have HN := Lib.hid hn
  have H0 := Lib.hid h0
  have H := Lib.hid h
  have HRL := Lib.hid hrl
  have H0l := Lib.hid h0l
  have hln : n ≤ 1048576 := by rw [hn]; exact hl
  rw [← hn]
  clear hW0 hb0 hbox hout hn h0 h hrl h0l hg hl
  go_enter Tryz.func108, Tryz.ntmps108
  go_upto_region 3 with (fail)
  rw [← HW0.out, ← HG.out]
  clear HW0
  go_loopw [5, 6] (fun out i wr => ∃ (j : Nat) (ao ab : Option Addr) (co cb : Nat) (fp : List Nat), j ≤ n ∧ i = .int .i64 j ∧ out = .slice ao (chgV (m0, z0) (L.take j)).length co ∧ OwP rpF wr (g + 1) 47 1 out (chgV (m0, z0) (L.take j)) fp ∧
      wr.heap[g]? = some (.cells #[.int .i64 (lastAt (m0, z0) L j).1, .slice ab (lastAt (m0, z0) L j).2.length cb] 47 (0, 0)) ∧ Rd wr (.slice ab (lastAt (m0, z0) L j).2.length cb) ((lastAt (m0, z0) L j).2.map (.int .i64)) ∧ Below w.heap.size w wr) (fun _ i _ => n - (intOf i).toNat)
  case atStart => exact ⟨0, _, _, _, _, _, Nat.zero_le _, rfl, rfl, HOut.out, HBox.out, H0.out.below HB0.out, HB0.out⟩
  case round =>
    obtain ⟨j, ao, ab, co, cb, fp, hj, rfl, rfl, ho, hx, hr, hb⟩ := hrel
    by_cases hlt : j < n
    · have hjL : j < L.length := by rw [← HN.out]; exact hlt
      rcases RdQ.at H.out with ⟨hnil, _⟩ | ⟨b, off, cap, _, hv, hbl, hc⟩
      · exfalso; rw [hnil] at hjL; simp at hjL
      · obtain ⟨xa, xc, c0, c1, hrow⟩ := hc j hjL
        have e1 : va = some ⟨b, off, none⟩ := by injection hv
        subst e1
        have hws : w.heap.size ≤ wr.heap.size := hb.size
        have d0 := (hb.cell (p := ⟨b, off + j * 2, none⟩) hbl).trans c0
        have d1 := (hb.cell (p := ⟨b, off + j * 2 + 1, none⟩) hbl).trans c1
        have hrow' := hrow.below hb
        have hla := lastAt_next (r := (m0, z0)) hjL
        have hcn := chgV_next (r := (m0, z0)) hjL
        have hql := HRL.out _ (qD_mem hjL)
        have hll : (lastAt (m0, z0) L j).2.length ≤ 1048576 := by
          rcases j with _ | j
          · exact H0l.out
          · rw [lastAt_next (by omega)]; exact HRL.out _ (qD_mem (by omega))
        have hcl := Nat.le_trans (chgV_len (L.take j) (m0, z0)) (List.length_take_le _ _)
        obtain ⟨q, hq⟩ : ∃ q, q = qD L j := ⟨_, rfl⟩
        obtain ⟨l, hl⟩ : ∃ l, l = lastAt (m0, z0) L j := ⟨_, rfl⟩
        obtain ⟨C, hC⟩ : ∃ C, C = chgV (m0, z0) (L.take j) := ⟨_, rfl⟩
        rw [← hq] at c0 c1 hrow d0 d1 hrow' hla hcn hql
        rw [← hl] at hx hr hcn hll
        rw [← hC] at ho hcn hcl ⊢
        obtain ⟨qm, qz⟩ := q
        obtain ⟨lm, lz⟩ := l
        simp only at c0 c1 hrow d0 d1 hrow' hx hr hql hll
        have HC0 := Lib.hid c0
        have HC1 := Lib.hid c1
        have HRw := Lib.hid hrow
        have HBw := Lib.hid hbl
        obtain ⟨s, hs⟩ : ∃ s, s = sameRp lm lz qm qz := ⟨_, rfl⟩
        have HOw := Lib.hid ho
        have HX := Lib.hid hx
        have HR := Lib.hid hr
        have HB := Lib.hid hb
        have HRow := Lib.hid hrow'
        have HLa := Lib.hid hla
        have HCn := Lib.hid hcn
        have HCl := Lib.hid (show C.length ≤ j by simpa using hcl)
        have HQl := Lib.hid hql
        have HLl := Lib.hid hll
        have HSs := Lib.hid hs
        have HBl := Lib.hid (Nat.lt_of_lt_of_le hbl hb.size)
        obtain ⟨x0, -⟩ := cells_of_heap hx 0 (by simp)
        obtain ⟨x1, -⟩ := cells_of_heap hx 1 (by simp)
        simp only [List.getElem_toArray, List.getElem_cons_zero, List.getElem_cons_succ] at x0 x1
        clear hc c0 c1 hrow hrow' hla hcn hql hll hcl hq hl hC hs hr hb hx ho hv
        go_upto_region 5 with (fail)
        go_still_tail 5, (by kernel_rfl)
        obtain ⟨wd, hwd⟩ : ∃ x, x = wr.drew := ⟨_, rfl⟩
        have hbd : Below wr.heap.size wr wd := by rw [hwd]; exact (Below.refl _ _).drew
        change wpList _ _ _ _ _ wr.drew
        rw [← hwd]
        have HBd := Lib.hid hbd
        clear hwd hbd x0 x1 d0 d1
        go_wp2_with fail
        refine (specSameReport_any lm (.slice ab lz.length cb) lz qm (.slice xa qz.length xc) qz _ (by have := HLl.out; unfold maxLen; omega) (HR.out.below HBd.out) (HRow.out.below HBd.out)).mono ?_
        rw [← HSs.out]
        rintro e w1 ⟨rfl, hb1⟩
        have HBq := Lib.hid (HBd.out.trans (hb1.mono HBd.out.size))
        clear hb1 HBd
        have HX1 := Lib.hid ((HBq.out.block g (Array.getElem?_eq_some_iff.mp HX.out).1).trans HX.out)
        have HOw1 := Lib.hid (HOw.out.below HBq.out)
        have HB1 := Lib.hid (HB.out.trans (HBq.out.mono HB.out.size))
        clear HBq HOw HX HB HR
        have g0 := (HB1.out.cell (p := ⟨b, off + j * 2, none⟩) HBw.out).trans HC0.out
        have g1 := (HB1.out.cell (p := ⟨b, off + j * 2 + 1, none⟩) HBw.out).trans HC1.out
        obtain ⟨x0, p0⟩ := cells_of_heap HX1.out 0 (by simp)
        obtain ⟨x1, p1⟩ := cells_of_heap HX1.out 1 (by simp)
        simp only [List.getElem_toArray, List.getElem_cons_zero, List.getElem_cons_succ] at x0 x1
        cases s
        · have hne : ¬ ((qm, qz) : Rv) = (lm, lz) := fun e => by
            have h1 := HSs.out
            injection e with e1 e2
            rw [sameRp, e1, e2] at h1
            simp at h1
          have HCn2 := Lib.hid (show chgV (m0, z0) (L.take (j + 1)) = C ++ [(qm, qz)] by rw [HCn.out, if_neg hne])
          clear hne x0 p0 x1 p1
          go_wp2_with fail
          refine (specL7Copy_any qm xa xc qz _ HQl.out (HRw.out.below HB1.out)).mono ?_
          rintro e w2 ⟨u, rfl, hu, hb2⟩
          obtain ⟨ua2, uc2, rfl⟩ := owns_shape hu
          obtain ⟨fq, hq1, hq2, hq3⟩ := owC_row hu HQl.out
          obtain ⟨us, fps, hOQ, hfp⟩ := HOw1.out
          have ho1 := HOw1.out
          rw [hfp] at ho1
          have HO1 := Lib.hid ho1
          have HQ := Lib.hid hOQ
          have HNq := Lib.hid hq2
          have HbB := Lib.hid (show Below w1.heap.size w1 (w2.alloc (.cells #[.int .i64 qm, .slice ua2 qz.length uc2] 47)) from hb2.alloc hb2.size _)
          have HUq := Lib.hid (hq1.below (below_alloc1 w2 (.cells #[.int .i64 qm, .slice ua2 qz.length uc2] 47)))
          have r63 : C.length + 1 ≤ maxLen := by have := HCl.out; unfold maxLen; omega
          have r47 : (C.length + 1) * 32 ≤ 140737488355328 := by have := HCl.out; omega
          have hg1 : g < w1.heap.size := (Array.getElem?_eq_some_iff.mp HX1.out).1
          have hws2 : g + 1 ≤ w2.heap.size := Nat.le_trans hg1 hb2.size
          clear hu hq1 hq2 hq3 hOQ hfp ho1 hb2 g0 g1
          go_wp2_with (at_builtin; refine wpList_append_lies _ rfl _ _ 34 rfl (g + 1) 47 iR (.agg #[.int .i64 0, .slice none 0 0]) 2 32 Tryz.underlying34 hR hR0 hR1 hR2 rfl (by decide) _ _ _ rfl (owns_below HQ.out.own HbB.out) ⟨w2.heap.size, 0, none⟩ 1 1 [.int .i64 qm, .slice ua2 qz.length uc2] rfl rfl (World.news_of_block (cs := #[.int .i64 qm, .slice ua2 qz.length uc2]) (t := 47) (fr := (0, 0)) (heap_alloc_new w2 _)) (by simp [Value.oneCell']) (by decide) r63 r47 (by simp; omega) (w2.heap.size + 1) (by simp) ?_)
          intro go1 cap1 w3 hownC hgrowC hatC hltC
          have HOw3 := Lib.hid (OwP.pushB (m := qm) (z := qz) HO1.out HQ.out HbB.out HUq.out HNq.out hg1 hownC hgrowC (by rcases hatC with h1 | h1; exact .inl h1; exact .inr (by rw [h1]; simp)))
          have hgw : w.heap.size ≤ g := by rw [HG.out]; exact Nat.le_refl _
          have hown := HQ.out.own
          have HB3 := Lib.hid ((HB1.out.trans (HbB.out.mono HB1.out.size)).grown hgrowC (by simp; omega) (fun q hq => by have := (hown.lt q hq).1; omega))
          have HX3 := Lib.hid ((hgrowC.block g (by have := HbB.out.size; omega) (fun e => by have := (hown.lt g e.symm).1; omega)).trans ((HbB.out.block g hg1).trans HX1.out))
          clear hownC hgrowC hatC hltC r63 r47 hws2 hown HX1 HB1 HOw1 HO1 HQ HbB HUq HNq
          have g0 := (HB3.out.cell (p := ⟨b, off + j * 2, none⟩) HBw.out).trans HC0.out
          have g1 := (HB3.out.cell (p := ⟨b, off + j * 2 + 1, none⟩) HBw.out).trans HC1.out
          obtain ⟨x0, p0⟩ := cells_of_heap HX3.out 0 (by simp)
          obtain ⟨x1, p1⟩ := cells_of_heap HX3.out 1 (by simp)
          simp only [List.getElem_toArray, List.getElem_cons_zero, List.getElem_cons_succ] at x0 x1
          have hP : Below w.heap.size w (putW w3 g 0 [.int .i64 qm, .slice xa qz.length xc]) := putW_below (by rw [HG.out]; exact Nat.le_refl _) _ _ _ HB3.out
          have hO : OwP rpF (putW w3 g 0 [.int .i64 qm, .slice xa qz.length xc]) (g + 1) 47 1 (.slice (some ⟨go1, 0, none⟩) (C.length + 1) cap1) (C ++ [(qm, qz)]) (go1 :: (fps.flatten ++ fq)) := HOw3.out.turn (Turn.of_grown (putW_grown _ 0 w3)) (fun x hx hm => by rw [List.mem_singleton] at hm; have := (HOw3.out.rng x hx).1; omega)
          have hX : (putW w3 g 0 [.int .i64 qm, .slice xa qz.length xc]).heap[g]? = some (.cells #[.int .i64 qm, .slice xa qz.length xc] 47 (0, 0)) := putW_all _ HX3.out rfl
          have hRd := HRw.out.below hP
          have HP := Lib.hid hP
          have HO := Lib.hid hO
          have HXX := Lib.hid hX
          have HRd := Lib.hid hRd
          clear hP hO hX hRd
          go_wp2
          go_roundw
          case rel => exact ⟨j + 1, (some ⟨go1, 0, none⟩), xa, cap1, xc, (go1 :: (fps.flatten ++ fq)), by omega, by go_num, by rw [HCn2.out]; simp, by rw [HCn2.out]; exact HO.out, by rw [HLa.out]; exact HXX.out, by rw [HLa.out]; exact HRd.out, HP.out⟩
          case measure => simp [intOf]; omega
        · have he : ((qm, qz) : Rv) = (lm, lz) := by
            have := HSs.out
            unfold sameRp at this
            obtain ⟨h1, h2⟩ := of_decide_eq_true this.symm
            rw [h1, h2]
          have HCn2 := Lib.hid (show chgV (m0, z0) (L.take (j + 1)) = C by rw [HCn.out, if_pos he, List.append_nil])
          clear he
          have hP : Below w.heap.size w (putW w1 g 0 [.int .i64 qm, .slice xa qz.length xc]) := putW_below (by rw [HG.out]; exact Nat.le_refl _) _ _ _ HB1.out
          have hO : OwP rpF (putW w1 g 0 [.int .i64 qm, .slice xa qz.length xc]) (g + 1) 47 1 (.slice ao C.length co) C fp := HOw1.out.turn (Turn.of_grown (putW_grown _ 0 w1)) (fun x hx hm => by rw [List.mem_singleton] at hm; have := (HOw1.out.rng x hx).1; omega)
          have hX : (putW w1 g 0 [.int .i64 qm, .slice xa qz.length xc]).heap[g]? = some (.cells #[.int .i64 qm, .slice xa qz.length xc] 47 (0, 0)) := putW_all _ HX1.out rfl
          have hRd := HRw.out.below hP
          have HP := Lib.hid hP
          have HO := Lib.hid hO
          have HXX := Lib.hid hX
          have HRd := Lib.hid hRd
          clear hP hO hX hRd
          go_wp2
          go_roundw
          case rel => exact ⟨j + 1, ao, xa, co, xc, fp, by omega, by go_num, by rw [HCn2.out], by rw [HCn2.out]; exact HO.out, by rw [HLa.out]; exact HXX.out, by rw [HLa.out]; exact HRd.out, HP.out⟩
          case measure => simp [intOf]; omega
    · obtain rfl : j = n := by omega
      have hT : L.take j = L := by rw [HN.out, List.take_length]
      rw [hT] at ho ⊢
      have HOw := Lib.hid ho
      have HB := Lib.hid hb
      clear ho hb hx hr
      go_wp2
      go_ret
      exact ⟨_, _, _, rfl, HOw.out.base (by rw [HG.out]; omega), HB.out⟩

end Go.Proofs.YtjfckchoklepbaaGreat
