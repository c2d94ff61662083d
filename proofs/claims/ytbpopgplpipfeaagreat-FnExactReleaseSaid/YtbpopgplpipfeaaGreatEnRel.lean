/- DERIVED. The reference's l9Changes: reports without those that are the one before them. Called with at most 1048576 reports of at most 1048576 codes. · The reference's Release: the engine without the key, and the reports that change. Called with any engine of at most 1048576 layers, macros, steps and held keys. -/
import Derived.Test.YtbpopgplpipfeaaGreatEnCpy
import Derived.Test.YtbpopgplpipfeaaGreatRpSpec
import Derived.Test.YtbpopgplpipfeaaGreatRpsLaw
import Derived.Test.YtbpopgplpipfeaaGreatEnPr
namespace Go.Proofs.YtbpopgplpipfeaaGreat
open Go.RowKit

/-- The report before the j-th. -/
def lastAt (r : Rv) (L : List Rv) (j : Nat) : Rv := (L.take j).getLastD r
theorem chgV_snoc : ∀ (L : List Rv) (r x : Rv), chgV r (L ++ [x]) = chgV r L ++ (if x = L.getLastD r then [] else [x])
  | [], r, x => by simp [chgV]
  | y :: L, r, x => by
    rw [List.cons_append, chgV, chgV, chgV_snoc L y x, List.getLastD_cons]
    split <;> simp
theorem takeR_snoc {L : List Rv} {j : Nat} (h : j < L.length) : L.take (j + 1) = L.take j ++ [qD L j] := by
  rw [List.take_succ_eq_append_getElem h, qD, List.getD_eq_getElem?_getD, List.getElem?_eq_getElem h]; rfl
theorem lastAt_next {r : Rv} {L : List Rv} {j : Nat} (h : j < L.length) : lastAt r L (j + 1) = qD L j := by
  rw [lastAt, takeR_snoc h]; simp
theorem chgV_next {r : Rv} {L : List Rv} {j : Nat} (h : j < L.length) : chgV r (L.take (j + 1)) = chgV r (L.take j) ++ (if qD L j = lastAt r L j then [] else [qD L j]) := by
  rw [takeR_snoc h, chgV_snoc]; rfl
theorem chgV_len : ∀ (L : List Rv) (r : Rv), (chgV r L).length ≤ L.length
  | [], r => by simp [chgV]
  | y :: L, r => by
    rw [chgV]
    have := chgV_len L y
    split <;> simp <;> omega
theorem qD_mem {L : List Rv} {j : Nat} (h : j < L.length) : qD L j ∈ L := by
  rw [qD, List.getD_eq_getElem?_getD, List.getElem?_eq_getElem h]; exact List.getElem_mem h

theorem OwP.pushB {W wb wc : World} {B g2 cap2 : Nat} {ao : Option Addr} {L : List Rv} {co : Nat} {us : List Value} {fps : List (List Nat)} {m : Int} {z : List Int} {u : Value} {fq : List Nat}
    (h : OwP rpF W B 47 1 (.slice ao L.length co) L (ownFp (.slice ao L.length co) ++ fps.flatten)) (hq : OwQ rpF W B (.slice ao L.length co) (W.ownsRow B 47 (1 + 1) (.slice ao L.length co) L.length) us L fps)
    (hb : Below W.heap.size W wb) (hu : OwC wb W.heap.size (.row [.int .i64]) u (.row (ones z)) fq) (hn : fq.Nodup) (hBW : B ≤ W.heap.size)
    (h' : wc.ownsRow B 47 (1 + 1) (.slice (some ⟨g2, 0, none⟩) (L.length + 1) cap2) (L.length + 1) (pC rpF L us ++ (rpF m ++ [u]))) (hg : wb.grownBy wc (Value.slice ao L.length co).ownBlock) (hat : (Value.slice ao L.length co).ownBlock = some g2 ∨ g2 = wb.heap.size) :
    OwP rpF wc B 47 1 (.slice (some ⟨g2, 0, none⟩) (L.length + 1) cap2) (L ++ [(m, z)]) (g2 :: (fps.flatten ++ fq)) := by
  have hb' : Turn W wb [] := Turn.of_below hb []
  have hq2 : OwQ rpF wb B (.slice ao L.length co) (wb.ownsRow B 47 (1 + 1) (.slice ao L.length co) L.length) us L fps := hq.turn (owns_below hq.own hb) hb' (fun _ _ hm => by simp at hm)
  have hrng := h.rng
  have hru := hu.rng
  exact OwP.push (p := (m, z)) hq2 (OwC.base _ _ _ _ hu hBW) hn (fun b hb1 hb2 => by have := (hru b hb1).1; have := (hrng b hb2).2; omega) h' hg hat

set_option maxRecDepth 100000 in
set_option maxHeartbeats 16000000 in
theorem specL9Changes_any (m0 : Int) (z0 : List Int) (ua : Option Addr) (uc : Nat) (v : Value) (L : List Rv) (w : World) (hl : L.length ≤ 1048576) (hrl : ∀ r ∈ L, r.2.length ≤ 1048576) (h0l : z0.length ≤ 1048576)
    (h0 : Rd w (.slice ua z0.length uc) (z0.map (.int .i64))) (h : RdQ rpF w v L) :
    Calls Tryz.prog 69 #[rpv m0 (.slice ua z0.length uc), v] w (MrO (chgV (m0, z0) L) w) := by
  obtain ⟨iR, hR, hR0, hR1, hR2⟩ := info_parts info_rp
  obtain ⟨n, hn⟩ : ∃ n, n = L.length := ⟨_, rfl⟩
  have hsh : ∃ a c, v = .slice a L.length c := by
    rcases RdQ.at h with ⟨rfl, a, c, rfl⟩ | ⟨b, off, c, _, rfl, _⟩
    · exact ⟨a, c, rfl⟩
    · exact ⟨_, _, rfl⟩
  obtain ⟨va, vc, rfl⟩ := hsh
  obtain ⟨g, hg⟩ : ∃ x, x = w.heap.size := ⟨_, rfl⟩
  obtain ⟨W0, hW0⟩ : ∃ x, x = (w.alloc (.cells #[.int .i64 m0, .slice ua z0.length uc] 47)).alloc (.cells #[] 47) := ⟨_, rfl⟩
  have hb0 : Below w.heap.size w W0 := by rw [hW0]; exact ((Below.refl _ _).alloc (Nat.le_refl _) _).alloc (by simp) _
  have hbox : W0.heap[g]? = some (.cells #[.int .i64 m0, .slice ua z0.length uc] 47 (0, 0)) := by
    rw [hW0, hg, heap_alloc_old _ _ (by simp)]; exact heap_alloc_new w _
  have hout : OwP rpF W0 (g + 1) 47 1 (.slice (some ⟨g + 1, 0, none⟩) 0 0) [] (ownFp (.slice (some ⟨g + 1, 0, none⟩) 0 0)) := by
    have hr := World.ownsRow_lit (base := g + 1) (e := 47) (size := 2) (w.alloc (.cells #[.int .i64 m0, .slice ua z0.length uc] 47)) #[] 0 (by rw [hg]; simp) (by simp [maxLen]) rfl
    rw [← hW0] at hr
    rw [show (w.alloc (.cells #[.int .i64 m0, .slice ua z0.length uc] 47)).heap.size = g + 1 by rw [hg]; simp] at hr
    exact OwP.start hr
  have HW0 := Lib.hid hW0
  have HG := Lib.hid hg
  have HB0 := Lib.hid hb0
  have HBox := Lib.hid hbox
  have HOut := Lib.hid hout
  have HN := Lib.hid hn
  have H0 := Lib.hid h0
  have H := Lib.hid h
  have HRL := Lib.hid hrl
  have H0l := Lib.hid h0l
  have hln : n ≤ 1048576 := by rw [hn]; exact hl
  rw [← hn]
  clear hW0 hb0 hbox hout hn h0 h hrl h0l hg hl
  go_enter Tryz.func69, Tryz.ntmps69
  go_upto_region 3 with (fail)
  rw [← HW0.out, ← HG.out]
  clear HW0
  go_loopw [5, 6] (fun out i wr => ∃ (j : Nat) (ao ab : Option Addr) (co cb : Nat) (fp : List Nat), j ≤ n ∧ i = .int .i64 j ∧ out = .slice ao (chgV (m0, z0) (L.take j)).length co ∧ OwP rpF wr (g + 1) 47 1 out (chgV (m0, z0) (L.take j)) fp ∧
      wr.heap[g]? = some (.cells #[.int .i64 (lastAt (m0, z0) L j).1, .slice ab (lastAt (m0, z0) L j).2.length cb] 47 (0, 0)) ∧ Rd wr (.slice ab (lastAt (m0, z0) L j).2.length cb) ((lastAt (m0, z0) L j).2.map (.int .i64)) ∧ Below w.heap.size w wr) (fun _ i _ => n - (intOf i).toNat)
  case atStart => exact ⟨0, _, _, _, _, _, Nat.zero_le _, rfl, rfl, HOut.out, HBox.out, H0.out.below HB0.out, HB0.out⟩
  case round =>
    obtain ⟨j, ao, ab, co, cb, fp, hj, rfl, rfl, ho, hx, hr, hb⟩ := hrel
    by_cases hlt : j < n
    · have hjL : j < L.length := by rw [← HN.out]; exact hlt
      rcases RdQ.at H.out with ⟨hnil, _⟩ | ⟨b, off, cap, _, hv, hbl, hc⟩
      · exfalso; rw [hnil] at hjL; simp at hjL
      · obtain ⟨xa, xc, c0, c1, hrow⟩ := hc j hjL
        have e1 : va = some ⟨b, off, none⟩ := by injection hv
        subst e1
        have hws : w.heap.size ≤ wr.heap.size := hb.size
        have d0 := (hb.cell (p := ⟨b, off + j * 2, none⟩) hbl).trans c0
        have d1 := (hb.cell (p := ⟨b, off + j * 2 + 1, none⟩) hbl).trans c1
        have hrow' := hrow.below hb
        have hla := lastAt_next (r := (m0, z0)) hjL
        have hcn := chgV_next (r := (m0, z0)) hjL
        have hql := HRL.out _ (qD_mem hjL)
        have hll : (lastAt (m0, z0) L j).2.length ≤ 1048576 := by
          rcases j with _ | j
          · exact H0l.out
          · rw [lastAt_next (by omega)]; exact HRL.out _ (qD_mem (by omega))
        have hcl := Nat.le_trans (chgV_len (L.take j) (m0, z0)) (List.length_take_le _ _)
        obtain ⟨q, hq⟩ : ∃ q, q = qD L j := ⟨_, rfl⟩
        obtain ⟨l, hl⟩ : ∃ l, l = lastAt (m0, z0) L j := ⟨_, rfl⟩
        obtain ⟨C, hC⟩ : ∃ C, C = chgV (m0, z0) (L.take j) := ⟨_, rfl⟩
        rw [← hq] at c0 c1 hrow d0 d1 hrow' hla hcn hql
        rw [← hl] at hx hr hcn hll
        rw [← hC] at ho hcn hcl ⊢
        obtain ⟨qm, qz⟩ := q
        obtain ⟨lm, lz⟩ := l
        simp only at c0 c1 hrow d0 d1 hrow' hx hr hql hll
        have HC0 := Lib.hid c0
        have HC1 := Lib.hid c1
        have HRw := Lib.hid hrow
        have HBw := Lib.hid hbl
        obtain ⟨s, hs⟩ : ∃ s, s = sameRp lm lz qm qz := ⟨_, rfl⟩
        have HOw := Lib.hid ho
        have HX := Lib.hid hx
        have HR := Lib.hid hr
        have HB := Lib.hid hb
        have HRow := Lib.hid hrow'
        have HLa := Lib.hid hla
        have HCn := Lib.hid hcn
        have HCl := Lib.hid (show C.length ≤ j by simpa using hcl)
        have HQl := Lib.hid hql
        have HLl := Lib.hid hll
        have HSs := Lib.hid hs
        have HBl := Lib.hid (Nat.lt_of_lt_of_le hbl hb.size)
        obtain ⟨x0, -⟩ := cells_of_heap hx 0 (by simp)
        obtain ⟨x1, -⟩ := cells_of_heap hx 1 (by simp)
        simp only [List.getElem_toArray, List.getElem_cons_zero, List.getElem_cons_succ] at x0 x1
        clear hc c0 c1 hrow hrow' hla hcn hql hll hcl hq hl hC hs hr hb hx ho hv
        go_upto_region 5 with (fail)
        go_still_tail 5, (by kernel_rfl)
        obtain ⟨wd, hwd⟩ : ∃ x, x = wr.drew := ⟨_, rfl⟩
        have hbd : Below wr.heap.size wr wd := by rw [hwd]; exact (Below.refl _ _).drew
        change wpList _ _ _ _ _ wr.drew
        rw [← hwd]
        have HBd := Lib.hid hbd
        clear hwd hbd x0 x1 d0 d1
        go_wp2_with fail
        refine (specSameReport_any lm (.slice ab lz.length cb) lz qm (.slice xa qz.length xc) qz _ (by have := HLl.out; unfold maxLen; omega) (HR.out.below HBd.out) (HRow.out.below HBd.out)).mono ?_
        rw [← HSs.out]
        rintro e w1 ⟨rfl, hb1⟩
        have HBq := Lib.hid (HBd.out.trans (hb1.mono HBd.out.size))
        clear hb1 HBd
        have HX1 := Lib.hid ((HBq.out.block g (Array.getElem?_eq_some_iff.mp HX.out).1).trans HX.out)
        have HOw1 := Lib.hid (HOw.out.below HBq.out)
        have HB1 := Lib.hid (HB.out.trans (HBq.out.mono HB.out.size))
        clear HBq HOw HX HB HR
        have g0 := (HB1.out.cell (p := ⟨b, off + j * 2, none⟩) HBw.out).trans HC0.out
        have g1 := (HB1.out.cell (p := ⟨b, off + j * 2 + 1, none⟩) HBw.out).trans HC1.out
        obtain ⟨x0, p0⟩ := cells_of_heap HX1.out 0 (by simp)
        obtain ⟨x1, p1⟩ := cells_of_heap HX1.out 1 (by simp)
        simp only [List.getElem_toArray, List.getElem_cons_zero, List.getElem_cons_succ] at x0 x1
        cases s
        · have hne : ¬ ((qm, qz) : Rv) = (lm, lz) := fun e => by
            have h1 := HSs.out
            injection e with e1 e2
            rw [sameRp, e1, e2] at h1
            simp at h1
          have HCn2 := Lib.hid (show chgV (m0, z0) (L.take (j + 1)) = C ++ [(qm, qz)] by rw [HCn.out, if_neg hne])
          clear hne x0 p0 x1 p1
          go_wp2_with fail
          refine (specL7Copy_any qm xa xc qz _ HQl.out (HRw.out.below HB1.out)).mono ?_
          rintro e w2 ⟨u, rfl, hu, hb2⟩
          obtain ⟨ua2, uc2, rfl⟩ := owns_shape hu
          obtain ⟨fq, hq1, hq2, hq3⟩ := owC_row hu HQl.out
          obtain ⟨us, fps, hOQ, hfp⟩ := HOw1.out
          have ho1 := HOw1.out
          rw [hfp] at ho1
          have HO1 := Lib.hid ho1
          have HQ := Lib.hid hOQ
          have HNq := Lib.hid hq2
          have HbB := Lib.hid (show Below w1.heap.size w1 (w2.alloc (.cells #[.int .i64 qm, .slice ua2 qz.length uc2] 47)) from hb2.alloc hb2.size _)
          have HUq := Lib.hid (hq1.below (below_alloc1 w2 (.cells #[.int .i64 qm, .slice ua2 qz.length uc2] 47)))
          have r63 : C.length + 1 ≤ maxLen := by have := HCl.out; unfold maxLen; omega
          have r47 : (C.length + 1) * 32 ≤ 140737488355328 := by have := HCl.out; omega
          have hg1 : g < w1.heap.size := (Array.getElem?_eq_some_iff.mp HX1.out).1
          have hws2 : g + 1 ≤ w2.heap.size := Nat.le_trans hg1 hb2.size
          clear hu hq1 hq2 hq3 hOQ hfp ho1 hb2 g0 g1
          go_wp2_with (at_builtin; refine wpList_append_lies _ rfl _ _ 34 rfl (g + 1) 47 iR (.agg #[.int .i64 0, .slice none 0 0]) 2 32 Tryz.underlying34 hR hR0 hR1 hR2 rfl (by decide) _ _ _ rfl (owns_below HQ.out.own HbB.out) ⟨w2.heap.size, 0, none⟩ 1 1 [.int .i64 qm, .slice ua2 qz.length uc2] rfl rfl (World.news_of_block (cs := #[.int .i64 qm, .slice ua2 qz.length uc2]) (t := 47) (fr := (0, 0)) (heap_alloc_new w2 _)) (by simp [Value.oneCell']) (by decide) r63 r47 (by simp; omega) (w2.heap.size + 1) (by simp) ?_)
          intro go1 cap1 w3 hownC hgrowC hatC hltC
          have HOw3 := Lib.hid (OwP.pushB (m := qm) (z := qz) HO1.out HQ.out HbB.out HUq.out HNq.out hg1 hownC hgrowC (by rcases hatC with h1 | h1; exact .inl h1; exact .inr (by rw [h1]; simp)))
          have hgw : w.heap.size ≤ g := by rw [HG.out]; exact Nat.le_refl _
          have hown := HQ.out.own
          have HB3 := Lib.hid ((HB1.out.trans (HbB.out.mono HB1.out.size)).grown hgrowC (by simp; omega) (fun q hq => by have := (hown.lt q hq).1; omega))
          have HX3 := Lib.hid ((hgrowC.block g (by have := HbB.out.size; omega) (fun e => by have := (hown.lt g e.symm).1; omega)).trans ((HbB.out.block g hg1).trans HX1.out))
          clear hownC hgrowC hatC hltC r63 r47 hws2 hown HX1 HB1 HOw1 HO1 HQ HbB HUq HNq
          have g0 := (HB3.out.cell (p := ⟨b, off + j * 2, none⟩) HBw.out).trans HC0.out
          have g1 := (HB3.out.cell (p := ⟨b, off + j * 2 + 1, none⟩) HBw.out).trans HC1.out
          obtain ⟨x0, p0⟩ := cells_of_heap HX3.out 0 (by simp)
          obtain ⟨x1, p1⟩ := cells_of_heap HX3.out 1 (by simp)
          simp only [List.getElem_toArray, List.getElem_cons_zero, List.getElem_cons_succ] at x0 x1
          have hP : Below w.heap.size w (putW w3 g 0 [.int .i64 qm, .slice xa qz.length xc]) := putW_below (by rw [HG.out]; exact Nat.le_refl _) _ _ _ HB3.out
          have hO : OwP rpF (putW w3 g 0 [.int .i64 qm, .slice xa qz.length xc]) (g + 1) 47 1 (.slice (some ⟨go1, 0, none⟩) (C.length + 1) cap1) (C ++ [(qm, qz)]) (go1 :: (fps.flatten ++ fq)) := HOw3.out.turn (Turn.of_grown (putW_grown _ 0 w3)) (fun x hx hm => by rw [List.mem_singleton] at hm; have := (HOw3.out.rng x hx).1; omega)
          have hX : (putW w3 g 0 [.int .i64 qm, .slice xa qz.length xc]).heap[g]? = some (.cells #[.int .i64 qm, .slice xa qz.length xc] 47 (0, 0)) := putW_all _ HX3.out rfl
          have hRd := HRw.out.below hP
          have HP := Lib.hid hP
          have HO := Lib.hid hO
          have HXX := Lib.hid hX
          have HRd := Lib.hid hRd
          clear hP hO hX hRd
          go_wp2
          go_roundw
          case rel => exact ⟨j + 1, (some ⟨go1, 0, none⟩), xa, cap1, xc, (go1 :: (fps.flatten ++ fq)), by omega, by go_num, by rw [HCn2.out]; simp, by rw [HCn2.out]; exact HO.out, by rw [HLa.out]; exact HXX.out, by rw [HLa.out]; exact HRd.out, HP.out⟩
          case measure => simp [intOf]; omega
        · have he : ((qm, qz) : Rv) = (lm, lz) := by
            have := HSs.out
            unfold sameRp at this
            obtain ⟨h1, h2⟩ := of_decide_eq_true this.symm
            rw [h1, h2]
          have HCn2 := Lib.hid (show chgV (m0, z0) (L.take (j + 1)) = C by rw [HCn.out, if_pos he, List.append_nil])
          clear he
          have hP : Below w.heap.size w (putW w1 g 0 [.int .i64 qm, .slice xa qz.length xc]) := putW_below (by rw [HG.out]; exact Nat.le_refl _) _ _ _ HB1.out
          have hO : OwP rpF (putW w1 g 0 [.int .i64 qm, .slice xa qz.length xc]) (g + 1) 47 1 (.slice ao C.length co) C fp := HOw1.out.turn (Turn.of_grown (putW_grown _ 0 w1)) (fun x hx hm => by rw [List.mem_singleton] at hm; have := (HOw1.out.rng x hx).1; omega)
          have hX : (putW w1 g 0 [.int .i64 qm, .slice xa qz.length xc]).heap[g]? = some (.cells #[.int .i64 qm, .slice xa qz.length xc] 47 (0, 0)) := putW_all _ HX1.out rfl
          have hRd := HRw.out.below hP
          have HP := Lib.hid hP
          have HO := Lib.hid hO
          have HXX := Lib.hid hX
          have HRd := Lib.hid hRd
          clear hP hO hX hRd
          go_wp2
          go_roundw
          case rel => exact ⟨j + 1, ao, xa, co, xc, fp, by omega, by go_num, by rw [HCn2.out], by rw [HCn2.out]; exact HO.out, by rw [HLa.out]; exact HXX.out, by rw [HLa.out]; exact HRd.out, HP.out⟩
          case measure => simp [intOf]; omega
    · obtain rfl : j = n := by omega
      have hT : L.take j = L := by rw [HN.out, List.take_length]
      rw [hT] at ho ⊢
      have HOw := Lib.hid ho
      have HB := Lib.hid hb
      clear ho hb hx hr
      go_wp2
      go_ret
      exact ⟨_, _, _, rfl, HOw.out.base (by rw [HG.out]; omega), HB.out⟩
end Go.Proofs.YtbpopgplpipfeaaGreat

namespace Go.Proofs.YtbpopgplpipfeaaGreat
open Go.RowKit

set_option maxRecDepth 100000 in
set_option maxHeartbeats 16000000 in
theorem specRelease_any (e : En) (u1 u2 u3 : Value) (key : Int) (w : World) (hs : EnSz e) (h : RdE w e u1 u2 u3) :
    Calls Tryz.prog 32 #[env e.k u1 u2 e.x u3 e.o e.p, .int .i64 key] w (PrO (relV e key) w) := by
  obtain ⟨t, ht⟩ : ∃ t, t = relV e key := ⟨_, rfl⟩
  rw [← ht]
  rw [relV, relB] at ht
  obtain ⟨b, hbv⟩ : ∃ b, b = okEn e := ⟨_, rfl⟩
  obtain ⟨kk, hkk⟩ : ∃ q, q = haI e.H key := ⟨_, rfl⟩
  rw [← hbv, ← hkk] at ht
  have HT := Lib.hid ht
  have HBV := Lib.hid hbv
  have HKK := Lib.hid hkk
  clear ht hbv hkk
  obtain ⟨h1, h2, h3⟩ := h
  obtain ⟨k, L, F, fx, H, o, p⟩ := e
  simp only at h1 h2 h3 ⊢
  obtain ⟨a1, c1, rfl⟩ := RdS.shape h1
  obtain ⟨a2, c2, rfl⟩ := RdSt.shape h2
  obtain ⟨a3, c3, rfl⟩ := RdN.shape h3
  obtain ⟨nL, hnL⟩ : ∃ n, n = L.length := ⟨_, rfl⟩
  obtain ⟨nF, hnF⟩ : ∃ n, n = F.length := ⟨_, rfl⟩
  obtain ⟨nH, hnH⟩ : ∃ n, n = H.length := ⟨_, rfl⟩
  have HRd := Lib.hid (show ∀ w', Below w.heap.size w w' → RdE w' ⟨k, L, F, fx, H, o, p⟩ (.slice a1 nL c1) (.slice a2 nF c2) (.slice a3 nH c3) from fun w' hw => ⟨by rw [hnL]; exact h1.below hw, by rw [hnF]; exact h2.below hw, by rw [hnH]; exact h3.below hw⟩)
  have HNL := Lib.hid hnL
  have HNF := Lib.hid hnF
  have HNH := Lib.hid hnH
  have HS := Lib.hid hs
  rw [← hnL, ← hnF, ← hnH]
  obtain ⟨g, hg⟩ : ∃ g, g = w.heap.size := ⟨_, rfl⟩
  obtain ⟨U, hU⟩ : ∃ U, U = (w.alloc (.cells #[.int .i64 k, .slice a1 nL c1, .slice a2 nF c2, .int .i64 fx, .slice a3 nH c3, .int .i64 o, .bool p] 30)).alloc (.cells #[.int .i64 0, .slice none 0 0, .slice none 0 0, .int .i64 0, .slice none 0 0, .int .i64 0, .bool false] 30) := ⟨_, rfl⟩
  have HX0 := Lib.hid (show U.heap[g]? = some (.cells #[.int .i64 k, .slice a1 nL c1, .slice a2 nF c2, .int .i64 fx, .slice a3 nH c3, .int .i64 o, .bool p] 30 (0, 0)) by rw [hU, hg, Below.heap_alloc _ _ _ (by simp)]; exact heap_alloc_new w _)
  have HR0 := Lib.hid (show U.heap[g + 1]? = some (.cells #[.int .i64 0, .slice none 0 0, .slice none 0 0, .int .i64 0, .slice none 0 0, .int .i64 0, .bool false] 30 (0, 0)) by rw [hU, hg]; simpa using heap_alloc_new (w.alloc (.cells #[.int .i64 k, .slice a1 nL c1, .slice a2 nF c2, .int .i64 fx, .slice a3 nH c3, .int .i64 o, .bool p] 30)) _)
  have HB0 := Lib.hid (show Below w.heap.size w U by rw [hU]; exact ((Below.refl _ _).alloc (Nat.le_refl _) _).alloc (by simp) _)
  have HG := Lib.hid hg
  have HU := Lib.hid hU
  have hle : w.heap.size ≤ g + 1 := by rw [hg]; omega
  clear h1 h2 h3 hnL hnF hnH hs hg hU
  go_enter Tryz.func32, Tryz.ntmps32
  go_upto_region 1 with (fail)
  rw [← HU.out, ← HG.out]
  obtain ⟨x0, x0'⟩ := cells_of_heap HX0.out 0 (by simp)
  obtain ⟨x1, x1'⟩ := cells_of_heap HX0.out 1 (by simp)
  obtain ⟨x2, x2'⟩ := cells_of_heap HX0.out 2 (by simp)
  obtain ⟨x3, x3'⟩ := cells_of_heap HX0.out 3 (by simp)
  obtain ⟨x4, x4'⟩ := cells_of_heap HX0.out 4 (by simp)
  obtain ⟨x5, x5'⟩ := cells_of_heap HX0.out 5 (by simp)
  obtain ⟨x6, x6'⟩ := cells_of_heap HX0.out 6 (by simp)
  simp only [List.getElem_toArray, List.getElem_cons_zero, List.getElem_cons_succ] at x0 x1 x2 x3 x4 x5 x6
  go_wp2_with fail
  refine (specHeldAt_any k (.slice a1 nL c1) (.slice a2 nF c2) fx (.slice a3 nH c3) o p H key _ (by have : H.length ≤ 1048576 := HS.out.h; unfold maxLen; omega) (HRd.out _ HB0.out).held).mono ?_
  rw [show haI H key = kk from HKK.out.symm]
  rintro r w1 ⟨rfl, hb⟩
  have HB1 := Lib.hid (HB0.out.trans (hb.mono HB0.out.size))
  have HX1 := Lib.hid (blk_below HX0.out hb)
  have HR1 := Lib.hid (blk_below HR0.out hb)
  clear x0 x0' x1 x1' x2 x2' x3 x3' x4 x4' x5 x5' x6 x6'
  clear hb
  obtain ⟨x0, x0'⟩ := cells_of_heap HX1.out 0 (by simp)
  obtain ⟨x1, x1'⟩ := cells_of_heap HX1.out 1 (by simp)
  obtain ⟨x2, x2'⟩ := cells_of_heap HX1.out 2 (by simp)
  obtain ⟨x3, x3'⟩ := cells_of_heap HX1.out 3 (by simp)
  obtain ⟨x4, x4'⟩ := cells_of_heap HX1.out 4 (by simp)
  obtain ⟨x5, x5'⟩ := cells_of_heap HX1.out 5 (by simp)
  obtain ⟨x6, x6'⟩ := cells_of_heap HX1.out 6 (by simp)
  simp only [List.getElem_toArray, List.getElem_cons_zero, List.getElem_cons_succ] at x0 x1 x2 x3 x4 x5 x6
  go_wp2_with fail
  refine (specIsEngine_any ⟨k, L, F, fx, H, o, p⟩ (.slice a1 nL c1) (.slice a2 nF c2) (.slice a3 nH c3) _ HS.out (HRd.out _ HB1.out)).mono ?_
  rw [← HBV.out]
  rintro r w2 ⟨rfl, hb⟩
  have HB2 := Lib.hid (HB1.out.trans (hb.mono HB1.out.size))
  have HX2 := Lib.hid (blk_below HX1.out hb)
  have HR2 := Lib.hid (blk_below HR1.out hb)
  clear x0 x0' x1 x1' x2 x2' x3 x3' x4 x4' x5 x5' x6 x6'
  clear hb
  cases b
  · obtain rfl : t = ⟨en0, [], false⟩ := HT.out
    obtain ⟨r0, r0'⟩ := cells_of_heap (blk_below HR2.out (below_alloc1 w2 (.cells #[] 47))) 0 (by simp)
    obtain ⟨r1, r1'⟩ := cells_of_heap (blk_below HR2.out (below_alloc1 w2 (.cells #[] 47))) 1 (by simp)
    obtain ⟨r2, r2'⟩ := cells_of_heap (blk_below HR2.out (below_alloc1 w2 (.cells #[] 47))) 2 (by simp)
    obtain ⟨r3, r3'⟩ := cells_of_heap (blk_below HR2.out (below_alloc1 w2 (.cells #[] 47))) 3 (by simp)
    obtain ⟨r4, r4'⟩ := cells_of_heap (blk_below HR2.out (below_alloc1 w2 (.cells #[] 47))) 4 (by simp)
    obtain ⟨r5, r5'⟩ := cells_of_heap (blk_below HR2.out (below_alloc1 w2 (.cells #[] 47))) 5 (by simp)
    obtain ⟨r6, r6'⟩ := cells_of_heap (blk_below HR2.out (below_alloc1 w2 (.cells #[] 47))) 6 (by simp)
    simp only [List.getElem_toArray, List.getElem_cons_zero, List.getElem_cons_succ] at r0 r1 r2 r3 r4 r5 r6
    go_wp2
    clear r0 r0' r1 r1' r2 r2' r3 r3' r4 r4' r5 r5' r6 r6'
    have hnz := (OwP.start (f := rpF) (k := 1) (World.ownsRow_lit (base := w2.heap.size) (e := 47) (size := 2) w2 #[] 0 (Nat.le_refl _) (by simp [maxLen]) rfl)).low
    have hgl : g + 1 < w2.heap.size := (Array.getElem?_eq_some_iff.mp HR2.out).1
    obtain ⟨wf, hwf⟩ : ∃ x, x = putW (w2.alloc (.cells #[] 47)) (g + 1) 0 [.int .i64 0, .slice none 0 0, .slice none 0 0, .int .i64 0, .slice none 0 0, .int .i64 0, .bool false] := ⟨_, rfl⟩
    have kf := putW_all [.int .i64 0, .slice none 0 0, .slice none 0 0, .int .i64 0, .slice none 0 0, .int .i64 0, .bool false] (blk_below HR2.out (below_alloc1 w2 (.cells #[] 47))) rfl
    have bf := putW_below (b := g + 1) (by first | omega | simp) [.int .i64 0, .slice none 0 0, .slice none 0 0, .int .i64 0, .slice none 0 0, .int .i64 0, .bool false] 0 _ (HB2.out.alloc HB2.out.size (.cells #[] 47))
    have of := hnz.putAt (y := g + 1) [.int .i64 0, .slice none 0 0, .slice none 0 0, .int .i64 0, .slice none 0 0, .int .i64 0, .bool false] (fun hm => by have := (hnz.rng _ hm).1; omega) 0
    rw [← hwf] at kf bf of
    have cf := hwf.symm
    simp only [putW, Nat.reduceAdd] at cf
    rw [cf]
    clear cf hwf
    have f0 := (cells_of_heap kf 0 (by simp)).1
    have f1 := (cells_of_heap kf 1 (by simp)).1
    have f2 := (cells_of_heap kf 2 (by simp)).1
    have f3 := (cells_of_heap kf 3 (by simp)).1
    have f4 := (cells_of_heap kf 4 (by simp)).1
    have f5 := (cells_of_heap kf 5 (by simp)).1
    have f6 := (cells_of_heap kf 6 (by simp)).1
    simp only [List.getElem_toArray, List.getElem_cons_zero, List.getElem_cons_succ] at f0 f1 f2 f3 f4 f5 f6
    refine bodyPost_ret (v := .tuple #[env 0 (.slice none 0 0) (.slice none 0 0) 0 (.slice none 0 0) 0 false, .slice (some ⟨w2.heap.size, 0, none⟩) 0 0, .bool false]) (by simp [results, Tryz.results32, go_sem, f0, f1, f2, f3, f4, f5, f6]) rfl ⟨none, 0, none, 0, none, 0, _, _, _, _, rfl, OwE.zero _ _, of.base HB2.out.size, (fun _ h => by cases h), bf⟩
  · by_cases hk : 0 ≤ kk
    · have hk' : ¬ kk < 0 := by omega
      have HT2 := Lib.hid (show t = ⟨relE ⟨k, L, F, fx, H, o, p⟩ key, relR ⟨k, L, F, fx, H, o, p⟩ key, true⟩ by rw [HT.out, Bool.true_and, decide_eq_true hk]; rfl)
      obtain ⟨i, hi, hil⟩ : ∃ i : Nat, kk = (i : Int) ∧ i = haH H key ∧ i < nH := by
        rcases haI_cases H key with h | ⟨h, h2⟩
        · rw [show haI H key = kk from HKK.out.symm] at h; omega
        · exact ⟨haH H key, by rw [← h]; exact HKK.out, rfl, by rw [HNH.out]; exact h2⟩
      obtain ⟨hih, hil⟩ := hil
      subst hi
      have HI := Lib.hid hih
      have HIL := Lib.hid hil
      have HOK := Lib.hid HBV.out.symm
      clear hih hil HT hk
      obtain ⟨x0, x0'⟩ := cells_of_heap HX2.out 0 (by simp)
      obtain ⟨x1, x1'⟩ := cells_of_heap HX2.out 1 (by simp)
      obtain ⟨x2, x2'⟩ := cells_of_heap HX2.out 2 (by simp)
      obtain ⟨x3, x3'⟩ := cells_of_heap HX2.out 3 (by simp)
      obtain ⟨x4, x4'⟩ := cells_of_heap HX2.out 4 (by simp)
      obtain ⟨x5, x5'⟩ := cells_of_heap HX2.out 5 (by simp)
      obtain ⟨x6, x6'⟩ := cells_of_heap HX2.out 6 (by simp)
      simp only [List.getElem_toArray, List.getElem_cons_zero, List.getElem_cons_succ] at x0 x1 x2 x3 x4 x5 x6
      go_wp2_with fail
      refine (specL9Copy_any ⟨k, L, F, fx, H, o, p⟩ (.slice a1 nL c1) (.slice a2 nF c2) (.slice a3 nH c3) _ (okEn_sz HOK.out).1 (okEn_sz HOK.out).2 HS.out.fr HS.out.h (HRd.out _ HB2.out)).mono ?_
      rintro r w3 ⟨b1, d1, b2, d2, b3, d3, fp, rfl, hown, hb⟩
      rw [show (⟨k, L, F, fx, H, o, p⟩ : En).L.length = nL from HNL.out.symm, show (⟨k, L, F, fx, H, o, p⟩ : En).F.length = nF from HNF.out.symm, show (⟨k, L, F, fx, H, o, p⟩ : En).H.length = nH from HNH.out.symm] at hown ⊢
      have HB3 := Lib.hid (HB2.out.trans (hb.mono HB2.out.size))
      have HX3 := Lib.hid (blk_below HX2.out hb)
      have HR3 := Lib.hid (blk_below HR2.out hb)
      clear x0 x0' x1 x1' x2 x2' x3 x3' x4 x4' x5 x5' x6 x6'
      have HOW := Lib.hid hown
      have HS23 := Lib.hid hb.size
      clear hb hown
      go_upto_region 5 with (fail)
      obtain ⟨W4, hW4⟩ : ∃ W, W = w3.alloc (.cells #[.int .i64 k, .slice b1 nL d1, .slice b2 nF d2, .int .i64 fx, .slice b3 nH d3, .int .i64 o, .bool p] 30) := ⟨_, rfl⟩
      obtain ⟨y, hy⟩ : ∃ y, y = w3.heap.size := ⟨_, rfl⟩
      rw [← hW4, ← hy]
      have hb4 : Below w3.heap.size w3 W4 := by rw [hW4]; exact below_alloc1 _ _
      have k4 : RlW w W4 g y #[.int .i64 k, .slice a1 nL c1, .slice a2 nF c2, .int .i64 fx, .slice a3 nH c3, .int .i64 o, .bool p] #[.int .i64 k, .slice b1 nL d1, .slice b2 nF d2, .int .i64 fx, .slice b3 nH d3, .int .i64 o, .bool p] := ⟨blk_below HX3.out hb4, blk_below HR3.out hb4, by rw [hW4, hy]; exact heap_alloc_new w3 _, HB3.out.trans (hb4.mono HB3.out.size), HG.out, by rw [hy]; exact (Array.getElem?_eq_some_iff.mp HR3.out).1⟩
      have HOW4 := Lib.hid (HOW.out.below hb4)
      have HS34 := Lib.hid (Nat.le_trans HS23.out hb4.size)
      have HYF := Lib.hid (show ∀ b ∈ fp, b < y from fun b hb => by rw [hy]; exact (HOW.out.rng b hb).2)
      have HRF := Lib.hid (show ∀ b ∈ fp, g + 1 < b from fun b hb => Nat.lt_of_lt_of_le (Array.getElem?_eq_some_iff.mp HR2.out).1 (HOW.out.rng b hb).1)
      have K4 := Lib.hid k4
      clear hW4 hy hb4 k4 HOW HX3 HR3
      obtain ⟨o4, o4'⟩ := cells_of_heap K4.out.ho 4 (by simp)
      simp only [List.getElem_toArray, List.getElem_cons_zero, List.getElem_cons_succ] at o4
      obtain ⟨f3, hf3, hf3s⟩ := HOW4.out.heldOf
      have HF3 := Lib.hid hf3
      clear hf3 hf3s
      go_wp2_with fail
      refine (specWithout_n w2.heap.size nH i b3 d3 H _ HNH.out (by rw [← HNH.out]; exact HIL.out) HS.out.h (by have := HF3.out.1; rw [show (⟨k, L, F, fx, H, o, p⟩ : En).H.length = nH from HNH.out.symm] at this; exact this)).mono ?_
      rintro r w5 ⟨a4, c4, rfl, ho5, hb5⟩
      have K5 := Lib.hid (K4.out.below hb5)
      have HOW5 := Lib.hid (HOW4.out.below hb5)
      have HO5 := Lib.hid ho5
      have HS5 := Lib.hid (show ∀ b ∈ ownFp (.slice a4 (H.eraseIdx i).length c4), y < b ∧ b < w5.heap.size from fun b hb => ⟨Nat.lt_of_lt_of_le K4.out.lt (ownFp_rng ho5 b hb).1, (ownFp_rng ho5 b hb).2⟩)
      clear o4 o4'
      clear ho5 hb5
      obtain ⟨H', hH'⟩ : ∃ l, l = H.eraseIdx i := ⟨_, rfl⟩
      rw [← hH'] at HO5 HS5 ⊢
      obtain ⟨n4, hn4⟩ : ∃ n, n = H'.length := ⟨_, rfl⟩
      rw [← hn4] at HO5 HS5 ⊢
      have HH' := Lib.hid hH'
      have HN4 := Lib.hid hn4
      have hn4l : n4 ≤ 1048576 := by rw [hn4, hH']; have := List.length_eraseIdx_le H i; have h2 : H.length ≤ 1048576 := HS.out.h; omega
      clear hH' hn4
      obtain ⟨o4, o4'⟩ := cells_of_heap K5.out.ho 4 (by simp)
      simp only [List.getElem_toArray, List.getElem_cons_zero, List.getElem_cons_succ] at o4
      go_upto_region 6 with (fail)
      obtain ⟨W6, hW6⟩ : ∃ W, W = w5.setCell ⟨y, 4, none⟩ (.slice a4 n4 c4) := ⟨_, rfl⟩
      rw [← hW6]
      have k6 : RlW w W6 g y #[.int .i64 k, .slice a1 nL c1, .slice a2 nF c2, .int .i64 fx, .slice a3 nH c3, .int .i64 o, .bool p] #[.int .i64 k, .slice b1 nL d1, .slice b2 nF d2, .int .i64 fx, .slice a4 n4 c4, .int .i64 o, .bool p] := by rw [hW6]; exact K5.out.set 4 _
      have ht6 : Turn w5 W6 [y] := by rw [hW6]; exact (Turn.refl _ _).setCell 4 _
      have ho6 := HOW5.out.turn ht6 (fun b hb hm => by rw [List.mem_singleton] at hm; have := HYF.out b hb; omega)
      have hf6 : OwF w5 W4.heap.size 43 5 (.slice a4 n4 c4) H'.length (flatHd H') (ownFp (.slice a4 n4 c4)) := by rw [← HN4.out]; exact ⟨HO5.out, rfl⟩
      have hf6' := hf6.turn ht6 (fun b hb hm => by rw [List.mem_singleton] at hm; have := (HS5.out b hb).1; omega)
      obtain ⟨fp', hE6, hfp'⟩ := OwE.heldNew ho6 (owF_base hf6' HS34.out) (fun b hb hm => by have := (HS5.out b hb).1; have := HYF.out b hm; omega)
      have HE6 := Lib.hid hE6
      have hyg := K4.out.hy
      have HNG := Lib.hid (show g + 1 ∉ fp' from fun hm => by
        rcases hfp' _ hm with h | h
        · have := HRF.out _ h; omega
        · have := (HS5.out _ h).1; omega)
      have HFL := Lib.hid (show ∀ b ∈ fp', b < W6.heap.size from fun b hb => (hE6.rng b hb).2)
      have K6 := Lib.hid k6
      have HBS := Lib.hid (show w.heap.size ≤ w2.heap.size from HB2.out.size)
      clear hW6 k6 ht6 ho6 hf6 hf6' hE6 hfp' o4 o4' HOW5 HO5 K5 HOW4 K4 HS5 HYF HRF HF3 HS34 HS23 hyg HX2 HR2 HX0 HR0 HX1 HR1 HB1
      obtain ⟨m0, hm0⟩ : ∃ m : Int, m = (rofM H : Nat) := ⟨_, rfl⟩
      obtain ⟨z0, hz0⟩ : ∃ z, z = rofK H := ⟨_, rfl⟩
      obtain ⟨m1, hm1⟩ : ∃ m : Int, m = (rofM H' : Nat) := ⟨_, rfl⟩
      obtain ⟨z1, hz1⟩ : ∃ z, z = rofK H' := ⟨_, rfl⟩
      obtain ⟨rs, hrs⟩ : ∃ l, l = chgV (m0, z0) [(m1, z1)] := ⟨_, rfl⟩
      have HTL := Lib.hid (show t = ⟨⟨k, L, F, fx, H', o, p⟩, rs, true⟩ by
        rw [HT2.out, relR, relE]
        show (⟨⟨k, L, F, fx, H.eraseIdx (haH H key), o, p⟩, chgV (repV H) [repV (H.eraseIdx (haH H key))], true⟩ : Tpr) = _
        rw [← HI.out, ← HH'.out, hrs, hm0, hz0, hm1, hz1]; rfl)
      have H0 := Lib.hid (show ((rofM H : Nat) : Int) = m0 ∧ rofK H = z0 from ⟨hm0.symm, hz0.symm⟩)
      have H1 := Lib.hid (show ((rofM H' : Nat) : Int) = m1 ∧ rofK H' = z1 from ⟨hm1.symm, hz1.symm⟩)
      have Hrs := Lib.hid hrs
      have HL0 := Lib.hid (show z0.length ≤ 1048576 by rw [hz0]; have := rofK_len H; omega)
      have HL1 := Lib.hid (show z1.length ≤ 1048576 by rw [hz1]; have := rofK_len H'; omega)
      have hHm : H.length ≤ maxLen := by have : H.length ≤ 1048576 := HS.out.h; unfold maxLen; omega
      have hHm' : H'.length ≤ maxLen := by rw [← HN4.out]; unfold maxLen; omega
      have X0 := Lib.hid (Below.refl W6.heap.size W6)
      clear hm0 hz0 hm1 hz1 hrs HT2 HI HIL
      obtain ⟨x4, x4'⟩ := cells_of_heap K6.out.hx 4 (by simp)
      simp only [List.getElem_toArray, List.getElem_cons_zero, List.getElem_cons_succ] at x4
      obtain ⟨o0, o0'⟩ := cells_of_heap K6.out.ho 0 (by simp)
      obtain ⟨o1, o1'⟩ := cells_of_heap K6.out.ho 1 (by simp)
      obtain ⟨o2, o2'⟩ := cells_of_heap K6.out.ho 2 (by simp)
      obtain ⟨o3, o3'⟩ := cells_of_heap K6.out.ho 3 (by simp)
      obtain ⟨o4, o4'⟩ := cells_of_heap K6.out.ho 4 (by simp)
      obtain ⟨o5, o5'⟩ := cells_of_heap K6.out.ho 5 (by simp)
      obtain ⟨o6, o6'⟩ := cells_of_heap K6.out.ho 6 (by simp)
      simp only [List.getElem_toArray, List.getElem_cons_zero, List.getElem_cons_succ] at o0 o1 o2 o3 o4 o5 o6
      go_region_law (first
        | (go_simp; go_at_call 68; have z9 := X0; clear z9; refine (specReportOf_any (.slice a3 nH c3) H _ hHm (HRd.out _ (K6.out.hb.trans (Below.mono (by first | exact X0.out | exact X0.out.drew | exact X0.out.drew.drew | exact X0.out.alloc X0.out.size _ | exact (X0.out.alloc X0.out.size _).drew) K6.out.hb.size))).held).mono ?_; rw [H0.out.1, H0.out.2]; rintro e v1 ⟨ua, rfl, hu, hb⟩; obtain ⟨pa, qa, rfl⟩ := owns_shape hu; have hbr : Below W6.heap.size W6 v1 := below_via (by first | exact X0.out | exact X0.out.drew | exact X0.out.drew.drew | exact X0.out.alloc X0.out.size _ | exact (X0.out.alloc X0.out.size _).drew) hb; have KA := K6.out.below hbr; obtain ⟨e0, -⟩ := cells_of_heap KA.ho 0 (by simp); obtain ⟨e1, -⟩ := cells_of_heap KA.ho 1 (by simp); obtain ⟨e2, -⟩ := cells_of_heap KA.ho 2 (by simp); obtain ⟨e3, -⟩ := cells_of_heap KA.ho 3 (by simp); obtain ⟨e4, -⟩ := cells_of_heap KA.ho 4 (by simp); obtain ⟨e5, -⟩ := cells_of_heap KA.ho 5 (by simp); obtain ⟨e6, -⟩ := cells_of_heap KA.ho 6 (by simp); simp only [List.getElem_toArray, List.getElem_cons_zero, List.getElem_cons_succ] at e0 e1 e2 e3 e4 e5 e6; clear KA; have HU1 := Lib.hid (Rd.of_owns hu); have X1 := Lib.hid hbr; clear hbr hb hu X0)
        | (go_simp; go_at_call 68; have z9 := X1; clear z9; refine (specReportOf_any (.slice a4 n4 c4) H' _ hHm' ((HE6.out.rd.below (by first | exact X1.out | exact X1.out.drew | exact X1.out.drew.drew | exact X1.out.alloc X1.out.size _ | exact (X1.out.alloc X1.out.size _).drew)).held)).mono ?_; rw [H1.out.1, H1.out.2]; rintro e v2 ⟨ub, rfl, hu, hb⟩; obtain ⟨pb, qb, rfl⟩ := owns_shape hu; have hbr : Below W6.heap.size W6 v2 := below_via (by first | exact X1.out | exact X1.out.drew | exact X1.out.drew.drew | exact X1.out.alloc X1.out.size _ | exact (X1.out.alloc X1.out.size _).drew) hb; have HU2 := Lib.hid (Rd.of_owns hu); have HU12 := Lib.hid (HU1.out.below (below_via (by first | exact (Below.refl _ _) | exact (Below.refl _ _).drew | exact (Below.refl _ _).drew.drew | exact (Below.refl _ _).alloc (Below.refl _ _).size _ | exact ((Below.refl _ _).alloc (Below.refl _ _).size _).drew) hb)); have KA := K6.out.below hbr; obtain ⟨f0, -⟩ := cells_of_heap KA.ho 0 (by simp); obtain ⟨f1, -⟩ := cells_of_heap KA.ho 1 (by simp); obtain ⟨f2, -⟩ := cells_of_heap KA.ho 2 (by simp); obtain ⟨f3, -⟩ := cells_of_heap KA.ho 3 (by simp); obtain ⟨f4, -⟩ := cells_of_heap KA.ho 4 (by simp); obtain ⟨f5, -⟩ := cells_of_heap KA.ho 5 (by simp); obtain ⟨f6, -⟩ := cells_of_heap KA.ho 6 (by simp); simp only [List.getElem_toArray, List.getElem_cons_zero, List.getElem_cons_succ] at f0 f1 f2 f3 f4 f5 f6; clear KA; have hbra := hbr.alloc hbr.size (.cells #[.int .i64 m1, .slice pb z1.length qb] 47); have KA := K6.out.below hbra; obtain ⟨h0, -⟩ := cells_of_heap KA.ho 0 (by simp); obtain ⟨h1, -⟩ := cells_of_heap KA.ho 1 (by simp); obtain ⟨h2, -⟩ := cells_of_heap KA.ho 2 (by simp); obtain ⟨h3, -⟩ := cells_of_heap KA.ho 3 (by simp); obtain ⟨h4, -⟩ := cells_of_heap KA.ho 4 (by simp); obtain ⟨h5, -⟩ := cells_of_heap KA.ho 5 (by simp); obtain ⟨h6, -⟩ := cells_of_heap KA.ho 6 (by simp); simp only [List.getElem_toArray, List.getElem_cons_zero, List.getElem_cons_succ] at h0 h1 h2 h3 h4 h5 h6; clear KA; clear hbra; have X2 := Lib.hid hbr; clear hbr hb hu X1)
        | (go_simp; go_at_call 69; have z9 := X2; clear z9; refine (specL9Changes_any m0 z0 pa qa (.slice (some ⟨v2.heap.size, 0, none⟩) 1 1) [(m1, z1)] _ (by simp) (by intro r hr; rw [List.mem_singleton] at hr; subst hr; exact HL1.out) HL0.out (HU12.out.below (below_alloc1 _ _)) (rdQ_one HU2.out)).mono ?_; rw [← Hrs.out]; rintro e v4 ⟨a5, c5, fq, rfl, hq, hb⟩; have hbr : Below W6.heap.size W6 v4 := (X2.out.alloc X2.out.size (.cells #[.int .i64 m1, .slice pb z1.length qb] 47)).trans (hb.mono (by simp; exact Nat.le_succ_of_le X2.out.size)); have HQ := Lib.hid hq; have X4 := Lib.hid hbr; have KA := K6.out.below hbr; obtain ⟨l0, -⟩ := cells_of_heap KA.ho 0 (by simp); obtain ⟨l1, -⟩ := cells_of_heap KA.ho 1 (by simp); obtain ⟨l2, -⟩ := cells_of_heap KA.ho 2 (by simp); obtain ⟨l3, -⟩ := cells_of_heap KA.ho 3 (by simp); obtain ⟨l4, -⟩ := cells_of_heap KA.ho 4 (by simp); obtain ⟨l5, -⟩ := cells_of_heap KA.ho 5 (by simp); obtain ⟨l6, -⟩ := cells_of_heap KA.ho 6 (by simp); simp only [List.getElem_toArray, List.getElem_cons_zero, List.getElem_cons_succ] at l0 l1 l2 l3 l4 l5 l6; clear KA; have KR := Lib.hid (blk_below K6.out.hr hbr); obtain ⟨r0, r0'⟩ := cells_of_heap KR.out 0 (by simp); obtain ⟨r1, r1'⟩ := cells_of_heap KR.out 1 (by simp); obtain ⟨r2, r2'⟩ := cells_of_heap KR.out 2 (by simp); obtain ⟨r3, r3'⟩ := cells_of_heap KR.out 3 (by simp); obtain ⟨r4, r4'⟩ := cells_of_heap KR.out 4 (by simp); obtain ⟨r5, r5'⟩ := cells_of_heap KR.out 5 (by simp); obtain ⟨r6, r6'⟩ := cells_of_heap KR.out 6 (by simp); clear hq hbr hb))
      all_goals
        have hle4 : w.heap.size ≤ W6.heap.size := K6.out.hb.size
        have hqr := HQ.out.rng
        have hE4 := HE6.out.below X4.out
        have hng2 : g + 1 ∉ fq := fun hm => by have := (hqr _ hm).1; have := K6.out.lt; have := K6.out.hy; have : W6.heap.size ≤ v2.heap.size := X2.out.size; simp at *; omega
        have HQ4 := Lib.hid (HQ.out.low.base (B := w.heap.size) (by simp; exact Nat.le_succ_of_le (Nat.le_trans hle4 X2.out.size)))
        have HE4 := Lib.hid (hE4.base HBS.out)
        have HDJ := Lib.hid (show ∀ b ∈ fp', b ∉ fq from fun b hb hm => by have := HFL.out b hb; have := (hqr b hm).1; have : W6.heap.size ≤ v2.heap.size := X2.out.size; simp at *; omega)
        have HBF := Lib.hid (K6.out.hb.trans (X4.out.mono hle4))
        have HG2 := Lib.hid hng2
        clear hqr hE4 hng2 hle4
        go_wp2
        clear r0 r1 r2 r3 r4 r5 r6 r0' r1' r2' r3' r4' r5' r6' e0 e1 e2 e3 e4 e5 e6 f0 f1 f2 f3 f4 f5 f6 h0 h1 h2 h3 h4 h5 h6 l0 l1 l2 l3 l4 l5 l6
        have hz4 := HQ4.out.putAt (y := g + 1) [.int .i64 k, .slice b1 nL d1, .slice b2 nF d2, .int .i64 fx, .slice a4 n4 c4, .int .i64 o, .bool p] HG2.out 0
        obtain ⟨wf, hwf⟩ : ∃ x, x = putW (v4) (g + 1) 0 [.int .i64 k, .slice b1 nL d1, .slice b2 nF d2, .int .i64 fx, .slice a4 n4 c4, .int .i64 o, .bool p] := ⟨_, rfl⟩
        have kf := putW_all [.int .i64 k, .slice b1 nL d1, .slice b2 nF d2, .int .i64 fx, .slice a4 n4 c4, .int .i64 o, .bool p] KR.out rfl
        have bf := putW_below (b := g + 1) (by first | omega | simp) [.int .i64 k, .slice b1 nL d1, .slice b2 nF d2, .int .i64 fx, .slice a4 n4 c4, .int .i64 o, .bool p] 0 _ HBF.out
        have of := (show OwE (putW v4 (g + 1) 0 [.int .i64 k, .slice b1 nL d1, .slice b2 nF d2, .int .i64 fx, .slice a4 n4 c4, .int .i64 o, .bool p]) w.heap.size ⟨k, L, F, fx, H', o, p⟩ (.slice b1 nL d1) (.slice b2 nF d2) (.slice a4 n4 c4) fp' ∧ OwZ rpF (putW v4 (g + 1) 0 [.int .i64 k, .slice b1 nL d1, .slice b2 nF d2, .int .i64 fx, .slice a4 n4 c4, .int .i64 o, .bool p]) w.heap.size 1 (.slice a5 rs.length c5) rs fq from ⟨HE4.out.putAt (y := g + 1) [.int .i64 k, .slice b1 nL d1, .slice b2 nF d2, .int .i64 fx, .slice a4 n4 c4, .int .i64 o, .bool p] HNG.out 0, hz4⟩)
        rw [← hwf] at kf bf of
        have cf := hwf.symm
        simp only [putW, Nat.reduceAdd] at cf
        rw [cf]
        clear cf hwf
        have f0 := (cells_of_heap kf 0 (by simp)).1
        have f1 := (cells_of_heap kf 1 (by simp)).1
        have f2 := (cells_of_heap kf 2 (by simp)).1
        have f3 := (cells_of_heap kf 3 (by simp)).1
        have f4 := (cells_of_heap kf 4 (by simp)).1
        have f5 := (cells_of_heap kf 5 (by simp)).1
        have f6 := (cells_of_heap kf 6 (by simp)).1
        simp only [List.getElem_toArray, List.getElem_cons_zero, List.getElem_cons_succ] at f0 f1 f2 f3 f4 f5 f6
        refine bodyPost_ret (v := .tuple #[env k (.slice b1 nL d1) (.slice b2 nF d2) fx (.slice a4 n4 c4) o p, .slice a5 rs.length c5, .bool true]) (by simp [results, Tryz.results32, go_sem, f0, f1, f2, f3, f4, f5, f6]) rfl (by rw [HTL.out]; exact ⟨b1, d1, b2, d2, a4, c4, fp', a5, c5, fq, by rw [HNL.out, HNF.out, HN4.out], by rw [HNL.out, HNF.out, HN4.out] at of; exact of.1, of.2, HDJ.out, bf⟩)
    · have hk' : kk < 0 := by omega
      obtain rfl : t = ⟨en0, [], false⟩ := by rw [HT.out, decide_eq_false hk]; rfl
      obtain ⟨r0, r0'⟩ := cells_of_heap (blk_below HR2.out (below_alloc1 w2 (.cells #[] 47))) 0 (by simp)
      obtain ⟨r1, r1'⟩ := cells_of_heap (blk_below HR2.out (below_alloc1 w2 (.cells #[] 47))) 1 (by simp)
      obtain ⟨r2, r2'⟩ := cells_of_heap (blk_below HR2.out (below_alloc1 w2 (.cells #[] 47))) 2 (by simp)
      obtain ⟨r3, r3'⟩ := cells_of_heap (blk_below HR2.out (below_alloc1 w2 (.cells #[] 47))) 3 (by simp)
      obtain ⟨r4, r4'⟩ := cells_of_heap (blk_below HR2.out (below_alloc1 w2 (.cells #[] 47))) 4 (by simp)
      obtain ⟨r5, r5'⟩ := cells_of_heap (blk_below HR2.out (below_alloc1 w2 (.cells #[] 47))) 5 (by simp)
      obtain ⟨r6, r6'⟩ := cells_of_heap (blk_below HR2.out (below_alloc1 w2 (.cells #[] 47))) 6 (by simp)
      simp only [List.getElem_toArray, List.getElem_cons_zero, List.getElem_cons_succ] at r0 r1 r2 r3 r4 r5 r6
      go_wp2
      clear r0 r0' r1 r1' r2 r2' r3 r3' r4 r4' r5 r5' r6 r6'
      have hnz := (OwP.start (f := rpF) (k := 1) (World.ownsRow_lit (base := w2.heap.size) (e := 47) (size := 2) w2 #[] 0 (Nat.le_refl _) (by simp [maxLen]) rfl)).low
      have hgl : g + 1 < w2.heap.size := (Array.getElem?_eq_some_iff.mp HR2.out).1
      obtain ⟨wf, hwf⟩ : ∃ x, x = putW (w2.alloc (.cells #[] 47)) (g + 1) 0 [.int .i64 0, .slice none 0 0, .slice none 0 0, .int .i64 0, .slice none 0 0, .int .i64 0, .bool false] := ⟨_, rfl⟩
      have kf := putW_all [.int .i64 0, .slice none 0 0, .slice none 0 0, .int .i64 0, .slice none 0 0, .int .i64 0, .bool false] (blk_below HR2.out (below_alloc1 w2 (.cells #[] 47))) rfl
      have bf := putW_below (b := g + 1) (by first | omega | simp) [.int .i64 0, .slice none 0 0, .slice none 0 0, .int .i64 0, .slice none 0 0, .int .i64 0, .bool false] 0 _ (HB2.out.alloc HB2.out.size (.cells #[] 47))
      have of := hnz.putAt (y := g + 1) [.int .i64 0, .slice none 0 0, .slice none 0 0, .int .i64 0, .slice none 0 0, .int .i64 0, .bool false] (fun hm => by have := (hnz.rng _ hm).1; omega) 0
      rw [← hwf] at kf bf of
      have cf := hwf.symm
      simp only [putW, Nat.reduceAdd] at cf
      rw [cf]
      clear cf hwf
      have f0 := (cells_of_heap kf 0 (by simp)).1
      have f1 := (cells_of_heap kf 1 (by simp)).1
      have f2 := (cells_of_heap kf 2 (by simp)).1
      have f3 := (cells_of_heap kf 3 (by simp)).1
      have f4 := (cells_of_heap kf 4 (by simp)).1
      have f5 := (cells_of_heap kf 5 (by simp)).1
      have f6 := (cells_of_heap kf 6 (by simp)).1
      simp only [List.getElem_toArray, List.getElem_cons_zero, List.getElem_cons_succ] at f0 f1 f2 f3 f4 f5 f6
      refine bodyPost_ret (v := .tuple #[env 0 (.slice none 0 0) (.slice none 0 0) 0 (.slice none 0 0) 0 false, .slice (some ⟨w2.heap.size, 0, none⟩) 0 0, .bool false]) (by simp [results, Tryz.results32, go_sem, f0, f1, f2, f3, f4, f5, f6]) rfl ⟨none, 0, none, 0, none, 0, _, _, _, _, rfl, OwE.zero _ _, of.base HB2.out.size, (fun _ h => by cases h), bf⟩

end Go.Proofs.YtbpopgplpipfeaaGreat
