/- DERIVED. The reference's ReportOf: the report of held keys. · The reference's ReadBits: the report whose bits are bytes. · The reference's BitBytes: a report's bits. -/
import Derived.Test.YtjfckchoklepbaaGreatRpSpec
import Derived.Test.YtjfckchoklepbaaGreatHdSpec
import Derived.Test.YtjfckchoklepbaaGreatRp
import Derived.Deep.AppendLies
import Derived.BigRegion
namespace Go.Proofs.YtjfckchoklepbaaGreat
open Go.RowKit

/-- What a walk knows of one held key. -/
theorem hd_at {w : World} {ua : Option Addr} {m uc : Nat} {l : List Hd} (h : RdN w (.slice ua m uc) l.length (flatHd l)) {k : Nat} (hk : k < l.length) : ∃ b off, ua = some ⟨b, off, none⟩ ∧ b < w.heap.size ∧
    w.cell? ⟨b, off + k * 5, none⟩ = some (.int .i64 (hdD l k).h) ∧ w.cell? ⟨b, off + k * 5 + 1, none⟩ = some (.int .i64 (hdD l k).k) ∧ w.cell? ⟨b, off + k * 5 + 2, none⟩ = some (.int .i64 (hdD l k).c) ∧ w.cell? ⟨b, off + k * 5 + 3, none⟩ = some (.int .i64 (hdD l k).m) ∧ w.cell? ⟨b, off + k * 5 + 4, none⟩ = some (.int .i64 (hdD l k).n) := by
  rcases rd_hds (l := l) h with ⟨rfl, _⟩ | ⟨b, off, cap, _, hs, hlt, hc⟩
  · simp at hk
  · obtain ⟨rfl, rfl, rfl⟩ := by simpa using hs
    exact ⟨b, off, rfl, hlt, hc k hk⟩
theorem owns_putAt {w : World} {B c n y : Nat} {e : TypeId} {v : Value} {xs : List Value} (h : w.ownsRow B e c v n xs) (hy : ∀ q, v.ownBlock = some q → q ≠ y) (i : Nat) (vs : List Value) : (putW w y i vs).ownsRow B e c v n xs :=
  ((OwF.mk' h).turn (Turn.of_grown (putW_grown vs i w)) (fun b hb hb' => by
    rw [List.mem_singleton] at hb'
    unfold ownFp at hb
    rcases hq : v.ownBlock with _ | q
    · rw [hq] at hb; simp at hb
    · rw [hq] at hb
      have : b = q := by simpa using hb
      exact hy q hq (by omega))).1
theorem owns_keep {w w' : World} {B c n : Nat} {e : TypeId} {v : Value} {xs : List Value} (h : w.ownsRow B e c v n xs) (hk : ∀ q, v.ownBlock = some q → w'.heap[q]? = w.heap[q]?) : w'.ownsRow B e c v n xs := by
  obtain ⟨h1, h2⟩ := h
  refine ⟨h1, ?_⟩
  rcases h2 with h2 | ⟨g, cap, cur, rfl, hg, hh, r⟩
  · exact .inl h2
  · exact .inr ⟨g, cap, cur, rfl, hg, by rw [hk g rfl]; exact hh, r⟩
/-- What a function returns that makes a report. -/
def RpV (r : Int) (zs : List Int) (w : World) (e : Ending) (w' : World) : Prop := ∃ u, e = .returned (rpv r u) ∧ w'.ownsRow w.heap.size 3 1 u zs.length (zs.map (.int .i64)) ∧ Below w.heap.size w w'

set_option maxRecDepth 100000 in
set_option maxHeartbeats 8000000 in
theorem specReportOf_any (v : Value) (l : List Hd) (w : World) (hn : l.length ≤ maxLen) (h : RdN w v l.length (flatHd l)) :
    Calls Tryz.prog 107 #[v] w (RpV (rofM l : Nat) (rofK l) w) := by
  obtain ⟨i0, hi, hz0, hz1, hz2⟩ := info_parts info_int
  obtain ⟨R, hR⟩ : ∃ R, R = okHd l := ⟨_, rfl⟩
  obtain ⟨rm, hrm⟩ : ∃ x, x = rofM l := ⟨_, rfl⟩
  obtain ⟨rk, hrk⟩ : ∃ x, x = rofK l := ⟨_, rfl⟩
  rw [← hrm, ← hrk]
  have HRm := Lib.hid hrm
  have HRk := Lib.hid hrk
  clear hrm hrk
  obtain ⟨xa, xc, rfl⟩ := RdN.shape h
  obtain ⟨n, hnl⟩ : ∃ n, n = l.length := ⟨_, rfl⟩
  have HNL := Lib.hid hnl
  have HR := Lib.hid hR
  have H := Lib.hid h
  have HN := Lib.hid hn
  have hnr : n ≤ maxLen := by rw [hnl]; exact hn
  unfold maxLen at hnr
  rw [← hnl]
  clear hR h hn hnl
  obtain ⟨gw, hgw⟩ : ∃ g, g = w.heap.size := ⟨_, rfl⟩
  obtain ⟨U, hU⟩ : ∃ U, U = ((w.alloc (.cells #[.int .i64 0, .slice none 0 0] 47)).alloc (.cells #[] 3)).alloc (.cells #[.int .i64 0, .slice (some ⟨gw + 1, 0, none⟩) 0 0] 47) := ⟨_, rfl⟩
  have HGm := Lib.hid (show U.heap[gw + 1 + 1]? = some (.cells #[.int .i64 0, .slice (some ⟨gw + 1, 0, none⟩) 0 0] 47 (0, 0)) by rw [hU, hgw]; simpa using heap_alloc_new ((w.alloc (.cells #[.int .i64 0, .slice none 0 0] 47)).alloc (.cells #[] 3)) _)
  have HGw := Lib.hid (show U.heap[gw]? = some (.cells #[.int .i64 0, .slice none 0 0] 47 (0, 0)) by
    rw [hU, hgw, Below.heap_alloc _ _ _ (by simp; omega), Below.heap_alloc _ _ _ (by simp)]; exact heap_alloc_new w _)
  have HB0 := Lib.hid (show Below w.heap.size w U by rw [hU]; exact (((Below.refl _ _).alloc (Nat.le_refl _) _).alloc (by simp) _).alloc (by simp; omega) _)
  have HSZ := Lib.hid (show U.heap.size = gw + 1 + 1 + 1 by rw [hU, hgw]; simp)
  have HOw := Lib.hid (show U.ownsRow (gw + 1) 3 1 (.slice (some ⟨gw + 1, 0, none⟩) 0 0) 0 (([] : List Int).map (.int .i64)) by
    rw [hU, hgw]
    have := World.ownsRow_lit (e := 3) (size := 1) (base := w.heap.size + 1) (w.alloc (.cells #[.int .i64 0, .slice none 0 0] 47)) #[] 0 (by simp) (by simp [maxLen]) rfl
    simp only [World.size_alloc] at this
    exact this.alloc _)
  have HU := Lib.hid hU
  have HGW := Lib.hid hgw
  have hgw1 : w.heap.size + 1 = gw + 1 := by rw [hgw]
  have hgw2 : w.heap.size + 1 + 1 = gw + 1 + 1 := by rw [hgw]
  clear hU
  go_enter Tryz.func107, Tryz.ntmps107
  go_upto_region 2 with (fail)
  rw [← HU.out, ← hgw]
  have hle : w.heap.size ≤ gw := by rw [hgw]; exact Nat.le_refl _
  clear hgw hgw1 hgw2
  go_wp2_with fail
  refine (specIsHeld_q _ l R HR.out _ HN.out (by rw [HNL.out]; have := H.out.below HB0.out; rw [← HNL.out] at this ⊢; exact this)).mono ?_
  rintro e w1 ⟨rfl, hb⟩
  have HB1 := Lib.hid (HB0.out.trans (hb.mono HB0.out.size))
  have HGm1 := Lib.hid ((hb.block (gw + 1 + 1) (by rw [HSZ.out]; omega)).trans HGm.out)
  have HGw1 := Lib.hid ((hb.block gw (by rw [HSZ.out]; omega)).trans HGw.out)
  have HOw1 := Lib.hid (owns_below HOw.out hb)
  clear hb
  obtain ⟨y0, q0⟩ := cells_of_heap HGw1.out 0 (by simp)
  obtain ⟨y1, q1⟩ := cells_of_heap HGw1.out 1 (by simp)
  have m0 := (cells_of_heap HGm1.out 0 (by simp)).1
  have m1 := (cells_of_heap HGm1.out 1 (by simp)).1
  cases R
  · obtain rfl : rm = 0 := by rw [HRm.out, rofM, ← HR.out]; rfl
    obtain rfl : rk = [] := by rw [HRk.out, rofK, ← HR.out]; rfl
    go_wp2
    clear m0 m1 y0 q0 y1 q1
    obtain ⟨wf, hwf⟩ : ∃ x, x = putW (w1) (gw) 0 [.int .i64 0, .slice (some ⟨gw + 1, 0, none⟩) 0 0] := ⟨_, rfl⟩
    have kf := putW_all [.int .i64 0, .slice (some ⟨gw + 1, 0, none⟩) 0 0] HGw1.out rfl
    have bf := putW_below (b := gw) (by first | omega | simp) [.int .i64 0, .slice (some ⟨gw + 1, 0, none⟩) 0 0] 0 _ HB1.out
    have of := owns_putAt HOw1.out (y := gw) (fun q hq => by have h1 : some (gw + 1) = some q := hq; have := Option.some.inj h1; omega) 0 [.int .i64 0, .slice (some ⟨gw + 1, 0, none⟩) 0 0]
    rw [← hwf] at kf bf of
    have cf := hwf.symm
    simp only [putW, Nat.reduceAdd] at cf
    rw [cf]
    clear cf hwf
    have f0 := (cells_of_heap kf 0 (by simp)).1
    have f1 := (cells_of_heap kf 1 (by simp)).1
    simp only [List.getElem_toArray, List.getElem_cons_zero, List.getElem_cons_succ] at f0 f1
    refine bodyPost_ret (v := rpv 0 (.slice (some ⟨gw + 1, 0, none⟩) 0 0)) (by simp [results, Tryz.results107, go_sem, f0, f1]) rfl ⟨_, rfl, by rw [← HGW.out]; exact owns_base of (Nat.le_succ _), bf⟩
  · have HM := Lib.hid (show rm = mdOf l n by rw [HRm.out, rofM, ← HR.out, HNL.out]; rfl)
    have HK := Lib.hid (show rk = codesN l 56 by rw [HRk.out, rofK, ← HR.out]; rfl)
    have hok : okHd l = true := HR.out.symm
    have HOk := Lib.hid hok
    clear hok m0 m1
    go_wp2
    clear y0 q0 y1 q1
    go_loopw [4] (fun i wr => ∃ j : Nat, j ≤ n ∧ i = .int .i64 j ∧ wr.heap[gw + 1 + 1]? = some (.cells #[.int .i64 (mdOf l j : Nat), .slice (some ⟨gw + 1, 0, none⟩) 0 0] 47 (0, 0)) ∧ Below (gw + 1 + 1) w1 wr) (fun i _ => n - (intOf i).toNat)
    case atStart => exact ⟨0, Nat.zero_le _, rfl, HGm1.out, Below.refl _ _⟩
    case round =>
      obtain ⟨j, hj, rfl, hgm, hb⟩ := hrel
      have hbw : Below w.heap.size w wr := HB1.out.trans (hb.mono (by omega))
      have HGm2 := Lib.hid hgm
      have HB2 := Lib.hid hb
      have HBW := Lib.hid hbw
      by_cases hlt' : j < n
      · obtain ⟨b, off, rfl, hlt, c0, c1, c2, c3, c4⟩ := hd_at H.out (k := j) (by rw [← HNL.out]; exact hlt')
        have f1 := (hbw.cell (p := ⟨b, off + j * 5 + 1, none⟩) hlt).trans c1
        have f3 := (hbw.cell (p := ⟨b, off + j * 5 + 3, none⟩) hlt).trans c3
        have hjl : j < l.length := by rw [← HNL.out]; exact hlt'
        have hmods := okOne_mods (hdN_at HOk.out j hjl).1
        have hlo := mdOf_lt HOk.out j (by omega)
        have hnx : mdOf l (j + 1) = if (hdD l j).k = 2 ∨ (hdD l j).k = 8 then mdOf l j ||| (hdD l j).m.toNat else mdOf l j := rfl
        obtain ⟨kk, hkk⟩ : ∃ x, x = (hdD l j).k := ⟨_, rfl⟩
        obtain ⟨mm, hmm⟩ : ∃ x, x = (hdD l j).m := ⟨_, rfl⟩
        rw [← hkk] at f1 hnx
        rw [← hmm] at f3 hnx hmods
        obtain ⟨M, rfl⟩ : ∃ M : Nat, mm = M := ⟨mm.toNat, by omega⟩
        rw [Int.toNat_natCast] at hnx
        obtain ⟨q, hq⟩ : ∃ q, q = mdOf l j := ⟨_, rfl⟩
        rw [← hq] at hlo hnx hgm
        have HQ := Lib.hid hq
        have HNX := Lib.hid hnx
        have hM15 : M ≤ 15 := by omega
        clear c0 c1 c2 c3 c4 hkk hmm hmods hjl hnx hb hbw hq
        obtain ⟨m0, p0⟩ := cells_of_heap hgm 0 (by simp)
        by_cases hk : kk = 2 ∨ kk = 8
        · have hor := or_nat q M (by omega) (by omega)
          have hnx := HNX.out
          rw [if_pos hk] at hnx
          have HQ2 := Lib.hid hnx
          have HOR := Lib.hid hor
          clear hor hnx
          have HGm3 := Lib.hid hgm
          clear hgm
          rcases hk with rfl | rfl
          all_goals
            go_upto_region 8 with (fail)
            go_region
            all_goals
              go_wp2
              go_roundw
              case rel => exact ⟨j + 1, by omega, by go_num, by rw [HQ2.out, ← HOR.out]; exact heap_setCell_same wr (gw + 1 + 1) 0 _ _ _ HGm3.out, (HB2.out.setCell (Nat.le_refl _) _).drew⟩
              case measure => simp [intOf]; omega
        · have hnx := HNX.out
          rw [if_neg hk] at hnx
          have hk2 : ¬ kk = 2 := fun e => hk (.inl e)
          have hk8 : ¬ kk = 8 := fun e => hk (.inr e)
          have b2 : (kk == 2) = false := by simp [hk2]
          have b8 : (kk == 8) = false := by simp [hk8]
          have HQ2 := Lib.hid (hnx.trans HQ.out)
          clear hnx hk hgm m0 p0
          go_wp2
          go_roundw
          case rel => exact ⟨j + 1, by omega, by go_num, by rw [HQ2.out]; exact HGm2.out, HB2.out⟩
          case measure => simp [intOf]; omega
      · obtain rfl : j = n := by omega
        obtain ⟨W1, hW1⟩ : ∃ x, x = wr := ⟨_, rfl⟩
        subst hW1
        have HGw2 := Lib.hid ((HB2.out.block gw (by omega)).trans HGw1.out)
        have HOw2 := Lib.hid (owns_keep HOw1.out (w' := W1) (fun q hq => by have h1 : some (gw + 1) = some q := hq; have h2 := Option.some.inj h1; rw [← h2]; exact HB2.out.block (gw + 1) (by omega)))
        obtain ⟨gm, hgm2⟩ : ∃ g, g = gw + 1 + 1 := ⟨_, rfl⟩
        rw [← hgm2] at hgm ⊢
        obtain ⟨M, hMv⟩ : ∃ M, M = mdOf l j := ⟨_, rfl⟩
        rw [← hMv] at hgm
        have HM2 := Lib.hid (show rm = M by rw [HM.out, hMv])
        have HGmW := Lib.hid hgm
        have hgmw : gw < gm := by omega
        have hgmw1 : ¬ gw + 1 = gm := by omega
        clear hb hbw hgm hMv hgm2
        go_wp2
        go_loopw [5, 6] (fun c _ wr => ∃ (k ga cap : Nat), k ≤ 56 ∧ c = .int .i64 ((k : Int) + 1) ∧ wr.heap[gm]? = some (.cells #[.int .i64 (M : Nat), .slice (some ⟨ga, 0, none⟩) (codesN l k).length cap] 47 (0, 0)) ∧ wr.ownsRow (gw + 1) 3 1 (.slice (some ⟨ga, 0, none⟩) (codesN l k).length cap) (codesN l k).length ((codesN l k).map (.int .i64)) ∧ ¬ ga = gm ∧ wr.heap[gw]? = some (.cells #[.int .i64 0, .slice none 0 0] 47 (0, 0)) ∧ Below w.heap.size w wr) (fun c _ _ => 57 - (intOf c).toNat)
        case atStart => exact ⟨0, gw + 1, 0, Nat.zero_le _, rfl, HGmW.out, HOw2.out, hgmw1, HGw2.out, HBW.out⟩
        case round =>
          obtain ⟨k, ga, cap, hk, rfl, hgm, ho, hga, hgw, hb⟩ := hrel
          obtain ⟨W2, hW2⟩ : ∃ x, x = wr := ⟨_, rfl⟩
          subst hW2
          have hlk := codesN_len l k
          obtain ⟨X, hX⟩ : ∃ X, X = codesN l k := ⟨_, rfl⟩
          rw [← hX] at hgm ho hlk
          have HX := Lib.hid hX
          have HO := Lib.hid ho
          have HGa := Lib.hid hga
          have HGm5 := Lib.hid hgm
          have HGw5 := Lib.hid hgw
          have HB5 := Lib.hid hb
          have hgs : gm < W2.heap.size := (Array.getElem?_eq_some_iff.mp hgm).1
          by_cases hkl : k < 56
          · have hk56 : (k : Int) + 1 ≤ 56 := by omega
            clear hX ho hga hgm hgw hb
            go_wp2
            go_loopw [6] (fun i wr => ∃ q : Nat, q ≤ j ∧ i = .int .i64 q ∧ hasC l ((k + 1 : Nat) : Int) q = false ∧ wr = W2) (fun i _ => j - (intOf i).toNat)
            case atStart => exact ⟨0, Nat.zero_le _, rfl, rfl, rfl⟩
            case round =>
              obtain ⟨q, hq, rfl, hno, rfl⟩ := hrel
              by_cases hql : q < j
              · obtain ⟨b, off, rfl, hlt, c0, c1, c2, c3, c4⟩ := hd_at H.out (k := q) (by rw [← HNL.out]; exact hql)
                have f2 := (HB5.out.cell (p := ⟨b, off + q * 5 + 2, none⟩) hlt).trans c2
                obtain ⟨x, hx⟩ : ∃ x, x = (hdD l q).c := ⟨_, rfl⟩
                rw [← hx] at f2
                have HXx := Lib.hid hx
                have HNo := Lib.hid hno
                clear c0 c1 c2 c3 c4 hx hno
                by_cases hxk : x = (k : Int) + 1
                · have hyes : codesN l (k + 1) = X ++ [((k : Int) + 1)] := by
                    rw [codesN, if_pos (hasC_yes (by rw [← HXx.out, hxk]; simp) _ (by rw [← HNL.out]; exact hql)), ← HX.out]
                    simp
                  have HY := Lib.hid hyes
                  obtain ⟨m1, p1⟩ := cells_of_heap HGm5.out 1 (by simp)
                  have c63 : X.length + 1 ≤ maxLen := by unfold maxLen; omega
                  have c47 : (X.length + 1) * 8 ≤ 140737488355328 := by omega
                  have hsz1 : gw + 1 ≤ wr.heap.size + 1 := by omega
                  clear hyes
                  subst hxk
                  go_wp2_with (at_builtin; refine wpList_append_lies _ rfl _ _ 45 rfl (gw + 1) 3 i0 (.int .i64 0) 1 8 Tryz.underlying45 hi hz0 hz1 hz2 rfl (by decide) (.slice (some ⟨ga, 0, none⟩) X.length cap) X.length (X.map (.int .i64)) rfl (HO.out.alloc _) ⟨wr.heap.size, 0, none⟩ 1 1 [.int .i64 ((k : Int) + 1)] rfl rfl (World.news_of_block (cs := #[.int .i64 ((k : Int) + 1)]) (t := 3) (fr := (0, 0)) (heap_alloc_new wr _)) (by simp [Value.oneCell']) (by decide) c63 c47 (by simp; omega) (wr.heap.size + 1) (by simp) ?_)
                  intro g2 cap2 w4 hown2 hgrow2 hat2 hlt4
                  have hg2 : ¬ g2 = gm := by
                    rcases hat2 with h1 | h1
                    · have h2 : some ga = some g2 := h1
                      have h3 := Option.some.inj h2
                      have := HGa.out
                      omega
                    · omega
                  have hb4 : Below (gw + 1) wr w4 ∧ w4.heap[gm]? = wr.heap[gm]? := by
                    have hba : Below wr.heap.size wr (wr.alloc (.cells #[.int .i64 ((k : Int) + 1)] 3)) := (Below.refl _ _).alloc (Nat.le_refl _) _
                    refine ⟨(hba.mono (by omega)).grown hgrow2 (by simp; omega) (fun q hq => (HO.out.lt q hq).1), ?_⟩
                    have h1 := hgrow2.block gm (by simp; omega) (fun e => by have h2 : some ga = some gm := e.symm ▸ rfl; exact HGa.out (Option.some.inj h2))
                    rw [h1]
                    exact hba.block gm hgs
                  obtain ⟨hb4, hgm4⟩ := hb4
                  have hgm6 := hgm4.trans HGm5.out
                  obtain ⟨o14, p14⟩ := cells_of_heap hgm6 1 (by simp)
                  have hgm7 := heap_setCell_same w4 gm 1 _ _ (.slice (some ⟨g2, 0, none⟩) (X.length + 1) cap2) hgm6
                  have ho7 : (w4.setCell ⟨gm, 1, none⟩ (.slice (some ⟨g2, 0, none⟩) (X.length + 1) cap2)).ownsRow (gw + 1) 3 1 (.slice (some ⟨g2, 0, none⟩) (X.length + 1) cap2) (X.length + 1) ((X ++ [(k : Int) + 1]).map (.int .i64)) := by
                    refine owns_keep (w := w4) (by simpa using hown2) (fun q hq => ?_)
                    have h1 : some g2 = some q := hq
                    have h2 := Option.some.inj h1
                    rw [← h2]
                    exact heap_setCell_other w4 ⟨gm, 1, none⟩ g2 _ hg2
                  have hgw7 : (w4.setCell ⟨gm, 1, none⟩ (.slice (some ⟨g2, 0, none⟩) (X.length + 1) cap2)).heap[gw]? = some (.cells #[.int .i64 0, .slice none 0 0] 47 (0, 0)) := by
                    rw [heap_setCell_other w4 ⟨gm, 1, none⟩ gw _ (by show ¬ gw = gm; omega)]
                    exact (hb4.block gw (by omega)).trans HGw5.out
                  have hb7 : Below w.heap.size w (w4.setCell ⟨gm, 1, none⟩ (.slice (some ⟨g2, 0, none⟩) (X.length + 1) cap2)) := (HB5.out.trans (hb4.mono (by omega))).setCell (by show w.heap.size ≤ gm; omega) _
                  have HG7 := Lib.hid hgm7
                  have HO7 := Lib.hid ho7
                  have HW7 := Lib.hid hgw7
                  have HB7 := Lib.hid hb7
                  have HGG := Lib.hid hg2
                  have hlen : (X ++ [(k : Int) + 1]).length = X.length + 1 := by simp
                  have HLen := Lib.hid hlen
                  clear hb4 hgm4 hgm6 hgm7 ho7 hgw7 hb7 hg2 hown2 hgrow2 hat2 hlt4 c63 c47 hsz1 m1 p1 hlen
                  go_wp2
                  go_roundw
                  case rel => exact ⟨k + 1, g2, cap2, by omega, by go_num, by rw [HY.out, HLen.out]; simpa using HG7.out, by rw [HY.out, HLen.out]; exact HO7.out, HGG.out, HW7.out, HB7.out⟩
                  case measure => simp [intOf]; omega
                · have hno2 : hasC l ((k + 1 : Nat) : Int) (q + 1) = false := by
                    rw [hasC, HNo.out, Bool.false_or, ← HXx.out]
                    simp; omega
                  have HNo2 := Lib.hid hno2
                  have bx : (x == (k : Int) + 1) = false := by simp [hxk]
                  clear hno2
                  go_wp2
                  go_roundw
                  case rel => exact ⟨q + 1, by omega, by go_num, HNo2.out, by trivial⟩
                  case measure => simp [intOf]; omega
              · obtain rfl : q = j := by omega
                have hsame : codesN l (k + 1) = X := by
                  rw [codesN, if_neg (by rw [← HNL.out, hno]; decide), ← HX.out]
                have HY := Lib.hid hsame
                clear hno hsame
                go_wp2
                go_roundw
                case rel => exact ⟨k + 1, ga, cap, by omega, by go_num, by rw [HY.out]; exact HGm5.out, by rw [HY.out]; exact HO.out, HGa.out, HGw5.out, HB5.out⟩
                case measure => simp [intOf]; omega
          · obtain rfl : k = 56 := by omega
            obtain rfl : rk = X := by rw [HK.out, HX.out]
            obtain rfl : rm = M := HM2.out
            have m0 := (cells_of_heap hgm 0 (by simp)).1
            have m1 := (cells_of_heap hgm 1 (by simp)).1
            obtain ⟨y0, q0⟩ := cells_of_heap hgw 0 (by simp)
            obtain ⟨y1, q1⟩ := cells_of_heap hgw 1 (by simp)
            clear hX ho hga hgm hgw hb
            go_wp2
            clear m0 m1 y0 q0 y1 q1
            obtain ⟨wf, hwf⟩ : ∃ x, x = putW (W2) (gw) 0 [.int .i64 (rm : Nat), .slice (some ⟨ga, 0, none⟩) rk.length cap] := ⟨_, rfl⟩
            have kf := putW_all [.int .i64 (rm : Nat), .slice (some ⟨ga, 0, none⟩) rk.length cap] HGw5.out rfl
            have bf := putW_below (b := gw) (by first | omega | simp) [.int .i64 (rm : Nat), .slice (some ⟨ga, 0, none⟩) rk.length cap] 0 _ HB5.out
            have of := owns_putAt HO.out (y := gw) (fun q hq => by have := (HO.out.lt q hq).1; omega) 0 [.int .i64 (rm : Nat), .slice (some ⟨ga, 0, none⟩) rk.length cap]
            rw [← hwf] at kf bf of
            have cf := hwf.symm
            simp only [putW, Nat.reduceAdd] at cf
            rw [cf]
            clear cf hwf
            have f0 := (cells_of_heap kf 0 (by simp)).1
            have f1 := (cells_of_heap kf 1 (by simp)).1
            simp only [List.getElem_toArray, List.getElem_cons_zero, List.getElem_cons_succ] at f0 f1
            refine bodyPost_ret (v := rpv (rm : Nat) (.slice (some ⟨ga, 0, none⟩) rk.length cap)) (by simp [results, Tryz.results107, go_sem, f0, f1]) rfl ⟨_, rfl, by rw [← HGW.out]; exact owns_base of (Nat.le_succ _), bf⟩
end Go.Proofs.YtjfckchoklepbaaGreat

namespace Go.Proofs.YtjfckchoklepbaaGreat
open Go.RowKit

/-- What a function returns that reads a report. -/
def RpTB (x : Rpr) (w : World) (e : Ending) (w' : World) : Prop := ∃ u, e = .returned (.tuple #[rpv x.r u, .bool x.b]) ∧ w'.ownsRow w.heap.size 3 1 u x.z.length (x.z.map (.int .i64)) ∧ Below w.heap.size w w'
theorem bytes_at {w : World} {a : Option Addr} {n cap : Nat} {zs : List Int} (h : Rd w (.slice a n cap) (zs.map (.int .u8))) {j : Nat} (hj : j < zs.length) : ∃ b off, a = some ⟨b, off, none⟩ ∧ b < w.heap.size ∧ ∀ j, j < zs.length → w.cell? ⟨b, off + j, none⟩ = some (.int .u8 (zs.getD j 0)) := by
  rcases h.cases with ⟨hx, _⟩ | ⟨_, b, off, cap', hs, hlt, hc⟩
  · rw [List.map_eq_nil_iff] at hx; rw [hx] at hj; simp at hj
  · obtain ⟨rfl, -⟩ := by simpa using hs
    refine ⟨b, off, rfl, hlt, fun j hj => ?_⟩
    rw [hc j (by rw [List.length_map]; exact hj), List.getElem_map, List.getD_eq_getElem?_getD, List.getElem?_eq_getElem hj]
    rfl
theorem byte_of {zs : List Int} (hz : ∀ z ∈ zs, 0 ≤ z ∧ z < 256) {j : Nat} (hj : j < zs.length) : 0 ≤ zs.getD j 0 ∧ zs.getD j 0 < 256 := by
  rw [List.getD_eq_getElem?_getD, List.getElem?_eq_getElem hj]
  exact hz _ (List.getElem_mem hj)
/-- A number is appended to the slice in a report's box, and the slice is stored there: what is known behind it. -/
theorem app_box {w0 w w4 : World} {B0 gw gm ga cap g2 cap2 : Nat} {X : List Int} {x r0 : Int} {T : TypeId} {R : Obj}
    (hgm : w.heap[gm]? = some (.cells #[.int .i64 r0, .slice (some ⟨ga, 0, none⟩) X.length cap] T (0, 0)))
    (ho : w.ownsRow (gw + 1) 3 1 (.slice (some ⟨ga, 0, none⟩) X.length cap) X.length (X.map (.int .i64)))
    (hga : ¬ ga = gm) (hgw : w.heap[gw]? = some R) (hlt : gw < gm) (hb : Below B0 w0 w) (hB0 : B0 ≤ gw)
    (hown2 : w4.ownsRow (gw + 1) 3 1 (.slice (some ⟨g2, 0, none⟩) (X.length + 1) cap2) (X.length + 1) (X.map (.int .i64) ++ [.int .i64 x]))
    (hgrow2 : (w.alloc (.cells #[.int .i64 x] 3)).grownBy w4 (Value.slice (some ⟨ga, 0, none⟩) X.length cap).ownBlock)
    (hat2 : (Value.slice (some ⟨ga, 0, none⟩) X.length cap).ownBlock = some g2 ∨ g2 = w.heap.size + 1) :
    w4.cell? ⟨gm, 1, none⟩ = some (.slice (some ⟨ga, 0, none⟩) X.length cap) ∧ w4.frozen? ⟨gm, 1, none⟩ = false ∧
    (w4.setCell ⟨gm, 1, none⟩ (.slice (some ⟨g2, 0, none⟩) (X.length + 1) cap2)).heap[gm]? = some (.cells #[.int .i64 r0, .slice (some ⟨g2, 0, none⟩) (X ++ [x]).length cap2] T (0, 0)) ∧
    (w4.setCell ⟨gm, 1, none⟩ (.slice (some ⟨g2, 0, none⟩) (X.length + 1) cap2)).ownsRow (gw + 1) 3 1 (.slice (some ⟨g2, 0, none⟩) (X ++ [x]).length cap2) (X ++ [x]).length ((X ++ [x]).map (.int .i64)) ∧ ¬ g2 = gm ∧
    (w4.setCell ⟨gm, 1, none⟩ (.slice (some ⟨g2, 0, none⟩) (X.length + 1) cap2)).heap[gw]? = some R ∧
    Below B0 w0 (w4.setCell ⟨gm, 1, none⟩ (.slice (some ⟨g2, 0, none⟩) (X.length + 1) cap2)) := by
  have hgs : gm < w.heap.size := (Array.getElem?_eq_some_iff.mp hgm).1
  have hlen : (X ++ [x]).length = X.length + 1 := by simp
  have hg2 : ¬ g2 = gm := by
    rcases hat2 with h1 | h1
    · have h2 : some ga = some g2 := h1
      have h3 := Option.some.inj h2
      omega
    · omega
  have hba : Below w.heap.size w (w.alloc (.cells #[.int .i64 x] 3)) := (Below.refl _ _).alloc (Nat.le_refl _) _
  have hb4 : Below (gw + 1) w w4 := (hba.mono (by omega)).grown hgrow2 (by simp; omega) (fun q hq => (ho.lt q hq).1)
  have hgm4 : w4.heap[gm]? = w.heap[gm]? := by
    rw [hgrow2.block gm (by simp; omega) (fun e => by have h2 : some ga = some gm := e.symm ▸ rfl; exact hga (Option.some.inj h2))]
    exact hba.block gm hgs
  have hgm6 := hgm4.trans hgm
  obtain ⟨o14, p14⟩ := cells_of_heap hgm6 1 (by simp)
  refine ⟨by simpa using o14, by simpa using p14, by rw [hlen]; exact heap_setCell_same w4 gm 1 _ _ _ hgm6, ?_, hg2, ?_, ?_⟩
  · rw [hlen]
    refine owns_keep (w := w4) (by simpa using hown2) (fun q hq => ?_)
    have h1 : some g2 = some q := hq
    have h2 := Option.some.inj h1
    rw [← h2]
    exact heap_setCell_other w4 ⟨gm, 1, none⟩ g2 _ hg2
  · rw [heap_setCell_other w4 ⟨gm, 1, none⟩ gw _ (by show ¬ gw = gm; omega)]
    exact (hb4.block gw (by omega)).trans hgw
  · exact (hb.trans (hb4.mono (by omega))).setCell (by show B0 ≤ gm; omega) _
theorem bitK_len (b : List Int) : ∀ k, (bitK b k).length ≤ k
  | 0 => Nat.le_refl _
  | k + 1 => by
    have := bitK_len b k
    rw [bitK]; split
    · simp; omega
    · omega

theorem wraps8 (n : Int) (h₀ : 0 ≤ n) (h₁ : n < 2 ^ 8) : IntKind.u8.wrap n = n := by rw [IntKind.wrap_u8]; omega
theorem or_nat8 (a b : Nat) (ha : a < 2 ^ 8) (hb : b < 2 ^ 8) : bits .or .u8 (a : Int) (b : Int) = ((a ||| b : Nat) : Int) := (bits_nat .u8 8 (by decide) wraps8 a b ha hb).2
theorem biN_len (r : Int) (zs : List Int) : ∀ j, (biN r zs j).length = 8
  | 0 => rfl
  | j + 1 => by rw [biN]; simp only [List.length_set]; exact biN_len r zs j
theorem biN_byte {r : Int} {zs : List Int} (h : okRp r zs = true) : ∀ j, j ≤ zs.length → ∀ i, i < 8 → 0 ≤ (biN r zs j).getD i 0 ∧ (biN r zs j).getD i 0 < 256
  | 0, _, i, hi => by
    have hr := (okRp_at h).1
    have : i = 0 ∨ i = 1 ∨ i = 2 ∨ i = 3 ∨ i = 4 ∨ i = 5 ∨ i = 6 ∨ i = 7 := by omega
    rcases this with rfl | rfl | rfl | rfl | rfl | rfl | rfl | rfl <;> simp [biN] <;> omega
  | j + 1, hj, i, hi => by
    have ih := biN_byte h j (by omega)
    have hl := biN_len r zs j
    obtain ⟨k, hk⟩ : ∃ k, k = (zs.getD j 0).toNat - 1 := ⟨_, rfl⟩
    have hbi : biN r zs (j + 1) = (biN r zs j).set (1 + k / 8) ((((biN r zs j).getD (1 + k / 8) 0).toNat ||| 2 ^ (k % 8) : Nat) : Int) := by rw [hk]; rfl
    rw [hbi, List.getD_eq_getElem?_getD, List.getElem?_set]
    by_cases e : 1 + k / 8 = i
    · rw [if_pos e]
      by_cases e2 : 1 + k / 8 < (biN r zs j).length
      · rw [if_pos e2]
        have h1 := ih (1 + k / 8) (by omega)
        have h2 : 2 ^ (k % 8) < 2 ^ 8 := Nat.pow_lt_pow_right (by omega) (Nat.mod_lt _ (by omega))
        have h3 := Nat.or_lt_two_pow (n := 8) (x := ((biN r zs j).getD (1 + k / 8) 0).toNat) (by omega) h2
        simp only [Option.getD_some]
        omega
      · rw [if_neg e2]; simp
    · rw [if_neg e, ← List.getD_eq_getElem?_getD]; exact ih i hi

end Go.Proofs.YtjfckchoklepbaaGreat
