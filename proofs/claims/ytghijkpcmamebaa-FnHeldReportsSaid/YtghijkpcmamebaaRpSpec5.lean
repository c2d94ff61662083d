/- DERIVED. The reference's ReportOf: the report of held keys. · The reference's ReadBits: the report whose bits are bytes. · The reference's BitBytes: a report's bits. -/
import Derived.Test.YtghijkpcmamebaaRpSpec
import Derived.Test.YtghijkpcmamebaaHdSpec
import Derived.Test.YtghijkpcmamebaaRp
import Derived.Deep.AppendLies
import Derived.BigRegion
namespace Go.Proofs.Ytghijkpcmamebaa
open Go.RowKit

/-- What a walk knows of one held key. -/
theorem hd_at {w : World} {ua : Option Addr} {m uc : Nat} {l : List Hd} (h : RdN w (.slice ua m uc) l.length (flatHd l)) {k : Nat} (hk : k < l.length) : ∃ b off, ua = some ⟨b, off, none⟩ ∧ b < w.heap.size ∧
    w.cell? ⟨b, off + k * 5, none⟩ = some (.int .i64 (hdD l k).h) ∧ w.cell? ⟨b, off + k * 5 + 1, none⟩ = some (.int .i64 (hdD l k).k) ∧ w.cell? ⟨b, off + k * 5 + 2, none⟩ = some (.int .i64 (hdD l k).c) ∧ w.cell? ⟨b, off + k * 5 + 3, none⟩ = some (.int .i64 (hdD l k).m) ∧ w.cell? ⟨b, off + k * 5 + 4, none⟩ = some (.int .i64 (hdD l k).n) := by
  rcases rd_hds (l := l) h with ⟨rfl, _⟩ | ⟨b, off, cap, _, hs, hlt, hc⟩
  · simp at hk
  · obtain ⟨rfl, rfl, rfl⟩ := by simpa using hs
    exact ⟨b, off, rfl, hlt, hc k hk⟩
theorem owns_putAt {w : World} {B c n y : Nat} {e : TypeId} {v : Value} {xs : List Value} (h : w.ownsRow B e c v n xs) (hy : ∀ q, v.ownBlock = some q → q ≠ y) (i : Nat) (vs : List Value) : (putW w y i vs).ownsRow B e c v n xs :=
  ((OwF.mk' h).turn (Turn.of_grown (putW_grown vs i w)) (fun b hb hb' => by
    rw [List.mem_singleton] at hb'
    unfold ownFp at hb
    rcases hq : v.ownBlock with _ | q
    · rw [hq] at hb; simp at hb
    · rw [hq] at hb
      have : b = q := by simpa using hb
      exact hy q hq (by omega))).1
theorem owns_keep {w w' : World} {B c n : Nat} {e : TypeId} {v : Value} {xs : List Value} (h : w.ownsRow B e c v n xs) (hk : ∀ q, v.ownBlock = some q → w'.heap[q]? = w.heap[q]?) : w'.ownsRow B e c v n xs := by
  obtain ⟨h1, h2⟩ := h
  refine ⟨h1, ?_⟩
  rcases h2 with h2 | ⟨g, cap, cur, rfl, hg, hh, r⟩
  · exact .inl h2
  · exact .inr ⟨g, cap, cur, rfl, hg, by rw [hk g rfl]; exact hh, r⟩
/-- What a function returns that makes a report. -/
def RpV (r : Int) (zs : List Int) (w : World) (e : Ending) (w' : World) : Prop := ∃ u, e = .returned (rpv r u) ∧ w'.ownsRow w.heap.size 3 1 u zs.length (zs.map (.int .i64)) ∧ Below w.heap.size w w'

set_option maxRecDepth 100000 in
set_option maxHeartbeats 8000000 in
theorem specReportOf_any (v : Value) (l : List Hd) (w : World) (hn : l.length ≤ maxLen) (h : RdN w v l.length (flatHd l)) :
    Calls Try.prog 24 #[v] w (RpV (rofM l : Nat) (rofK l) w) := by
  obtain ⟨i0, hi, hz0, hz1, hz2⟩ := info_parts info_int
  obtain ⟨R, hR⟩ : ∃ R, R = okHd l := ⟨_, rfl⟩
  obtain ⟨rm, hrm⟩ : ∃ x, x = rofM l := ⟨_, rfl⟩
  obtain ⟨rk, hrk⟩ : ∃ x, x = rofK l := ⟨_, rfl⟩
  rw [← hrm, ← hrk]
  have HRm := Lib.hid hrm
  have HRk := Lib.hid hrk
  clear hrm hrk
  obtain ⟨xa, xc, rfl⟩ := RdN.shape h
  obtain ⟨n, hnl⟩ : ∃ n, n = l.length := ⟨_, rfl⟩
  have HNL := Lib.hid hnl
  have HR := Lib.hid hR
  have H := Lib.hid h
  have HN := Lib.hid hn
  have hnr : n ≤ maxLen := by rw [hnl]; exact hn
  unfold maxLen at hnr
  rw [← hnl]
  clear hR h hn hnl
  obtain ⟨gw, hgw⟩ : ∃ g, g = w.heap.size := ⟨_, rfl⟩
  obtain ⟨U, hU⟩ : ∃ U, U = ((w.alloc (.cells #[.int .i64 0, .slice none 0 0] 28)).alloc (.cells #[] 3)).alloc (.cells #[.int .i64 0, .slice (some ⟨gw + 1, 0, none⟩) 0 0] 28) := ⟨_, rfl⟩
  have HGm := Lib.hid (show U.heap[gw + 1 + 1]? = some (.cells #[.int .i64 0, .slice (some ⟨gw + 1, 0, none⟩) 0 0] 28 (0, 0)) by rw [hU, hgw]; simpa using heap_alloc_new ((w.alloc (.cells #[.int .i64 0, .slice none 0 0] 28)).alloc (.cells #[] 3)) _)
  have HGw := Lib.hid (show U.heap[gw]? = some (.cells #[.int .i64 0, .slice none 0 0] 28 (0, 0)) by
    rw [hU, hgw, Below.heap_alloc _ _ _ (by simp; omega), Below.heap_alloc _ _ _ (by simp)]; exact heap_alloc_new w _)
  have HB0 := Lib.hid (show Below w.heap.size w U by rw [hU]; exact (((Below.refl _ _).alloc (Nat.le_refl _) _).alloc (by simp) _).alloc (by simp; omega) _)
  have HSZ := Lib.hid (show U.heap.size = gw + 1 + 1 + 1 by rw [hU, hgw]; simp)
  have HOw := Lib.hid (show U.ownsRow (gw + 1) 3 1 (.slice (some ⟨gw + 1, 0, none⟩) 0 0) 0 (([] : List Int).map (.int .i64)) by
    rw [hU, hgw]
    have := World.ownsRow_lit (e := 3) (size := 1) (base := w.heap.size + 1) (w.alloc (.cells #[.int .i64 0, .slice none 0 0] 28)) #[] 0 (by simp) (by simp [maxLen]) rfl
    simp only [World.size_alloc] at this
    exact this.alloc _)
  have HU := Lib.hid hU
  have HGW := Lib.hid hgw
  have hgw1 : w.heap.size + 1 = gw + 1 := by rw [hgw]
  have hgw2 : w.heap.size + 1 + 1 = gw + 1 + 1 := by rw [hgw]
  clear hU
  go_enter Try.func24, Try.ntmps24
  go_upto_region 2 with (fail)
  rw [← HU.out, ← hgw]
  have hle : w.heap.size ≤ gw := by rw [hgw]; exact Nat.le_refl _
  clear hgw hgw1 hgw2
  go_wp2_with fail
  refine (specIsHeld_q _ l R HR.out _ HN.out (by rw [HNL.out]; have := H.out.below HB0.out; rw [← HNL.out] at this ⊢; exact this)).mono ?_
  rintro e w1 ⟨rfl, hb⟩
  have HB1 := Lib.hid (HB0.out.trans (hb.mono HB0.out.size))
  have HGm1 := Lib.hid ((hb.block (gw + 1 + 1) (by rw [HSZ.out]; omega)).trans HGm.out)
  have HGw1 := Lib.hid ((hb.block gw (by rw [HSZ.out]; omega)).trans HGw.out)
  have HOw1 := Lib.hid (owns_below HOw.out hb)
  clear hb
  obtain ⟨y0, q0⟩ := cells_of_heap HGw1.out 0 (by simp)
  obtain ⟨y1, q1⟩ := cells_of_heap HGw1.out 1 (by simp)
  have m0 := (cells_of_heap HGm1.out 0 (by simp)).1
  have m1 := (cells_of_heap HGm1.out 1 (by simp)).1
  cases R
  · obtain rfl : rm = 0 := by rw [HRm.out, rofM, ← HR.out]; rfl
    obtain rfl : rk = [] := by rw [HRk.out, rofK, ← HR.out]; rfl
    go_wp2
    clear m0 m1 y0 q0 y1 q1
    obtain ⟨wf, hwf⟩ : ∃ x, x = putW (w1) (gw) 0 [.int .i64 0, .slice (some ⟨gw + 1, 0, none⟩) 0 0] := ⟨_, rfl⟩
    have kf := putW_all [.int .i64 0, .slice (some ⟨gw + 1, 0, none⟩) 0 0] HGw1.out rfl
    have bf := putW_below (b := gw) (by first | omega | simp) [.int .i64 0, .slice (some ⟨gw + 1, 0, none⟩) 0 0] 0 _ HB1.out
    have of := owns_putAt HOw1.out (y := gw) (fun q hq => by have h1 : some (gw + 1) = some q := hq; have := Option.some.inj h1; omega) 0 [.int .i64 0, .slice (some ⟨gw + 1, 0, none⟩) 0 0]
    rw [← hwf] at kf bf of
    have cf := hwf.symm
    simp only [putW, Nat.reduceAdd] at cf
    rw [cf]
    clear cf hwf
    have f0 := (cells_of_heap kf 0 (by simp)).1
    have f1 := (cells_of_heap kf 1 (by simp)).1
    simp only [List.getElem_toArray, List.getElem_cons_zero, List.getElem_cons_succ] at f0 f1
    refine bodyPost_ret (v := rpv 0 (.slice (some ⟨gw + 1, 0, none⟩) 0 0)) (by simp [results, Try.results24, go_sem, f0, f1]) rfl ⟨_, rfl, by rw [← HGW.out]; exact owns_base of (Nat.le_succ _), bf⟩
  · have HM := Lib.hid (show rm = mdOf l n by rw [HRm.out, rofM, ← HR.out, HNL.out]; rfl)
    have HK := Lib.hid (show rk = codesN l 56 by rw [HRk.out, rofK, ← HR.out]; rfl)
    have hok : okHd l = true := HR.out.symm
    have HOk := Lib.hid hok
    clear hok m0 m1
    go_wp2
    clear y0 q0 y1 q1
    go_loopw [4] (fun i wr => ∃ j : Nat, j ≤ n ∧ i = .int .i64 j ∧ wr.heap[gw + 1 + 1]? = some (.cells #[.int .i64 (mdOf l j : Nat), .slice (some ⟨gw + 1, 0, none⟩) 0 0] 28 (0, 0)) ∧ Below (gw + 1 + 1) w1 wr) (fun i _ => n - (intOf i).toNat)
    case atStart => exact ⟨0, Nat.zero_le _, rfl, HGm1.out, Below.refl _ _⟩
    case round =>
      obtain ⟨j, hj, rfl, hgm, hb⟩ := hrel
      have hbw : Below w.heap.size w wr := HB1.out.trans (hb.mono (by omega))
      have HGm2 := Lib.hid hgm
      have HB2 := Lib.hid hb
      have HBW := Lib.hid hbw
      by_cases hlt' : j < n
      · obtain ⟨b, off, rfl, hlt, c0, c1, c2, c3, c4⟩ := hd_at H.out (k := j) (by rw [← HNL.out]; exact hlt')
        have f1 := (hbw.cell (p := ⟨b, off + j * 5 + 1, none⟩) hlt).trans c1
        have f3 := (hbw.cell (p := ⟨b, off + j * 5 + 3, none⟩) hlt).trans c3
        have hjl : j < l.length := by rw [← HNL.out]; exact hlt'
        have hmods := okOne_mods (hdN_at HOk.out j hjl).1
        have hlo := mdOf_lt HOk.out j (by omega)
        have hnx : mdOf l (j + 1) = if (hdD l j).k = 2 ∨ (hdD l j).k = 8 then mdOf l j ||| (hdD l j).m.toNat else mdOf l j := rfl
        obtain ⟨kk, hkk⟩ : ∃ x, x = (hdD l j).k := ⟨_, rfl⟩
        obtain ⟨mm, hmm⟩ : ∃ x, x = (hdD l j).m := ⟨_, rfl⟩
        rw [← hkk] at f1 hnx
        rw [← hmm] at f3 hnx hmods
        obtain ⟨M, rfl⟩ : ∃ M : Nat, mm = M := ⟨mm.toNat, by omega⟩
        rw [Int.toNat_natCast] at hnx
        obtain ⟨q, hq⟩ : ∃ q, q = mdOf l j := ⟨_, rfl⟩
        rw [← hq] at hlo hnx hgm
        have HQ := Lib.hid hq
        have HNX := Lib.hid hnx
        have hM15 : M ≤ 15 := by omega
        clear c0 c1 c2 c3 c4 hkk hmm hmods hjl hnx hb hbw hq
        obtain ⟨m0, p0⟩ := cells_of_heap hgm 0 (by simp)
        by_cases hk : kk = 2 ∨ kk = 8
        · have hor := or_nat q M (by omega) (by omega)
          have hnx := HNX.out
          rw [if_pos hk] at hnx
          have HQ2 := Lib.hid hnx
          have HOR := Lib.hid hor
          clear hor hnx
          have HGm3 := Lib.hid hgm
          clear hgm
          rcases hk with rfl | rfl
          all_goals
            go_upto_region 8 with (fail)
            go_region
            all_goals
              go_wp2
              go_roundw
              case rel => exact ⟨j + 1, by omega, by go_num, by rw [HQ2.out, ← HOR.out]; exact heap_setCell_same wr (gw + 1 + 1) 0 _ _ _ HGm3.out, (HB2.out.setCell (Nat.le_refl _) _).drew⟩
              case measure => simp [intOf]; omega
        · have hnx := HNX.out
          rw [if_neg hk] at hnx
          have hk2 : ¬ kk = 2 := fun e => hk (.inl e)
          have hk8 : ¬ kk = 8 := fun e => hk (.inr e)
          have b2 : (kk == 2) = false := by simp [hk2]
          have b8 : (kk == 8) = false := by simp [hk8]
          have HQ2 := Lib.hid (hnx.trans HQ.out)
          clear hnx hk hgm m0 p0
          go_wp2
          go_roundw
          case rel => exact ⟨j + 1, by omega, by go_num, by rw [HQ2.out]; exact HGm2.out, HB2.out⟩
          case measure => simp [intOf]; omega
      · obtain rfl : j = n := by omega
        obtain ⟨W1, hW1⟩ : ∃ x, x = wr := ⟨_, rfl⟩
        subst hW1
        have HGw2 := Lib.hid ((HB2.out.block gw (by omega)).trans HGw1.out)
        have HOw2 := Lib.hid (owns_keep HOw1.out (w' := W1) (fun q hq => by have h1 : some (gw + 1) = some q := hq; have h2 := Option.some.inj h1; rw [← h2]; exact HB2.out.block (gw + 1) (by omega)))
        obtain ⟨gm, hgm2⟩ : ∃ g, g = gw + 1 + 1 := ⟨_, rfl⟩
        rw [← hgm2] at hgm ⊢
        obtain ⟨M, hMv⟩ : ∃ M, M = mdOf l j := ⟨_, rfl⟩
        rw [← hMv] at hgm
        have HM2 := Lib.hid (show rm = M by rw [HM.out, hMv])
        have HGmW := Lib.hid hgm
        have hgmw : gw < gm := by omega
        have hgmw1 : ¬ gw + 1 = gm := by omega
        clear hb hbw hgm hMv hgm2
        go_wp2
        go_loopw [5, 6] (fun c _ wr => ∃ (k ga cap : Nat), k ≤ 56 ∧ c = .int .i64 ((k : Int) + 1) ∧ wr.heap[gm]? = some (.cells #[.int .i64 (M : Nat), .slice (some ⟨ga, 0, none⟩) (codesN l k).length cap] 28 (0, 0)) ∧ wr.ownsRow (gw + 1) 3 1 (.slice (some ⟨ga, 0, none⟩) (codesN l k).length cap) (codesN l k).length ((codesN l k).map (.int .i64)) ∧ ¬ ga = gm ∧ wr.heap[gw]? = some (.cells #[.int .i64 0, .slice none 0 0] 28 (0, 0)) ∧ Below w.heap.size w wr) (fun c _ _ => 57 - (intOf c).toNat)
        case atStart => exact ⟨0, gw + 1, 0, Nat.zero_le _, rfl, HGmW.out, HOw2.out, hgmw1, HGw2.out, HBW.out⟩
        case round =>
          obtain ⟨k, ga, cap, hk, rfl, hgm, ho, hga, hgw, hb⟩ := hrel
          obtain ⟨W2, hW2⟩ : ∃ x, x = wr := ⟨_, rfl⟩
          subst hW2
          have hlk := codesN_len l k
          obtain ⟨X, hX⟩ : ∃ X, X = codesN l k := ⟨_, rfl⟩
          rw [← hX] at hgm ho hlk
          have HX := Lib.hid hX
          have HO := Lib.hid ho
          have HGa := Lib.hid hga
          have HGm5 := Lib.hid hgm
          have HGw5 := Lib.hid hgw
          have HB5 := Lib.hid hb
          have hgs : gm < W2.heap.size := (Array.getElem?_eq_some_iff.mp hgm).1
          by_cases hkl : k < 56
          · have hk56 : (k : Int) + 1 ≤ 56 := by omega
            clear hX ho hga hgm hgw hb
            go_wp2
            go_loopw [6] (fun i wr => ∃ q : Nat, q ≤ j ∧ i = .int .i64 q ∧ hasC l ((k + 1 : Nat) : Int) q = false ∧ wr = W2) (fun i _ => j - (intOf i).toNat)
            case atStart => exact ⟨0, Nat.zero_le _, rfl, rfl, rfl⟩
            case round =>
              obtain ⟨q, hq, rfl, hno, rfl⟩ := hrel
              by_cases hql : q < j
              · obtain ⟨b, off, rfl, hlt, c0, c1, c2, c3, c4⟩ := hd_at H.out (k := q) (by rw [← HNL.out]; exact hql)
                have f2 := (HB5.out.cell (p := ⟨b, off + q * 5 + 2, none⟩) hlt).trans c2
                obtain ⟨x, hx⟩ : ∃ x, x = (hdD l q).c := ⟨_, rfl⟩
                rw [← hx] at f2
                have HXx := Lib.hid hx
                have HNo := Lib.hid hno
                clear c0 c1 c2 c3 c4 hx hno
                by_cases hxk : x = (k : Int) + 1
                · have hyes : codesN l (k + 1) = X ++ [((k : Int) + 1)] := by
                    rw [codesN, if_pos (hasC_yes (by rw [← HXx.out, hxk]; simp) _ (by rw [← HNL.out]; exact hql)), ← HX.out]
                    simp
                  have HY := Lib.hid hyes
                  obtain ⟨m1, p1⟩ := cells_of_heap HGm5.out 1 (by simp)
                  have c63 : X.length + 1 ≤ maxLen := by unfold maxLen; omega
                  have c47 : (X.length + 1) * 8 ≤ 140737488355328 := by omega
                  have hsz1 : gw + 1 ≤ wr.heap.size + 1 := by omega
                  clear hyes
                  subst hxk
                  go_wp2_with (at_builtin; refine wpList_append_lies _ rfl _ _ 26 rfl (gw + 1) 3 i0 (.int .i64 0) 1 8 Try.underlying26 hi hz0 hz1 hz2 rfl (by decide) (.slice (some ⟨ga, 0, none⟩) X.length cap) X.length (X.map (.int .i64)) rfl (HO.out.alloc _) ⟨wr.heap.size, 0, none⟩ 1 1 [.int .i64 ((k : Int) + 1)] rfl rfl (World.news_of_block (cs := #[.int .i64 ((k : Int) + 1)]) (t := 3) (fr := (0, 0)) (heap_alloc_new wr _)) (by simp [Value.oneCell']) (by decide) c63 c47 (by simp; omega) (wr.heap.size + 1) (by simp) ?_)
                  intro g2 cap2 w4 hown2 hgrow2 hat2 hlt4
                  have hg2 : ¬ g2 = gm := by
                    rcases hat2 with h1 | h1
                    · have h2 : some ga = some g2 := h1
                      have h3 := Option.some.inj h2
                      have := HGa.out
                      omega
                    · omega
                  have hb4 : Below (gw + 1) wr w4 ∧ w4.heap[gm]? = wr.heap[gm]? := by
                    have hba : Below wr.heap.size wr (wr.alloc (.cells #[.int .i64 ((k : Int) + 1)] 3)) := (Below.refl _ _).alloc (Nat.le_refl _) _
                    refine ⟨(hba.mono (by omega)).grown hgrow2 (by simp; omega) (fun q hq => (HO.out.lt q hq).1), ?_⟩
                    have h1 := hgrow2.block gm (by simp; omega) (fun e => by have h2 : some ga = some gm := e.symm ▸ rfl; exact HGa.out (Option.some.inj h2))
                    rw [h1]
                    exact hba.block gm hgs
                  obtain ⟨hb4, hgm4⟩ := hb4
                  have hgm6 := hgm4.trans HGm5.out
                  obtain ⟨o14, p14⟩ := cells_of_heap hgm6 1 (by simp)
                  have hgm7 := heap_setCell_same w4 gm 1 _ _ (.slice (some ⟨g2, 0, none⟩) (X.length + 1) cap2) hgm6
                  have ho7 : (w4.setCell ⟨gm, 1, none⟩ (.slice (some ⟨g2, 0, none⟩) (X.length + 1) cap2)).ownsRow (gw + 1) 3 1 (.slice (some ⟨g2, 0, none⟩) (X.length + 1) cap2) (X.length + 1) ((X ++ [(k : Int) + 1]).map (.int .i64)) := by
                    refine owns_keep (w := w4) (by simpa using hown2) (fun q hq => ?_)
                    have h1 : some g2 = some q := hq
                    have h2 := Option.some.inj h1
                    rw [← h2]
                    exact heap_setCell_other w4 ⟨gm, 1, none⟩ g2 _ hg2
                  have hgw7 : (w4.setCell ⟨gm, 1, none⟩ (.slice (some ⟨g2, 0, none⟩) (X.length + 1) cap2)).heap[gw]? = some (.cells #[.int .i64 0, .slice none 0 0] 28 (0, 0)) := by
                    rw [heap_setCell_other w4 ⟨gm, 1, none⟩ gw _ (by show ¬ gw = gm; omega)]
                    exact (hb4.block gw (by omega)).trans HGw5.out
                  have hb7 : Below w.heap.size w (w4.setCell ⟨gm, 1, none⟩ (.slice (some ⟨g2, 0, none⟩) (X.length + 1) cap2)) := (HB5.out.trans (hb4.mono (by omega))).setCell (by show w.heap.size ≤ gm; omega) _
                  have HG7 := Lib.hid hgm7
                  have HO7 := Lib.hid ho7
                  have HW7 := Lib.hid hgw7
                  have HB7 := Lib.hid hb7
                  have HGG := Lib.hid hg2
                  have hlen : (X ++ [(k : Int) + 1]).length = X.length + 1 := by simp
                  have HLen := Lib.hid hlen
                  clear hb4 hgm4 hgm6 hgm7 ho7 hgw7 hb7 hg2 hown2 hgrow2 hat2 hlt4 c63 c47 hsz1 m1 p1 hlen
                  go_wp2
                  go_roundw
                  case rel => exact ⟨k + 1, g2, cap2, by omega, by go_num, by rw [HY.out, HLen.out]; simpa using HG7.out, by rw [HY.out, HLen.out]; exact HO7.out, HGG.out, HW7.out, HB7.out⟩
                  case measure => simp [intOf]; omega
                · have hno2 : hasC l ((k + 1 : Nat) : Int) (q + 1) = false := by
                    rw [hasC, HNo.out, Bool.false_or, ← HXx.out]
                    simp; omega
                  have HNo2 := Lib.hid hno2
                  have bx : (x == (k : Int) + 1) = false := by simp [hxk]
                  clear hno2
                  go_wp2
                  go_roundw
                  case rel => exact ⟨q + 1, by omega, by go_num, HNo2.out, by trivial⟩
                  case measure => simp [intOf]; omega
              · obtain rfl : q = j := by omega
                have hsame : codesN l (k + 1) = X := by
                  rw [codesN, if_neg (by rw [← HNL.out, hno]; decide), ← HX.out]
                have HY := Lib.hid hsame
                clear hno hsame
                go_wp2
                go_roundw
                case rel => exact ⟨k + 1, ga, cap, by omega, by go_num, by rw [HY.out]; exact HGm5.out, by rw [HY.out]; exact HO.out, HGa.out, HGw5.out, HB5.out⟩
                case measure => simp [intOf]; omega
          · obtain rfl : k = 56 := by omega
            obtain rfl : rk = X := by rw [HK.out, HX.out]
            obtain rfl : rm = M := HM2.out
            have m0 := (cells_of_heap hgm 0 (by simp)).1
            have m1 := (cells_of_heap hgm 1 (by simp)).1
            obtain ⟨y0, q0⟩ := cells_of_heap hgw 0 (by simp)
            obtain ⟨y1, q1⟩ := cells_of_heap hgw 1 (by simp)
            clear hX ho hga hgm hgw hb
            go_wp2
            clear m0 m1 y0 q0 y1 q1
            obtain ⟨wf, hwf⟩ : ∃ x, x = putW (W2) (gw) 0 [.int .i64 (rm : Nat), .slice (some ⟨ga, 0, none⟩) rk.length cap] := ⟨_, rfl⟩
            have kf := putW_all [.int .i64 (rm : Nat), .slice (some ⟨ga, 0, none⟩) rk.length cap] HGw5.out rfl
            have bf := putW_below (b := gw) (by first | omega | simp) [.int .i64 (rm : Nat), .slice (some ⟨ga, 0, none⟩) rk.length cap] 0 _ HB5.out
            have of := owns_putAt HO.out (y := gw) (fun q hq => by have := (HO.out.lt q hq).1; omega) 0 [.int .i64 (rm : Nat), .slice (some ⟨ga, 0, none⟩) rk.length cap]
            rw [← hwf] at kf bf of
            have cf := hwf.symm
            simp only [putW, Nat.reduceAdd] at cf
            rw [cf]
            clear cf hwf
            have f0 := (cells_of_heap kf 0 (by simp)).1
            have f1 := (cells_of_heap kf 1 (by simp)).1
            simp only [List.getElem_toArray, List.getElem_cons_zero, List.getElem_cons_succ] at f0 f1
            refine bodyPost_ret (v := rpv (rm : Nat) (.slice (some ⟨ga, 0, none⟩) rk.length cap)) (by simp [results, Try.results24, go_sem, f0, f1]) rfl ⟨_, rfl, by rw [← HGW.out]; exact owns_base of (Nat.le_succ _), bf⟩
end Go.Proofs.Ytghijkpcmamebaa

namespace Go.Proofs.Ytghijkpcmamebaa
open Go.RowKit

/-- What a function returns that reads a report. -/
def RpTB (x : Rpr) (w : World) (e : Ending) (w' : World) : Prop := ∃ u, e = .returned (.tuple #[rpv x.r u, .bool x.b]) ∧ w'.ownsRow w.heap.size 3 1 u x.z.length (x.z.map (.int .i64)) ∧ Below w.heap.size w w'
theorem bytes_at {w : World} {a : Option Addr} {n cap : Nat} {zs : List Int} (h : Rd w (.slice a n cap) (zs.map (.int .u8))) {j : Nat} (hj : j < zs.length) : ∃ b off, a = some ⟨b, off, none⟩ ∧ b < w.heap.size ∧ ∀ j, j < zs.length → w.cell? ⟨b, off + j, none⟩ = some (.int .u8 (zs.getD j 0)) := by
  rcases h.cases with ⟨hx, _⟩ | ⟨_, b, off, cap', hs, hlt, hc⟩
  · rw [List.map_eq_nil_iff] at hx; rw [hx] at hj; simp at hj
  · obtain ⟨rfl, -⟩ := by simpa using hs
    refine ⟨b, off, rfl, hlt, fun j hj => ?_⟩
    rw [hc j (by rw [List.length_map]; exact hj), List.getElem_map, List.getD_eq_getElem?_getD, List.getElem?_eq_getElem hj]
    rfl
theorem byte_of {zs : List Int} (hz : ∀ z ∈ zs, 0 ≤ z ∧ z < 256) {j : Nat} (hj : j < zs.length) : 0 ≤ zs.getD j 0 ∧ zs.getD j 0 < 256 := by
  rw [List.getD_eq_getElem?_getD, List.getElem?_eq_getElem hj]
  exact hz _ (List.getElem_mem hj)
/-- A number is appended to the slice in a report's box, and the slice is stored there: what is known behind it. -/
theorem app_box {w0 w w4 : World} {B0 gw gm ga cap g2 cap2 : Nat} {X : List Int} {x r0 : Int} {T : TypeId} {R : Obj}
    (hgm : w.heap[gm]? = some (.cells #[.int .i64 r0, .slice (some ⟨ga, 0, none⟩) X.length cap] T (0, 0)))
    (ho : w.ownsRow (gw + 1) 3 1 (.slice (some ⟨ga, 0, none⟩) X.length cap) X.length (X.map (.int .i64)))
    (hga : ¬ ga = gm) (hgw : w.heap[gw]? = some R) (hlt : gw < gm) (hb : Below B0 w0 w) (hB0 : B0 ≤ gw)
    (hown2 : w4.ownsRow (gw + 1) 3 1 (.slice (some ⟨g2, 0, none⟩) (X.length + 1) cap2) (X.length + 1) (X.map (.int .i64) ++ [.int .i64 x]))
    (hgrow2 : (w.alloc (.cells #[.int .i64 x] 3)).grownBy w4 (Value.slice (some ⟨ga, 0, none⟩) X.length cap).ownBlock)
    (hat2 : (Value.slice (some ⟨ga, 0, none⟩) X.length cap).ownBlock = some g2 ∨ g2 = w.heap.size + 1) :
    w4.cell? ⟨gm, 1, none⟩ = some (.slice (some ⟨ga, 0, none⟩) X.length cap) ∧ w4.frozen? ⟨gm, 1, none⟩ = false ∧
    (w4.setCell ⟨gm, 1, none⟩ (.slice (some ⟨g2, 0, none⟩) (X.length + 1) cap2)).heap[gm]? = some (.cells #[.int .i64 r0, .slice (some ⟨g2, 0, none⟩) (X ++ [x]).length cap2] T (0, 0)) ∧
    (w4.setCell ⟨gm, 1, none⟩ (.slice (some ⟨g2, 0, none⟩) (X.length + 1) cap2)).ownsRow (gw + 1) 3 1 (.slice (some ⟨g2, 0, none⟩) (X ++ [x]).length cap2) (X ++ [x]).length ((X ++ [x]).map (.int .i64)) ∧ ¬ g2 = gm ∧
    (w4.setCell ⟨gm, 1, none⟩ (.slice (some ⟨g2, 0, none⟩) (X.length + 1) cap2)).heap[gw]? = some R ∧
    Below B0 w0 (w4.setCell ⟨gm, 1, none⟩ (.slice (some ⟨g2, 0, none⟩) (X.length + 1) cap2)) := by
  have hgs : gm < w.heap.size := (Array.getElem?_eq_some_iff.mp hgm).1
  have hlen : (X ++ [x]).length = X.length + 1 := by simp
  have hg2 : ¬ g2 = gm := by
    rcases hat2 with h1 | h1
    · have h2 : some ga = some g2 := h1
      have h3 := Option.some.inj h2
      omega
    · omega
  have hba : Below w.heap.size w (w.alloc (.cells #[.int .i64 x] 3)) := (Below.refl _ _).alloc (Nat.le_refl _) _
  have hb4 : Below (gw + 1) w w4 := (hba.mono (by omega)).grown hgrow2 (by simp; omega) (fun q hq => (ho.lt q hq).1)
  have hgm4 : w4.heap[gm]? = w.heap[gm]? := by
    rw [hgrow2.block gm (by simp; omega) (fun e => by have h2 : some ga = some gm := e.symm ▸ rfl; exact hga (Option.some.inj h2))]
    exact hba.block gm hgs
  have hgm6 := hgm4.trans hgm
  obtain ⟨o14, p14⟩ := cells_of_heap hgm6 1 (by simp)
  refine ⟨by simpa using o14, by simpa using p14, by rw [hlen]; exact heap_setCell_same w4 gm 1 _ _ _ hgm6, ?_, hg2, ?_, ?_⟩
  · rw [hlen]
    refine owns_keep (w := w4) (by simpa using hown2) (fun q hq => ?_)
    have h1 : some g2 = some q := hq
    have h2 := Option.some.inj h1
    rw [← h2]
    exact heap_setCell_other w4 ⟨gm, 1, none⟩ g2 _ hg2
  · rw [heap_setCell_other w4 ⟨gm, 1, none⟩ gw _ (by show ¬ gw = gm; omega)]
    exact (hb4.block gw (by omega)).trans hgw
  · exact (hb.trans (hb4.mono (by omega))).setCell (by show B0 ≤ gm; omega) _
theorem bitK_len (b : List Int) : ∀ k, (bitK b k).length ≤ k
  | 0 => Nat.le_refl _
  | k + 1 => by
    have := bitK_len b k
    rw [bitK]; split
    · simp; omega
    · omega

set_option maxRecDepth 100000 in
set_option maxHeartbeats 8000000 in
theorem specReadBits_any (v : Value) (bs : List Int) (w : World) (hl : bs.length ≤ maxLen) (hz : ∀ z ∈ bs, 0 ≤ z ∧ z < 256) (h : Rd w v (bs.map (.int .u8))) :
    Calls Try.prog 38 #[v] w (RpTB (rdV bs) w) := by
  obtain ⟨i0, hi, hz0, hz1, hz2⟩ := info_parts info_int
  obtain ⟨r, hr⟩ : ∃ r, r = rdV bs := ⟨_, rfl⟩
  rw [← hr]
  obtain ⟨xa, xc, hv⟩ : ∃ a cap, v = .slice a bs.length cap := by
    obtain ⟨a, cap, hu, _⟩ := h
    exact ⟨a, cap, by simpa using hu⟩
  subst hv
  obtain ⟨n, hnl⟩ : ∃ n, n = bs.length := ⟨_, rfl⟩
  have HNL := Lib.hid hnl
  have HR := Lib.hid hr
  have H := Lib.hid h
  have HZ := Lib.hid hz
  have hnr : n ≤ maxLen := by rw [hnl]; exact hl
  unfold maxLen at hnr
  rw [← hnl]
  clear hr h hl hz hnl
  obtain ⟨gw, hgw⟩ : ∃ g, g = w.heap.size := ⟨_, rfl⟩
  obtain ⟨V, hV⟩ : ∃ V, V = w.alloc (.cells #[.int .i64 0, .slice none 0 0] 28) := ⟨_, rfl⟩
  have HG0 := Lib.hid (show V.heap[gw]? = some (.cells #[.int .i64 0, .slice none 0 0] 28 (0, 0)) by rw [hV, hgw]; exact heap_alloc_new w _)
  have HB0 := Lib.hid (show Below w.heap.size w V by rw [hV]; exact (Below.refl _ _).alloc (Nat.le_refl _) _)
  have hs0 : V.heap.size = gw + 1 := by rw [hV, hgw]; simp
  have HV := Lib.hid hV
  have HGW := Lib.hid hgw
  have hle : w.heap.size ≤ gw := by rw [hgw]; exact Nat.le_refl _
  have HNil := Lib.hid (show ∀ wx, Below w.heap.size w wx → r = ⟨0, [], false⟩ → RpTB r w (.returned (.tuple #[rpv 0 (.slice none 0 0), .bool false])) (putW wx gw 0 [.int .i64 0, .slice none 0 0]) from fun wx hx h => by
    rw [h]
    exact ⟨_, rfl, World.ownsRow_nil _ _ _ _, putW_below hle _ _ _ hx⟩)
  clear hV
  obtain ⟨y0, q0⟩ := cells_of_heap HG0.out 0 (by simp)
  obtain ⟨y1, q1⟩ := cells_of_heap HG0.out 1 (by simp)
  by_cases h8 : n = 8
  · subst h8
    obtain ⟨b, off, rfl, hlt, hc⟩ := bytes_at H.out (j := 0) (by rw [← HNL.out]; omega)
    have HC := Lib.hid hc
    have HLT := Lib.hid hlt
    have d0 := (HB0.out.cell (p := ⟨b, off, none⟩) hlt).trans (hc 0 (by rw [← HNL.out]; omega))
    have hb0 := byte_of HZ.out (j := 0) (by rw [← HNL.out]; omega)
    obtain ⟨B, hB⟩ : ∃ x, x = bs.getD 0 0 := ⟨_, rfl⟩
    rw [← hB] at d0 hb0
    have wB : IntKind.i64.wrap B = B := IntWalk.i64_in _ ⟨by omega, by omega⟩
    have hr2 : r = if B ≤ 15 then ⟨B, bitK bs 56, true⟩ else ⟨0, [], false⟩ := by
      rw [HR.out, rdV, ← hB, ← HNL.out]
      by_cases h15 : B ≤ 15 <;> simp [h15]
    have HR2 := Lib.hid hr2
    clear hc hB hr2 hlt hgw
    go_enter Try.func38, Try.ntmps38
    go_upto_region 1 with (fail)
    rw [← HV.out, ← HGW.out]
    by_cases h15 : B ≤ 15
    · have h15' : ¬ (15 : Int) < B := by omega
      have HRr := Lib.hid (show r = ⟨B, bitK bs 56, true⟩ by rw [HR2.out, if_pos h15])
      clear y0 y1 q0 q1
      go_upto_region 4 with (fail)
      obtain ⟨U, hU⟩ : ∃ U, U = (V.alloc (.cells #[] 3)).alloc (.cells #[.int .i64 B, .slice (some ⟨gw + 1, 0, none⟩) 0 0] 28) := ⟨_, rfl⟩
      obtain ⟨gm, hgm⟩ : ∃ g, g = gw + 1 + 1 := ⟨_, rfl⟩
      have hsv : V.heap.size = gw + 1 := hs0
      have hbU : Below w.heap.size w U := by rw [hU]; exact (HB0.out.alloc HB0.out.size _).alloc (by simp; have := HB0.out.size; omega) _
      have hGm : U.heap[gm]? = some (.cells #[.int .i64 B, .slice (some ⟨gw + 1, 0, none⟩) ([] : List Int).length 0] 28 (0, 0)) := by
        rw [hU, hgm, ← hsv]; simpa using heap_alloc_new (V.alloc (.cells #[] 3)) _
      have hGw : U.heap[gw]? = some (.cells #[.int .i64 0, .slice none 0 0] 28 (0, 0)) := by
        rw [hU, Below.heap_alloc _ _ _ (by simp; omega), Below.heap_alloc _ _ _ (by omega)]; exact HG0.out
      have hOw : U.ownsRow (gw + 1) 3 1 (.slice (some ⟨gw + 1, 0, none⟩) ([] : List Int).length 0) ([] : List Int).length (([] : List Int).map (.int .i64)) := by
        rw [hU]
        have := World.ownsRow_lit (e := 3) (size := 1) (base := gw + 1) V #[] 0 (by omega) (by simp [maxLen]) rfl
        rw [hsv] at this
        exact this.alloc _
      rw [← hU, ← hgm]
      have HGm := Lib.hid hGm
      have HGw := Lib.hid hGw
      have HOw := Lib.hid hOw
      have HBU := Lib.hid hbU
      have hgmw : gw < gm := by omega
      have hgmw1 : ¬ gw + 1 = gm := by omega
      clear hU hgm hsv hbU hGm hGw hOw hs0 d0 wB h15'
      go_wp2
      go_loopw [5] (fun i wr => ∃ (k ga cap : Nat), k ≤ 56 ∧ i = .int .i64 (k : Nat) ∧ wr.heap[gm]? = some (.cells #[.int .i64 B, .slice (some ⟨ga, 0, none⟩) (bitK bs k).length cap] 28 (0, 0)) ∧ wr.ownsRow (gw + 1) 3 1 (.slice (some ⟨ga, 0, none⟩) (bitK bs k).length cap) (bitK bs k).length ((bitK bs k).map (.int .i64)) ∧ ¬ ga = gm ∧ wr.heap[gw]? = some (.cells #[.int .i64 0, .slice none 0 0] 28 (0, 0)) ∧ Below w.heap.size w wr) (fun i _ => 56 - (intOf i).toNat)
      case atStart => exact ⟨0, gw + 1, 0, Nat.zero_le _, rfl, HGm.out, HOw.out, hgmw1, HGw.out, HBU.out⟩
      case round =>
        obtain ⟨k, ga, cap, hk, rfl, hgm, ho, hga, hgw, hb⟩ := hrel
        have hlk := bitK_len bs k
        obtain ⟨X, hX⟩ : ∃ X, X = bitK bs k := ⟨_, rfl⟩
        rw [← hX] at hgm ho hlk
        have HX := Lib.hid hX
        have HO := Lib.hid ho
        have HGa := Lib.hid hga
        have HGm5 := Lib.hid hgm
        have HGw5 := Lib.hid hgw
        have HB5 := Lib.hid hb
        have hgs : gm < wr.heap.size := (Array.getElem?_eq_some_iff.mp hgm).1
        by_cases hkl : k < 56
        · obtain ⟨d, hd⟩ : ∃ d, d = k / 8 := ⟨_, rfl⟩
          obtain ⟨m, hm⟩ : ∃ m, m = k % 8 := ⟨_, rfl⟩
          have td : Int.tdiv (k : Int) 8 = (d : Int) := by rw [hd, Int.tdiv_eq_ediv_of_nonneg (by omega)]; omega
          have tm : Int.tmod (k : Int) 8 = (m : Int) := by rw [hm, Int.tmod_eq_emod_of_nonneg (by omega)]; omega
          have hd7 : 1 + d < 8 := by omega
          have hm7 : m < 8 := by omega
          have f1 := (hb.cell (p := ⟨b, off + (1 + d), none⟩) HLT.out).trans (HC.out (1 + d) (by rw [← HNL.out]; omega))
          have hb1 := byte_of HZ.out (j := 1 + d) (by rw [← HNL.out]; omega)
          obtain ⟨Z, hZ⟩ : ∃ x, x = bs.getD (1 + d) 0 := ⟨_, rfl⟩
          rw [← hZ] at f1 hb1
          obtain ⟨Q, rfl⟩ : ∃ Q : Nat, Z = Q := ⟨Z.toNat, by omega⟩
          have hbit := bit_nat Q m (by omega)
          have hbc : bitC bs k = Q.testBit m := by rw [bitC, ← hd, ← hm, ← hZ, Int.toNat_natCast]
          have hnx : bitK bs (k + 1) = if Q.testBit m = true then X ++ [((k + 1 : Nat) : Int)] else X := by rw [bitK, hbc, ← HX.out]
          have HNX := Lib.hid hnx
          have hi8 : (1 : Int) + (d : Int) < 8 := by omega
          have htn : ((1 : Int) + (d : Int)).toNat = 1 + d := by omega
          have wQ : IntKind.i64.wrap (Q : Int) = Q := IntWalk.i64_in _ ⟨by omega, by omega⟩
          have hk56 : (k : Int) < 56 := by omega
          clear hd hm hX ho hga hgm hgw hb hZ hnx hbc
          by_cases hq : Q.testBit m = true
          · rw [if_pos hq] at hbit
            have hyes := HNX.out
            rw [if_pos hq] at hyes
            have HY := Lib.hid hyes
            obtain ⟨m1, p1⟩ := cells_of_heap HGm5.out 1 (by simp)
            have c63 : X.length + 1 ≤ maxLen := by unfold maxLen; omega
            have c47 : (X.length + 1) * 8 ≤ 140737488355328 := by omega
            have hsz1 : gw + 1 ≤ wr.heap.size + 1 := by omega
            clear hyes
            go_wp2_with (at_builtin; refine wpList_append_lies _ rfl _ _ 26 rfl (gw + 1) 3 i0 (.int .i64 0) 1 8 Try.underlying26 hi hz0 hz1 hz2 rfl (by decide) (.slice (some ⟨ga, 0, none⟩) X.length cap) X.length (X.map (.int .i64)) rfl (HO.out.alloc _) ⟨wr.heap.size, 0, none⟩ 1 1 [.int .i64 ((k : Int) + 1)] rfl rfl (World.news_of_block (cs := #[.int .i64 ((k : Int) + 1)]) (t := 3) (fr := (0, 0)) (heap_alloc_new wr _)) (by simp [Value.oneCell']) (by decide) c63 c47 (by simp; omega) (wr.heap.size + 1) (by simp) ?_)
            intro g2 cap2 w4 hown2 hgrow2 hat2 hlt4
            obtain ⟨o14, p14, hg7, ho7, hgg, hw7, hb7⟩ := app_box HGm5.out HO.out HGa.out HGw5.out hgmw HB5.out hle hown2 hgrow2 hat2
            have HG7 := Lib.hid hg7
            have HO7 := Lib.hid ho7
            have HGG := Lib.hid hgg
            have HW7 := Lib.hid hw7
            have HB7 := Lib.hid hb7
            clear hg7 ho7 hgg hw7 hb7 hown2 hgrow2 hat2 hlt4 c63 c47 hsz1 m1 p1 f1
            go_wp2
            go_roundw
            case rel => exact ⟨k + 1, g2, cap2, by omega, by go_num, by rw [HY.out]; exact HG7.out, by rw [HY.out]; exact HO7.out, HGG.out, HW7.out, HB7.out⟩
            case measure => simp [intOf]; omega
          · rw [if_neg hq] at hbit
            have hyes := HNX.out
            rw [if_neg hq] at hyes
            have HY := Lib.hid hyes
            clear hyes
            go_wp2
            go_roundw
            case rel => exact ⟨k + 1, ga, cap, by omega, by go_num, by rw [HY.out]; exact HGm5.out, by rw [HY.out]; exact HO.out, HGa.out, HGw5.out, HB5.out⟩
            case measure => simp [intOf]; omega
        · obtain rfl : k = 56 := by omega
          have HRx := Lib.hid (show r = ⟨B, X, true⟩ by rw [HRr.out, HX.out])
          have m0 := (cells_of_heap hgm 0 (by simp)).1
          have m1 := (cells_of_heap hgm 1 (by simp)).1
          obtain ⟨y0, q0⟩ := cells_of_heap hgw 0 (by simp)
          obtain ⟨y1, q1⟩ := cells_of_heap hgw 1 (by simp)
          clear hX ho hga hgm hgw hb
          go_wp2
          clear m0 m1 y0 q0 y1 q1
          obtain ⟨wf, hwf⟩ : ∃ x, x = putW (wr) (gw) 0 [.int .i64 B, .slice (some ⟨ga, 0, none⟩) X.length cap] := ⟨_, rfl⟩
          have kf := putW_all [.int .i64 B, .slice (some ⟨ga, 0, none⟩) X.length cap] HGw5.out rfl
          have bf := putW_below (b := gw) (by first | omega | simp) [.int .i64 B, .slice (some ⟨ga, 0, none⟩) X.length cap] 0 _ HB5.out
          have of := owns_putAt HO.out (y := gw) (fun q hq => by have := (HO.out.lt q hq).1; omega) 0 [.int .i64 B, .slice (some ⟨ga, 0, none⟩) X.length cap]
          rw [← hwf] at kf bf of
          have cf := hwf.symm
          simp only [putW, Nat.reduceAdd] at cf
          rw [cf]
          clear cf hwf
          have f0 := (cells_of_heap kf 0 (by simp)).1
          have f1 := (cells_of_heap kf 1 (by simp)).1
          simp only [List.getElem_toArray, List.getElem_cons_zero, List.getElem_cons_succ] at f0 f1
          refine bodyPost_ret (v := .tuple #[rpv B (.slice (some ⟨ga, 0, none⟩) X.length cap), .bool true]) (by simp [results, Try.results38, go_sem, f0, f1]) rfl (by rw [HRx.out]; exact ⟨_, rfl, by rw [← HGW.out]; exact owns_base of (Nat.le_succ _), bf⟩)
    · have h15' : (15 : Int) < B := by omega
      have HRr := Lib.hid (show r = ⟨0, [], false⟩ by rw [HR2.out, if_neg h15])
      go_wp2
      clear y0 q0 y1 q1
      obtain ⟨wf, hwf⟩ : ∃ x, x = putW (V) (gw) 0 [.int .i64 0, .slice none 0 0] := ⟨_, rfl⟩
      have kf := putW_all [.int .i64 0, .slice none 0 0] HG0.out rfl
      have bf := putW_below (b := gw) (by first | omega | simp) [.int .i64 0, .slice none 0 0] 0 _ HB0.out
      have of := HNil.out _ HB0.out HRr.out
      rw [← hwf] at kf bf of
      have cf := hwf.symm
      simp only [putW, Nat.reduceAdd] at cf
      rw [cf]
      clear cf hwf
      have f0 := (cells_of_heap kf 0 (by simp)).1
      have f1 := (cells_of_heap kf 1 (by simp)).1
      simp only [List.getElem_toArray, List.getElem_cons_zero, List.getElem_cons_succ] at f0 f1
      refine bodyPost_ret (v := .tuple #[rpv 0 (.slice none 0 0), .bool false]) (by simp [results, Try.results38, go_sem, f0, f1]) rfl of
  · have HRr := Lib.hid (show r = ⟨0, [], false⟩ by rw [HR.out, rdV, if_neg (fun e => h8 (by rw [HNL.out]; exact e.1))])
    have h8' : ¬ (n : Int) = 8 := by omega
    clear hgw
    go_enter Try.func38, Try.ntmps38
    go_upto_region 1 with (fail)
    rw [← HV.out, ← HGW.out]
    go_wp2
    clear y0 q0 y1 q1
    obtain ⟨wf, hwf⟩ : ∃ x, x = putW (V) (gw) 0 [.int .i64 0, .slice none 0 0] := ⟨_, rfl⟩
    have kf := putW_all [.int .i64 0, .slice none 0 0] HG0.out rfl
    have bf := putW_below (b := gw) (by first | omega | simp) [.int .i64 0, .slice none 0 0] 0 _ HB0.out
    have of := HNil.out _ HB0.out HRr.out
    rw [← hwf] at kf bf of
    have cf := hwf.symm
    simp only [putW, Nat.reduceAdd] at cf
    rw [cf]
    clear cf hwf
    have f0 := (cells_of_heap kf 0 (by simp)).1
    have f1 := (cells_of_heap kf 1 (by simp)).1
    simp only [List.getElem_toArray, List.getElem_cons_zero, List.getElem_cons_succ] at f0 f1
    refine bodyPost_ret (v := .tuple #[rpv 0 (.slice none 0 0), .bool false]) (by simp [results, Try.results38, go_sem, f0, f1]) rfl of
end Go.Proofs.Ytghijkpcmamebaa

namespace Go.Proofs.Ytghijkpcmamebaa
open Go.RowKit

theorem wraps8 (n : Int) (h₀ : 0 ≤ n) (h₁ : n < 2 ^ 8) : IntKind.u8.wrap n = n := by rw [IntKind.wrap_u8]; omega
theorem or_nat8 (a b : Nat) (ha : a < 2 ^ 8) (hb : b < 2 ^ 8) : bits .or .u8 (a : Int) (b : Int) = ((a ||| b : Nat) : Int) := (bits_nat .u8 8 (by decide) wraps8 a b ha hb).2
theorem biN_len (r : Int) (zs : List Int) : ∀ j, (biN r zs j).length = 8
  | 0 => rfl
  | j + 1 => by rw [biN]; simp only [List.length_set]; exact biN_len r zs j
theorem biN_byte {r : Int} {zs : List Int} (h : okRp r zs = true) : ∀ j, j ≤ zs.length → ∀ i, i < 8 → 0 ≤ (biN r zs j).getD i 0 ∧ (biN r zs j).getD i 0 < 256
  | 0, _, i, hi => by
    have hr := (okRp_at h).1
    have : i = 0 ∨ i = 1 ∨ i = 2 ∨ i = 3 ∨ i = 4 ∨ i = 5 ∨ i = 6 ∨ i = 7 := by omega
    rcases this with rfl | rfl | rfl | rfl | rfl | rfl | rfl | rfl <;> simp [biN] <;> omega
  | j + 1, hj, i, hi => by
    have ih := biN_byte h j (by omega)
    have hl := biN_len r zs j
    obtain ⟨k, hk⟩ : ∃ k, k = (zs.getD j 0).toNat - 1 := ⟨_, rfl⟩
    have hbi : biN r zs (j + 1) = (biN r zs j).set (1 + k / 8) ((((biN r zs j).getD (1 + k / 8) 0).toNat ||| 2 ^ (k % 8) : Nat) : Int) := by rw [hk]; rfl
    rw [hbi, List.getD_eq_getElem?_getD, List.getElem?_set]
    by_cases e : 1 + k / 8 = i
    · rw [if_pos e]
      by_cases e2 : 1 + k / 8 < (biN r zs j).length
      · rw [if_pos e2]
        have h1 := ih (1 + k / 8) (by omega)
        have h2 : 2 ^ (k % 8) < 2 ^ 8 := Nat.pow_lt_pow_right (by omega) (Nat.mod_lt _ (by omega))
        have h3 := Nat.or_lt_two_pow (n := 8) (x := ((biN r zs j).getD (1 + k / 8) 0).toNat) (by omega) h2
        simp only [Option.getD_some]
        omega
      · rw [if_neg e2]; simp
    · rw [if_neg e, ← List.getD_eq_getElem?_getD]; exact ih i hi

set_option maxRecDepth 100000 in
set_option maxHeartbeats 8000000 in
theorem specBitBytes_any (r : Int) (u : Value) (zs : List Int) (w : World) (hl : zs.length ≤ maxLen) (h : Rd w u (zs.map (.int .i64))) :
    Calls Try.prog 33 #[rpv r u] w fun e w' => ∃ x, e = .returned x ∧ w'.ownsRow w.heap.size 5 1 x (biV r zs).length ((biV r zs).map (.int .u8)) ∧ Below w.heap.size w w' := by
  obtain ⟨i8, hi, hz0, hz1, hz2⟩ := info_parts info_u8
  obtain ⟨R, hR⟩ : ∃ R, R = okRp r zs := ⟨_, rfl⟩
  obtain ⟨X, hX⟩ : ∃ X, X = biV r zs := ⟨_, rfl⟩
  rw [← hX]
  obtain ⟨a, cap, rfl⟩ := ints_shape h
  obtain ⟨n, hnl⟩ : ∃ n, n = zs.length := ⟨_, rfl⟩
  have HNL := Lib.hid hnl
  have HR := Lib.hid hR
  have HX := Lib.hid hX
  have HL := Lib.hid hl
  have H := Lib.hid h
  have hnm : n ≤ maxLen := by rw [hnl]; exact hl
  unfold maxLen at hnm
  rw [← hnl]
  clear hR hX hl h hnl
  obtain ⟨W, hW⟩ : ∃ W, W = w.alloc (.cells #[.int .i64 r, .slice a n cap] 28) := ⟨_, rfl⟩
  have HX0 := Lib.hid (show Bxd W w.heap.size [.int .i64 r, .slice a n cap] by rw [hW]; exact Bxd.new _ _ _)
  have HB0 := Lib.hid (show Below w.heap.size w W by rw [hW]; exact (Below.refl _ _).alloc (Nat.le_refl _) _)
  have HS0 := Lib.hid (show w.heap.size < W.heap.size by rw [hW]; simp)
  have HW := Lib.hid hW
  clear hW
  go_enter Try.func33, Try.ntmps33
  go_wp2_with fail
  rw [← HW.out]
  have c0 := HX0.out.at 0 _ rfl
  have c1 := HX0.out.at 1 _ rfl
  refine (specIsReport_q r _ zs R HR.out _ HL.out (by rw [HNL.out]; have := H.out.below HB0.out; rw [← HNL.out] at this ⊢; exact this)).mono ?_
  rintro e w1 ⟨rfl, hb⟩
  have HB1 := Lib.hid (show Below W.heap.size W w1 from hb)
  clear hb c0 c1
  cases R
  · obtain rfl : X = [] := by rw [HX.out, biV, if_neg (by rw [← HR.out]; decide)]
    go_wp2
    go_ret
    exact ⟨_, rfl, World.ownsRow_lit (e := 5) (size := 1) w1 #[] 0 (Nat.le_trans HB0.out.size HB1.out.size) (by simp [maxLen]) rfl, (HB0.out.trans (HB1.out.mono HB0.out.size)).alloc (Nat.le_trans HB0.out.size HB1.out.size) _⟩
  · obtain ⟨⟨r0, r15⟩, hz⟩ := okRp_at HR.out.symm
    have HZ := Lib.hid hz
    have u0 : IntKind.u8.wrap r = r := by rw [IntKind.wrap_u8]; omega
    have HXX := Lib.hid (show biN r zs n = X by rw [HX.out, biV, if_pos HR.out.symm, HNL.out])
    clear hz
    go_wp2_with (at_make; refine wpList_make_full w1 rfl _ _ 22 rfl W.heap.size 5 i8 (.int .u8 0) 1 Try.underlying22 hi hz0 hz1 .i64 .i64 8 8 8 rfl rfl rfl rfl (by rw [hz2]; omega) ?_ ?_ ?_)
    · simp [maxLen]
    · exact HB1.out.size
    · intro w2 hown hg
      obtain ⟨g, hgv⟩ : ∃ g, g = w1.heap.size := ⟨_, rfl⟩
      rw [← hgv] at hown ⊢
      have hB2 : Below W.heap.size W w2 := HB1.out.grown hg HB1.out.size (fun k hk => by cases hk)
      have hmc : (madeCells #[Value.int .u8 0] 8).toList = [.int .u8 0, .int .u8 0, .int .u8 0, .int .u8 0, .int .u8 0, .int .u8 0, .int .u8 0, .int .u8 0] := by kernel_rfl
      rw [hmc] at hown
      have HO2 := Lib.hid (show w2.ownsRow W.heap.size 5 1 (.slice (some ⟨g, 0, none⟩) 8 8) 8 ([.int .u8 0, .int .u8 0, .int .u8 0, .int .u8 0, .int .u8 0, .int .u8 0, .int .u8 0, .int .u8 0]) from hown)
      have HB2 := Lib.hid hB2
      have c0 := (HX0.out.below hB2 HS0.out).at 0 _ rfl
      have s0 := HO2.out.cellAt 0 (by omega)
      have z0 := HO2.out.frozenAt 0
      have HO3 := Lib.hid (show (w2.setCell ⟨g, 0, none⟩ (.int .u8 r)).ownsRow W.heap.size 5 1 (.slice (some ⟨g, 0, none⟩) 8 8) 8 ((biN r zs 0).map (.int .u8)) from (HO2.out.stored 0 (.int .u8 r)).1)
      have hgB : W.heap.size ≤ g := (HO2.out.lt g rfl).1
      have HB3 := Lib.hid (show Below W.heap.size W (w2.setCell ⟨g, 0, none⟩ (.int .u8 r)) from hB2.setCell hgB _)
      simp only [List.getElem?_cons_zero] at s0
      clear hmc hown hg hB2 hgv
      go_upto_region 5 with (fail)
      obtain ⟨w3, hw3⟩ : ∃ w3, w3 = w2.setCell ⟨g, 0, none⟩ (.int .u8 r) := ⟨_, rfl⟩
      have HW3 := Lib.hid hw3
      rw [← HW3.out]
      have HO4 := Lib.hid (show w3.ownsRow W.heap.size 5 1 (.slice (some ⟨g, 0, none⟩) 8 8) 8 ((biN r zs 0).map (.int .u8)) by rw [HW3.out]; exact HO3.out)
      have HB4 := Lib.hid (show Below W.heap.size W w3 by rw [HW3.out]; exact HB3.out)
      clear hw3 s0 z0 c0 u0
      go_wp2
      go_loopw [4, 5] (fun i _ wr => ∃ j : Nat, j ≤ n ∧ i = .int .i64 j ∧ wr.ownsRow W.heap.size 5 1 (.slice (some ⟨g, 0, none⟩) 8 8) 8 ((biN r zs j).map (.int .u8)) ∧ Below W.heap.size W wr) (fun i _ _ => n - (intOf i).toNat)
      case atStart => exact ⟨0, Nat.zero_le _, rfl, HO4.out, HB4.out⟩
      case round =>
        obtain ⟨j, hj, rfl, ho, hb⟩ := hrel
        have HO := Lib.hid ho
        have HB := Lib.hid hb
        have c1 := (HX0.out.below hb HS0.out).at 1 _ rfl
        by_cases hlt' : j < n
        · obtain ⟨b, off, rfl, hlt, d0⟩ := ints_at H.out (j := j) (by rw [← HNL.out]; exact hlt')
          have d1 := ((HB0.out.trans (hb.mono HB0.out.size)).cell (p := ⟨b, off + j, none⟩) hlt).trans d0
          have hx2 := HZ.out j (by rw [← HNL.out]; exact hlt')
          have hnx : biN r zs (j + 1) = (biN r zs j).set (1 + ((zs.getD j 0).toNat - 1) / 8) ((((biN r zs j).getD (1 + ((zs.getD j 0).toNat - 1) / 8) 0).toNat ||| 2 ^ (((zs.getD j 0).toNat - 1) % 8) : Nat) : Int) := rfl
          obtain ⟨x, hx⟩ : ∃ x, x = zs.getD j 0 := ⟨_, rfl⟩
          rw [← hx] at d1 hx2 hnx
          obtain ⟨k, rfl⟩ : ∃ k : Nat, x = (k : Int) + 1 := ⟨x.toNat - 1, by omega⟩
          rw [show ((k : Int) + 1).toNat - 1 = k by omega] at hnx
          obtain ⟨d, hd⟩ : ∃ d, d = k / 8 := ⟨_, rfl⟩
          obtain ⟨m, hm⟩ : ∃ m, m = k % 8 := ⟨_, rfl⟩
          rw [← hd, ← hm] at hnx
          have td : Int.tdiv (k : Int) 8 = (d : Int) := by rw [hd, Int.tdiv_eq_ediv_of_nonneg (by omega)]; omega
          have tm : Int.tmod (k : Int) 8 = (m : Int) := by rw [hm, Int.tmod_eq_emod_of_nonneg (by omega)]; omega
          have hd7 : 1 + d < 8 := by omega
          have hm7 : m < 8 := by omega
          have hby := biN_byte HR.out.symm j (by rw [← HNL.out]; exact hj) (1 + d) hd7
          have hlen := biN_len r zs j
          obtain ⟨C, hC⟩ : ∃ C, C = (biN r zs j).getD (1 + d) 0 := ⟨_, rfl⟩
          have s0 : wr.cell? ⟨g, 1 + d, none⟩ = some (.int .u8 C) := by
            rw [ho.cellAt (1 + d) (by omega), List.getElem?_map, List.getElem?_eq_getElem (by omega), hC, List.getD_eq_getElem?_getD, List.getElem?_eq_getElem (by omega)]
            rfl
          have z0 := ho.frozenAt (1 + d)
          rw [← hC] at hby hnx
          obtain ⟨Q, rfl⟩ : ∃ Q : Nat, C = Q := ⟨C.toNat, by omega⟩
          rw [Int.toNat_natCast] at hnx
          have hp8 : 2 ^ m < 2 ^ 8 := Nat.pow_lt_pow_right (by omega) hm7
          have hor := or_nat8 Q (2 ^ m) (by omega) hp8
          have hpe : ((2 ^ m : Nat) : Int) = (2 : Int) ^ m := by rw [Int.natCast_pow]; rfl
          have hsh : IntKind.u8.wrap ((2 : Int) ^ m) = 2 ^ m := by rw [← hpe, IntKind.wrap_u8]; generalize (2 ^ m : Nat) = P at hp8 ⊢; omega
          rw [hpe] at hor
          have HNX := Lib.hid hnx
          have HSet := Lib.hid (show (wr.setCell ⟨g, 1 + d, none⟩ (.int .u8 ((Q ||| 2 ^ m : Nat) : Int))).ownsRow W.heap.size 5 1 (.slice (some ⟨g, 0, none⟩) 8 8) 8 ((biN r zs (j + 1)).map (.int .u8)) by
            rw [hnx, List.map_set]; exact (HO.out.stored (1 + d) _).1)
          have hi8 : (1 : Int) + (d : Int) < 8 := by omega
          have htn : ((1 : Int) + (d : Int)).toNat = 1 + d := by omega
          have wk : IntKind.i64.wrap (k : Int) = k := IntWalk.i64_in _ ⟨by omega, by omega⟩
          have wd : IntKind.i64.wrap (d : Int) = d := IntWalk.i64_in _ ⟨by omega, by omega⟩
          have wd1 : IntKind.i64.wrap (1 + (d : Int)) = 1 + (d : Int) := IntWalk.i64_in _ ⟨by omega, by omega⟩
          have wm : IntKind.i64.wrap (m : Int) = m := IntWalk.i64_in _ ⟨by omega, by omega⟩
          clear hx d0 hd hm hC hnx hpe hby hlen ho hb hp8
          go_upto_region 9 with (fail)
          go_region
          all_goals
            go_wp2
            go_roundw
            case rel => exact ⟨j + 1, by omega, by go_num, (OwF.mk' HSet.out).1 |> fun h => owns_below h (Below.refl _ _).drew, (HB.out.setCell hgB _).drew⟩
            case measure => simp [intOf]; omega
        · obtain rfl : j = n := by omega
          have HLen := Lib.hid (show X.length = 8 by rw [← HXX.out]; exact biN_len r zs _)
          clear ho hb
          go_wp2
          go_ret
          exact ⟨_, rfl, by rw [HLen.out, ← HXX.out]; exact owns_base HO.out HB0.out.size, HB0.out.trans (HB.out.mono HB0.out.size)⟩

end Go.Proofs.Ytghijkpcmamebaa
