/- DERIVED. The program's bitOf, ReadBits and BitBytes: the report whose bits are bytes, and a report's bits. -/
import Derived.Test.YtghijkpcmamebaaRpImpl
import Derived.Test.YtghijkpcmamebaaRpImpl2
import Derived.Deep.RegionHeld3
import Derived.Deep.RegionLaw
import Derived.Deep.MidRow
namespace Go.Proofs.Ytghijkpcmamebaa
open Go.RowKit

set_option maxRecDepth 100000 in
theorem bitOf_q (k d m : Nat) (hd : d = k / 8) (hm : m = k % 8) (hk : k < 1000) (w : World) : Calls Try.prog 59 #[.int .i64 ((k : Int) + 1)] w fun e w' => e = .returned (.tuple #[.int .i64 (1 + (d : Int)), .int .i64 (m : Int)]) ∧ w = w' := by
  have td : Int.tdiv (k : Int) 8 = (d : Int) := by rw [hd, Int.tdiv_eq_ediv_of_nonneg (by omega)]; omega
  have tm : Int.tmod (k : Int) 8 = (m : Int) := by rw [hm, Int.tmod_eq_emod_of_nonneg (by omega)]; omega
  have hd2 : d < 1000 := by omega
  have hm2 : m < 8 := by omega
  have e1 : (k : Int) + 1 - 1 = (k : Int) := by omega
  clear hd hm
  go_enter Try.func59, Try.ntmps59
  go_wp2
  go_ret2
  exact ⟨rfl, rfl⟩

theorem ascending_list (P : Nat → Bool) (R : List Int) (cs : List Value) (hR : ascN P 56 = R) (hs : cs.length = 57) (hP : ∀ j, j < 57 → cs[j]? = some (.bool (P j))) (w : World) : Calls Try.prog 43 #[.agg cs.toArray] w (CodesO R w) := by
  rw [← hR]
  exact ascending_any P _ (by simpa using hs) (fun j hj => by simpa using hP j hj) w

theorem set2_block (w : World) (g b : Nat) (x y : Value) (h : ¬ b = g) : ((w.setCell ⟨g, 0, none⟩ x).setCell ⟨g, 1, none⟩ y).heap[b]? = w.heap[b]? := by
  rw [heap_setCell_other _ _ _ _ h, heap_setCell_other _ _ _ _ h]
theorem bitC_nat {b : List Int} {k d m Q : Nat} (hd : d = k / 8) (hm : m = k % 8) (hQ : b.getD (1 + d) 0 = (Q : Int)) : bitC b k = Q.testBit m := by
  rw [bitC, ← hd, ← hm, hQ, Int.toNat_natCast]

set_option maxRecDepth 100000 in
set_option maxHeartbeats 8000000 in
theorem implReadBits_any (v : Value) (bs : List Int) (w : World) (hl : bs.length ≤ maxLen) (hz : ∀ z ∈ bs, 0 ≤ z ∧ z < 256) (h : Rd w v (bs.map (.int .u8))) :
    Calls Try.prog 40 #[v] w (RpTO (rdV bs) w) := by
  obtain ⟨r, hr⟩ : ∃ r, r = rdV bs := ⟨_, rfl⟩
  rw [← hr]
  obtain ⟨xa, xc, hv⟩ : ∃ a cap, v = .slice a bs.length cap := by
    obtain ⟨a, cap, hu, _⟩ := h
    exact ⟨a, cap, by simpa using hu⟩
  subst hv
  obtain ⟨n, hnl⟩ : ∃ n, n = bs.length := ⟨_, rfl⟩
  have HNL := Lib.hid hnl
  have HR := Lib.hid hr
  have H := Lib.hid h
  have HZ := Lib.hid hz
  have hnr : n ≤ maxLen := by rw [hnl]; exact hl
  unfold maxLen at hnr
  rw [← hnl]
  clear hr h hl hz hnl
  obtain ⟨gw, hgw⟩ : ∃ g, g = w.heap.size := ⟨_, rfl⟩
  obtain ⟨V, hV⟩ : ∃ V, V = w.alloc (.cells #[.int .i64 0, .slice none 0 0] 28) := ⟨_, rfl⟩
  have HG0 := Lib.hid (show V.heap[gw]? = some (.cells #[.int .i64 0, .slice none 0 0] 28 (0, 0)) by rw [hV, hgw]; exact heap_alloc_new w _)
  have HB0 := Lib.hid (show Below gw w V by rw [hV, hgw]; exact (Below.refl _ _).alloc (Nat.le_refl _) _)
  have hs0 : V.heap.size = gw + 1 := by rw [hV, hgw]; simp
  have HS0 := Lib.hid hs0
  have HV := Lib.hid hV
  have HGW := Lib.hid hgw
  have HNil := Lib.hid (show ∀ wx, Below gw w wx → r = ⟨0, [], false⟩ → RpTO r w (.returned (.tuple #[rpv 0 (.slice none 0 0), .bool false])) (putW wx gw 0 [.int .i64 0, .slice none 0 0]) from fun wx hx h => by
    rw [h]
    exact ⟨none, 0, [], rfl, OwC.rowNil, by rw [← hgw]; exact putW_below (Nat.le_refl _) _ _ _ hx⟩)
  clear hV hs0
  obtain ⟨y0, q0⟩ := cells_of_heap HG0.out 0 (by simp)
  obtain ⟨y1, q1⟩ := cells_of_heap HG0.out 1 (by simp)
  by_cases h8 : n = 8
  · subst h8
    obtain ⟨b, off, rfl, hlt, hc⟩ := bytes_at H.out (j := 0) (by rw [← HNL.out]; omega)
    have HC := Lib.hid hc
    have hlt2 : b < gw := by rw [hgw]; exact hlt
    have HLT := Lib.hid hlt2
    have d0 := (HB0.out.cell (p := ⟨b, off, none⟩) hlt2).trans (hc 0 (by rw [← HNL.out]; omega))
    have hb0 := byte_of HZ.out (j := 0) (by rw [← HNL.out]; omega)
    obtain ⟨B, hB⟩ : ∃ x, x = bs.getD 0 0 := ⟨_, rfl⟩
    rw [← hB] at d0 hb0
    have wB : IntKind.i64.wrap B = B := IntWalk.i64_in _ ⟨by omega, by omega⟩
    have HB2 := Lib.hid (show r = if B ≤ 15 then ⟨B, bitK bs 56, true⟩ else ⟨0, [], false⟩ by
      rw [HR.out, rdV, ← hB, ← HNL.out]
      by_cases h15 : B ≤ 15 <;> simp [h15])
    have HCB := Lib.hid (show w.cell? ⟨b, off, none⟩ = some (.int .u8 B) by rw [hB]; exact hc 0 (by rw [← HNL.out]; omega))
    clear hc hB hlt hgw
    go_enter Try.func40, Try.ntmps40
    go_upto_region 1 with (fail)
    rw [← HV.out, ← HGW.out]
    by_cases h15 : B ≤ 15
    · have h15' : ¬ (15 : Int) < B := by omega
      have HRr := Lib.hid (show r = ⟨B, bitK bs 56, true⟩ by rw [HB2.out, if_pos h15])
      clear y0 y1 q0 q1
      go_upto_region 4 with (fail)
      rw [none57]
      obtain ⟨gp, hgp⟩ : ∃ x, x = V.heap.size := ⟨_, rfl⟩
      obtain ⟨U, hU⟩ : ∃ x, x = V.alloc (.cells (Array.replicate 57 (.bool false)) 62) := ⟨_, rfl⟩
      have hgp1 : gp = gw + 1 := by rw [hgp, HS0.out]
      have HP0 := Lib.hid (show SetH U gp (fun c => decide (1 ≤ c ∧ c ≤ 0) && bitC bs (c - 1)) by
        rw [hU, hgp]
        exact ⟨_, heap_alloc_new V _, by simp, fun j hj => by
          show (Array.replicate 57 (Value.bool false))[j]? = some (.bool (decide (1 ≤ j ∧ j ≤ 0) && bitC bs (j - 1)))
          rw [decide_eq_false (show ¬ (1 ≤ j ∧ j ≤ 0) by omega), Bool.false_and]
          simp [hj]⟩)
      have HGU := Lib.hid (show U.heap[gw]? = some (.cells #[.int .i64 0, .slice none 0 0] 28 (0, 0)) by rw [hU, heap_alloc_old V _ (by rw [HS0.out]; omega)]; exact HG0.out)
      have HBU := Lib.hid (show Below gw w U by rw [hU]; exact HB0.out.alloc (by rw [HS0.out]; omega) _)
      rw [← hU, ← hgp]
      have hgn : ¬ gw = gp := by omega
      have hle : gw ≤ gp := by omega
      clear hU hgp hgp1 d0
      go_wp2
      go_loopw [5, 6, 7] (fun c _ _ wr => ∃ k : Nat, k ≤ 56 ∧ c = .int .i64 ((k : Int) + 1) ∧ SetH wr gp (fun c => decide (1 ≤ c ∧ c ≤ k) && bitC bs (c - 1)) ∧ wr.heap[gw]? = some (.cells #[.int .i64 0, .slice none 0 0] 28 (0, 0)) ∧ Below gw w wr) (fun c _ _ _ => 57 - (intOf c).toNat)
      case atStart => exact ⟨0, by omega, rfl, HP0.out, HGU.out, HBU.out⟩
      case round =>
        obtain ⟨k, hk, rfl, hp, hg, hb⟩ := hrel
        have HP := Lib.hid hp
        have HG := Lib.hid hg
        have HB := Lib.hid hb
        by_cases hkl : k < 56
        · obtain ⟨d, hd⟩ : ∃ d, d = k / 8 := ⟨_, rfl⟩
          obtain ⟨m, hm⟩ : ∃ m, m = k % 8 := ⟨_, rfl⟩
          have hd7 : 1 + d < 8 := by omega
          have hm7 : m < 8 := by omega
          have f1 := (hb.cell (p := ⟨b, off + (1 + d), none⟩) HLT.out).trans (HC.out (1 + d) (by rw [← HNL.out]; omega))
          have hb1 := byte_of HZ.out (j := 1 + d) (by rw [← HNL.out]; omega)
          obtain ⟨Z, hZ⟩ : ∃ x, x = bs.getD (1 + d) 0 := ⟨_, rfl⟩
          rw [← hZ] at f1 hb1
          obtain ⟨Q, rfl⟩ : ∃ Q : Nat, Z = Q := ⟨Z.toNat, by omega⟩
          have hbit := bitC_nat hd hm hZ.symm
          obtain ⟨x, hx⟩ : ∃ x, x = Q.testBit m := ⟨_, rfl⟩
          rw [← hx] at hbit
          have HX := Lib.hid hx
          have HD := Lib.hid hd
          have HM := Lib.hid hm
          obtain ⟨s0, s1⟩ := hp.cell (j := k + 1) (by omega)
          have HP2 := Lib.hid (show SetH (wr.setCell ⟨gp, k + 1, none⟩ (.bool x)) gp (fun c => decide (1 ≤ c ∧ c ≤ k + 1) && bitC bs (c - 1)) from (hp.set (j := k + 1) x).congr (fun c _ => by
            by_cases hc : c = k + 1
            · subst hc
              rw [if_pos rfl, decide_eq_true (by omega), Bool.true_and]
              exact hbit.symm
            · rw [if_neg hc]
              have : (decide (1 ≤ c ∧ c ≤ k)) = decide (1 ≤ c ∧ c ≤ k + 1) := by rw [Bool.eq_iff_iff, decide_eq_true_iff, decide_eq_true_iff]; omega
              rw [this]))
          have HG2 := Lib.hid (show (wr.setCell ⟨gp, k + 1, none⟩ (.bool x)).heap[gw]? = some (.cells #[.int .i64 0, .slice none 0 0] 28 (0, 0)) by rw [heap_setCell_other wr _ _ _ hgn]; exact hg)
          have HB2 := Lib.hid (show Below gw w (wr.setCell ⟨gp, k + 1, none⟩ (.bool x)) from hb.setCell hle _)
          have hi8 : (1 : Int) + (d : Int) < 8 := by omega
          have hi0 : (0 : Int) ≤ 1 + (d : Int) := by omega
          have htn : ((1 : Int) + (d : Int)).toNat = 1 + d := by omega
          have htk : ((k : Int) + 1).toNat = k + 1 := by omega
          have wQ : IntKind.i64.wrap (Q : Int) = Q := IntWalk.i64_in _ ⟨by omega, by omega⟩
          have hk56 : (k : Int) + 1 ≤ 56 := by omega
          have hk57 : (k : Int) + 1 < 57 := by omega
          clear hd hm hZ hbit hx hp hg hb
          go_wp2_with fail
          refine (bitOf_q k d m HD.out HM.out (by omega) _).mono ?_
          rintro e w2 ⟨rfl, rfl⟩
          go_wp2_with fail
          refine (hasKey_t Q m x HX.out _ (by omega) (by omega)).mono ?_
          rintro e w2 ⟨rfl, rfl⟩
          go_wp2
          go_roundw
          case rel => exact ⟨k + 1, by omega, by go_num, HP2.out, HG2.out, HB2.out⟩
          case measure => simp [intOf]; omega
        · obtain rfl : k = 56 := by omega
          obtain ⟨P, hP⟩ : ∃ P : Nat → Bool, P = fun c => decide (1 ≤ c ∧ c ≤ 56) && bitC bs (c - 1) := ⟨_, rfl⟩
          rw [← hP] at hp
          obtain ⟨CA, hh, hsz, hcs⟩ := hp
          obtain ⟨CS, hCS⟩ : ∃ l, l = CA.toList := ⟨_, rfl⟩
          have hlen : CS.length = 57 := by rw [hCS]; simpa using hsz
          have hat : ∀ j, j < 57 → CS[j]? = some (.bool (P j)) := fun j hj => by rw [hCS]; simpa using hcs j hj
          have hrange : ∀ wx : World, wx.heap[gp]? = wr.heap[gp]? → wx.rangeAt gp 0 CS := fun wx hx j v hv => by
            rw [Nat.zero_add, cell_of_row wx gp j _ _ _ (hx.trans hh)]
            rw [hCS] at hv; simpa using hv
          have hty := tySet
          have hin : (Try.prog.info? 62).map (·.size) = some CS.length := by rw [hlen]; exact iSet
          have hrg := hrange wr rfl
          have hgpl : gp < wr.heap.size := (Array.getElem?_eq_some_iff.mp hh).1
          have HRange := Lib.hid hrange
          have HLen := Lib.hid hlen
          have HAt := Lib.hid hat
          have HGP := Lib.hid hgpl
          have hK2 : ascN P 56 = bitK bs 56 := by
            rw [← ascN_bits bs 56, hP]
            exact ascN_congr 56 (fun j h1 h2 => by rw [decide_eq_true (by omega), Bool.true_and])
          obtain ⟨X, hX⟩ : ∃ X, X = bitK bs 56 := ⟨_, rfl⟩
          rw [← hX] at hK2
          have HK := Lib.hid hK2
          have HRx := Lib.hid (show r = ⟨B, X, true⟩ by rw [HRr.out, hX])
          have hgs : gw < wr.heap.size := (Array.getElem?_eq_some_iff.mp hg).1
          have HGS := Lib.hid hgs
          have d0 := (hb.cell (p := ⟨b, off, none⟩) HLT.out).trans HCB.out
          obtain ⟨y0, q0⟩ := cells_of_heap hg 0 (by simp)
          obtain ⟨y1, q1⟩ := cells_of_heap hg 1 (by simp)
          simp only [List.getElem_toArray, List.getElem_cons_zero, List.getElem_cons_succ] at y0 y1
          clear hP hg hb hgs hK2 hX HP hcs hsz hCS hlen hat hh hrange hgpl
          go_upto_region 9 with (fail)
          go_region_held3 (fun w' => w'.cell? ⟨b, off, none⟩ = some (.int .u8 B) ∧ w'.rangeAt gp 0 CS) (first | go_keep)
            (first | (go_at_call 43; refine (ascending_list P X CS HK.out HLen.out HAt.out _).mono ?_; rintro e w4 ⟨a, c, fp, rfl, ho, hb4⟩; have hc4 : Below wr.heap.size wr w4 := ((Below.refl _ _).drew).trans hb4; have HF4 := Lib.hid (show Below gw w w4 from HB.out.trans (hc4.mono (Nat.le_of_lt HGS.out))); have hy4 := (hc4.block gw HGS.out).trans HG.out; have HY4 := Lib.hid hy4; obtain ⟨k0, l0⟩ := cells_of_heap hy4 0 (by simp); obtain ⟨k1, l1⟩ := cells_of_heap hy4 1 (by simp); have i0 := (hc4.cell (p := ⟨b, off, none⟩) (Nat.lt_trans HLT.out HGS.out)).trans d0; have HO4 := Lib.hid ho; have HFP := Lib.hid (show gw ∉ fp from fun hm => Nat.lt_irrefl gw (Nat.lt_of_lt_of_le HGS.out (ho.rng gw hm).1)); have ir := HRange.out w4 (hc4.block gp HGP.out); have jr := HRange.out ((w4.setCell ⟨gw, 0, none⟩ (.int .i64 B)).setCell ⟨gw, 1, none⟩ (.slice a X.length c)) ((set2_block w4 gw gp _ _ (fun e => hgn e.symm)).trans (hc4.block gp HGP.out)); have j0 := (World.cell?_of_block (a := ⟨b, off, none⟩) (set2_block w4 gw b (.int .i64 B) (.slice a X.length c) (Nat.ne_of_lt HLT.out))).trans i0; clear hb4 hc4 hy4 ho))
          all_goals
            clear i0 ir jr j0 y0 q0 y1 q1 d0
            have HFn := Lib.hid (show RpTO r w (.returned (.tuple #[rpv B (.slice a X.length c), .bool true])) (putW w4 gw 0 [.int .i64 B, .slice a X.length c]) by
              rw [HRx.out]
              exact ⟨a, c, fp, rfl, by rw [← HGW.out]; exact OwC.putAt (OwC.base _ _ _ _ HO4.out (Nat.le_of_lt HGS.out)) _ HFP.out 0, by rw [← HGW.out]; exact putW_below (Nat.le_refl _) _ _ _ HF4.out⟩)
            obtain ⟨N, hN⟩ : ∃ N, N = X.length := ⟨_, rfl⟩
            rw [← hN] at HFn ⊢
            clear hN hrg hin hty
            go_wp2
            clear k0 l0 k1 l1
            obtain ⟨wf, hwf⟩ : ∃ x, x = putW (w4) (gw) 0 [.int .i64 B, .slice a N c] := ⟨_, rfl⟩
            have kf := putW_all [.int .i64 B, .slice a N c] HY4.out rfl
            have bf := putW_below (b := gw) (by first | omega | simp) [.int .i64 B, .slice a N c] 0 _ HF4.out
            have of := HFn.out
            rw [← hwf] at kf bf of
            have cf := hwf.symm
            simp only [putW, Nat.reduceAdd] at cf
            rw [cf]
            clear cf hwf
            have f0 := (cells_of_heap kf 0 (by simp)).1
            have f1 := (cells_of_heap kf 1 (by simp)).1
            simp only [List.getElem_toArray, List.getElem_cons_zero, List.getElem_cons_succ] at f0 f1
            refine bodyPost_ret (v := .tuple #[rpv B (.slice a N c), .bool true]) (by simp [results, Try.results40, go_sem, f0, f1]) rfl of
    · have h15' : (15 : Int) < B := by omega
      have HRr := Lib.hid (show r = ⟨0, [], false⟩ by rw [HB2.out, if_neg h15])
      go_wp2
      clear y0 q0 y1 q1
      obtain ⟨wf, hwf⟩ : ∃ x, x = putW (V) (gw) 0 [.int .i64 0, .slice none 0 0] := ⟨_, rfl⟩
      have kf := putW_all [.int .i64 0, .slice none 0 0] HG0.out rfl
      have bf := putW_below (b := gw) (by first | omega | simp) [.int .i64 0, .slice none 0 0] 0 _ HB0.out
      have of := HNil.out _ HB0.out HRr.out
      rw [← hwf] at kf bf of
      have cf := hwf.symm
      simp only [putW, Nat.reduceAdd] at cf
      rw [cf]
      clear cf hwf
      have f0 := (cells_of_heap kf 0 (by simp)).1
      have f1 := (cells_of_heap kf 1 (by simp)).1
      simp only [List.getElem_toArray, List.getElem_cons_zero, List.getElem_cons_succ] at f0 f1
      refine bodyPost_ret (v := .tuple #[rpv 0 (.slice none 0 0), .bool false]) (by simp [results, Try.results40, go_sem, f0, f1]) rfl of
  · have HRr := Lib.hid (show r = ⟨0, [], false⟩ by rw [HR.out, rdV, if_neg (fun e => h8 (by rw [HNL.out]; exact e.1))])
    have h8' : ¬ (n : Int) = 8 := by omega
    clear hgw
    go_enter Try.func40, Try.ntmps40
    go_upto_region 1 with (fail)
    rw [← HV.out, ← HGW.out]
    go_wp2
    clear y0 q0 y1 q1
    obtain ⟨wf, hwf⟩ : ∃ x, x = putW (V) (gw) 0 [.int .i64 0, .slice none 0 0] := ⟨_, rfl⟩
    have kf := putW_all [.int .i64 0, .slice none 0 0] HG0.out rfl
    have bf := putW_below (b := gw) (by first | omega | simp) [.int .i64 0, .slice none 0 0] 0 _ HB0.out
    have of := HNil.out _ HB0.out HRr.out
    rw [← hwf] at kf bf of
    have cf := hwf.symm
    simp only [putW, Nat.reduceAdd] at cf
    rw [cf]
    clear cf hwf
    have f0 := (cells_of_heap kf 0 (by simp)).1
    have f1 := (cells_of_heap kf 1 (by simp)).1
    simp only [List.getElem_toArray, List.getElem_cons_zero, List.getElem_cons_succ] at f0 f1
    refine bodyPost_ret (v := .tuple #[rpv 0 (.slice none 0 0), .bool false]) (by simp [results, Try.results40, go_sem, f0, f1]) rfl of

set_option maxRecDepth 100000 in
set_option maxHeartbeats 8000000 in
theorem implBitBytes_any (r : Int) (u : Value) (zs : List Int) (w : World) (hl : zs.length ≤ maxLen) (h : Rd w u (zs.map (.int .i64))) :
    Calls Try.prog 34 #[rpv r u] w fun e w' => ∃ x, e = .returned x ∧ w'.ownsRow w.heap.size 5 1 x (biV r zs).length ((biV r zs).map (.int .u8)) ∧ Below w.heap.size w w' := by
  obtain ⟨i8, hi, hz0, hz1, hz2⟩ := info_parts info_u8
  obtain ⟨R, hR⟩ : ∃ R, R = okRp r zs := ⟨_, rfl⟩
  obtain ⟨X, hX⟩ : ∃ X, X = biV r zs := ⟨_, rfl⟩
  rw [← hX]
  obtain ⟨a, cap, rfl⟩ := ints_shape h
  obtain ⟨n, hnl⟩ : ∃ n, n = zs.length := ⟨_, rfl⟩
  have HNL := Lib.hid hnl
  have HR := Lib.hid hR
  have HX := Lib.hid hX
  have HL := Lib.hid hl
  have H := Lib.hid h
  have hnm : n ≤ maxLen := by rw [hnl]; exact hl
  unfold maxLen at hnm
  rw [← hnl]
  clear hR hX hl h hnl
  obtain ⟨W, hW⟩ : ∃ W, W = w.alloc (.cells #[.int .i64 r, .slice a n cap] 28) := ⟨_, rfl⟩
  have HX0 := Lib.hid (show Bxd W w.heap.size [.int .i64 r, .slice a n cap] by rw [hW]; exact Bxd.new _ _ _)
  have HB0 := Lib.hid (show Below w.heap.size w W by rw [hW]; exact (Below.refl _ _).alloc (Nat.le_refl _) _)
  have HS0 := Lib.hid (show w.heap.size < W.heap.size by rw [hW]; simp)
  have HW := Lib.hid hW
  clear hW
  go_enter Try.func34, Try.ntmps34
  go_wp2_with fail
  rw [← HW.out]
  have c0 := HX0.out.at 0 _ rfl
  have c1 := HX0.out.at 1 _ rfl
  refine (implIsReport_q r _ zs R HR.out _ HL.out (by rw [HNL.out]; have := H.out.below HB0.out; rw [← HNL.out] at this ⊢; exact this)).mono ?_
  rintro e w1 ⟨rfl, hb⟩
  have HB1 := Lib.hid (show Below W.heap.size W w1 from hb)
  clear hb c0 c1
  have c0 := (HX0.out.below HB1.out HS0.out).at 0 _ rfl
  cases R
  · obtain rfl : X = [] := by rw [HX.out, biV, if_neg (by rw [← HR.out]; decide)]
    go_wp2
    go_ret
    exact ⟨_, rfl, World.ownsRow_nil _ _ _ _, HB0.out.trans (HB1.out.mono HB0.out.size)⟩
  · obtain ⟨⟨r0, r15⟩, hz⟩ := okRp_at HR.out.symm
    have HZ := Lib.hid hz
    have u0 : IntKind.u8.wrap r = r := by rw [IntKind.wrap_u8]; omega
    have HXX := Lib.hid (show biN r zs n = X by rw [HX.out, biV, if_pos HR.out.symm, HNL.out])
    clear hz
    go_wp2_with (at_make; refine wpList_make_full w1 rfl _ _ 22 rfl W.heap.size 5 i8 (.int .u8 0) 1 Try.underlying22 hi hz0 hz1 .i64 .i64 8 8 8 rfl rfl rfl rfl (by rw [hz2]; omega) ?_ ?_ ?_)
    · simp [maxLen]
    · exact HB1.out.size
    · intro w2 hown hg
      obtain ⟨g, hgv⟩ : ∃ g, g = w1.heap.size := ⟨_, rfl⟩
      rw [← hgv] at hown ⊢
      have hB2 : Below W.heap.size W w2 := HB1.out.grown hg HB1.out.size (fun k hk => by cases hk)
      have hmc : (madeCells #[Value.int .u8 0] 8).toList = [.int .u8 0, .int .u8 0, .int .u8 0, .int .u8 0, .int .u8 0, .int .u8 0, .int .u8 0, .int .u8 0] := by kernel_rfl
      rw [hmc] at hown
      have HO2 := Lib.hid (show w2.ownsRow W.heap.size 5 1 (.slice (some ⟨g, 0, none⟩) 8 8) 8 ([.int .u8 0, .int .u8 0, .int .u8 0, .int .u8 0, .int .u8 0, .int .u8 0, .int .u8 0, .int .u8 0]) from hown)
      have HB2 := Lib.hid hB2
      have c0 := (HX0.out.below hB2 HS0.out).at 0 _ rfl
      have s0 := HO2.out.cellAt 0 (by omega)
      have z0 := HO2.out.frozenAt 0
      have HO3 := Lib.hid (show (w2.setCell ⟨g, 0, none⟩ (.int .u8 r)).ownsRow W.heap.size 5 1 (.slice (some ⟨g, 0, none⟩) 8 8) 8 ((biN r zs 0).map (.int .u8)) from (HO2.out.stored 0 (.int .u8 r)).1)
      have hgB : W.heap.size ≤ g := (HO2.out.lt g rfl).1
      have HB3 := Lib.hid (show Below W.heap.size W (w2.setCell ⟨g, 0, none⟩ (.int .u8 r)) from hB2.setCell hgB _)
      simp only [List.getElem?_cons_zero] at s0
      clear hmc hown hg hB2 hgv
      go_upto_region 5 with (fail)
      obtain ⟨w3, hw3⟩ : ∃ w3, w3 = w2.setCell ⟨g, 0, none⟩ (.int .u8 r) := ⟨_, rfl⟩
      have HW3 := Lib.hid hw3
      rw [← HW3.out]
      have HO4 := Lib.hid (show w3.ownsRow W.heap.size 5 1 (.slice (some ⟨g, 0, none⟩) 8 8) 8 ((biN r zs 0).map (.int .u8)) by rw [HW3.out]; exact HO3.out)
      have HB4 := Lib.hid (show Below W.heap.size W w3 by rw [HW3.out]; exact HB3.out)
      clear hw3 s0 z0 c0 u0
      have c1 := (HX0.out.below HB4.out HS0.out).at 1 _ rfl
      go_wp2
      clear c1
      go_loopw [5, 6, 7, 20] (fun _ _ _ i wr => ∃ j : Nat, j ≤ n ∧ i = .int .i64 j ∧ wr.ownsRow W.heap.size 5 1 (.slice (some ⟨g, 0, none⟩) 8 8) 8 ((biN r zs j).map (.int .u8)) ∧ Below W.heap.size W wr) (fun _ _ _ i _ => n - (intOf i).toNat)
      case atStart => exact ⟨0, Nat.zero_le _, rfl, HO4.out, HB4.out⟩
      case round =>
        obtain ⟨j, hj, rfl, ho, hb⟩ := hrel
        have HO := Lib.hid ho
        have HB := Lib.hid hb
        by_cases hlt' : j < n
        · obtain ⟨b, off, rfl, hlt, d0⟩ := ints_at H.out (j := j) (by rw [← HNL.out]; exact hlt')
          have d1 := ((HB0.out.trans (hb.mono HB0.out.size)).cell (p := ⟨b, off + j, none⟩) hlt).trans d0
          have hx2 := HZ.out j (by rw [← HNL.out]; exact hlt')
          have hnx : biN r zs (j + 1) = (biN r zs j).set (1 + ((zs.getD j 0).toNat - 1) / 8) ((((biN r zs j).getD (1 + ((zs.getD j 0).toNat - 1) / 8) 0).toNat ||| 2 ^ (((zs.getD j 0).toNat - 1) % 8) : Nat) : Int) := rfl
          obtain ⟨x, hx⟩ : ∃ x, x = zs.getD j 0 := ⟨_, rfl⟩
          rw [← hx] at d1 hx2 hnx
          obtain ⟨k, rfl⟩ : ∃ k : Nat, x = (k : Int) + 1 := ⟨x.toNat - 1, by omega⟩
          rw [show ((k : Int) + 1).toNat - 1 = k by omega] at hnx
          obtain ⟨d, hd⟩ : ∃ d, d = k / 8 := ⟨_, rfl⟩
          obtain ⟨m, hm⟩ : ∃ m, m = k % 8 := ⟨_, rfl⟩
          rw [← hd, ← hm] at hnx
          have hd7 : 1 + d < 8 := by omega
          have hm7 : m < 8 := by omega
          have hk56 : k < 1000 := by omega
          have HD := Lib.hid hd
          have HM := Lib.hid hm
          have hby := biN_byte HR.out.symm j (by rw [← HNL.out]; exact hj) (1 + d) hd7
          have hlen := biN_len r zs j
          obtain ⟨C, hC⟩ : ∃ C, C = (biN r zs j).getD (1 + d) 0 := ⟨_, rfl⟩
          have s0 : wr.cell? ⟨g, 1 + d, none⟩ = some (.int .u8 C) := by
            rw [ho.cellAt (1 + d) (by omega), List.getElem?_map, List.getElem?_eq_getElem (by omega), hC, List.getD_eq_getElem?_getD, List.getElem?_eq_getElem (by omega)]
            rfl
          have z0 := ho.frozenAt (1 + d)
          rw [← hC] at hby hnx
          obtain ⟨Q, rfl⟩ : ∃ Q : Nat, C = Q := ⟨C.toNat, by omega⟩
          rw [Int.toNat_natCast] at hnx
          have hp8 : 2 ^ m < 2 ^ 8 := Nat.pow_lt_pow_right (by omega) hm7
          have hor := or_nat8 Q (2 ^ m) (by omega) hp8
          have hpe : ((2 ^ m : Nat) : Int) = (2 : Int) ^ m := by rw [Int.natCast_pow]; rfl
          have hsh : IntKind.u8.wrap ((2 : Int) ^ m) = 2 ^ m := by rw [← hpe, IntKind.wrap_u8]; generalize (2 ^ m : Nat) = P at hp8 ⊢; omega
          rw [hpe] at hor
          have HNX := Lib.hid hnx
          have HSet := Lib.hid (show (wr.setCell ⟨g, 1 + d, none⟩ (.int .u8 ((Q ||| 2 ^ m : Nat) : Int))).ownsRow W.heap.size 5 1 (.slice (some ⟨g, 0, none⟩) 8 8) 8 ((biN r zs (j + 1)).map (.int .u8)) by
            rw [hnx, List.map_set]; exact (HO.out.stored (1 + d) _).1)
          have hi8 : (1 : Int) + (d : Int) < 8 := by omega
          have hi0 : (0 : Int) ≤ 1 + (d : Int) := by omega
          have htn : ((1 : Int) + (d : Int)).toNat = 1 + d := by omega
          clear hx d0 hd hm hC hnx hpe hby hlen ho hb hp8
          go_wp2_with fail
          refine (bitOf_q k d m HD.out HM.out hk56 _).mono ?_
          rintro e w5 ⟨rfl, rfl⟩
          go_upto_region 9 with (fail)
          go_region
          all_goals
            go_wp2
            go_roundw
            case rel => exact ⟨j + 1, by omega, by go_num, (OwF.mk' HSet.out).1 |> fun h => owns_below h (Below.refl _ _).drew, (HB.out.setCell hgB _).drew⟩
            case measure => simp [intOf]; omega
        · obtain rfl : j = n := by omega
          have HLen := Lib.hid (show X.length = 8 by rw [← HXX.out]; exact biN_len r zs _)
          clear ho hb
          go_wp2
          go_ret
          exact ⟨_, rfl, by rw [HLen.out, ← HXX.out]; exact owns_base HO.out HB0.out.size, HB0.out.trans (HB.out.mono HB0.out.size)⟩

end Go.Proofs.Ytghijkpcmamebaa
