/- DERIVED. The reference's ReadBits: the report whose bits are bytes. -/
import Derived.Test.YtghijkpcmamebaaRpSpec3
import Derived.Test.YtghijkpcmamebaaRpSpec4
namespace Go.Proofs.Ytghijkpcmamebaa
open Go.RowKit

/-- What a function returns that reads a report. -/
def RpTB (x : Rpr) (w : World) (e : Ending) (w' : World) : Prop := ∃ u, e = .returned (.tuple #[rpv x.r u, .bool x.b]) ∧ w'.ownsRow w.heap.size 3 1 u x.z.length (x.z.map (.int .i64)) ∧ Below w.heap.size w w'
theorem bytes_at {w : World} {a : Option Addr} {n cap : Nat} {zs : List Int} (h : Rd w (.slice a n cap) (zs.map (.int .u8))) {j : Nat} (hj : j < zs.length) : ∃ b off, a = some ⟨b, off, none⟩ ∧ b < w.heap.size ∧ ∀ j, j < zs.length → w.cell? ⟨b, off + j, none⟩ = some (.int .u8 (zs.getD j 0)) := by
  rcases h.cases with ⟨hx, _⟩ | ⟨_, b, off, cap', hs, hlt, hc⟩
  · rw [List.map_eq_nil_iff] at hx; rw [hx] at hj; simp at hj
  · obtain ⟨rfl, -⟩ := by simpa using hs
    refine ⟨b, off, rfl, hlt, fun j hj => ?_⟩
    rw [hc j (by rw [List.length_map]; exact hj), List.getElem_map, List.getD_eq_getElem?_getD, List.getElem?_eq_getElem hj]
    rfl
theorem byte_of {zs : List Int} (hz : ∀ z ∈ zs, 0 ≤ z ∧ z < 256) {j : Nat} (hj : j < zs.length) : 0 ≤ zs.getD j 0 ∧ zs.getD j 0 < 256 := by
  rw [List.getD_eq_getElem?_getD, List.getElem?_eq_getElem hj]
  exact hz _ (List.getElem_mem hj)
/-- A number is appended to the slice in a report's box, and the slice is stored there: what is known behind it. -/
theorem app_box {w0 w w4 : World} {B0 gw gm ga cap g2 cap2 : Nat} {X : List Int} {x r0 : Int} {T : TypeId} {R : Obj}
    (hgm : w.heap[gm]? = some (.cells #[.int .i64 r0, .slice (some ⟨ga, 0, none⟩) X.length cap] T (0, 0)))
    (ho : w.ownsRow (gw + 1) 3 1 (.slice (some ⟨ga, 0, none⟩) X.length cap) X.length (X.map (.int .i64)))
    (hga : ¬ ga = gm) (hgw : w.heap[gw]? = some R) (hlt : gw < gm) (hb : Below B0 w0 w) (hB0 : B0 ≤ gw)
    (hown2 : w4.ownsRow (gw + 1) 3 1 (.slice (some ⟨g2, 0, none⟩) (X.length + 1) cap2) (X.length + 1) (X.map (.int .i64) ++ [.int .i64 x]))
    (hgrow2 : (w.alloc (.cells #[.int .i64 x] 3)).grownBy w4 (Value.slice (some ⟨ga, 0, none⟩) X.length cap).ownBlock)
    (hat2 : (Value.slice (some ⟨ga, 0, none⟩) X.length cap).ownBlock = some g2 ∨ g2 = w.heap.size + 1) :
    w4.cell? ⟨gm, 1, none⟩ = some (.slice (some ⟨ga, 0, none⟩) X.length cap) ∧ w4.frozen? ⟨gm, 1, none⟩ = false ∧
    (w4.setCell ⟨gm, 1, none⟩ (.slice (some ⟨g2, 0, none⟩) (X.length + 1) cap2)).heap[gm]? = some (.cells #[.int .i64 r0, .slice (some ⟨g2, 0, none⟩) (X ++ [x]).length cap2] T (0, 0)) ∧
    (w4.setCell ⟨gm, 1, none⟩ (.slice (some ⟨g2, 0, none⟩) (X.length + 1) cap2)).ownsRow (gw + 1) 3 1 (.slice (some ⟨g2, 0, none⟩) (X ++ [x]).length cap2) (X ++ [x]).length ((X ++ [x]).map (.int .i64)) ∧ ¬ g2 = gm ∧
    (w4.setCell ⟨gm, 1, none⟩ (.slice (some ⟨g2, 0, none⟩) (X.length + 1) cap2)).heap[gw]? = some R ∧
    Below B0 w0 (w4.setCell ⟨gm, 1, none⟩ (.slice (some ⟨g2, 0, none⟩) (X.length + 1) cap2)) := by
  have hgs : gm < w.heap.size := (Array.getElem?_eq_some_iff.mp hgm).1
  have hlen : (X ++ [x]).length = X.length + 1 := by simp
  have hg2 : ¬ g2 = gm := by
    rcases hat2 with h1 | h1
    · have h2 : some ga = some g2 := h1
      have h3 := Option.some.inj h2
      omega
    · omega
  have hba : Below w.heap.size w (w.alloc (.cells #[.int .i64 x] 3)) := (Below.refl _ _).alloc (Nat.le_refl _) _
  have hb4 : Below (gw + 1) w w4 := (hba.mono (by omega)).grown hgrow2 (by simp; omega) (fun q hq => (ho.lt q hq).1)
  have hgm4 : w4.heap[gm]? = w.heap[gm]? := by
    rw [hgrow2.block gm (by simp; omega) (fun e => by have h2 : some ga = some gm := e.symm ▸ rfl; exact hga (Option.some.inj h2))]
    exact hba.block gm hgs
  have hgm6 := hgm4.trans hgm
  obtain ⟨o14, p14⟩ := cells_of_heap hgm6 1 (by simp)
  refine ⟨by simpa using o14, by simpa using p14, by rw [hlen]; exact heap_setCell_same w4 gm 1 _ _ _ hgm6, ?_, hg2, ?_, ?_⟩
  · rw [hlen]
    refine owns_keep (w := w4) (by simpa using hown2) (fun q hq => ?_)
    have h1 : some g2 = some q := hq
    have h2 := Option.some.inj h1
    rw [← h2]
    exact heap_setCell_other w4 ⟨gm, 1, none⟩ g2 _ hg2
  · rw [heap_setCell_other w4 ⟨gm, 1, none⟩ gw _ (by show ¬ gw = gm; omega)]
    exact (hb4.block gw (by omega)).trans hgw
  · exact (hb.trans (hb4.mono (by omega))).setCell (by show B0 ≤ gm; omega) _
theorem bitK_len (b : List Int) : ∀ k, (bitK b k).length ≤ k
  | 0 => Nat.le_refl _
  | k + 1 => by
    have := bitK_len b k
    rw [bitK]; split
    · simp; omega
    · omega

set_option maxRecDepth 100000 in
set_option maxHeartbeats 8000000 in
theorem specReadBits_any (v : Value) (bs : List Int) (w : World) (hl : bs.length ≤ maxLen) (hz : ∀ z ∈ bs, 0 ≤ z ∧ z < 256) (h : Rd w v (bs.map (.int .u8))) :
    Calls Try.prog 38 #[v] w (RpTB (rdV bs) w) := by
  obtain ⟨i0, hi, hz0, hz1, hz2⟩ := info_parts info_int
  obtain ⟨r, hr⟩ : ∃ r, r = rdV bs := ⟨_, rfl⟩
  rw [← hr]
  obtain ⟨xa, xc, hv⟩ : ∃ a cap, v = .slice a bs.length cap := by
    obtain ⟨a, cap, hu, _⟩ := h
    exact ⟨a, cap, by simpa using hu⟩
  subst hv
  obtain ⟨n, hnl⟩ : ∃ n, n = bs.length := ⟨_, rfl⟩
  have HNL := Lib.hid hnl
  have HR := Lib.hid hr
  have H := Lib.hid h
  have HZ := Lib.hid hz
  have hnr : n ≤ maxLen := by rw [hnl]; exact hl
  unfold maxLen at hnr
  rw [← hnl]
  clear hr h hl hz hnl
  obtain ⟨gw, hgw⟩ : ∃ g, g = w.heap.size := ⟨_, rfl⟩
  obtain ⟨V, hV⟩ : ∃ V, V = w.alloc (.cells #[.int .i64 0, .slice none 0 0] 28) := ⟨_, rfl⟩
  have HG0 := Lib.hid (show V.heap[gw]? = some (.cells #[.int .i64 0, .slice none 0 0] 28 (0, 0)) by rw [hV, hgw]; exact heap_alloc_new w _)
  have HB0 := Lib.hid (show Below w.heap.size w V by rw [hV]; exact (Below.refl _ _).alloc (Nat.le_refl _) _)
  have hs0 : V.heap.size = gw + 1 := by rw [hV, hgw]; simp
  have HV := Lib.hid hV
  have HGW := Lib.hid hgw
  have hle : w.heap.size ≤ gw := by rw [hgw]; exact Nat.le_refl _
  have HNil := Lib.hid (show ∀ wx, Below w.heap.size w wx → r = ⟨0, [], false⟩ → RpTB r w (.returned (.tuple #[rpv 0 (.slice none 0 0), .bool false])) (putW wx gw 0 [.int .i64 0, .slice none 0 0]) from fun wx hx h => by
    rw [h]
    exact ⟨_, rfl, World.ownsRow_nil _ _ _ _, putW_below hle _ _ _ hx⟩)
  clear hV
  obtain ⟨y0, q0⟩ := cells_of_heap HG0.out 0 (by simp)
  obtain ⟨y1, q1⟩ := cells_of_heap HG0.out 1 (by simp)
  by_cases h8 : n = 8
  · subst h8
    obtain ⟨b, off, rfl, hlt, hc⟩ := bytes_at H.out (j := 0) (by rw [← HNL.out]; omega)
    have HC := Lib.hid hc
    have HLT := Lib.hid hlt
    have d0 := (HB0.out.cell (p := ⟨b, off, none⟩) hlt).trans (hc 0 (by rw [← HNL.out]; omega))
    have hb0 := byte_of HZ.out (j := 0) (by rw [← HNL.out]; omega)
    obtain ⟨B, hB⟩ : ∃ x, x = bs.getD 0 0 := ⟨_, rfl⟩
    rw [← hB] at d0 hb0
    have wB : IntKind.i64.wrap B = B := IntWalk.i64_in _ ⟨by omega, by omega⟩
    have hr2 : r = if B ≤ 15 then ⟨B, bitK bs 56, true⟩ else ⟨0, [], false⟩ := by
      rw [HR.out, rdV, ← hB, ← HNL.out]
      by_cases h15 : B ≤ 15 <;> simp [h15]
    have HR2 := Lib.hid hr2
    clear hc hB hr2 hlt hgw
    go_enter Try.func38, Try.ntmps38
    go_upto_region 1 with (fail)
    rw [← HV.out, ← HGW.out]
    by_cases h15 : B ≤ 15
    · have h15' : ¬ (15 : Int) < B := by omega
      have HRr := Lib.hid (show r = ⟨B, bitK bs 56, true⟩ by rw [HR2.out, if_pos h15])
      clear y0 y1 q0 q1
      go_upto_region 4 with (fail)
      obtain ⟨U, hU⟩ : ∃ U, U = (V.alloc (.cells #[] 3)).alloc (.cells #[.int .i64 B, .slice (some ⟨gw + 1, 0, none⟩) 0 0] 28) := ⟨_, rfl⟩
      obtain ⟨gm, hgm⟩ : ∃ g, g = gw + 1 + 1 := ⟨_, rfl⟩
      have hsv : V.heap.size = gw + 1 := hs0
      have hbU : Below w.heap.size w U := by rw [hU]; exact (HB0.out.alloc HB0.out.size _).alloc (by simp; have := HB0.out.size; omega) _
      have hGm : U.heap[gm]? = some (.cells #[.int .i64 B, .slice (some ⟨gw + 1, 0, none⟩) ([] : List Int).length 0] 28 (0, 0)) := by
        rw [hU, hgm, ← hsv]; simpa using heap_alloc_new (V.alloc (.cells #[] 3)) _
      have hGw : U.heap[gw]? = some (.cells #[.int .i64 0, .slice none 0 0] 28 (0, 0)) := by
        rw [hU, Below.heap_alloc _ _ _ (by simp; omega), Below.heap_alloc _ _ _ (by omega)]; exact HG0.out
      have hOw : U.ownsRow (gw + 1) 3 1 (.slice (some ⟨gw + 1, 0, none⟩) ([] : List Int).length 0) ([] : List Int).length (([] : List Int).map (.int .i64)) := by
        rw [hU]
        have := World.ownsRow_lit (e := 3) (size := 1) (base := gw + 1) V #[] 0 (by omega) (by simp [maxLen]) rfl
        rw [hsv] at this
        exact this.alloc _
      rw [← hU, ← hgm]
      have HGm := Lib.hid hGm
      have HGw := Lib.hid hGw
      have HOw := Lib.hid hOw
      have HBU := Lib.hid hbU
      have hgmw : gw < gm := by omega
      have hgmw1 : ¬ gw + 1 = gm := by omega
      clear hU hgm hsv hbU hGm hGw hOw hs0 d0 wB h15'
      go_wp2
      go_loopw [5] (fun i wr => ∃ (k ga cap : Nat), k ≤ 56 ∧ i = .int .i64 (k : Nat) ∧ wr.heap[gm]? = some (.cells #[.int .i64 B, .slice (some ⟨ga, 0, none⟩) (bitK bs k).length cap] 28 (0, 0)) ∧ wr.ownsRow (gw + 1) 3 1 (.slice (some ⟨ga, 0, none⟩) (bitK bs k).length cap) (bitK bs k).length ((bitK bs k).map (.int .i64)) ∧ ¬ ga = gm ∧ wr.heap[gw]? = some (.cells #[.int .i64 0, .slice none 0 0] 28 (0, 0)) ∧ Below w.heap.size w wr) (fun i _ => 56 - (intOf i).toNat)
      case atStart => exact ⟨0, gw + 1, 0, Nat.zero_le _, rfl, HGm.out, HOw.out, hgmw1, HGw.out, HBU.out⟩
      case round =>
        obtain ⟨k, ga, cap, hk, rfl, hgm, ho, hga, hgw, hb⟩ := hrel
        have hlk := bitK_len bs k
        obtain ⟨X, hX⟩ : ∃ X, X = bitK bs k := ⟨_, rfl⟩
        rw [← hX] at hgm ho hlk
        have HX := Lib.hid hX
        have HO := Lib.hid ho
        have HGa := Lib.hid hga
        have HGm5 := Lib.hid hgm
        have HGw5 := Lib.hid hgw
        have HB5 := Lib.hid hb
        have hgs : gm < wr.heap.size := (Array.getElem?_eq_some_iff.mp hgm).1
        by_cases hkl : k < 56
        · obtain ⟨d, hd⟩ : ∃ d, d = k / 8 := ⟨_, rfl⟩
          obtain ⟨m, hm⟩ : ∃ m, m = k % 8 := ⟨_, rfl⟩
          have td : Int.tdiv (k : Int) 8 = (d : Int) := by rw [hd, Int.tdiv_eq_ediv_of_nonneg (by omega)]; omega
          have tm : Int.tmod (k : Int) 8 = (m : Int) := by rw [hm, Int.tmod_eq_emod_of_nonneg (by omega)]; omega
          have hd7 : 1 + d < 8 := by omega
          have hm7 : m < 8 := by omega
          have f1 := (hb.cell (p := ⟨b, off + (1 + d), none⟩) HLT.out).trans (HC.out (1 + d) (by rw [← HNL.out]; omega))
          have hb1 := byte_of HZ.out (j := 1 + d) (by rw [← HNL.out]; omega)
          obtain ⟨Z, hZ⟩ : ∃ x, x = bs.getD (1 + d) 0 := ⟨_, rfl⟩
          rw [← hZ] at f1 hb1
          obtain ⟨Q, rfl⟩ : ∃ Q : Nat, Z = Q := ⟨Z.toNat, by omega⟩
          have hbit := bit_nat Q m (by omega)
          have hbc : bitC bs k = Q.testBit m := by rw [bitC, ← hd, ← hm, ← hZ, Int.toNat_natCast]
          have hnx : bitK bs (k + 1) = if Q.testBit m = true then X ++ [((k + 1 : Nat) : Int)] else X := by rw [bitK, hbc, ← HX.out]
          have HNX := Lib.hid hnx
          have hi8 : (1 : Int) + (d : Int) < 8 := by omega
          have htn : ((1 : Int) + (d : Int)).toNat = 1 + d := by omega
          have wQ : IntKind.i64.wrap (Q : Int) = Q := IntWalk.i64_in _ ⟨by omega, by omega⟩
          have hk56 : (k : Int) < 56 := by omega
          clear hd hm hX ho hga hgm hgw hb hZ hnx hbc
          by_cases hq : Q.testBit m = true
          · rw [if_pos hq] at hbit
            have hyes := HNX.out
            rw [if_pos hq] at hyes
            have HY := Lib.hid hyes
            obtain ⟨m1, p1⟩ := cells_of_heap HGm5.out 1 (by simp)
            have c63 : X.length + 1 ≤ maxLen := by unfold maxLen; omega
            have c47 : (X.length + 1) * 8 ≤ 140737488355328 := by omega
            have hsz1 : gw + 1 ≤ wr.heap.size + 1 := by omega
            clear hyes
            go_wp2_with (at_builtin; refine wpList_append_lies _ rfl _ _ 26 rfl (gw + 1) 3 i0 (.int .i64 0) 1 8 Try.underlying26 hi hz0 hz1 hz2 rfl (by decide) (.slice (some ⟨ga, 0, none⟩) X.length cap) X.length (X.map (.int .i64)) rfl (HO.out.alloc _) ⟨wr.heap.size, 0, none⟩ 1 1 [.int .i64 ((k : Int) + 1)] rfl rfl (World.news_of_block (cs := #[.int .i64 ((k : Int) + 1)]) (t := 3) (fr := (0, 0)) (heap_alloc_new wr _)) (by simp [Value.oneCell']) (by decide) c63 c47 (by simp; omega) (wr.heap.size + 1) (by simp) ?_)
            intro g2 cap2 w4 hown2 hgrow2 hat2 hlt4
            obtain ⟨o14, p14, hg7, ho7, hgg, hw7, hb7⟩ := app_box HGm5.out HO.out HGa.out HGw5.out hgmw HB5.out hle hown2 hgrow2 hat2
            have HG7 := Lib.hid hg7
            have HO7 := Lib.hid ho7
            have HGG := Lib.hid hgg
            have HW7 := Lib.hid hw7
            have HB7 := Lib.hid hb7
            clear hg7 ho7 hgg hw7 hb7 hown2 hgrow2 hat2 hlt4 c63 c47 hsz1 m1 p1 f1
            go_wp2
            go_roundw
            case rel => exact ⟨k + 1, g2, cap2, by omega, by go_num, by rw [HY.out]; exact HG7.out, by rw [HY.out]; exact HO7.out, HGG.out, HW7.out, HB7.out⟩
            case measure => simp [intOf]; omega
          · rw [if_neg hq] at hbit
            have hyes := HNX.out
            rw [if_neg hq] at hyes
            have HY := Lib.hid hyes
            clear hyes
            go_wp2
            go_roundw
            case rel => exact ⟨k + 1, ga, cap, by omega, by go_num, by rw [HY.out]; exact HGm5.out, by rw [HY.out]; exact HO.out, HGa.out, HGw5.out, HB5.out⟩
            case measure => simp [intOf]; omega
        · obtain rfl : k = 56 := by omega
          have HRx := Lib.hid (show r = ⟨B, X, true⟩ by rw [HRr.out, HX.out])
          have m0 := (cells_of_heap hgm 0 (by simp)).1
          have m1 := (cells_of_heap hgm 1 (by simp)).1
          obtain ⟨y0, q0⟩ := cells_of_heap hgw 0 (by simp)
          obtain ⟨y1, q1⟩ := cells_of_heap hgw 1 (by simp)
          clear hX ho hga hgm hgw hb
          go_wp2
          clear m0 m1 y0 q0 y1 q1
          obtain ⟨wf, hwf⟩ : ∃ x, x = putW (wr) (gw) 0 [.int .i64 B, .slice (some ⟨ga, 0, none⟩) X.length cap] := ⟨_, rfl⟩
          have kf := putW_all [.int .i64 B, .slice (some ⟨ga, 0, none⟩) X.length cap] HGw5.out rfl
          have bf := putW_below (b := gw) (by first | omega | simp) [.int .i64 B, .slice (some ⟨ga, 0, none⟩) X.length cap] 0 _ HB5.out
          have of := owns_putAt HO.out (y := gw) (fun q hq => by have := (HO.out.lt q hq).1; omega) 0 [.int .i64 B, .slice (some ⟨ga, 0, none⟩) X.length cap]
          rw [← hwf] at kf bf of
          have cf := hwf.symm
          simp only [putW, Nat.reduceAdd] at cf
          rw [cf]
          clear cf hwf
          have f0 := (cells_of_heap kf 0 (by simp)).1
          have f1 := (cells_of_heap kf 1 (by simp)).1
          simp only [List.getElem_toArray, List.getElem_cons_zero, List.getElem_cons_succ] at f0 f1
          refine bodyPost_ret (v := .tuple #[rpv B (.slice (some ⟨ga, 0, none⟩) X.length cap), .bool true]) (by simp [results, Try.results38, go_sem, f0, f1]) rfl (by rw [HRx.out]; exact ⟨_, rfl, by rw [← HGW.out]; exact owns_base of (Nat.le_succ _), bf⟩)
    · have h15' : (15 : Int) < B := by omega
      have HRr := Lib.hid (show r = ⟨0, [], false⟩ by rw [HR2.out, if_neg h15])
      go_wp2
      clear y0 q0 y1 q1
      obtain ⟨wf, hwf⟩ : ∃ x, x = putW (V) (gw) 0 [.int .i64 0, .slice none 0 0] := ⟨_, rfl⟩
      have kf := putW_all [.int .i64 0, .slice none 0 0] HG0.out rfl
      have bf := putW_below (b := gw) (by first | omega | simp) [.int .i64 0, .slice none 0 0] 0 _ HB0.out
      have of := HNil.out _ HB0.out HRr.out
      rw [← hwf] at kf bf of
      have cf := hwf.symm
      simp only [putW, Nat.reduceAdd] at cf
      rw [cf]
      clear cf hwf
      have f0 := (cells_of_heap kf 0 (by simp)).1
      have f1 := (cells_of_heap kf 1 (by simp)).1
      simp only [List.getElem_toArray, List.getElem_cons_zero, List.getElem_cons_succ] at f0 f1
      refine bodyPost_ret (v := .tuple #[rpv 0 (.slice none 0 0), .bool false]) (by simp [results, Try.results38, go_sem, f0, f1]) rfl of
  · have HRr := Lib.hid (show r = ⟨0, [], false⟩ by rw [HR.out, rdV, if_neg (fun e => h8 (by rw [HNL.out]; exact e.1))])
    have h8' : ¬ (n : Int) = 8 := by omega
    clear hgw
    go_enter Try.func38, Try.ntmps38
    go_upto_region 1 with (fail)
    rw [← HV.out, ← HGW.out]
    go_wp2
    clear y0 q0 y1 q1
    obtain ⟨wf, hwf⟩ : ∃ x, x = putW (V) (gw) 0 [.int .i64 0, .slice none 0 0] := ⟨_, rfl⟩
    have kf := putW_all [.int .i64 0, .slice none 0 0] HG0.out rfl
    have bf := putW_below (b := gw) (by first | omega | simp) [.int .i64 0, .slice none 0 0] 0 _ HB0.out
    have of := HNil.out _ HB0.out HRr.out
    rw [← hwf] at kf bf of
    have cf := hwf.symm
    simp only [putW, Nat.reduceAdd] at cf
    rw [cf]
    clear cf hwf
    have f0 := (cells_of_heap kf 0 (by simp)).1
    have f1 := (cells_of_heap kf 1 (by simp)).1
    simp only [List.getElem_toArray, List.getElem_cons_zero, List.getElem_cons_succ] at f0 f1
    refine bodyPost_ret (v := .tuple #[rpv 0 (.slice none 0 0), .bool false]) (by simp [results, Try.results38, go_sem, f0, f1]) rfl of

end Go.Proofs.Ytghijkpcmamebaa
