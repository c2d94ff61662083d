/- DERIVED. The program's FormatReport: a report's text, where the table of names is as its text lays it. · The program's ParseReport: the report whose text is s, where the table of names is as its text lays it. -/
import Derived.Test.YtghijkpcmamebaaDoorRpPa
import Derived.Test.YtghijkpcmamebaaDoorRpImpl
import Derived.Test.YtghijkpcmamebaaDoorAcTxI
import Derived.Test.YtghijkpcmamebaaDoorJoin
import Derived.Test.YtghijkpcmamebaaDoorRpMath2
import Derived.Test.YtghijkpcmamebaaDoorAcPaI
import Derived.Test.YtghijkpcmamebaaDoorRpLaw2
import Derived.Deep.RegionLaw
import Derived.Deep.DeepCutAuto
namespace Go.Proofs.YtghijkpcmamebaaDoor
open Go.RowKit

theorem take_set7 (xs : List Value) (j : Nat) (v : Value) (h : j < xs.length) : (xs.set j v).take (j + 1) = xs.take j ++ [v] := by
  rw [List.take_succ_eq_append_getElem (by simpa using h), List.take_set_of_le (Nat.le_refl _)]
  simp
theorem made7_16 {i0 : TypeInfo} {n : Nat} (h : i0.bytes = 16) (hn : n ≤ 1048576) : i0.bytes * n ≤ 281474976710656 := by rw [h]; omega
theorem implIsReport_at (r : Int) (u : Value) (zs : List Int) (o : Bool) (ho : o = okRp r zs) (w : World) (hl : zs.length ≤ maxLen) (h : Rd w u (zs.map (.int .i64))) :
    Calls Tryd.prog 36 #[rpv r u] w fun e w' => e = .returned (.bool o) ∧ Below w.heap.size w w' := implIsReport_q r u zs o ho w hl h
theorem implCodeName_q (c : Int) (T : ByteArray) (hT : T = nmV c) (w : World) (ht : TabH w 1 nmTab) : Calls Tryd.prog 37 #[.int .i64 c] w fun e w' => e = .returned (.string T) ∧ w = w' := by
  rw [hT]; exact implCodeName_any c w ht
theorem implFormatMods_q (m : Int) (T : ByteArray) (hT : T = mdV m) (w : World) : Calls Tryd.prog 38 #[.int .i64 m] w fun e w' => e = .returned (.string T) ∧ Below w.heap.size w w' := by
  rw [hT]; exact implFormatMods_any m w
theorem implJoin_q (v : Value) (ss : List ByteArray) (sep T : ByteArray) (hT : T = joined ss sep) (w : World) (hl : ss.length ≤ 1048576) (hj : ∀ k, k ≤ ss.length → (jn ss sep k).length ≤ 70368744177664) (h : Rd w v (ss.map .string)) :
    Calls Tryd.prog 39 #[v, .string sep] w fun e w' => e = .returned (.string T) ∧ Below w.heap.size w w' := by
  rw [hT]; exact implJoin_any v ss sep w hl hj h

set_option maxRecDepth 100000 in
set_option maxHeartbeats 4000000 in
theorem implFormatReport_any (r : Int) (u : Value) (zs : List Int) (w : World) (ht : TabH w 1 nmTab) (hl : zs.length ≤ maxLen) (h : Rd w u (zs.map (.int .i64))) :
    Calls Tryd.prog 11 #[rpv r u] w fun e w' => e = .returned (.string (rpT r zs)) ∧ Below w.heap.size w w' := by
  obtain ⟨i0, hi, hz0, hz1, hz2⟩ := info_parts info_str
  obtain ⟨R, hR⟩ : ∃ R, R = okRp r zs := ⟨_, rfl⟩
  obtain ⟨X, hX⟩ : ∃ X, X = rpT r zs := ⟨_, rfl⟩
  rw [← hX]
  rw [rpT, ← hR] at hX
  obtain ⟨a, cap, rfl⟩ := ints_shape h
  obtain ⟨n, hnl⟩ : ∃ n, n = zs.length := ⟨_, rfl⟩
  have HNL := Lib.hid hnl
  have HR := Lib.hid hR
  have HX := Lib.hid hX
  have HL := Lib.hid hl
  have H := Lib.hid h
  have HTab := Lib.hid ht
  have hnm : n ≤ maxLen := by rw [hnl]; exact hl
  unfold maxLen at hnm
  rw [← hnl]
  clear hR hX hl h hnl ht
  obtain ⟨W, hW⟩ : ∃ W, W = w.alloc (.cells #[.int .i64 r, .slice a n cap] 26) := ⟨_, rfl⟩
  have HX0 := Lib.hid (show Bxd W w.heap.size [.int .i64 r, .slice a n cap] by rw [hW]; exact Bxd.new _ _ _)
  have HB0 := Lib.hid (show Below w.heap.size w W by rw [hW]; exact (Below.refl _ _).alloc (Nat.le_refl _) _)
  have HS0 := Lib.hid (show w.heap.size < W.heap.size by rw [hW]; simp)
  have HW := Lib.hid hW
  clear hW
  go_enter Tryd.func11, Tryd.ntmps11
  go_wp2_with fail
  rw [← HW.out]
  have c0 := HX0.out.at 0 _ rfl
  have c1 := HX0.out.at 1 _ rfl
  refine (implIsReport_q r _ zs R HR.out _ HL.out (by rw [HNL.out]; have := H.out.below HB0.out; rw [← HNL.out] at this ⊢; exact this)).mono ?_
  rintro e w1 ⟨rfl, hb⟩
  have HB1 := Lib.hid (show Below W.heap.size W w1 from hb)
  clear hb c0 c1
  cases R
  · have HXx := Lib.hid (show X = ⟨#[]⟩ by rw [HX.out]; rfl)
    go_wp2
    go_ret
    exact ⟨ret_tx HXx.out.symm, HB0.out.trans (HB1.out.mono HB0.out.size)⟩
  · have hn56 := okRp_len HR.out.symm
    have hn : n ≤ 56 := by rw [HNL.out]; exact hn56
    have HXx := Lib.hid (show X = mdV r ++ colonS ++ joined (zs.map nmV) commaS by rw [HX.out]; rfl)
    have hj7 : ∀ k, k ≤ (zs.map nmV).length → (jn (zs.map nmV) commaS k).length ≤ k * 6 := by
      intro k hk
      have := jn_le 5 (zs.map nmV) commaS (fun s hs => by obtain ⟨c, _, rfl⟩ := List.mem_map.1 hs; exact nmV_size c) k hk
      have e : commaS.size = 1 := rfl
      rw [e] at this
      exact this
    have hj8 : ∀ k, k ≤ (zs.map nmV).length → (jn (zs.map nmV) commaS k).length ≤ 70368744177664 := by
      intro k hk
      have := hj7 k hk
      rw [List.length_map] at hk
      omega
    obtain ⟨T, hT⟩ : ∃ T, T = joined (zs.map nmV) commaS := ⟨_, rfl⟩
    have hTs : T.size ≤ 336 := by
      rw [hT]
      have h1 := hj7 _ (Nat.le_refl _)
      rw [List.length_map] at h1
      have h2 : (joined (zs.map nmV) commaS).size = (jn (zs.map nmV) commaS (zs.map nmV).length).length := rfl
      rw [h2, List.length_map]
      omega
    obtain ⟨D, hD⟩ : ∃ D, D = mdV r := ⟨_, rfl⟩
    have hDs : D.size ≤ 4 := by rw [hD]; exact mdV_size r
    have HJ8 := Lib.hid hj8
    have HT := Lib.hid hT
    have HTS := Lib.hid hTs
    have HD := Lib.hid hD
    have HDS := Lib.hid hDs
    have HML := Lib.hid (show (zs.map nmV).length ≤ 1048576 by rw [List.length_map]; omega)
    clear hn56 hj7 hj8 hT hTs hD hDs
    have c0 := (HX0.out.below HB1.out HS0.out).at 0 _ rfl
    have c1 := (HX0.out.below HB1.out HS0.out).at 1 _ rfl
    go_wp2_with (at_make; refine wpList_make_full _ rfl _ _ 51 rfl W.heap.size 9 i0 (.string ByteArray.empty) 1 Tryd.underlying51 hi hz0 hz1 .i64 .i64 _ _ n rfl rfl rfl rfl (made7_16 hz2 (by omega)) ?_ ?_ ?_)
    · unfold maxLen; omega
    · exact HB1.out.size
    · intro w2 hown hgr
      have HB2 := Lib.hid (HB1.out.grown hgr HB1.out.size (fun q hq => by cases hq))
      have HO2 := Lib.hid hown
      obtain ⟨g, hg⟩ : ∃ g, g = w1.heap.size := ⟨_, rfl⟩
      have HG : Hid (W.heap.size ≤ g) := Lib.hid (by rw [hg]; exact HB1.out.size)
      rw [← hg] at HO2
      clear hown hgr c0 c1
      have c0 := (HX0.out.below HB2.out HS0.out).at 0 _ rfl
      have c1 := (HX0.out.below HB2.out HS0.out).at 1 _ rfl
      go_wp2
      rw [← hg]
      clear hg c0 c1
      go_loopw [4, 5, 16] (fun _ _ i wr => ∃ (j : Nat) (xs : List Value), j ≤ n ∧ i = .int .i64 j ∧ wr.ownsRow W.heap.size 9 1 (.slice (some ⟨g, 0, none⟩) n n) n xs ∧ xs.take j = ((zs.take j).map nmV).map .string ∧ Below W.heap.size W wr) (fun _ _ i _ => n - (intOf i).toNat)
      case atStart => exact ⟨0, _, Nat.zero_le _, rfl, HO2.out, rfl, HB2.out⟩
      case round =>
        obtain ⟨j, xs, hj, rfl, hown, hxs, hb⟩ := hrel
        have hlx : xs.length = n := by simpa using hown.1
        have hbw := HB0.out.trans (hb.mono HB0.out.size)
        have HO := Lib.hid hown
        have HB := Lib.hid hb
        have HXS := Lib.hid hxs
        have HLX := Lib.hid hlx
        have HBW := Lib.hid hbw
        by_cases hlt' : j < n
        · have hlt2 : j < zs.length := by rw [← HNL.out]; exact hlt'
          obtain ⟨b, off, rfl, hlt, hc⟩ := ints_at H.out hlt2
          have d1 := (hbw.cell (p := ⟨b, off + j, none⟩) hlt).trans hc
          have hsn : zs.take (j + 1) = zs.take j ++ [zs.getD j 0] := by
            rw [List.take_succ_eq_append_getElem hlt2, List.getD_eq_getElem?_getD, List.getElem?_eq_getElem hlt2]; rfl
          obtain ⟨Z, hZ⟩ : ∃ Z, Z = zs.getD j 0 := ⟨_, rfl⟩
          rw [← hZ] at d1 hsn
          obtain ⟨N, hN⟩ : ∃ N, N = nmV Z := ⟨_, rfl⟩
          have HN := Lib.hid hN
          obtain ⟨y, hst⟩ : ∃ y, wr.cell? ⟨g, j, none⟩ = some y := ⟨xs[j]'(by omega), by rw [hown.cellAt j (by omega), List.getElem?_eq_getElem (show j < xs.length by omega)]⟩
          have hfr := hown.frozenAt j
          have HS := Lib.hid (hown.stored j (.string N)).1
          have HX2 : Hid ((xs.set j (.string N)).take (j + 1) = ((zs.take (j + 1)).map nmV).map .string) := Lib.hid (by
            rw [hsn, List.map_append, List.map_append, ← hxs, take_set7 _ _ _ (by omega), hN]; rfl)
          have HTb := Lib.hid (HTab.out.below HBW.out HTab.out.lt)
          clear hZ hN hsn hc hlt hown hb hbw hxs hlx hlt2
          go_wp2_with fail
          refine (implCodeName_q Z N HN.out _ HTb.out).mono ?_
          rintro e w5 ⟨rfl, rfl⟩
          go_wp2
          go_roundw
          case rel => exact ⟨j + 1, _, by omega, by go_num, HS.out, HX2.out, HB.out.setCell HG.out _⟩
          case measure => simp [intOf]; omega
        · obtain rfl : j = n := by omega
          have hxe : xs = (zs.map nmV).map .string := by
            rwa [List.take_of_length_le (by omega), List.take_of_length_le (by rw [← HNL.out]; exact Nat.le_refl _)] at hxs
          subst hxe
          have hrd5 : Rd wr (.slice (some ⟨g, 0, none⟩) j j) ((zs.map nmV).map .string) := Rd.of_owns hown
          have HRD5 := Lib.hid hrd5
          have hadd1 := fun (w : World) => run_string_add_sum (P := Tryd.prog) w D ⟨#[58]⟩ (by have := HDS.out; have h1 : (⟨#[58]⟩ : ByteArray).size = 1 := rfl; omega)
          have hadd2 := fun (w : World) => run_string_add_sum (P := Tryd.prog) w (D ++ ⟨#[58]⟩) T (by have := HDS.out; have := HTS.out; have h1 : (⟨#[58]⟩ : ByteArray).size = 1 := rfl; rw [ByteArray.size_append]; omega)
          have c0 := (HX0.out.below hb HS0.out).at 0 _ rfl
          clear hrd5 hown hb hbw hxs hlx HO HXS HLX
          go_wp2_with fail
          refine (implFormatMods_q r D HD.out _).mono ?_
          rintro e w5 ⟨rfl, hb5⟩
          have HB6 := Lib.hid (HB.out.trans (hb5.mono HB.out.size))
          have HRD6 := Lib.hid (HRD5.out.below hb5)
          clear hb5 c0
          go_wp2_with fail
          refine (implJoin_q _ (zs.map nmV) commaS T HT.out _ HML.out HJ8.out HRD6.out).mono ?_
          rintro e w6 ⟨rfl, hb6⟩
          have HB7 := Lib.hid (HB6.out.trans (hb6.mono HB6.out.size))
          clear hb6
          go_wp2
          go_ret
          exact ⟨ret_tx (by rw [HXx.out, ← HD.out, ← HT.out]; rfl), HB0.out.trans (HB7.out.mono HB0.out.size)⟩
theorem implFormatReport_q (r : Int) (u : Value) (zs : List Int) (T : ByteArray) (hT : T = rpT r zs) (w : World) (ht : TabH w 1 nmTab) (hl : zs.length ≤ maxLen) (h : Rd w u (zs.map (.int .i64))) :
    Calls Tryd.prog 11 #[rpv r u] w fun e w' => e = .returned (.string T) ∧ Below w.heap.size w w' := by
  rw [hT]; exact implFormatReport_any r u zs w ht hl h
end Go.Proofs.YtghijkpcmamebaaDoor

namespace Go.Proofs.YtghijkpcmamebaaDoor
open Go.RowKit

/-- The codes of names between commas. -/
def plZ (Q : ByteArray) : List Int := if Q = ⟨#[]⟩ then [] else (parts Q 44).map fun t => ((codeV t : Nat) : Int)
def plR (s : ByteArray) : Int := (pmV (cutV s 58).1 : Nat)
/-- The report whose text is s, as the program finds it. -/
def plV (s : ByteArray) : Rpr := if okRp (plR s) (plZ (cutV s 58).2.1) = true ∧ rpT (plR s) (plZ (cutV s 58).2.1) = s then ⟨plR s, plZ (cutV s 58).2.1, true⟩ else ⟨0, [], false⟩
theorem s_two {s : ByteArray} (h : (parts s 58).length = 2) : s = pt s 58 0 ++ ⟨#[58]⟩ ++ pt s 58 1 ∧ Without (pt s 58 0) 58 := by
  obtain ⟨p, q, hpq⟩ : ∃ p q, parts s 58 = [p, q] := by
    rcases hl : parts s 58 with _ | ⟨p, _ | ⟨q, _ | ⟨x, l⟩⟩⟩
    · rw [hl] at h; simp at h
    · rw [hl] at h; simp at h
    · exact ⟨p, q, rfl⟩
    · rw [hl] at h; simp at h
  have hw := (parts_without s 58 p (by rw [hpq]; simp)).1
  have hj := joined_parts s ⟨#[58]⟩ 58 (by decide)
  have h0 : pt s 58 0 = p := by rw [pt, hpq]; rfl
  have h1 : pt s 58 1 = q := by rw [pt, hpq]; rfl
  rw [h0, h1]
  refine ⟨?_, hw⟩
  rw [hpq] at hj
  apply ba_ext
  rw [← hj]
  have hd : (joined [p, q] ⟨#[58]⟩).data.toList = jn [p, q] ⟨#[58]⟩ 2 := by simp [joined]
  rw [hd, jn_later _ _ (by decide), jn_first]
  simp
theorem plV_eq (s : ByteArray) : plV s = prV s := by
  by_cases h : okRp (plR s) (plZ (cutV s 58).2.1) = true ∧ rpT (plR s) (plZ (cutV s 58).2.1) = s
  · rw [plV, if_pos h]
    have h1 := prV_rpT _ _ h.1
    rw [h.2] at h1
    exact h1.symm
  · rw [plV, if_neg h, prV]
    split
    · rename_i h2
      exfalso
      obtain ⟨hn, ht⟩ := h2
      obtain ⟨hs, hw⟩ := s_two hn
      have hc := cutV_hit (pt s 58 0) (pt s 58 1) 58 58 rfl hw
      rw [← hs] at hc
      have e1 : plR s = prR s := by rw [plR, hc]; rfl
      have e2 : plZ (cutV s 58).2.1 = prZ s := by rw [hc]; rfl
      rw [e1, e2] at h
      refine h ⟨?_, ht⟩
      by_cases ho : okRp (prR s) (prZ s) = true
      · exact ho
      · exfalso
        rw [rpT, if_neg ho] at ht
        rw [← ht] at hn
        have e1 : parts ⟨#[]⟩ 58 = [⟨#[]⟩] := by kernel_rfl
        rw [e1] at hn
        simp at hn
    · rfl
theorem cell_heap7 {w w' : World} {b : Nat} (h : w'.heap[b]? = w.heap[b]?) (o : Nat) : w'.cell? ⟨b, o, none⟩ = w.cell? ⟨b, o, none⟩ := World.cell?_of_block (a := ⟨b, o, none⟩) h
/-- A number is appended to the slice in a report's box, and the slice is stored there: what is known behind it; the slice may be nil ahead of it. -/
theorem app_boxV {w0 w w4 : World} {B0 gw gm g2 cap2 : Nat} {V : Value} {X : List Int} {x r0 : Int} {T : TypeId} {R : Obj}
    (hgm : w.heap[gm]? = some (.cells #[.int .i64 r0, V] T (0, 0)))
    (ho : w.ownsRow (gw + 1) 3 1 V X.length (X.map (.int .i64)))
    (hga : ∀ q, V.ownBlock = some q → ¬ q = gm) (hgw : w.heap[gw]? = some R) (hlt : gw < gm) (hb : Below B0 w0 w) (hB0 : B0 ≤ gw)
    (hown2 : w4.ownsRow (gw + 1) 3 1 (.slice (some ⟨g2, 0, none⟩) (X.length + 1) cap2) (X.length + 1) (X.map (.int .i64) ++ [.int .i64 x]))
    (hgrow2 : (w.alloc (.cells #[.int .i64 x] 3)).grownBy w4 V.ownBlock)
    (hat2 : V.ownBlock = some g2 ∨ g2 = w.heap.size + 1) :
    w4.cell? ⟨gm, 1, none⟩ = some V ∧ w4.frozen? ⟨gm, 1, none⟩ = false ∧
    (w4.setCell ⟨gm, 1, none⟩ (.slice (some ⟨g2, 0, none⟩) (X.length + 1) cap2)).heap[gm]? = some (.cells #[.int .i64 r0, .slice (some ⟨g2, 0, none⟩) (X ++ [x]).length cap2] T (0, 0)) ∧
    (w4.setCell ⟨gm, 1, none⟩ (.slice (some ⟨g2, 0, none⟩) (X.length + 1) cap2)).ownsRow (gw + 1) 3 1 (.slice (some ⟨g2, 0, none⟩) (X ++ [x]).length cap2) (X ++ [x]).length ((X ++ [x]).map (.int .i64)) ∧ ¬ g2 = gm ∧
    (w4.setCell ⟨gm, 1, none⟩ (.slice (some ⟨g2, 0, none⟩) (X.length + 1) cap2)).heap[gw]? = some R ∧
    Below B0 w0 (w4.setCell ⟨gm, 1, none⟩ (.slice (some ⟨g2, 0, none⟩) (X.length + 1) cap2)) := by
  have hgs : gm < w.heap.size := (Array.getElem?_eq_some_iff.mp hgm).1
  have hlen : (X ++ [x]).length = X.length + 1 := by simp
  have hg2 : ¬ g2 = gm := by
    rcases hat2 with h1 | h1
    · exact hga _ h1
    · omega
  have hba : Below w.heap.size w (w.alloc (.cells #[.int .i64 x] 3)) := (Below.refl _ _).alloc (Nat.le_refl _) _
  have hb4 : Below (gw + 1) w w4 := (hba.mono (by omega)).grown hgrow2 (by simp; omega) (fun q hq => (ho.lt q hq).1)
  have hgm4 : w4.heap[gm]? = w.heap[gm]? := by
    rw [hgrow2.block gm (by simp; omega) (fun e => hga gm e.symm rfl)]
    exact hba.block gm hgs
  have hgm6 := hgm4.trans hgm
  obtain ⟨o14, p14⟩ := cells_of_heap hgm6 1 (by simp)
  refine ⟨by simpa using o14, by simpa using p14, by rw [hlen]; exact heap_setCell_same w4 gm 1 _ _ _ hgm6, ?_, hg2, ?_, ?_⟩
  · rw [hlen]
    refine owns_keep (w := w4) (by simpa using hown2) (fun q hq => ?_)
    have h1 : some g2 = some q := hq
    have h2 := Option.some.inj h1
    rw [← h2]
    exact heap_setCell_other w4 ⟨gm, 1, none⟩ g2 _ hg2
  · rw [heap_setCell_other w4 ⟨gm, 1, none⟩ gw _ (by show ¬ gw = gm; omega)]
    exact (hb4.block gw (by omega)).trans hgw
  · exact (hb.trans (hb4.mono (by omega))).setCell (by show B0 ≤ gm; omega) _
theorem app_otherV {w w4 : World} {gm g2 : Nat} {V : Value} {x : Int} (n cap2 : Nat)
    (hgrow2 : (w.alloc (.cells #[.int .i64 x] 3)).grownBy w4 V.ownBlock) (q : Nat) (hq : q < w.heap.size) (hqa : ∀ p, V.ownBlock = some p → ¬ p = q) (hqm : ¬ q = gm) :
    (w4.setCell ⟨gm, 1, none⟩ (.slice (some ⟨g2, 0, none⟩) n cap2)).heap[q]? = w.heap[q]? := by
  have hba : Below w.heap.size w (w.alloc (.cells #[.int .i64 x] 3)) := (Below.refl _ _).alloc (Nat.le_refl _) _
  rw [heap_setCell_other w4 ⟨gm, 1, none⟩ q _ (by show ¬ q = gm; exact hqm)]
  rw [hgrow2.block q (by simp; omega) (fun e => hqa q e.symm rfl)]
  exact hba.block q hq
theorem own_one {g n cap : Nat} {P : Nat → Prop} (h : P g) : ∀ q, (Value.slice (some ⟨g, 0, none⟩) n cap).ownBlock = some q → P q := fun q hq => by
  have h1 : some g = some q := hq
  rw [← Option.some.inj h1]; exact h
theorem own_nil {P : Nat → Prop} : ∀ q, (Value.slice none 0 0).ownBlock = some q → P q := fun q hq => by
  have h1 : none = some q := hq
  cases h1
theorem implParseMods_q (s : ByteArray) (n : Nat) (hn : n = pmV s) (w : World) : Calls Tryd.prog 33 #[.string s] w fun e w' => e = .returned (.int .i64 (n : Nat)) ∧ Below w.heap.size w w' := by
  rw [hn]; exact implParseMods_any s w
theorem implCodeOf_q (s : ByteArray) (n : Nat) (hn : n = codeV s) (w : World) (ht : TabH w 1 nmTab) : Calls Tryd.prog 35 #[.string s] w fun e w' => e = .returned (.int .i64 (n : Nat)) ∧ w = w' := by
  rw [hn]; exact implCodeOf_any s w ht
theorem TabH.drew {w : World} {g : Nat} {ss : List ByteArray} (h : TabH w g ss) : TabH w.drew g ss := h
theorem implSplit_n (s : ByteArray) (c : Int) (N : Nat) (hN : N = (parts s c).length) (w : World) (hl : s.size ≤ 1048576) : Calls Tryd.prog 34 #[.string s, .int .u8 c] w fun e w' => ∃ b cap, e = .returned (.slice (some ⟨b, 0, none⟩) N cap) ∧ w.heap.size ≤ b ∧ b < w'.heap.size ∧ (∀ j, j < N → w'.cell? ⟨b, j, none⟩ = some (.string (pt s c j))) ∧ Below w.heap.size w w' := by
  subst hN
  exact (implSplit_any s c w hl).mono fun e w' h => split_known h

set_option maxRecDepth 100000 in
set_option maxHeartbeats 8000000 in
theorem implParseReport_any (s : ByteArray) (w : World) (ht : TabH w 1 nmTab) (hl : s.size ≤ 1048576) :
    Calls Tryd.prog 10 #[.string s] w (RpTB (prV s) w) := by
  rw [← plV_eq s]
  obtain ⟨i0, hi, hz0, hz1, hz2⟩ := info_parts info_int
  obtain ⟨r, hr⟩ : ∃ r, r = plV s := ⟨_, rfl⟩
  rw [← hr]
  have HR := Lib.hid hr
  have HL := Lib.hid hl
  have HTab := Lib.hid ht
  clear hr hl ht
  obtain ⟨gw, hgw⟩ : ∃ g, g = w.heap.size := ⟨_, rfl⟩
  obtain ⟨V, hV⟩ : ∃ V, V = w.alloc (.cells #[.int .i64 0, .slice none 0 0] 26) := ⟨_, rfl⟩
  have HG0 := Lib.hid (show V.heap[gw]? = some (.cells #[.int .i64 0, .slice none 0 0] 26 (0, 0)) by rw [hV, hgw]; exact heap_alloc_new w _)
  have HB0 := Lib.hid (show Below w.heap.size w V by rw [hV]; exact (Below.refl _ _).alloc (Nat.le_refl _) _)
  have hs0 : V.heap.size = gw + 1 := by rw [hV, hgw]; simp
  have HS0 := Lib.hid hs0
  have HV := Lib.hid hV
  have HGW := Lib.hid hgw
  have hle : w.heap.size ≤ gw := by rw [hgw]; exact Nat.le_refl _
  have HNil := Lib.hid (show ∀ wx, Below w.heap.size w wx → r = ⟨0, [], false⟩ → RpTB r w (.returned (.tuple #[rpv 0 (.slice none 0 0), .bool false])) (putW wx gw 0 [.int .i64 0, .slice none 0 0]) from fun wx hx h => by
    rw [h]
    exact ⟨_, rfl, World.ownsRow_nil _ _ _ _, putW_below hle _ _ _ hx⟩)
  obtain ⟨A, Q, cb, hcut⟩ : ∃ A Q b, (A, Q, b) = cutV s 58 := ⟨_, _, _, rfl⟩
  have hQs : Q.size ≤ 1048576 := by have h1 := (cut_sizes s 58).2; rw [← hcut] at h1; have h2 := HL.out; show Q.size ≤ 1048576; have h3 : Q.size ≤ s.size := h1; omega
  obtain ⟨M, hM⟩ : ∃ M, M = pmV A := ⟨_, rfl⟩
  obtain ⟨Z, hZ⟩ : ∃ Z, Z = plZ Q := ⟨_, rfl⟩
  have hRv : r = if okRp (M : Nat) Z = true ∧ rpT (M : Nat) Z = s then ⟨(M : Nat), Z, true⟩ else ⟨0, [], false⟩ := by
    rw [HR.out, plV, plR, ← hcut, hM, hZ]
  have HCut := Lib.hid hcut
  have HM := Lib.hid hM
  have HRv := Lib.hid hRv
  have HZ := Lib.hid hZ
  have HQs := Lib.hid hQs
  have HZl := Lib.hid (show Z.length ≤ 1048577 by
    rw [hZ, plZ]; split
    · simp
    · rw [List.length_map]; have h1 := parts_len Q 44; omega)
  clear hV hs0 hcut hM hRv hZ hQs
  go_enter Tryd.func10, Tryd.ntmps10
  go_wp2_with fail
  rw [← HV.out, ← HGW.out]
  refine (cut_n s ⟨#[58]⟩ 58 (oneB 58) A Q cb HCut.out _ HL.out).mono ?_
  rintro e w1 ⟨rfl, hb⟩
  have HB1 := Lib.hid (HB0.out.trans (hb.mono HB0.out.size))
  have HG1 := Lib.hid ((hb.block gw (by rw [HS0.out]; omega)).trans HG0.out)
  have HS1 := Lib.hid (show gw < w1.heap.size by have := hb.size; have := HS0.out; omega)
  clear hb hgw
  go_wp2_with fail
  refine (implParseMods_q A M HM.out _).mono ?_
  rintro e w2 ⟨rfl, hb⟩
  have HB2 := Lib.hid (HB1.out.trans (hb.mono HB1.out.size))
  have HG2 := Lib.hid ((hb.block gw HS1.out).trans HG1.out)
  have HS2 := Lib.hid (Nat.lt_of_lt_of_le HS1.out hb.size)
  clear hb
  go_upto_region 3 with (fail)
  obtain ⟨gm, hgm⟩ : ∃ x, x = w2.heap.size := ⟨_, rfl⟩
  obtain ⟨U, hU⟩ : ∃ U, U = w2.alloc (.cells #[.int .i64 (M : Nat), .slice none 0 0] 26) := ⟨_, rfl⟩
  have hbU : Below w2.heap.size w2 U := by rw [hU]; exact (Below.refl _ _).alloc (Nat.le_refl _) _
  have HGm := Lib.hid (show U.heap[gm]? = some (.cells #[.int .i64 (M : Nat), .slice none 0 0] 26 (0, 0)) by rw [hU, hgm]; exact heap_alloc_new w2 _)
  have HUs := Lib.hid (show U.heap.size = gm + 1 by rw [hU, hgm]; simp)
  rw [← hgm, ← hU]
  have HGw := Lib.hid ((hbU.block gw HS2.out).trans HG2.out)
  have HBU := Lib.hid (HB2.out.trans (hbU.mono HB2.out.size))
  have hgmw : gw < gm := by have := HS2.out; omega
  clear hU hbU hgm
  go_upto_if 20 with (fail)
  go_cut [9] (fun _ wx => ∃ (K : Value), wx.heap[gm]? = some (.cells #[.int .i64 (M : Nat), K] 26 (0, 0)) ∧ wx.ownsRow (gw + 1) 3 1 K Z.length (Z.map (.int .i64)) ∧ (∀ q, K.ownBlock = some q → ¬ q = gm) ∧ wx.heap[gw]? = some (.cells #[.int .i64 0, .slice none 0 0] 26 (0, 0)) ∧ Below w.heap.size w wx)
  case first =>
    by_cases hq : Q = ⟨#[]⟩
    · have HZz := Lib.hid (show Z = [] by rw [HZ.out, plZ, if_pos hq])
      have b2 : Q.toList.isEmpty = true := by rw [hq]; simp
      have b1 : (!Q.toList.isEmpty) = false := by rw [b2]; rfl
      clear hq
      rw [b1]
      go_wp2
      go_meet
      exact ⟨_, HGm.out, by rw [HZz.out]; exact World.ownsRow_nil _ _ _ _, own_nil, HGw.out, HBU.out⟩
    · have hz : Z = (parts Q 44).map fun t => ((codeV t : Nat) : Int) := by rw [HZ.out, plZ, if_neg hq]
      have HZz := Lib.hid hz
      have b2 : Q.toList.isEmpty = false := empty_ne hq
      have b1 : (!Q.toList.isEmpty) = true := by rw [b2]; rfl
      obtain ⟨N2, hN2⟩ : ∃ N, N = (parts Q 44).length := ⟨_, rfl⟩
      have HN2 := Lib.hid hN2
      have HZN := Lib.hid (show Z.length = N2 by rw [hz, List.length_map, hN2])
      have hN2b : N2 ≤ 1048577 := by have := HZl.out; rw [HZN.out] at this; exact this
      clear hz hq hN2
      rw [b1]
      go_wp2_with fail
      refine (implSplit_n Q 44 N2 HN2.out _ HQs.out).mono ?_
      rintro e w3 ⟨g3, c3, rfl, hg3B, hg3lt, hcg3, hb⟩
      have hcg4 : ∀ wx : World, wx.heap[g3]? = w3.heap[g3]? → ∀ j, j < N2 → wx.cell? ⟨g3, j, none⟩ = some (.string (pt Q 44 j)) := fun wx hx j hj => by rw [cell_heap7 hx]; exact hcg3 j hj
      have HC3 := Lib.hid hcg4
      have HB3 := Lib.hid (HBU.out.trans (hb.mono HBU.out.size))
      have HGm3 := Lib.hid ((hb.block gm (by rw [HUs.out]; exact Nat.lt_succ_self _)).trans HGm.out)
      have HGw3 := Lib.hid ((hb.block gw (by rw [HUs.out]; omega)).trans HGw.out)
      have hg3m : ¬ g3 = gm := by have := HUs.out; omega
      clear hcg3 hcg4 hb hg3B
      go_wp2
      go_loopw [9, 24] (fun _ i wr => ∃ (j : Nat) (K : Value), j ≤ N2 ∧ i = .int .i64 (j : Nat) ∧ wr.heap[gm]? = some (.cells #[.int .i64 (M : Nat), K] 26 (0, 0)) ∧ wr.ownsRow (gw + 1) 3 1 K (Z.take j).length ((Z.take j).map (.int .i64)) ∧ (∀ q, K.ownBlock = some q → ¬ q = gm) ∧ wr.heap[gw]? = some (.cells #[.int .i64 0, .slice none 0 0] 26 (0, 0)) ∧ Below w.heap.size w wr ∧ (∀ q, K.ownBlock = some q → ¬ q = g3) ∧ wr.heap[g3]? = w3.heap[g3]? ∧ g3 < wr.heap.size) (fun _ i _ => N2 - (intOf i).toNat)
      case atStart => exact ⟨0, _, Nat.zero_le _, rfl, HGm3.out, World.ownsRow_nil _ _ _ _, own_nil, HGw3.out, HB3.out, own_nil, rfl, hg3lt⟩
      case round =>
        obtain ⟨j, K, hj, rfl, hgm, ho, hga, hgw, hb, hga3, hh3, hlt3⟩ := hrel
        obtain ⟨X, hX⟩ : ∃ X, X = Z.take j := ⟨_, rfl⟩
        have hlX : X.length = j := by rw [hX, List.length_take]; have := HZN.out; omega
        rw [← hX] at ho
        have HX := Lib.hid hX
        have HLX := Lib.hid hlX
        have HO := Lib.hid ho
        have HGa := Lib.hid hga
        have HGm5 := Lib.hid hgm
        have HGw5 := Lib.hid hgw
        have HB5 := Lib.hid hb
        have HGa3 := Lib.hid hga3
        have HH3 := Lib.hid hh3
        have HLt3 := Lib.hid hlt3
        have hgs : gm < wr.heap.size := (Array.getElem?_eq_some_iff.mp hgm).1
        by_cases hjl : j < N2
        · have d1 := HC3.out wr hh3 j hjl
          obtain ⟨m1, p1⟩ := cells_of_heap hgm 1 (by simp)
          have hst := take_one Z j (by rw [HZN.out]; exact hjl)
          have hgd : Z.getD j 0 = ((codeV (pt Q 44 j) : Nat) : Int) := by
            have hjP : j < (parts Q 44).length := by rw [← HN2.out]; exact hjl
            rw [HZz.out, List.getD_eq_getElem?_getD, List.getElem?_map, pt, List.getD_eq_getElem?_getD, List.getElem?_eq_getElem hjP]
            rfl
          rw [hgd, ← hX] at hst
          obtain ⟨t, ht⟩ : ∃ t, t = pt Q 44 j := ⟨_, rfl⟩
          rw [← ht] at d1 hst
          obtain ⟨C, hC⟩ : ∃ C, C = codeV t := ⟨_, rfl⟩
          rw [← hC] at hst
          have HST := Lib.hid hst
          have HC := Lib.hid hC
          have HTb := Lib.hid (HTab.out.below hb HTab.out.lt)
          have c63 : X.length + 1 ≤ maxLen := by unfold maxLen; omega
          have c47 : (X.length + 1) * 8 ≤ 140737488355328 := by omega
          clear hX hst hgd ht hC ho hga hgm hgw hb hga3 hh3 hlX
          go_upto_region 7 with (fail)
          go_region_law (first
            | (refine step_append_lies _ (by rfl) (.tmp 29) (.tmp 32) 24 (by rfl) (gw + 1) 3 i0 (.int .i64 0) 1 8 Tryd.underlying24 hi hz0 hz1 hz2 rfl (by decide) K X.length (X.map (.int .i64)) (by rfl) (HO.out.alloc _).drew ⟨wr.heap.size, 0, none⟩ 1 1 [.int .i64 (C : Nat)] (by rfl) (by rfl) (World.news_of_block (cs := #[.int .i64 (C : Nat)]) (t := 3) (fr := (0, 0)) (heap_alloc_new wr _)) (by simp [Value.oneCell']) (by decide) c63 c47 (by simp; omega) (wr.heap.size + 1) (by simp) ?_; intro g2 cap2 w4 hown2 hgrow2 hat2 hlt4; obtain ⟨o14, p14, hg7, ho7, hgg, hw7, hb7⟩ := app_boxV HGm5.out HO.out HGa.out HGw5.out hgmw HB5.out hle hown2 ⟨hgrow2.os, hgrow2.tape, hgrow2.output, hgrow2.size, hgrow2.block⟩ hat2; have HG7 := Lib.hid hg7; have HO7 := Lib.hid ho7; have HGG := Lib.hid hgg; have HW7 := Lib.hid hw7; have HB7 := Lib.hid hb7; have HH7 := Lib.hid ((app_otherV (w := wr) (w4 := w4) (gm := gm) (g2 := g2) (V := K) (x := (C : Nat)) (X.length + 1) cap2 ⟨hgrow2.os, hgrow2.tape, hgrow2.output, hgrow2.size, hgrow2.block⟩ g3 HLt3.out HGa3.out hg3m).trans HH3.out); have HG3 := Lib.hid (show ¬ g2 = g3 by rcases hat2 with h1 | h1; exact HGa3.out _ h1; have := HLt3.out; omega); have HS7 := Lib.hid (show g3 < (w4.setCell ⟨gm, 1, none⟩ (.slice (some ⟨g2, 0, none⟩) (X.length + 1) cap2)).heap.size by have h1 := hgrow2.size; have h2 := HLt3.out; simp at h1 ⊢; omega); clear hg7 ho7 hgg hw7 hb7 hown2 hgrow2 hat2 hlt4)
            | (go_simp; go_at_call 35; refine (implCodeOf_q t C HC.out _ (by first | exact HTb.out | exact HTb.out.drew)).mono ?_; rintro e w5 ⟨rfl, rfl⟩))
          all_goals
            clear o14 p14 m1 p1 d1 c63 c47
            go_wp2
            go_roundw
            case rel => exact ⟨j + 1, .slice (some ⟨g2, 0, none⟩) (X ++ [((C : Nat) : Int)]).length cap2, by omega, by go_num, HG7.out, by rw [HST.out]; exact HO7.out, own_one HGG.out, HW7.out, HB7.out, own_one HG3.out, HH7.out, HS7.out⟩
            case measure => simp [intOf]; omega
        · obtain rfl : j = N2 := by omega
          have HXZ := Lib.hid (show X = Z by rw [HX.out, List.take_of_length_le (by rw [HZN.out]; exact Nat.le_refl _)])
          clear hX ho hga hgm hgw hb hga3 hh3 hlX hlt3
          go_wp2
          go_meet
          exact ⟨K, HGm5.out, by rw [← HXZ.out]; exact HO.out, HGa.out, HGw5.out, HB5.out⟩
  case rest =>
    obtain ⟨K, hgm, ho, hga, hgw, hb⟩ := hcut
    have HGm7 := Lib.hid hgm
    have HO7 := Lib.hid ho
    have HGw7 := Lib.hid hgw
    have HB7 := Lib.hid hb
    have hgs : gm < wc.heap.size := (Array.getElem?_eq_some_iff.mp hgm).1
    have m0 := (cells_of_heap hgm 0 (by simp)).1
    have m1 := (cells_of_heap hgm 1 (by simp)).1
    simp only [List.getElem_toArray, List.getElem_cons_zero, List.getElem_cons_succ] at m0 m1
    obtain ⟨T, hT⟩ : ∃ T, T = rpT (M : Nat) Z := ⟨_, rfl⟩
    obtain ⟨ok, hok⟩ : ∃ o, o = okRp (M : Nat) Z := ⟨_, rfl⟩
    have HT := Lib.hid hT
    have HOk := Lib.hid hok
    clear hgm ho hga hgw hb hT hok
    go_wp2_with fail
    refine (implIsReport_q (M : Nat) K Z ok HOk.out _ (by have := HZl.out; unfold maxLen; omega) (Rd.of_owns HO7.out)).mono ?_
    rintro e w5 ⟨rfl, hb5⟩
    have HB8 := Lib.hid (HB7.out.trans (hb5.mono HB7.out.size))
    have HG8 := Lib.hid ((hb5.block gw (by omega)).trans HGw7.out)
    have HM8 := Lib.hid ((hb5.block gm hgs).trans HGm7.out)
    have HO8 := Lib.hid (owns_below HO7.out hb5)
    have hgs8 : gm < w5.heap.size := Nat.lt_of_lt_of_le hgs hb5.size
    clear hb5 m0 m1
    cases ok
    · have HRz := Lib.hid (show r = ⟨0, [], false⟩ by rw [HRv.out, if_neg (fun e => by rw [e.1] at HOk; exact absurd HOk.out (by decide))])
      obtain ⟨y0, q0⟩ := cells_of_heap HG8.out 0 (by simp)
      obtain ⟨y1, q1⟩ := cells_of_heap HG8.out 1 (by simp)
      go_wp2
      clear y0 q0 y1 q1
      obtain ⟨wf, hwf⟩ : ∃ x, x = putW (w5) (gw) 0 [.int .i64 0, .slice none 0 0] := ⟨_, rfl⟩
      have kf := putW_all [.int .i64 0, .slice none 0 0] HG8.out rfl
      have bf := putW_below (b := gw) (by first | omega | simp) [.int .i64 0, .slice none 0 0] 0 _ HB8.out
      have of := HNil.out _ HB8.out HRz.out
      rw [← hwf] at kf bf of
      have cf := hwf.symm
      simp only [putW, Nat.reduceAdd] at cf
      rw [cf]
      clear cf hwf
      have f0 := (cells_of_heap kf 0 (by simp)).1
      have f1 := (cells_of_heap kf 1 (by simp)).1
      simp only [List.getElem_toArray, List.getElem_cons_zero, List.getElem_cons_succ] at f0 f1
      refine bodyPost_ret (v := .tuple #[rpv 0 (.slice none 0 0), .bool false]) (by simp [results, Tryd.results10, go_sem, f0, f1]) rfl of
    · have HTb := Lib.hid (HTab.out.below HB8.out HTab.out.lt)
      have m0 := (cells_of_heap HM8.out 0 (by simp)).1
      have m1 := (cells_of_heap HM8.out 1 (by simp)).1
      simp only [List.getElem_toArray, List.getElem_cons_zero, List.getElem_cons_succ] at m0 m1
      go_wp2_with fail
      refine (implFormatReport_q (M : Nat) K Z T HT.out _ HTb.out (by have := HZl.out; unfold maxLen; omega) (Rd.of_owns HO8.out)).mono ?_
      rintro e w6 ⟨rfl, hb6⟩
      have HBx := Lib.hid (HB8.out.trans (hb6.mono HB8.out.size))
      have HGx := Lib.hid ((hb6.block gw (by omega)).trans HG8.out)
      have HMx := Lib.hid ((hb6.block gm hgs8).trans HM8.out)
      have HOx := Lib.hid (owns_below HO8.out hb6)
      clear hb6 m0 m1
      obtain ⟨y0, q0⟩ := cells_of_heap HGx.out 0 (by simp)
      obtain ⟨y1, q1⟩ := cells_of_heap HGx.out 1 (by simp)
      have m0 := (cells_of_heap HMx.out 0 (by simp)).1
      have m1 := (cells_of_heap HMx.out 1 (by simp)).1
      simp only [List.getElem_toArray, List.getElem_cons_zero, List.getElem_cons_succ] at m0 m1
      by_cases hf : T = s
      · have HRz := Lib.hid (show r = ⟨(M : Nat), Z, true⟩ by rw [HRv.out, if_pos ⟨HOk.out.symm, HT.out.symm.trans hf⟩])
        have b0 : (T.toList == s.toList) = true := by rw [hf]; simp
        have b1 : (!(T.toList == s.toList)) = false := by rw [b0]; rfl
        obtain ⟨ka, kc, rfl⟩ := owns_shape HOx.out
        clear hf
        go_wp2
        clear y0 q0 y1 q1 m0 m1
        obtain ⟨wf, hwf⟩ : ∃ x, x = putW (w6) (gw) 0 [.int .i64 (M : Nat), .slice ka Z.length kc] := ⟨_, rfl⟩
        have kf := putW_all [.int .i64 (M : Nat), .slice ka Z.length kc] HGx.out rfl
        have bf := putW_below (b := gw) (by first | omega | simp) [.int .i64 (M : Nat), .slice ka Z.length kc] 0 _ HBx.out
        have of := owns_putAt HOx.out (y := gw) (fun q hq => by have := (HOx.out.lt q hq).1; omega) 0 [.int .i64 (M : Nat), .slice ka Z.length kc]
        rw [← hwf] at kf bf of
        have cf := hwf.symm
        simp only [putW, Nat.reduceAdd] at cf
        rw [cf]
        clear cf hwf
        have f0 := (cells_of_heap kf 0 (by simp)).1
        have f1 := (cells_of_heap kf 1 (by simp)).1
        simp only [List.getElem_toArray, List.getElem_cons_zero, List.getElem_cons_succ] at f0 f1
        refine bodyPost_ret (v := .tuple #[rpv (M : Nat) (.slice ka Z.length kc), .bool true]) (by simp [results, Tryd.results10, go_sem, f0, f1]) rfl (by rw [HRz.out]; exact ⟨_, rfl, by rw [← HGW.out]; exact owns_base of (Nat.le_succ _), bf⟩)
      · have HRz := Lib.hid (show r = ⟨0, [], false⟩ by rw [HRv.out, if_neg (fun e => hf (HT.out.trans e.2))])
        have b0 : (T.toList == s.toList) = false := toList_ne hf
        have b1 : (!(T.toList == s.toList)) = true := by rw [b0]; rfl
        go_wp2
        clear y0 q0 y1 q1 m0 m1
        obtain ⟨wf, hwf⟩ : ∃ x, x = putW (w6) (gw) 0 [.int .i64 0, .slice none 0 0] := ⟨_, rfl⟩
        have kf := putW_all [.int .i64 0, .slice none 0 0] HGx.out rfl
        have bf := putW_below (b := gw) (by first | omega | simp) [.int .i64 0, .slice none 0 0] 0 _ HBx.out
        have of := HNil.out _ HBx.out HRz.out
        rw [← hwf] at kf bf of
        have cf := hwf.symm
        simp only [putW, Nat.reduceAdd] at cf
        rw [cf]
        clear cf hwf
        have f0 := (cells_of_heap kf 0 (by simp)).1
        have f1 := (cells_of_heap kf 1 (by simp)).1
        simp only [List.getElem_toArray, List.getElem_cons_zero, List.getElem_cons_succ] at f0 f1
        refine bodyPost_ret (v := .tuple #[rpv 0 (.slice none 0 0), .bool false]) (by simp [results, Tryd.results10, go_sem, f0, f1]) rfl of

end Go.Proofs.YtghijkpcmamebaaDoor
