/- DERIVED. The reference's FormatReport: a report's text. · The reference's ParseReport: the report whose text is s. -/
import Derived.Test.YtghijkpcmamebaaDoorRpSpec
import Derived.Test.YtghijkpcmamebaaDoorAcTx
import Derived.Test.YtghijkpcmamebaaDoorAcPa2
import Derived.Test.YtghijkpcmamebaaDoorJoin
import Derived.Test.YtghijkpcmamebaaDoorRpSpec5
import Derived.Deep.RegionLaw
import Derived.Deep.DeepCutAuto
namespace Go.Proofs.YtghijkpcmamebaaDoor
open Go.RowKit

theorem rpN_asc {zs : List Int} {m : Nat} (h : rpN zs m = true) : ∀ j, j < m → ((j : Nat) : Int) + 1 ≤ zs.getD j 0
  | 0, hj => by
    have h1 := rpN_at h 0 hj
    rw [rpAt, Bool.and_eq_true] at h1
    have := (of_decide_eq_true h1.1).1
    omega
  | j + 1, hj => by
    have ih := rpN_asc h j (by omega)
    have h1 := rpN_at h (j + 1) hj
    rw [rpAt, Bool.and_eq_true, Bool.or_eq_true] at h1
    rcases h1.2 with h2 | h2
    · have := of_decide_eq_true h2; omega
    · have := of_decide_eq_true h2
      rw [Nat.add_sub_cancel] at this
      omega
theorem okRp_len {r : Int} {zs : List Int} (h : okRp r zs = true) : zs.length ≤ 56 := by
  rcases Nat.lt_or_ge 56 zs.length with h1 | h1
  · have h2 := (okRp_at h).2 56 h1
    rw [okRp, Bool.and_eq_true] at h
    have h3 := rpN_asc h.1 56 h1
    omega
  · exact h1
def colonS : ByteArray := ⟨#[58]⟩
def commaS : ByteArray := ⟨#[44]⟩
/-- A report's text. -/
def rpT (r : Int) (zs : List Int) : ByteArray := if okRp r zs = true then mdV r ++ colonS ++ joined (zs.map nmV) commaS else ⟨#[]⟩
theorem specCodeName_q (c : Int) (T : ByteArray) (hT : T = nmV c) (w : World) : Calls Tryd.prog 49 #[.int .i64 c] w fun e w' => e = .returned (.string T) ∧ Below w.heap.size w w' := by
  rw [hT]; exact specCodeName_any c w
theorem specFormatMods_q (c : Int) (T : ByteArray) (hT : T = mdV c) (w : World) : Calls Tryd.prog 50 #[.int .i64 c] w fun e w' => e = .returned (.string T) ∧ Below w.heap.size w w' := by
  rw [hT]; exact specFormatMods_any c w
theorem specJoin_q (v : Value) (ss : List ByteArray) (sep T : ByteArray) (hT : T = joined ss sep) (w : World) (hl : ss.length ≤ 1048576) (hsep : sep.size ≤ 1048576) (hj : ∀ k, k ≤ ss.length → (jn ss sep k).length ≤ 70368744177664) (h : Rd w v (ss.map .string)) :
    Calls Tryd.prog 51 #[v, .string sep] w fun e w' => e = .returned (.string T) ∧ Below w.heap.size w w' := by
  rw [hT]; exact specJoin_any v ss sep w hl hsep hj h
theorem strs_take7 (ss : List ByteArray) (j : Nat) (h : j < ss.length) : (ss.take (j + 1)).map Value.string = (ss.take j).map Value.string ++ [.string (ss.getD j ⟨#[]⟩)] := by
  rw [List.take_succ_eq_append_getElem h, List.map_append, List.getD_eq_getElem?_getD, List.getElem?_eq_getElem h]
  rfl

set_option maxRecDepth 100000 in
set_option maxHeartbeats 4000000 in
theorem specFormatReport_any (r : Int) (u : Value) (zs : List Int) (w : World) (hl : zs.length ≤ maxLen) (h : Rd w u (zs.map (.int .i64))) :
    Calls Tryd.prog 18 #[rpv r u] w fun e w' => e = .returned (.string (rpT r zs)) ∧ Below w.heap.size w w' := by
  obtain ⟨i0, hi, hz0, hz1, hz2⟩ := info_parts info_str
  obtain ⟨R, hR⟩ : ∃ R, R = okRp r zs := ⟨_, rfl⟩
  obtain ⟨X, hX⟩ : ∃ X, X = rpT r zs := ⟨_, rfl⟩
  rw [← hX]
  rw [rpT, ← hR] at hX
  obtain ⟨a, cap, rfl⟩ := ints_shape h
  obtain ⟨n, hnl⟩ : ∃ n, n = zs.length := ⟨_, rfl⟩
  have HNL := Lib.hid hnl
  have HR := Lib.hid hR
  have HX := Lib.hid hX
  have HL := Lib.hid hl
  have H := Lib.hid h
  have hnm : n ≤ maxLen := by rw [hnl]; exact hl
  unfold maxLen at hnm
  rw [← hnl]
  clear hR hX hl h hnl
  obtain ⟨W, hW⟩ : ∃ W, W = w.alloc (.cells #[.int .i64 r, .slice a n cap] 26) := ⟨_, rfl⟩
  have HX0 := Lib.hid (show Bxd W w.heap.size [.int .i64 r, .slice a n cap] by rw [hW]; exact Bxd.new _ _ _)
  have HB0 := Lib.hid (show Below w.heap.size w W by rw [hW]; exact (Below.refl _ _).alloc (Nat.le_refl _) _)
  have HS0 := Lib.hid (show w.heap.size < W.heap.size by rw [hW]; simp)
  have HW := Lib.hid hW
  clear hW
  go_enter Tryd.func18, Tryd.ntmps18
  go_wp2_with fail
  rw [← HW.out]
  have c0 := HX0.out.at 0 _ rfl
  have c1 := HX0.out.at 1 _ rfl
  refine (specIsReport_q r _ zs R HR.out _ HL.out (by rw [HNL.out]; have := H.out.below HB0.out; rw [← HNL.out] at this ⊢; exact this)).mono ?_
  rintro e w1 ⟨rfl, hb⟩
  have HB1 := Lib.hid (show Below W.heap.size W w1 from hb)
  clear hb c0 c1
  cases R
  · have HXx := Lib.hid (show X = ⟨#[]⟩ by rw [HX.out]; rfl)
    go_wp2
    go_ret
    exact ⟨ret_tx HXx.out.symm, HB0.out.trans (HB1.out.mono HB0.out.size)⟩
  · have hz := (okRp_at HR.out.symm).2
    have hn56 := okRp_len HR.out.symm
    have hn : n ≤ 56 := by rw [HNL.out]; exact hn56
    have HXx := Lib.hid (show X = mdV r ++ colonS ++ joined (zs.map nmV) commaS by rw [HX.out]; rfl)
    have hj7 : ∀ k, k ≤ (zs.map nmV).length → (jn (zs.map nmV) commaS k).length ≤ k * 6 := by
      intro k hk
      have := jn_le 5 (zs.map nmV) commaS (fun s hs => by obtain ⟨c, _, rfl⟩ := List.mem_map.1 hs; exact nmV_size c) k hk
      have e : commaS.size = 1 := rfl
      rw [e] at this
      exact this
    have hj8 : ∀ k, k ≤ (zs.map nmV).length → (jn (zs.map nmV) commaS k).length ≤ 70368744177664 := by
      intro k hk
      have := hj7 k hk
      rw [List.length_map] at hk
      omega
    obtain ⟨T, hT⟩ : ∃ T, T = joined (zs.map nmV) commaS := ⟨_, rfl⟩
    have hTs : T.size ≤ 336 := by
      rw [hT]
      have h1 := hj7 _ (Nat.le_refl _)
      rw [List.length_map] at h1
      have h2 : (joined (zs.map nmV) commaS).size = (jn (zs.map nmV) commaS (zs.map nmV).length).length := rfl
      rw [h2, List.length_map]
      omega
    obtain ⟨D, hD⟩ : ∃ D, D = mdV r := ⟨_, rfl⟩
    have hDs : D.size ≤ 4 := by rw [hD]; exact mdV_size r
    have HJ8 := Lib.hid hj8
    have HT := Lib.hid hT
    have HTS := Lib.hid hTs
    have HD := Lib.hid hD
    have HDS := Lib.hid hDs
    have HCS := Lib.hid (show commaS.size ≤ 1048576 by decide)
    have HML := Lib.hid (show (zs.map nmV).length ≤ 1048576 by rw [List.length_map]; omega)
    clear hz hn56 hj7 hj8 hT hTs hD hDs
    go_upto_region 4 with (fail)
    obtain ⟨A0, hA0⟩ : ∃ x, x = w1.alloc (.cells #[] 9) := ⟨_, rfl⟩
    obtain ⟨ga, hga⟩ : ∃ g, g = w1.heap.size := ⟨_, rfl⟩
    have hbA : Below w1.heap.size w1 A0 := by rw [hA0]; exact (Below.refl _ _).alloc (Nat.le_refl _) _
    have hoA : A0.ownsRow w1.heap.size 9 1 (.slice (some ⟨ga, 0, none⟩) 0 0) 0 (((zs.map nmV).take 0).map .string) := by rw [hA0, hga]; exact World.ownsRow_lit (e := 9) (size := 1) w1 #[] 0 (Nat.le_refl _) (by simp [maxLen]) rfl
    rw [← hA0, ← hga]
    have HBA := Lib.hid hbA
    have HOA := Lib.hid hoA
    clear hA0 hga hbA hoA
    go_wp2
    go_loopw [3, 4] (fun u i wr => ∃ (j : Nat) (a : Option Addr) (c : Nat), j ≤ n ∧ i = .int .i64 j ∧ u = .slice a j c ∧ wr.ownsRow w1.heap.size 9 1 (.slice a j c) j (((zs.map nmV).take j).map .string) ∧ Below w1.heap.size w1 wr) (fun _ i _ => n - (intOf i).toNat)
    case atStart => exact ⟨0, _, _, Nat.zero_le _, rfl, rfl, HOA.out, HBA.out⟩
    case round =>
      obtain ⟨j, a', c', hj, rfl, rfl, ho, hb⟩ := hrel
      have hbW := HB1.out.trans (hb.mono HB1.out.size)
      have c0 := (HX0.out.below hbW HS0.out).at 0 _ rfl
      have c1 := (HX0.out.below hbW HS0.out).at 1 _ rfl
      have hbw := HB0.out.trans (hbW.mono HB0.out.size)
      have HO := Lib.hid ho
      have HB := Lib.hid hb
      have HBW := Lib.hid hbW
      by_cases hlt' : j < n
      · have hlt2 : j < zs.length := by rw [← HNL.out]; exact hlt'
        obtain ⟨b, off, rfl, hlt, hc⟩ := ints_at H.out hlt2
        have d1 := (hbw.cell (p := ⟨b, off + j, none⟩) hlt).trans hc
        have hst := strs_take7 (zs.map nmV) j (by rw [List.length_map]; exact hlt2)
        have hgd : (zs.map nmV).getD j ⟨#[]⟩ = nmV (zs.getD j 0) := by
          rw [List.getD_eq_getElem?_getD, List.getElem?_map, List.getElem?_eq_getElem hlt2, List.getD_eq_getElem?_getD, List.getElem?_eq_getElem hlt2]
          rfl
        rw [hgd] at hst
        obtain ⟨Z, hZ⟩ : ∃ Z, Z = zs.getD j 0 := ⟨_, rfl⟩
        rw [← hZ] at d1 hst
        obtain ⟨N, hN⟩ : ∃ N, N = nmV Z := ⟨_, rfl⟩
        rw [← hN] at hst
        have HST := Lib.hid hst
        have HN := Lib.hid hN
        clear hZ hN hst hgd hc hlt ho hb hbW hbw
        go_wp2_with fail
        refine (specCodeName_q Z N HN.out _).mono ?_
        rintro e w5 ⟨rfl, hb5⟩
        have HB6 := Lib.hid (HB.out.trans (hb5.mono HB.out.size))
        have HO6 := Lib.hid (owns_below HO.out hb5)
        have hsz1 : w1.heap.size ≤ w5.heap.size + 1 := Nat.le_succ_of_le HB6.out.size
        have b63 : j + 1 ≤ maxLen := by unfold maxLen; omega
        have b47 : (j + 1) * 16 ≤ 140737488355328 := by omega
        clear hb5 d1 c0 c1 hlt2
        go_wp2_with (at_builtin; refine wpList_append_owns rfl _ _ 51 rfl w1.heap.size 9 i0 (.string ByteArray.empty) 1 16 Tryd.underlying51 hi hz0 hz1 hz2 rfl (by decide) _ _ _ rfl (HO6.out.alloc _) _ _ _ _ rfl (World.ownsRow_lit (e := 9) (size := 1) w5 #[.string N] 1 (Nat.le_refl _) (by simp [maxLen]) rfl) (by simp [Value.oneCell']) b63 b47 (by simp; exact hsz1) ?_)
        intro v6 w6 hown6 hgrow
        obtain ⟨a6, c6, rfl⟩ := owns_shape hown6
        have HB7 := Lib.hid ((HB6.out.alloc HB6.out.size _).grown hgrow (by simp; exact hsz1) (fun q hq => (HO6.out.lt q hq).1))
        have HO7 := Lib.hid (show w6.ownsRow w1.heap.size 9 1 (.slice a6 (j + 1) c6) (j + 1) (((zs.map nmV).take (j + 1)).map .string) by rw [HST.out]; simpa using hown6)
        clear hown6 hgrow b63 b47 hsz1
        go_wp2
        go_roundw
        case rel => exact ⟨j + 1, a6, c6, by omega, by go_num, rfl, HO7.out, HB7.out⟩
        case measure => simp [intOf]; omega
      · obtain rfl : j = n := by omega
        have hrd5 : Rd wr (.slice a' j c') ((zs.map nmV).map .string) := by
          have h1 := Rd.of_owns HO.out
          rwa [List.take_of_length_le (by rw [List.length_map, ← HNL.out]; exact Nat.le_refl _)] at h1
        have HRD5 := Lib.hid hrd5
        have hadd1 := fun (w : World) => run_string_add_sum (P := Tryd.prog) w D ⟨#[58]⟩ (by have := HDS.out; have h1 : (⟨#[58]⟩ : ByteArray).size = 1 := rfl; omega)
        have hadd2 := fun (w : World) => run_string_add_sum (P := Tryd.prog) w (D ++ ⟨#[58]⟩) T (by have := HDS.out; have := HTS.out; have h1 : (⟨#[58]⟩ : ByteArray).size = 1 := rfl; rw [ByteArray.size_append]; omega)
        clear hrd5 ho hb hbW hbw
        go_wp2_with fail
        refine (specFormatMods_q r D HD.out _).mono ?_
        rintro e w5 ⟨rfl, hb5⟩
        have HB6 := Lib.hid (HBW.out.trans (hb5.mono HBW.out.size))
        have HRD6 := Lib.hid (HRD5.out.below hb5)
        clear hb5 c0 c1
        go_wp2_with fail
        refine (specJoin_q _ (zs.map nmV) commaS T HT.out _ HML.out HCS.out HJ8.out HRD6.out).mono ?_
        rintro e w6 ⟨rfl, hb6⟩
        have HB7 := Lib.hid (HB6.out.trans (hb6.mono HB6.out.size))
        clear hb6
        go_wp2
        go_ret
        exact ⟨ret_tx (by rw [HXx.out, ← HD.out, ← HT.out]; rfl), HB0.out.trans (HB7.out.mono HB0.out.size)⟩
theorem specFormatReport_q (r : Int) (u : Value) (zs : List Int) (T : ByteArray) (hT : T = rpT r zs) (w : World) (hl : zs.length ≤ maxLen) (h : Rd w u (zs.map (.int .i64))) :
    Calls Tryd.prog 18 #[rpv r u] w fun e w' => e = .returned (.string T) ∧ Below w.heap.size w w' := by
  rw [hT]; exact specFormatReport_any r u zs w hl h
end Go.Proofs.YtghijkpcmamebaaDoor

namespace Go.Proofs.YtghijkpcmamebaaDoor
open Go.RowKit

def prA (s : ByteArray) : ByteArray := pt s 58 0
def prQ (s : ByteArray) : ByteArray := pt s 58 1
def prZ (s : ByteArray) : List Int := if prQ s = ⟨#[]⟩ then [] else (parts (prQ s) 44).map fun t => ((codeV t : Nat) : Int)
def prR (s : ByteArray) : Int := (pmV (prA s) : Nat)
/-- The report whose text is s. -/
def prV (s : ByteArray) : Rpr := if (parts s 58).length = 2 ∧ rpT (prR s) (prZ s) = s then ⟨prR s, prZ s, true⟩ else ⟨0, [], false⟩
theorem toList_nil_ne {a : ByteArray} (h : a ≠ ⟨#[]⟩) : (a.toList == []) = false := by
  have := toList_ne (y := ⟨#[]⟩) h
  simpa using this
theorem empty_ne {a : ByteArray} (h : a ≠ ⟨#[]⟩) : a.toList.isEmpty = false := by
  have := toList_nil_ne h
  cases hc : a.toList with
  | nil => rw [hc] at this; simp at this
  | cons x l => rfl
theorem prZ_len (s : ByteArray) : (prZ s).length ≤ s.size + 1 := by
  rw [prZ]; split
  · simp
  · rw [List.length_map]
    have h1 := parts_len (prQ s) 44
    have h3 : (prQ s).size ≤ s.size := parts_sizes s 58 1
    omega
/-- Behind 'app_box' every block but the row's own and the box is as it was. -/
theorem app_other {w w4 : World} {gm ga cap g2 : Nat} {X : List Int} {x : Int} (n cap2 : Nat)
    (hgrow2 : (w.alloc (.cells #[.int .i64 x] 3)).grownBy w4 (Value.slice (some ⟨ga, 0, none⟩) X.length cap).ownBlock) (q : Nat) (hq : q < w.heap.size) (hqa : ¬ ga = q) (hqm : ¬ q = gm) :
    (w4.setCell ⟨gm, 1, none⟩ (.slice (some ⟨g2, 0, none⟩) n cap2)).heap[q]? = w.heap[q]? := by
  have hba : Below w.heap.size w (w.alloc (.cells #[.int .i64 x] 3)) := (Below.refl _ _).alloc (Nat.le_refl _) _
  rw [heap_setCell_other w4 ⟨gm, 1, none⟩ q _ (by show ¬ q = gm; exact hqm)]
  rw [hgrow2.block q (by simp; omega) (fun e => by have h2 : some ga = some q := e.symm ▸ rfl; exact hqa (Option.some.inj h2))]
  exact hba.block q hq
theorem app_new {ga g2 q n : Nat} {X : List Int} {cap : Nat} (hat2 : (Value.slice (some ⟨ga, 0, none⟩) X.length cap).ownBlock = some g2 ∨ g2 = n + 1) (hqa : ¬ ga = q) (hq : q < n) : ¬ g2 = q := by
  rcases hat2 with h1 | h1
  · have h2 : some ga = some g2 := h1
    have h3 := Option.some.inj h2
    omega
  · omega
theorem take_one (Z : List Int) (j : Nat) (h : j < Z.length) : Z.take (j + 1) = Z.take j ++ [Z.getD j 0] := by
  rw [List.take_succ_eq_append_getElem h, List.getD_eq_getElem?_getD, List.getElem?_eq_getElem h]; rfl

set_option maxRecDepth 100000 in
set_option maxHeartbeats 8000000 in
theorem specParseReport_any (s : ByteArray) (w : World) (hl : s.size ≤ 1048576) :
    Calls Tryd.prog 21 #[.string s] w (RpTB (prV s) w) := by
  obtain ⟨i0, hi, hz0, hz1, hz2⟩ := info_parts info_int
  obtain ⟨r, hr⟩ : ∃ r, r = prV s := ⟨_, rfl⟩
  rw [← hr]
  have HR := Lib.hid hr
  have HL := Lib.hid hl
  clear hr hl
  obtain ⟨gw, hgw⟩ : ∃ g, g = w.heap.size := ⟨_, rfl⟩
  obtain ⟨V, hV⟩ : ∃ V, V = w.alloc (.cells #[.int .i64 0, .slice none 0 0] 26) := ⟨_, rfl⟩
  have HG0 := Lib.hid (show V.heap[gw]? = some (.cells #[.int .i64 0, .slice none 0 0] 26 (0, 0)) by rw [hV, hgw]; exact heap_alloc_new w _)
  have HB0 := Lib.hid (show Below w.heap.size w V by rw [hV]; exact (Below.refl _ _).alloc (Nat.le_refl _) _)
  have hs0 : V.heap.size = gw + 1 := by rw [hV, hgw]; simp
  have HS0 := Lib.hid hs0
  have HV := Lib.hid hV
  have HGW := Lib.hid hgw
  have hle : w.heap.size ≤ gw := by rw [hgw]; exact Nat.le_refl _
  have HNil := Lib.hid (show ∀ wx, Below w.heap.size w wx → r = ⟨0, [], false⟩ → RpTB r w (.returned (.tuple #[rpv 0 (.slice none 0 0), .bool false])) (putW wx gw 0 [.int .i64 0, .slice none 0 0]) from fun wx hx h => by
    rw [h]
    exact ⟨_, rfl, World.ownsRow_nil _ _ _ _, putW_below hle _ _ _ hx⟩)
  clear hV hs0
  go_enter Tryd.func21, Tryd.ntmps21
  obtain ⟨N, hN⟩ : ∃ N, N = (parts s 58).length := ⟨_, rfl⟩
  have HN := Lib.hid hN
  clear hN
  go_wp2_with fail
  rw [← HV.out, ← HGW.out]
  refine (specSplit_n s 58 N HN.out _ HL.out).mono ?_
  rintro e w1 ⟨g, cp, rfl, hgB, hglt, hcg, hb⟩
  have hNb : N ≤ 1048577 := by rw [HN.out]; have := parts_len s 58; have := HL.out; omega
  have HCG := Lib.hid hcg
  have HB1 := Lib.hid (HB0.out.trans (hb.mono HB0.out.size))
  have HG1 := Lib.hid ((hb.block gw (by rw [HS0.out]; omega)).trans HG0.out)
  have HS1 := Lib.hid (show gw < w1.heap.size by have := hb.size; have := HS0.out; omega)
  clear hcg hb hgw
  obtain ⟨y0, q0⟩ := cells_of_heap HG1.out 0 (by simp)
  obtain ⟨y1, q1⟩ := cells_of_heap HG1.out 1 (by simp)
  by_cases h2 : N = 2
  · subst h2
    have e0 := HCG.out 0 (by decide)
    have e1 := HCG.out 1 (by decide)
    obtain ⟨A, hA⟩ : ∃ A, A = prA s := ⟨_, rfl⟩
    obtain ⟨Q, hQ⟩ : ∃ Q, Q = prQ s := ⟨_, rfl⟩
    replace e0 : w1.cell? ⟨g, 0, none⟩ = some (.string A) := by rw [hA]; exact e0
    replace e1 : w1.cell? ⟨g, 1, none⟩ = some (.string Q) := by rw [hQ]; exact e1
    obtain ⟨M, hM⟩ : ∃ M, M = pmV A := ⟨_, rfl⟩
    have hQs : Q.size ≤ 1048576 := by rw [hQ]; exact pt_size s 58 1 HL.out
    obtain ⟨Z, hZ⟩ : ∃ Z, Z = prZ s := ⟨_, rfl⟩
    have hZl : Z.length ≤ 1048577 := by rw [hZ]; have := prZ_len s; have := HL.out; omega
    have hRv : r = if rpT (M : Nat) Z = s then ⟨(M : Nat), Z, true⟩ else ⟨0, [], false⟩ := by
      have hM2 : ((M : Nat) : Int) = prR s := by rw [hM, hA]; rfl
      rw [HR.out, prV, hM2, hZ]
      by_cases hf : rpT (prR s) (prZ s) = s
      · rw [if_pos hf, if_pos ⟨HN.out.symm, hf⟩]
      · rw [if_neg hf, if_neg (fun e => hf e.2)]
    have hZ2 : Z = if Q = ⟨#[]⟩ then [] else (parts Q 44).map fun t => ((codeV t : Nat) : Int) := by rw [hZ, prZ, hQ]
    have HM := Lib.hid hM
    have HRv := Lib.hid hRv
    have HZ2 := Lib.hid hZ2
    have HZl := Lib.hid hZl
    have HQs := Lib.hid hQs
    have HE1 := Lib.hid e1
    clear hM hRv hZ2 hZl hQs hA hQ hZ hNb y0 y1 q0 q1 e1
    go_wp2_with fail
    refine (specParseMods_n A M HM.out _).mono ?_
    rintro e w2 ⟨rfl, hb⟩
    have HB2 := Lib.hid (HB1.out.trans (hb.mono HB1.out.size))
    have HG2 := Lib.hid ((hb.block gw HS1.out).trans HG1.out)
    have HE2 := Lib.hid ((hb.cell (p := ⟨g, 1, none⟩) hglt).trans HE1.out)
    have HLg := Lib.hid (Nat.lt_of_lt_of_le hglt hb.size)
    have HS2 := Lib.hid (Nat.lt_of_lt_of_le HS1.out hb.size)
    clear hb e0
    go_upto_region 5 with (fail)
    obtain ⟨ge, hge⟩ : ∃ x, x = w2.heap.size := ⟨_, rfl⟩
    obtain ⟨gm, hgm⟩ : ∃ x, x = w2.heap.size + 1 := ⟨_, rfl⟩
    obtain ⟨U, hU⟩ : ∃ U, U = (w2.alloc (.cells #[] 3)).alloc (.cells #[.int .i64 (M : Nat), .slice (some ⟨ge, 0, none⟩) 0 0] 26) := ⟨_, rfl⟩
    have hbU : Below w2.heap.size w2 U := by rw [hU]; exact ((Below.refl _ _).alloc (Nat.le_refl _) _).alloc (by simp) _
    have hGm : U.heap[gm]? = some (.cells #[.int .i64 (M : Nat), .slice (some ⟨ge, 0, none⟩) ([] : List Int).length 0] 26 (0, 0)) := by
      rw [hU, hgm]; simpa using heap_alloc_new (w2.alloc (.cells #[] 3)) _
    have hOw : U.ownsRow (gw + 1) 3 1 (.slice (some ⟨ge, 0, none⟩) ([] : List Int).length 0) ([] : List Int).length (([] : List Int).map (.int .i64)) := by
      rw [hU, hge]
      have := World.ownsRow_lit (e := 3) (size := 1) (base := gw + 1) w2 #[] 0 HS2.out (by simp [maxLen]) rfl
      exact this.alloc _
    have hUs : U.heap.size = gm + 1 := by rw [hU, hgm]; simp
    rw [← hgm, ← hge, ← hU]
    have HUs := Lib.hid hUs
    have HGm := Lib.hid hGm
    have HGw := Lib.hid ((hbU.block gw HS2.out).trans HG2.out)
    have HOw := Lib.hid hOw
    have HBU := Lib.hid (HB2.out.trans (hbU.mono HB2.out.size))
    have HEU := Lib.hid ((hbU.cell (p := ⟨g, 1, none⟩) HLg.out).trans HE2.out)
    have HLgU := Lib.hid (Nat.lt_of_lt_of_le HLg.out hbU.size)
    have hgmw : gw < gm := by have := HS2.out; omega
    have hgmw1 : ¬ ge = gm := by omega
    have HGe := Lib.hid (show ge < gm by omega)
    clear hU hbU hGm hOw hge hgm hUs
    have x1 := HEU.out
    go_upto_if 23 with (fail)
    go_cut [6] (fun sd wx => ∃ (ga cap : Nat), wx.heap[gm]? = some (.cells #[.int .i64 (M : Nat), .slice (some ⟨ga, 0, none⟩) Z.length cap] 26 (0, 0)) ∧ wx.ownsRow (gw + 1) 3 1 (.slice (some ⟨ga, 0, none⟩) Z.length cap) Z.length (Z.map (.int .i64)) ∧ ¬ ga = gm ∧ wx.heap[gw]? = some (.cells #[.int .i64 0, .slice none 0 0] 26 (0, 0)) ∧ Below w.heap.size w wx)
    case first =>
      by_cases hq : Q = ⟨#[]⟩
      · have hz : Z = [] := by rw [HZ2.out, if_pos hq]
        have HZz := Lib.hid hz
        have b2 : Q.toList.isEmpty = true := by rw [hq]; simp
        have b1 : (!Q.toList.isEmpty) = false := by rw [b2]; rfl
        clear hz hq
        rw [b1]
        go_wp2
        go_meet
        exact ⟨ge, 0, by rw [HZz.out]; exact HGm.out, by rw [HZz.out]; exact HOw.out, hgmw1, HGw.out, HBU.out⟩
      · have hz : Z = (parts Q 44).map fun t => ((codeV t : Nat) : Int) := by rw [HZ2.out, if_neg hq]
        have HZz := Lib.hid hz
        have b2 : Q.toList.isEmpty = false := empty_ne hq
        have b1 : (!Q.toList.isEmpty) = true := by rw [b2]; rfl
        obtain ⟨N2, hN2⟩ : ∃ N, N = (parts Q 44).length := ⟨_, rfl⟩
        have HN2 := Lib.hid hN2
        have HZN := Lib.hid (show Z.length = N2 by rw [hz, List.length_map, hN2])
        have hN2b : N2 ≤ 1048577 := by have := HZl.out; rw [HZN.out] at this; exact this
        clear hz hq hN2
        rw [b1]
        go_wp2_with fail
        refine (specSplit_n Q 44 N2 HN2.out _ HQs.out).mono ?_
        rintro e w3 ⟨g3, c3, rfl, hg3B, hg3lt, hcg3, hb⟩
        have hcg4 : ∀ wx : World, wx.heap[g3]? = w3.heap[g3]? → ∀ j, j < N2 → wx.cell? ⟨g3, j, none⟩ = some (.string (pt Q 44 j)) := fun wx hx j hj => by rw [cell_heap hx]; exact hcg3 j hj
        have HC3 := Lib.hid hcg4
        have HB3 := Lib.hid (HBU.out.trans (hb.mono HBU.out.size))
        have HGm3 := Lib.hid ((hb.block gm (by rw [HUs.out]; exact Nat.lt_succ_self _)).trans HGm.out)
        have HGw3 := Lib.hid ((hb.block gw (by rw [HUs.out]; omega)).trans HGw.out)
        have HOw3 := Lib.hid (owns_below HOw.out hb)
        have hg3m : ¬ g3 = gm := by have := HUs.out; omega
        have hg3e : ¬ ge = g3 := by have := HUs.out; have := HGe.out; omega
        clear hcg3 hcg4 hb hg3B x1
        go_wp2
        go_loopw [7] (fun i wr => ∃ (j ga cap : Nat), j ≤ N2 ∧ i = .int .i64 (j : Nat) ∧ wr.heap[gm]? = some (.cells #[.int .i64 (M : Nat), .slice (some ⟨ga, 0, none⟩) (Z.take j).length cap] 26 (0, 0)) ∧ wr.ownsRow (gw + 1) 3 1 (.slice (some ⟨ga, 0, none⟩) (Z.take j).length cap) (Z.take j).length ((Z.take j).map (.int .i64)) ∧ ¬ ga = gm ∧ wr.heap[gw]? = some (.cells #[.int .i64 0, .slice none 0 0] 26 (0, 0)) ∧ Below w.heap.size w wr ∧ ¬ ga = g3 ∧ wr.heap[g3]? = w3.heap[g3]? ∧ g3 < wr.heap.size) (fun i _ => N2 - (intOf i).toNat)
        case atStart => exact ⟨0, ge, 0, Nat.zero_le _, rfl, HGm3.out, HOw3.out, hgmw1, HGw3.out, HB3.out, hg3e, rfl, hg3lt⟩
        case round =>
          obtain ⟨j, ga, cap, hj, rfl, hgm, ho, hga, hgw, hb, hga3, hh3, hlt3⟩ := hrel
          obtain ⟨X, hX⟩ : ∃ X, X = Z.take j := ⟨_, rfl⟩
          have hlX : X.length = j := by rw [hX, List.length_take]; have := HZN.out; omega
          rw [← hX] at hgm ho
          have HX := Lib.hid hX
          have HLX := Lib.hid hlX
          have HO := Lib.hid ho
          have HGa := Lib.hid hga
          have HGm5 := Lib.hid hgm
          have HGw5 := Lib.hid hgw
          have HB5 := Lib.hid hb
          have HGa3 := Lib.hid hga3
          have HH3 := Lib.hid hh3
          have HLt3 := Lib.hid hlt3
          have hgs : gm < wr.heap.size := (Array.getElem?_eq_some_iff.mp hgm).1
          by_cases hjl : j < N2
          · have d1 := HC3.out wr hh3 j hjl
            obtain ⟨m1, p1⟩ := cells_of_heap hgm 1 (by simp)
            have hst := take_one Z j (by rw [HZN.out]; exact hjl)
            have hgd : Z.getD j 0 = ((codeV (pt Q 44 j) : Nat) : Int) := by
              have hjP : j < (parts Q 44).length := by rw [← HN2.out]; exact hjl
              rw [HZz.out, List.getD_eq_getElem?_getD, List.getElem?_map, pt, List.getD_eq_getElem?_getD, List.getElem?_eq_getElem hjP]
              rfl
            rw [hgd, ← hX] at hst
            obtain ⟨t, ht⟩ : ∃ t, t = pt Q 44 j := ⟨_, rfl⟩
            rw [← ht] at d1 hst
            obtain ⟨C, hC⟩ : ∃ C, C = codeV t := ⟨_, rfl⟩
            rw [← hC] at hst
            have HST := Lib.hid hst
            have HC := Lib.hid hC
            have c63 : X.length + 1 ≤ maxLen := by unfold maxLen; omega
            have c47 : (X.length + 1) * 8 ≤ 140737488355328 := by omega
            clear hX hst hgd ht hC ho hga hgm hgw hb hga3 hh3 hlX
            go_upto_region 10 with (fail)
            go_region_law (first
              | (refine step_append_lies _ (by rfl) (.tmp 35) (.tmp 41) 24 (by rfl) (gw + 1) 3 i0 (.int .i64 0) 1 8 Tryd.underlying24 hi hz0 hz1 hz2 rfl (by decide) (.slice (some ⟨ga, 0, none⟩) X.length cap) X.length (X.map (.int .i64)) (by rfl) (HO6.out.alloc _).drew ⟨w5.heap.size, 0, none⟩ 1 1 [.int .i64 (C : Nat)] (by rfl) (by rfl) (World.news_of_block (cs := #[.int .i64 (C : Nat)]) (t := 3) (fr := (0, 0)) (heap_alloc_new w5 _)) (by simp [Value.oneCell']) (by decide) c63 c47 (by simp; omega) (w5.heap.size + 1) (by simp) ?_; intro g2 cap2 w4 hown2 hgrow2 hat2 hlt4; obtain ⟨o14, p14, hg7, ho7, hgg, hw7, hb7⟩ := app_box HGm6.out HO6.out HGa.out HGw6.out hgmw HB6.out hle hown2 ⟨hgrow2.os, hgrow2.tape, hgrow2.output, hgrow2.size, hgrow2.block⟩ hat2; have HG7 := Lib.hid hg7; have HO7 := Lib.hid ho7; have HGG := Lib.hid hgg; have HW7 := Lib.hid hw7; have HB7 := Lib.hid hb7; have HH7 := Lib.hid ((app_other (w := w5) (w4 := w4) (gm := gm) (ga := ga) (cap := cap) (g2 := g2) (X := X) (x := (C : Nat)) (X.length + 1) cap2 ⟨hgrow2.os, hgrow2.tape, hgrow2.output, hgrow2.size, hgrow2.block⟩ g3 HLt6.out HGa3.out hg3m).trans HH6.out); have HG3 := Lib.hid (app_new hat2 HGa3.out HLt6.out); have HS7 := Lib.hid (show g3 < (w4.setCell ⟨gm, 1, none⟩ (.slice (some ⟨g2, 0, none⟩) (X.length + 1) cap2)).heap.size by have h1 := hgrow2.size; have h2 := HLt6.out; simp at h1 ⊢; omega); clear hg7 ho7 hgg hw7 hb7 hown2 hgrow2 hat2 hlt4)
              | (go_simp; go_at_call 56; refine (specCodeOf_n t C HC.out _).mono ?_; rintro e w5 ⟨rfl, hb5⟩; have hbr : Below wr.heap.size wr w5 := (by first | exact hb5 | exact ((Below.refl _ _).drew).trans hb5 | exact ((Below.refl _ _).drew.drew).trans hb5); have hgm6 := (hbr.block gm hgs).trans HGm5.out; have o15 := (cells_of_heap hgm6 1 (by simp)).1; have hgs6 : gm < w5.heap.size := Nat.lt_of_lt_of_le hgs hbr.size; have HGm6 := Lib.hid hgm6; have HO6 := Lib.hid (owns_below HO.out hbr); have HGw6 := Lib.hid ((hbr.block gw (by omega)).trans HGw5.out); have HB6 := Lib.hid (HB5.out.trans (hbr.mono HB5.out.size)); have HH6 := Lib.hid ((hbr.block g3 HLt3.out).trans HH3.out); have HLt6 := Lib.hid (Nat.lt_of_lt_of_le HLt3.out hbr.size); clear hbr hb5 hgm6))
            all_goals
              clear o14 p14 m1 p1 d1 c63 c47
              go_wp2
              go_roundw
              case rel => exact ⟨j + 1, g2, cap2, by omega, by go_num, by rw [HST.out]; exact HG7.out, by rw [HST.out]; exact HO7.out, HGG.out, HW7.out, HB7.out, HG3.out, HH7.out, HS7.out⟩
              case measure => simp [intOf]; omega
          · obtain rfl : j = N2 := by omega
            have HXZ := Lib.hid (show X = Z by rw [HX.out, List.take_of_length_le (by rw [HZN.out]; exact Nat.le_refl _)])
            clear hX ho hga hgm hgw hb hga3 hh3 hlX hlt3
            go_wp2
            go_meet
            exact ⟨ga, cap, by rw [← HXZ.out]; exact HGm5.out, by rw [← HXZ.out]; exact HO.out, HGa.out, HGw5.out, HB5.out⟩
    case rest =>
      obtain ⟨ga, cap, hgm, ho, hga, hgw, hb⟩ := hcut
      have HGm7 := Lib.hid hgm
      have HO7 := Lib.hid ho
      have HGw7 := Lib.hid hgw
      have HB7 := Lib.hid hb
      have hgs : gm < wc.heap.size := (Array.getElem?_eq_some_iff.mp hgm).1
      have m0 := (cells_of_heap hgm 0 (by simp)).1
      have m1 := (cells_of_heap hgm 1 (by simp)).1
      obtain ⟨T, hT⟩ : ∃ T, T = rpT (M : Nat) Z := ⟨_, rfl⟩
      have HT := Lib.hid hT
      clear hgm ho hga hgw hb hT x1
      go_wp2_with fail
      refine (specFormatReport_q (M : Nat) _ Z T HT.out _ (by have := HZl.out; unfold maxLen; omega) (Rd.of_owns HO7.out)).mono ?_
      rintro e w6 ⟨rfl, hb6⟩
      have HBx := Lib.hid (HB7.out.trans (hb6.mono HB7.out.size))
      have HGx := Lib.hid ((hb6.block gw (by omega)).trans HGw7.out)
      have HMx := Lib.hid ((hb6.block gm hgs).trans HGm7.out)
      have HOx := Lib.hid (owns_below HO7.out hb6)
      clear hb6 m0 m1
      obtain ⟨y0, q0⟩ := cells_of_heap HGx.out 0 (by simp)
      obtain ⟨y1, q1⟩ := cells_of_heap HGx.out 1 (by simp)
      have m0 := (cells_of_heap HMx.out 0 (by simp)).1
      have m1 := (cells_of_heap HMx.out 1 (by simp)).1
      by_cases hf : T = s
      · have HRz := Lib.hid (show r = ⟨(M : Nat), Z, true⟩ by rw [HRv.out, if_pos (HT.out.symm.trans hf)])
        have b0 : (T.toList == s.toList) = true := by rw [hf]; simp
        have b1 : (!(T.toList == s.toList)) = false := by rw [b0]; rfl
        clear hf
        go_wp2
        clear y0 q0 y1 q1 m0 m1
        obtain ⟨wf, hwf⟩ : ∃ x, x = putW (w6) (gw) 0 [.int .i64 (M : Nat), .slice (some ⟨ga, 0, none⟩) Z.length cap] := ⟨_, rfl⟩
        have kf := putW_all [.int .i64 (M : Nat), .slice (some ⟨ga, 0, none⟩) Z.length cap] HGx.out rfl
        have bf := putW_below (b := gw) (by first | omega | simp) [.int .i64 (M : Nat), .slice (some ⟨ga, 0, none⟩) Z.length cap] 0 _ HBx.out
        have of := owns_putAt HOx.out (y := gw) (fun q hq => by have := (HOx.out.lt q hq).1; omega) 0 [.int .i64 (M : Nat), .slice (some ⟨ga, 0, none⟩) Z.length cap]
        rw [← hwf] at kf bf of
        have cf := hwf.symm
        simp only [putW, Nat.reduceAdd] at cf
        rw [cf]
        clear cf hwf
        have f0 := (cells_of_heap kf 0 (by simp)).1
        have f1 := (cells_of_heap kf 1 (by simp)).1
        simp only [List.getElem_toArray, List.getElem_cons_zero, List.getElem_cons_succ] at f0 f1
        refine bodyPost_ret (v := .tuple #[rpv (M : Nat) (.slice (some ⟨ga, 0, none⟩) Z.length cap), .bool true]) (by simp [results, Tryd.results21, go_sem, f0, f1]) rfl (by rw [HRz.out]; exact ⟨_, rfl, by rw [← HGW.out]; exact owns_base of (Nat.le_succ _), bf⟩)
      · have HRz := Lib.hid (show r = ⟨0, [], false⟩ by rw [HRv.out, if_neg (fun e => hf (HT.out.trans e))])
        have b0 : (T.toList == s.toList) = false := toList_ne hf
        have b1 : (!(T.toList == s.toList)) = true := by rw [b0]; rfl
        go_wp2
        clear y0 q0 y1 q1 m0 m1
        obtain ⟨wf, hwf⟩ : ∃ x, x = putW (w6) (gw) 0 [.int .i64 0, .slice none 0 0] := ⟨_, rfl⟩
        have kf := putW_all [.int .i64 0, .slice none 0 0] HGx.out rfl
        have bf := putW_below (b := gw) (by first | omega | simp) [.int .i64 0, .slice none 0 0] 0 _ HBx.out
        have of := HNil.out _ HBx.out HRz.out
        rw [← hwf] at kf bf of
        have cf := hwf.symm
        simp only [putW, Nat.reduceAdd] at cf
        rw [cf]
        clear cf hwf
        have f0 := (cells_of_heap kf 0 (by simp)).1
        have f1 := (cells_of_heap kf 1 (by simp)).1
        simp only [List.getElem_toArray, List.getElem_cons_zero, List.getElem_cons_succ] at f0 f1
        refine bodyPost_ret (v := .tuple #[rpv 0 (.slice none 0 0), .bool false]) (by simp [results, Tryd.results21, go_sem, f0, f1]) rfl of
  · have h2' : ¬ (N : Int) = 2 := by omega
    have HRr := Lib.hid (show r = ⟨0, [], false⟩ by rw [HR.out, prV, if_neg (fun e => h2 (by rw [HN.out]; exact e.1))])
    go_wp2
    clear y0 q0 y1 q1
    obtain ⟨wf, hwf⟩ : ∃ x, x = putW (w1) (gw) 0 [.int .i64 0, .slice none 0 0] := ⟨_, rfl⟩
    have kf := putW_all [.int .i64 0, .slice none 0 0] HG1.out rfl
    have bf := putW_below (b := gw) (by first | omega | simp) [.int .i64 0, .slice none 0 0] 0 _ HB1.out
    have of := HNil.out _ HB1.out HRr.out
    rw [← hwf] at kf bf of
    have cf := hwf.symm
    simp only [putW, Nat.reduceAdd] at cf
    rw [cf]
    clear cf hwf
    have f0 := (cells_of_heap kf 0 (by simp)).1
    have f1 := (cells_of_heap kf 1 (by simp)).1
    simp only [List.getElem_toArray, List.getElem_cons_zero, List.getElem_cons_succ] at f0 f1
    refine bodyPost_ret (v := .tuple #[rpv 0 (.slice none 0 0), .bool false]) (by simp [results, Tryd.results21, go_sem, f0, f1]) rfl of

end Go.Proofs.YtghijkpcmamebaaDoor
