/- DERIVED. Chapter 8's texts: what FormatMacro and ParseMacro of the reference return, as plain functions. No condition. · The reference's FormatMacro: the text of a macro. Called with any steps, at most 1048576. · The reference's l8Parse: the step that a word tells. · The reference's ParseMacro: the macro that a text tells. Called with any text of at most 1048576 bytes. -/
import Derived.Test.YtnfnhbldphiohaaDoorMcDef
import Derived.Test.YtnfnhbldphiohaaDoorAcPa2
import Derived.Test.YtnfnhbldphiohaaDoorJoin
import Derived.Test.YtnfnhbldphiohaaDoorMcSpec
import Derived.Test.YtnfnhbldphiohaaDoorKmPa
import Derived.Deep.RegionHeld3
import Derived.BigRegion
namespace Go.Proofs.YtnfnhbldphiohaaDoor
open Go.RowKit

abbrev blank8 : ByteArray := ⟨#[32]⟩
/-- The letter of a step's kind. -/
def letV (k : Int) : ByteArray := if k = 0 then ⟨#[116]⟩ else if k = 1 then ⟨#[100]⟩ else ⟨#[117]⟩
abbrev eqlS : ByteArray := ⟨#[61]⟩
def stT (x : St) : ByteArray := letV x.k ++ eqlS ++ acS 2 x.c x.m 0
def fmV (l : List St) : ByteArray := if okMc l = true then joined (l.map stT) blank8 else ⟨#[]⟩
/-- The step of a kind whose action's text is s, and whether there is one. -/
def mqK (k : Int) (s : ByteArray) : St × Bool := (⟨k, (acP s).1.c, (acP s).1.m⟩, (acP s).2 && decide ((acP s).1.k = 2))

/-- The step that a word tells, and whether it tells one. -/
def mqS (s : ByteArray) : St × Bool :=
  if s.size < 3 ∨ bt s 1 ≠ 61 then (⟨0, 0, 0⟩, false)
  else if bt s 0 = 116 then mqK 0 (s.extract 2 s.size)
  else if bt s 0 = 100 then mqK 1 (s.extract 2 s.size)
  else if bt s 0 = 117 then mqK 2 (s.extract 2 s.size)
  else (⟨0, 0, 0⟩, false)
def mqN (ws : List ByteArray) : Nat → Bool
  | 0 => true
  | j + 1 => mqN ws j && (mqS (ws.getD j ⟨#[]⟩)).2
def mqO (ws : List ByteArray) (j : Nat) : List St := (ws.take j).map fun s => (mqS s).1
/-- The macro that a text tells, and whether it tells one. -/
def mqV (s : ByteArray) : List St × Bool :=
  if s = ⟨#[]⟩ then ([], true)
  else if (parts s 32).length ≤ 8 ∧ mqN (parts s 32) (parts s 32).length = true ∧ okMc (mqO (parts s 32) (parts s 32).length) = true then (mqO (parts s 32) (parts s 32).length, true)
  else ([], false)
theorem mqN_no {ws : List ByteArray} {j : Nat} (h : (mqS (ws.getD j ⟨#[]⟩)).2 = false) : ∀ m, j < m → mqN ws m = false
  | 0, hm => absurd hm (Nat.not_lt_zero _)
  | m + 1, hm => by
    rcases Nat.lt_or_ge j m with h2 | h2
    · rw [mqN, mqN_no h m h2, Bool.false_and]
    · obtain rfl : j = m := by omega
      rw [mqN, h, Bool.and_false]
theorem mqO_succ (ws : List ByteArray) (j : Nat) (h : j < ws.length) : mqO ws (j + 1) = mqO ws j ++ [(mqS (ws.getD j ⟨#[]⟩)).1] := by
  rw [mqO, List.take_succ_eq_append_getElem h, List.map_append, List.getD_eq_getElem?_getD, List.getElem?_eq_getElem h]; rfl
theorem mqO_len (ws : List ByteArray) (j : Nat) (h : j ≤ ws.length) : (mqO ws j).length = j := by
  rw [mqO, List.length_map, List.length_take]; omega
end Go.Proofs.YtnfnhbldphiohaaDoor

namespace Go.Proofs.YtnfnhbldphiohaaDoor
open Go.RowKit

theorem specJoin_q8 (v : Value) (ss : List ByteArray) (sep T : ByteArray) (hT : T = joined ss sep) (w : World) (hl : ss.length ≤ 1048576) (hsep : sep.size ≤ 1048576) (hj : ∀ k, k ≤ ss.length → (jn ss sep k).length ≤ 70368744177664) (h : Rd w v (ss.map .string)) :
    Calls Tryd.prog 41 #[v, .string sep] w fun e w' => e = .returned (.string T) ∧ Below w.heap.size w w' := by
  rw [hT]; exact specJoin_any v ss sep w hl hsep hj h
theorem stT_take (l : List St) (j : Nat) (h : j < l.length) : (l.take (j + 1)).map stT = (l.take j).map stT ++ [stT (stD l j)] := by
  rw [List.take_add_one, List.map_append, List.getElem?_eq_getElem h]
  simp [stD, List.getD_eq_getElem?_getD, h]
theorem acS_size8 (c m : Int) : (acS 2 c m 0).size ≤ 10 := by
  exact acS_size 2 c m 0
theorem stT_size8 (x : St) : (stT x).size ≤ 12 := by
  have h1 := acS_size8 x.c x.m
  have h2 : (letV x.k).size = 1 := by unfold letV; split; rfl; split <;> rfl
  rw [stT, ByteArray.size_append, ByteArray.size_append, h2]
  have h3 : eqlS.size = 1 := rfl
  omega
theorem fm_jn (l : List St) (hl : l.length ≤ 1048576) : ∀ k, k ≤ (l.map stT).length → (jn (l.map stT) blank8 k).length ≤ 70368744177664 := fun k hk => by
  have h1 := jn_le 12 _ blank8 (fun s hs => by obtain ⟨e, _, rfl⟩ := List.mem_map.1 hs; exact stT_size8 e) k hk
  have h2 : blank8.size = 1 := rfl
  rw [List.length_map] at hk
  rw [h2] at h1
  omega

set_option maxRecDepth 100000 in
set_option maxHeartbeats 8000000 in
theorem specFormatMacro_any (v : Value) (l : List St) (w : World) (hl : l.length ≤ 1048576) (h : RdN w v l.length (flatSt l)) :
    Calls Tryd.prog 18 #[v] w fun e w' => e = .returned (.string (fmV l)) ∧ Below w.heap.size w w' := by
  obtain ⟨i0, hi, hz0, hz1, hz2⟩ := info_parts info_str
  obtain ⟨r, hr⟩ : ∃ r, r = fmV l := ⟨_, rfl⟩
  rw [← hr]
  obtain ⟨O, hO⟩ : ∃ O, O = okMc l := ⟨_, rfl⟩
  rw [fmV, ← hO] at hr
  obtain ⟨a, cap, rfl⟩ := RdN.shape h
  obtain ⟨n, hnl⟩ : ∃ n, n = l.length := ⟨_, rfl⟩
  have HR := Lib.hid hr
  have HOO := Lib.hid hO
  have HN := Lib.hid hnl
  have H := Lib.hid (show RdN w (.slice a n cap) l.length (flatSt l) from by rw [hnl]; exact h)
  have HLL := Lib.hid hl
  have hn : n ≤ 1048576 := by rw [hnl]; exact hl
  rw [← hnl]
  have HBK := Lib.hid (show blank8.size ≤ 1048576 by decide)
  have HJE := Lib.hid (show ∀ k, k ≤ ([] : List ByteArray).length → (jn [] blank8 k).length ≤ 70368744177664 from by intro k hk; simp at hk; subst hk; simp [jn])
  clear hr hO hnl h hl
  go_enter Tryd.func18, Tryd.ntmps18
  go_upto_region 2 with (fail)
  obtain ⟨W, hW⟩ : ∃ W, W = w.alloc (.cells #[] 9) := ⟨_, rfl⟩
  obtain ⟨g0, hg0⟩ : ∃ x, x = w.heap.size := ⟨_, rfl⟩
  have hB0 : Below w.heap.size w W := by rw [hW]; exact below_alloc1 _ _
  have hO0 : W.ownsRow w.heap.size 9 1 (.slice (some ⟨g0, 0, none⟩) 0 0) 0 (((l.take 0).map stT).map .string) := by
    rw [hW, hg0]; exact World.ownsRow_lit (e := 9) (size := 1) w #[] 0 (Nat.le_refl _) (by simp [maxLen]) rfl
  have HB0 := Lib.hid hB0
  have HO0 := Lib.hid hO0
  rw [← hW, ← hg0]
  clear hW hg0 hB0 hO0
  cases O
  · have HR2 := Lib.hid (show r = ⟨#[]⟩ from HR.out)
    go_wp2
    refine wp_loop_rounds 1 ?_
    rw [rounds_succ]
    by_cases hn0 : 0 < n
    · have hn0' : (0 : Int) < (n : Int) := by omega
      go_wp2_with fail
      refine (specIsMacro_any _ l _ HLL.out (H.out.below HB0.out)).mono ?_
      rw [← HOO.out]
      rintro e w1 ⟨rfl, hb1⟩
      have HB1 := Lib.hid (HB0.out.trans (hb1.mono HB0.out.size))
      have HO1 := Lib.hid (owns_below HO0.out hb1)
      clear hb1
      go_wp2_with fail
      refine (specJoin_q8 _ [] blank8 r HR2.out _ (by simp) HBK.out HJE.out (Rd.of_owns HO1.out)).mono ?_
      rintro e w2 ⟨rfl, hb2⟩
      have HB2 := Lib.hid (HB1.out.trans (hb2.mono HB1.out.size))
      clear hb2
      go_wp2
      go_ret
      exact ⟨rfl, HB2.out⟩
    · exfalso
      have h1 := HN.out
      have h2 : l = [] := List.eq_nil_of_length_eq_zero (by omega)
      have h3 := HOO.out
      rw [h2] at h3
      exact absurd h3 (by decide)
  · have HR2 := Lib.hid (show r = joined (l.map stT) blank8 from HR.out)
    have HMac := Lib.hid (okMc_at HOO.out.symm)
    go_wp2
    go_loopw [3, 4] (fun u i wr => ∃ (j : Nat) (ua : Option Addr) (uc : Nat), j ≤ n ∧ i = .int .i64 j ∧ u = .slice ua j uc ∧ wr.ownsRow w.heap.size 9 1 (.slice ua j uc) j (((l.take j).map stT).map .string) ∧ Below w.heap.size w wr) (fun _ i _ => n - (intOf i).toNat)
    case atStart => exact ⟨0, _, _, Nat.zero_le _, rfl, rfl, HO0.out, HB0.out⟩
    case round =>
      obtain ⟨j, ua, uc, hj, rfl, rfl, hown, hb⟩ := hrel
      have HO := Lib.hid hown
      have HBB := Lib.hid hb
      clear hown hb
      by_cases hlt' : j < n
      · have hjz : j < l.length := by rw [← HN.out]; exact hlt'
        have hn8 : n ≤ 8 := by rw [HN.out]; exact HMac.out.1
        obtain ⟨b, off, rfl, hlt, s0, s1, s2⟩ := st_at H.out hjz
        have hok := okX_at (HMac.out.2.2 j hjz)
        have hst := stT_take l j hjz
        obtain ⟨x, hx⟩ : ∃ x, x = stD l j := ⟨_, rfl⟩
        rw [← hx] at s0 s1 s2 hst
        have hk := hok.1
        rw [← hx] at hk
        obtain ⟨k, c, m⟩ := x
        simp only at s0 s1 s2 hk
        obtain ⟨hk0, hk2⟩ := hk
        obtain ⟨T, hT⟩ : ∃ T, T = acS 2 c m 0 := ⟨_, rfl⟩
        have HT := Lib.hid hT
        have HTS := Lib.hid (show T.size ≤ 10 by rw [hT]; exact acS_size8 c m)
        have HST := Lib.hid hst
        have HS0 := Lib.hid s0
        have HS1 := Lib.hid s1
        have HS2 := Lib.hid s2
        clear hst hx hok hT s0 s1 s2
        go_wp2_with fail
        refine (specIsMacro_any _ l _ HLL.out (H.out.below HBB.out)).mono ?_
        rw [← HOO.out]
        rintro e w1 ⟨rfl, hb1⟩
        have HB1 := Lib.hid (HBB.out.trans (hb1.mono HBB.out.size))
        have HO1 := Lib.hid (owns_below HO.out hb1)
        have c0 := (HB1.out.cell (p := ⟨b, off + j * 3, none⟩) hlt).trans HS0.out
        have c1 := (HB1.out.cell (p := ⟨b, off + j * 3 + 1, none⟩) hlt).trans HS1.out
        have c2 := (HB1.out.cell (p := ⟨b, off + j * 3 + 2, none⟩) hlt).trans HS2.out
        have hbw : b < w1.heap.size := Nat.lt_of_lt_of_le hlt HB1.out.size
        have hnb : (Value.slice ua j uc).ownBlock ≠ some b := fun e => by have := HO1.out.lt b e; omega
        have hbs : w.heap.size ≤ w1.heap.size := HB1.out.size
        have b63 : j + 1 ≤ maxLen := by unfold maxLen; omega
        have b47 : (j + 1) * 16 ≤ 140737488355328 := by omega
        clear hb1
        rcases (show k = 0 ∨ k = 1 ∨ k = 2 by omega) with rfl | rfl | rfl
        · skip
          have hadd1 := fun (w : World) => run_string_add_sum (P := Tryd.prog) w ⟨#[116]⟩ ⟨#[61]⟩ (by decide)
          have hadd2 := fun (w : World) => run_string_add_sum (P := Tryd.prog) w (⟨#[116]⟩ ++ ⟨#[61]⟩) T (by have := HTS.out; have h1 : (⟨#[116]⟩ ++ ⟨#[61]⟩ : ByteArray).size = 2 := rfl; rw [h1]; omega)
          have hsl : ∀ w : World, (Instr.slice 9 (.string ⟨#[116, 100, 117]⟩) (some (.int .i64 0)) (some (.int .i64 1)) none).run Tryd.prog w = .ok (.string ⟨#[116]⟩) w := fun w => (run_slice_string (P := Tryd.prog) w 9 ⟨#[116, 100, 117]⟩ .i64 .i64 0 1 Tryd.underlying9 (by decide) (by decide) (by decide)).trans (by rfl)
          have hw1 : IntKind.i64.wrap 1 = 1 := by rfl
          have hex : (⟨#[116, 100, 117]⟩ : ByteArray).extract 0 1 = ⟨#[116]⟩ := by rfl
          have HTX := Lib.hid (show stT ⟨0, c, m⟩ = ⟨#[116]⟩ ++ ⟨#[61]⟩ ++ T from by rw [HT.out]; rfl)
          go_upto_region 5 with (fail)
          go_region_held3 (fun w' => w'.cell? ⟨b, off + j * 3, none⟩ = some (.int .i64 0) ∧ w'.cell? ⟨b, off + j * 3 + 1, none⟩ = some (.int .i64 c) ∧ w'.cell? ⟨b, off + j * 3 + 2, none⟩ = some (.int .i64 m)) (first | go_keep | (rw [hgrow.cell_far _ (by simp; omega) (Ne.symm hnb), hgrow.cell_far _ (by simp; omega) (Ne.symm hnb), hgrow.cell_far _ (by simp; omega) (Ne.symm hnb)]; simp [go_sem, *]))
            (first
              | (go_at_call 40; refine (specL8Action_any 0 c m _).mono ?_; rintro e w5 ⟨rfl, hb5⟩; have hy5 : Below w1.heap.size w1 w5 := (by first | exact hb5 | exact ((Below.refl _ _).drew).trans hb5 | exact ((Below.refl _ _).drew.drew).trans hb5); have k50 := (hy5.cell (p := ⟨b, off + j * 3, none⟩) hbw).trans c0; have k51 := (hy5.cell (p := ⟨b, off + j * 3 + 1, none⟩) hbw).trans c1; have k52 := (hy5.cell (p := ⟨b, off + j * 3 + 2, none⟩) hbw).trans c2; clear hb5)
              | (go_at_call 39; refine (specFormatAction_n 2 c m 0 T HT.out _).mono ?_; rintro e w6 ⟨rfl, hb6⟩; have hy6 : Below w1.heap.size w1 w6 := (by first | exact hy5.trans (hb6.mono hy5.size) | exact hy5.drew.trans (hb6.mono hy5.size)); have k60 := (hy6.cell (p := ⟨b, off + j * 3, none⟩) hbw).trans c0; have k61 := (hy6.cell (p := ⟨b, off + j * 3 + 1, none⟩) hbw).trans c1; have k62 := (hy6.cell (p := ⟨b, off + j * 3 + 2, none⟩) hbw).trans c2; have hbs6 : w.heap.size ≤ w6.heap.size := Nat.le_trans hbs hy6.size; have hbw6 : b < w6.heap.size := Nat.lt_of_lt_of_le hbw hy6.size; clear hb6)
              | (refine step_append_lies _ (by rfl) _ _ _ (by rfl) w.heap.size 9 i0 (.string ByteArray.empty) 1 16 Tryd.underlying61 hi hz0 hz1 hz2 rfl (by omega) (.slice ua j uc) _ _ (by rfl) ((owns_below HO1.out hy6).alloc _) ⟨w6.heap.size, 0, none⟩ 1 1 [.string (⟨#[116]⟩ ++ ⟨#[61]⟩ ++ T)] (by rfl) (by rfl) (World.news_of_block (cs := #[.string (⟨#[116]⟩ ++ ⟨#[61]⟩ ++ T)]) (t := 9) (fr := (0, 0)) (heap_alloc_new w6 _)) (by simp [Value.oneCell']) (by omega) b63 b47 (by simp; omega) (w6.heap.size + 1) (by simp) ?_; intro gg cap1 w7 hown1 hgrow hat hlt1))
          have hbw1 : Below w.heap.size w w7 := (((HB1.out.trans (hy6.mono hbs)).alloc hbs6 _).grown hgrow (by simp; omega) (fun q hq => (HO1.out.lt q hq).1))
          have HG := Lib.hid hown1
          have HB2 := Lib.hid hbw1
          clear hown1 hbw1 hgrow hat hlt1 c0 c1 c2 hadd1 hadd2 hsl hw1 hex
          go_wp2
          go_roundw
          case rel =>
            refine ⟨j + 1, _, _, by omega, by go_num, by first | rfl | trivial, ?_, by first | exact HB2.out | exact HB2.out.drew⟩
            rw [HST.out, List.map_append, HTX.out]
            first | exact HG.out | exact owns_below HG.out (Below.refl _ _).drew
          case measure => simp [intOf]; omega
        · skip
          have hadd1 := fun (w : World) => run_string_add_sum (P := Tryd.prog) w ⟨#[100]⟩ ⟨#[61]⟩ (by decide)
          have hadd2 := fun (w : World) => run_string_add_sum (P := Tryd.prog) w (⟨#[100]⟩ ++ ⟨#[61]⟩) T (by have := HTS.out; have h1 : (⟨#[100]⟩ ++ ⟨#[61]⟩ : ByteArray).size = 2 := rfl; rw [h1]; omega)
          have hsl : ∀ w : World, (Instr.slice 9 (.string ⟨#[116, 100, 117]⟩) (some (.int .i64 1)) (some (.int .i64 2)) none).run Tryd.prog w = .ok (.string ⟨#[100]⟩) w := fun w => (run_slice_string (P := Tryd.prog) w 9 ⟨#[116, 100, 117]⟩ .i64 .i64 1 2 Tryd.underlying9 (by decide) (by decide) (by decide)).trans (by rfl)
          have hw1 : IntKind.i64.wrap 2 = 2 := by rfl
          have hex : (⟨#[116, 100, 117]⟩ : ByteArray).extract 1 2 = ⟨#[100]⟩ := by rfl
          have HTX := Lib.hid (show stT ⟨1, c, m⟩ = ⟨#[100]⟩ ++ ⟨#[61]⟩ ++ T from by rw [HT.out]; rfl)
          go_upto_region 5 with (fail)
          go_region_held3 (fun w' => w'.cell? ⟨b, off + j * 3, none⟩ = some (.int .i64 1) ∧ w'.cell? ⟨b, off + j * 3 + 1, none⟩ = some (.int .i64 c) ∧ w'.cell? ⟨b, off + j * 3 + 2, none⟩ = some (.int .i64 m)) (first | go_keep | (rw [hgrow.cell_far _ (by simp; omega) (Ne.symm hnb), hgrow.cell_far _ (by simp; omega) (Ne.symm hnb), hgrow.cell_far _ (by simp; omega) (Ne.symm hnb)]; simp [go_sem, *]))
            (first
              | (go_at_call 40; refine (specL8Action_any 1 c m _).mono ?_; rintro e w5 ⟨rfl, hb5⟩; have hy5 : Below w1.heap.size w1 w5 := (by first | exact hb5 | exact ((Below.refl _ _).drew).trans hb5 | exact ((Below.refl _ _).drew.drew).trans hb5); have k50 := (hy5.cell (p := ⟨b, off + j * 3, none⟩) hbw).trans c0; have k51 := (hy5.cell (p := ⟨b, off + j * 3 + 1, none⟩) hbw).trans c1; have k52 := (hy5.cell (p := ⟨b, off + j * 3 + 2, none⟩) hbw).trans c2; clear hb5)
              | (go_at_call 39; refine (specFormatAction_n 2 c m 0 T HT.out _).mono ?_; rintro e w6 ⟨rfl, hb6⟩; have hy6 : Below w1.heap.size w1 w6 := (by first | exact hy5.trans (hb6.mono hy5.size) | exact hy5.drew.trans (hb6.mono hy5.size)); have k60 := (hy6.cell (p := ⟨b, off + j * 3, none⟩) hbw).trans c0; have k61 := (hy6.cell (p := ⟨b, off + j * 3 + 1, none⟩) hbw).trans c1; have k62 := (hy6.cell (p := ⟨b, off + j * 3 + 2, none⟩) hbw).trans c2; have hbs6 : w.heap.size ≤ w6.heap.size := Nat.le_trans hbs hy6.size; have hbw6 : b < w6.heap.size := Nat.lt_of_lt_of_le hbw hy6.size; clear hb6)
              | (refine step_append_lies _ (by rfl) _ _ _ (by rfl) w.heap.size 9 i0 (.string ByteArray.empty) 1 16 Tryd.underlying61 hi hz0 hz1 hz2 rfl (by omega) (.slice ua j uc) _ _ (by rfl) ((owns_below HO1.out hy6).alloc _) ⟨w6.heap.size, 0, none⟩ 1 1 [.string (⟨#[100]⟩ ++ ⟨#[61]⟩ ++ T)] (by rfl) (by rfl) (World.news_of_block (cs := #[.string (⟨#[100]⟩ ++ ⟨#[61]⟩ ++ T)]) (t := 9) (fr := (0, 0)) (heap_alloc_new w6 _)) (by simp [Value.oneCell']) (by omega) b63 b47 (by simp; omega) (w6.heap.size + 1) (by simp) ?_; intro gg cap1 w7 hown1 hgrow hat hlt1))
          have hbw1 : Below w.heap.size w w7 := (((HB1.out.trans (hy6.mono hbs)).alloc hbs6 _).grown hgrow (by simp; omega) (fun q hq => (HO1.out.lt q hq).1))
          have HG := Lib.hid hown1
          have HB2 := Lib.hid hbw1
          clear hown1 hbw1 hgrow hat hlt1 c0 c1 c2 hadd1 hadd2 hsl hw1 hex
          go_wp2
          go_roundw
          case rel =>
            refine ⟨j + 1, _, _, by omega, by go_num, by first | rfl | trivial, ?_, by first | exact HB2.out | exact HB2.out.drew⟩
            rw [HST.out, List.map_append, HTX.out]
            first | exact HG.out | exact owns_below HG.out (Below.refl _ _).drew
          case measure => simp [intOf]; omega
        · skip
          have hadd1 := fun (w : World) => run_string_add_sum (P := Tryd.prog) w ⟨#[117]⟩ ⟨#[61]⟩ (by decide)
          have hadd2 := fun (w : World) => run_string_add_sum (P := Tryd.prog) w (⟨#[117]⟩ ++ ⟨#[61]⟩) T (by have := HTS.out; have h1 : (⟨#[117]⟩ ++ ⟨#[61]⟩ : ByteArray).size = 2 := rfl; rw [h1]; omega)
          have hsl : ∀ w : World, (Instr.slice 9 (.string ⟨#[116, 100, 117]⟩) (some (.int .i64 2)) (some (.int .i64 3)) none).run Tryd.prog w = .ok (.string ⟨#[117]⟩) w := fun w => (run_slice_string (P := Tryd.prog) w 9 ⟨#[116, 100, 117]⟩ .i64 .i64 2 3 Tryd.underlying9 (by decide) (by decide) (by decide)).trans (by rfl)
          have hw1 : IntKind.i64.wrap 3 = 3 := by rfl
          have hex : (⟨#[116, 100, 117]⟩ : ByteArray).extract 2 3 = ⟨#[117]⟩ := by rfl
          have HTX := Lib.hid (show stT ⟨2, c, m⟩ = ⟨#[117]⟩ ++ ⟨#[61]⟩ ++ T from by rw [HT.out]; rfl)
          go_upto_region 5 with (fail)
          go_region_held3 (fun w' => w'.cell? ⟨b, off + j * 3, none⟩ = some (.int .i64 2) ∧ w'.cell? ⟨b, off + j * 3 + 1, none⟩ = some (.int .i64 c) ∧ w'.cell? ⟨b, off + j * 3 + 2, none⟩ = some (.int .i64 m)) (first | go_keep | (rw [hgrow.cell_far _ (by simp; omega) (Ne.symm hnb), hgrow.cell_far _ (by simp; omega) (Ne.symm hnb), hgrow.cell_far _ (by simp; omega) (Ne.symm hnb)]; simp [go_sem, *]))
            (first
              | (go_at_call 40; refine (specL8Action_any 2 c m _).mono ?_; rintro e w5 ⟨rfl, hb5⟩; have hy5 : Below w1.heap.size w1 w5 := (by first | exact hb5 | exact ((Below.refl _ _).drew).trans hb5 | exact ((Below.refl _ _).drew.drew).trans hb5); have k50 := (hy5.cell (p := ⟨b, off + j * 3, none⟩) hbw).trans c0; have k51 := (hy5.cell (p := ⟨b, off + j * 3 + 1, none⟩) hbw).trans c1; have k52 := (hy5.cell (p := ⟨b, off + j * 3 + 2, none⟩) hbw).trans c2; clear hb5)
              | (go_at_call 39; refine (specFormatAction_n 2 c m 0 T HT.out _).mono ?_; rintro e w6 ⟨rfl, hb6⟩; have hy6 : Below w1.heap.size w1 w6 := (by first | exact hy5.trans (hb6.mono hy5.size) | exact hy5.drew.trans (hb6.mono hy5.size)); have k60 := (hy6.cell (p := ⟨b, off + j * 3, none⟩) hbw).trans c0; have k61 := (hy6.cell (p := ⟨b, off + j * 3 + 1, none⟩) hbw).trans c1; have k62 := (hy6.cell (p := ⟨b, off + j * 3 + 2, none⟩) hbw).trans c2; have hbs6 : w.heap.size ≤ w6.heap.size := Nat.le_trans hbs hy6.size; have hbw6 : b < w6.heap.size := Nat.lt_of_lt_of_le hbw hy6.size; clear hb6)
              | (refine step_append_lies _ (by rfl) _ _ _ (by rfl) w.heap.size 9 i0 (.string ByteArray.empty) 1 16 Tryd.underlying61 hi hz0 hz1 hz2 rfl (by omega) (.slice ua j uc) _ _ (by rfl) ((owns_below HO1.out hy6).alloc _) ⟨w6.heap.size, 0, none⟩ 1 1 [.string (⟨#[117]⟩ ++ ⟨#[61]⟩ ++ T)] (by rfl) (by rfl) (World.news_of_block (cs := #[.string (⟨#[117]⟩ ++ ⟨#[61]⟩ ++ T)]) (t := 9) (fr := (0, 0)) (heap_alloc_new w6 _)) (by simp [Value.oneCell']) (by omega) b63 b47 (by simp; omega) (w6.heap.size + 1) (by simp) ?_; intro gg cap1 w7 hown1 hgrow hat hlt1))
          have hbw1 : Below w.heap.size w w7 := (((HB1.out.trans (hy6.mono hbs)).alloc hbs6 _).grown hgrow (by simp; omega) (fun q hq => (HO1.out.lt q hq).1))
          have HG := Lib.hid hown1
          have HB2 := Lib.hid hbw1
          clear hown1 hbw1 hgrow hat hlt1 c0 c1 c2 hadd1 hadd2 hsl hw1 hex
          go_wp2
          go_roundw
          case rel =>
            refine ⟨j + 1, _, _, by omega, by go_num, by first | rfl | trivial, ?_, by first | exact HB2.out | exact HB2.out.drew⟩
            rw [HST.out, List.map_append, HTX.out]
            first | exact HG.out | exact owns_below HG.out (Below.refl _ _).drew
          case measure => simp [intOf]; omega
      · obtain rfl : j = n := by omega
        have hfin : Rd wr (.slice ua j uc) ((l.map stT).map .string) := by
          have h1 := Rd.of_owns HO.out
          rwa [List.take_of_length_le (by rw [← HN.out]; exact Nat.le_refl _)] at h1
        have HRd := Lib.hid hfin
        have HML := Lib.hid (show (l.map stT).length ≤ 1048576 by rw [List.length_map]; exact HLL.out)
        clear hfin
        go_wp2_with fail
        refine (specJoin_q8 _ (l.map stT) blank8 r HR2.out _ HML.out HBK.out (fm_jn l HLL.out) HRd.out).mono ?_
        rintro e w2 ⟨rfl, hb2⟩
        have HB2 := Lib.hid (HBB.out.trans (hb2.mono HBB.out.size))
        clear hb2
        go_wp2
        go_ret
        exact ⟨rfl, HB2.out⟩
end Go.Proofs.YtnfnhbldphiohaaDoor

namespace Go.Proofs.YtnfnhbldphiohaaDoor
open Go.RowKit

theorem specParseAction_n8 (s : ByteArray) (r : Ac × Bool) (hr : r = acP s) (w : World) (hl : s.size ≤ 1048576) : Calls Tryd.prog 72 #[.string s] w fun e w' => e = .returned (.tuple #[acv r.1.k r.1.c r.1.m r.1.n, .bool r.2]) ∧ Below w.heap.size w w' := by
  rw [hr]; exact specParseAction_any s w hl

set_option maxRecDepth 100000 in
set_option maxHeartbeats 8000000 in
theorem specL8Parse_any (s : ByteArray) (r : St × Bool) (hr : r = mqS s) (w : World) (hl : s.size ≤ 1048576) :
    Calls Tryd.prog 45 #[.string s] w fun e w' => e = .returned (.tuple #[stv r.1.k r.1.c r.1.m, .bool r.2]) ∧ Below w.heap.size w w' := by
  rw [mqS] at hr
  have hsz2 : (s.extract 2 s.size).size ≤ 1048576 := by rw [ByteArray.size_extract]; omega
  obtain ⟨A, hA⟩ : ∃ A, A = acP (s.extract 2 s.size) := ⟨_, rfl⟩
  have HA := Lib.hid hA
  have HR := Lib.hid hr
  clear hr hA
  go_enter Tryd.func45, Tryd.ntmps45
  go_upto_region 1 with (fail)
  obtain ⟨V, hV⟩ : ∃ V, V = w.alloc (.cells #[.int .i64 0, .int .i64 0, .int .i64 0] 39) := ⟨_, rfl⟩
  obtain ⟨gr, hgr⟩ : ∃ x, x = w.heap.size := ⟨_, rfl⟩
  have hb0 : Below w.heap.size w V := by rw [hV]; exact below_alloc1 _ _
  have hg0 : V.heap[gr]? = some (.cells #[.int .i64 0, .int .i64 0, .int .i64 0] 39 (0, 0)) := by rw [hV, hgr]; exact heap_alloc_new _ _
  have HGS := Lib.hid (show gr < V.heap.size by rw [hV, hgr]; simp)
  have HGR := Lib.hid (show w.heap.size ≤ gr by rw [hgr]; exact Nat.le_refl _)
  rw [← hV, ← hgr]
  have HB0 := Lib.hid hb0
  have HG0 := Lib.hid hg0
  clear hV hgr hb0 hg0
  by_cases h3 : s.size < 3
  · have HR2 := Lib.hid (show r = (⟨0, 0, 0⟩, false) from by rw [HR.out, if_pos (.inl h3)])
    have h3' : (s.size : Int) < 3 := by omega
    obtain ⟨x0, p0⟩ := cells_of_heap HG0.out 0 (by simp)
    obtain ⟨x1, p1⟩ := cells_of_heap HG0.out 1 (by simp)
    obtain ⟨x2, p2⟩ := cells_of_heap HG0.out 2 (by simp)
    go_wp2
    clear x0 x1 x2 p0 p1 p2
    have hgr0 : w.heap.size ≤ gr := HGR.out
    obtain ⟨wf, hwf⟩ : ∃ x, x = putW (V) (gr) 0 [.int .i64 0, .int .i64 0, .int .i64 0] := ⟨_, rfl⟩
    have kf := putW_all [.int .i64 0, .int .i64 0, .int .i64 0] HG0.out rfl
    have bf := putW_below (b := gr) (by first | omega | simp) [.int .i64 0, .int .i64 0, .int .i64 0] 0 _ HB0.out
    rw [← hwf] at kf bf
    have cf := hwf.symm
    simp only [putW, Nat.reduceAdd] at cf
    rw [cf]
    clear cf hwf
    have f0 := (cells_of_heap kf 0 (by simp)).1
    have f1 := (cells_of_heap kf 1 (by simp)).1
    have f2 := (cells_of_heap kf 2 (by simp)).1
    simp only [List.getElem_toArray, List.getElem_cons_zero, List.getElem_cons_succ] at f0 f1 f2
    refine bodyPost_ret (v := .tuple #[stv 0 0 0, .bool false]) (by simp [results, Tryd.results45, go_sem, f0, f1, f2]) rfl ⟨by rw [HR2.out], bf⟩
  · have h3' : ¬ (s.size : Int) < 3 := by omega
    have e0 := bt_eq s 0 (by omega)
    have e1 := bt_eq s 1 (by omega)
    obtain ⟨b0, hb0⟩ : ∃ b, b = bt s 0 := ⟨_, rfl⟩
    obtain ⟨b1, hb1⟩ : ∃ b, b = bt s 1 := ⟨_, rfl⟩
    have hr1 := HR.out
    rw [← hb0, ← hb1] at hr1
    rw [← hb0] at e0
    rw [← hb1] at e1
    have HR1 := Lib.hid hr1
    clear hr1 hb0 hb1
    by_cases h61 : b1 = 61
    · have hrA := HR1.out
      rw [if_neg (by intro e; rcases e with e | e; exact h3 e; exact e h61)] at hrA
      have HRA := Lib.hid hrA
      clear hrA
      subst h61
      go_wp2
      go_loopw [4, 5, 6] (fun i _ _ wr => ∃ k : Nat, k ≤ 3 ∧ i = .int .i64 k ∧ (0 < k → b0 ≠ 116) ∧ (1 < k → b0 ≠ 100) ∧ (2 < k → b0 ≠ 117) ∧ Below V.heap.size V wr) (fun i _ _ _ => 3 - (intOf i).toNat)
      case atStart => exact ⟨0, by omega, rfl, fun h => absurd h (by omega), fun h => absurd h (by omega), fun h => absurd h (by omega), Below.refl _ _⟩
      case round =>
        obtain ⟨k, hk, rfl, n0, n1, n2, hb⟩ := hrel
        have HGq := Lib.hid ((hb.block gr HGS.out).trans HG0.out)
        have HBq := Lib.hid (HB0.out.trans (hb.mono HB0.out.size))
        have HBw := Lib.hid hb
        have HSq := Lib.hid (Nat.lt_of_lt_of_le HGS.out hb.size)
        clear hb
        rcases (show k = 0 ∨ k = 1 ∨ k = 2 ∨ k = 3 by omega) with rfl | rfl | rfl | rfl

        · clear n0 n1 n2
          by_cases hm : b0 = 116
          · have hrk := HRA.out
            rw [if_pos hm] at hrk
            subst hm
            have HR2 := Lib.hid (show r = mqK 0 (s.extract 2 s.size) from hrk)
            clear hrk
            go_upto_region 6 with (fail)
            go_quiet (fail)
            have HBd := Lib.hid (below_drewN HBq.out _ : Below w.heap.size w (wr.drewN nq))
            go_wp2_with fail
            refine (specParseAction_n8 (s.extract 2 s.size) A HA.out _ hsz2).mono ?_
            rintro e w1 ⟨rfl, hb1⟩
            have HG1 := Lib.hid ((hb1.block gr HSq.out).trans HGq.out)
            have HB1 := Lib.hid (HBd.out.trans (hb1.mono HBd.out.size))
            have hs1 : gr < w1.heap.size := Nat.lt_of_lt_of_le HSq.out hb1.size
            clear hb1
            obtain ⟨⟨ak, ac, am, an⟩, ab⟩ := A
            simp only []
            have hmk : mqK 0 (s.extract 2 s.size) = (⟨0, ac, am⟩, ab && decide (ak = 2)) := by rw [mqK, ← HA.out]
            go_upto_region 8 with (fail)
            obtain ⟨U, hU⟩ : ∃ U, U = w1.alloc (.cells #[.int .i64 ak, .int .i64 ac, .int .i64 am, .int .i64 an] 67) := ⟨_, rfl⟩
            obtain ⟨g, hg⟩ : ∃ g, g = w1.heap.size := ⟨_, rfl⟩
            have hu : Below w1.heap.size w1 U := by rw [hU]; exact below_alloc1 _ _
            have hgu : U.heap[g]? = some (.cells #[.int .i64 ak, .int .i64 ac, .int .i64 am, .int .i64 an] 67 (0, 0)) := by rw [hU, hg]; exact heap_alloc_new _ _
            rw [← hU, ← hg]
            have HG2 := Lib.hid ((hu.block gr hs1).trans HG1.out)
            have HB2 := Lib.hid (HB1.out.trans (hu.mono HB1.out.size))
            have HGu := Lib.hid hgu
            have HNE := Lib.hid (show ¬ g = gr by omega)
            clear hU hg hu hs1
            obtain ⟨y0, -⟩ := cells_of_heap hgu 0 (by simp)
            obtain ⟨y1, -⟩ := cells_of_heap hgu 1 (by simp)
            obtain ⟨y2, -⟩ := cells_of_heap hgu 2 (by simp)
            obtain ⟨y3, -⟩ := cells_of_heap hgu 3 (by simp)
            clear hgu
            simp only [List.getElem_toArray, List.getElem_cons_zero, List.getElem_cons_succ] at y0 y1 y2 y3
            obtain ⟨x0, p0⟩ := cells_of_heap HG2.out 0 (by simp)
            obtain ⟨x1, p1⟩ := cells_of_heap HG2.out 1 (by simp)
            obtain ⟨x2, p2⟩ := cells_of_heap HG2.out 2 (by simp)
            have hn1 : ¬ g = gr := HNE.out
            have hn2 : ¬ gr = g := fun e => HNE.out e.symm
            cases ab
            · skip
              have HR3 := Lib.hid (show r = (⟨0, ac, am⟩, false) from by rw [HR2.out, hmk]; rfl)
              clear hmk
              go_region
              go_wp2
              clear x0 x1 x2 p0 p1 p2 y0 y1 y2 y3 hn1 hn2
              have hgr0 : w.heap.size ≤ gr := HGR.out
              obtain ⟨wf, hwf⟩ : ∃ x, x = (putW U gr 0 [.int .i64 0, .int .i64 ac, .int .i64 am]).drew := ⟨_, rfl⟩
              have kf : wf.heap[gr]? = some (.cells #[.int .i64 0, .int .i64 ac, .int .i64 am] 39 (0, 0)) := by rw [hwf]; exact putW_all [.int .i64 0, .int .i64 ac, .int .i64 am] HG2.out rfl
              have bf : Below w.heap.size w wf := by rw [hwf]; exact (putW_below (b := gr) hgr0 [.int .i64 0, .int .i64 ac, .int .i64 am] 0 _ HB2.out).drew
              have cf := hwf.symm
              simp only [putW, Nat.reduceAdd] at cf
              rw [cf]
              clear cf hwf
              have f0 := (cells_of_heap kf 0 (by simp)).1
              have f1 := (cells_of_heap kf 1 (by simp)).1
              have f2 := (cells_of_heap kf 2 (by simp)).1
              simp only [List.getElem_toArray, List.getElem_cons_zero, List.getElem_cons_succ] at f0 f1 f2
              refine bodyPost_ret (v := .tuple #[stv 0 ac am, .bool false]) (by simp [results, Tryd.results45, go_sem, f0, f1, f2]) rfl ⟨by rw [HR3.out], bf⟩
            · by_cases hk2 : ak = 2
              · subst hk2
                have HR3 := Lib.hid (show r = (⟨0, ac, am⟩, true) from by rw [HR2.out, hmk]; rfl)
                clear hmk
                go_region
                go_wp2
                clear x0 x1 x2 p0 p1 p2 y0 y1 y2 y3 hn1 hn2
                have hgr0 : w.heap.size ≤ gr := HGR.out
                obtain ⟨wf, hwf⟩ : ∃ x, x = (putW U gr 0 [.int .i64 0, .int .i64 ac, .int .i64 am]).drew := ⟨_, rfl⟩
                have kf : wf.heap[gr]? = some (.cells #[.int .i64 0, .int .i64 ac, .int .i64 am] 39 (0, 0)) := by rw [hwf]; exact putW_all [.int .i64 0, .int .i64 ac, .int .i64 am] HG2.out rfl
                have bf : Below w.heap.size w wf := by rw [hwf]; exact (putW_below (b := gr) hgr0 [.int .i64 0, .int .i64 ac, .int .i64 am] 0 _ HB2.out).drew
                have cf := hwf.symm
                simp only [putW, Nat.reduceAdd] at cf
                rw [cf]
                clear cf hwf
                have f0 := (cells_of_heap kf 0 (by simp)).1
                have f1 := (cells_of_heap kf 1 (by simp)).1
                have f2 := (cells_of_heap kf 2 (by simp)).1
                simp only [List.getElem_toArray, List.getElem_cons_zero, List.getElem_cons_succ] at f0 f1 f2
                refine bodyPost_ret (v := .tuple #[stv 0 ac am, .bool true]) (by simp [results, Tryd.results45, go_sem, f0, f1, f2]) rfl ⟨by rw [HR3.out], bf⟩
              · have b2 : (ak == 2) = false := by simp [hk2]
                have HR3 := Lib.hid (show r = (⟨0, ac, am⟩, false) from by rw [HR2.out, hmk]; simp [hk2])
                clear hmk
                go_region
                go_wp2
                clear x0 x1 x2 p0 p1 p2 y0 y1 y2 y3 hn1 hn2
                have hgr0 : w.heap.size ≤ gr := HGR.out
                obtain ⟨wf, hwf⟩ : ∃ x, x = (putW U gr 0 [.int .i64 0, .int .i64 ac, .int .i64 am]).drew := ⟨_, rfl⟩
                have kf : wf.heap[gr]? = some (.cells #[.int .i64 0, .int .i64 ac, .int .i64 am] 39 (0, 0)) := by rw [hwf]; exact putW_all [.int .i64 0, .int .i64 ac, .int .i64 am] HG2.out rfl
                have bf : Below w.heap.size w wf := by rw [hwf]; exact (putW_below (b := gr) hgr0 [.int .i64 0, .int .i64 ac, .int .i64 am] 0 _ HB2.out).drew
                have cf := hwf.symm
                simp only [putW, Nat.reduceAdd] at cf
                rw [cf]
                clear cf hwf
                have f0 := (cells_of_heap kf 0 (by simp)).1
                have f1 := (cells_of_heap kf 1 (by simp)).1
                have f2 := (cells_of_heap kf 2 (by simp)).1
                simp only [List.getElem_toArray, List.getElem_cons_zero, List.getElem_cons_succ] at f0 f1 f2
                refine bodyPost_ret (v := .tuple #[stv 0 ac am, .bool false]) (by simp [results, Tryd.results45, go_sem, f0, f1, f2]) rfl ⟨by rw [HR3.out], bf⟩
          · have bm : (b0 == 116) = false := by simp [hm]
            have hcb : ((⟨#[116, 100, 117]⟩ : ByteArray)[0]'(by decide)).toNat = 116 := rfl
            go_upto_region 6 with (fail)
            go_quiet (fail)
            clear hcb
            go_wp2
            go_roundw
            case rel => exact ⟨1, by omega, by go_num, fun _ => hm, fun h => absurd h (by omega), fun h => absurd h (by omega), below_drewN HBw.out _⟩
            case measure => simp [intOf]
        · clear n1 n2
          have m0 := n0 (by omega)
          by_cases hm : b0 = 100
          · have hrk := HRA.out
            rw [if_neg m0, if_pos hm] at hrk
            subst hm
            have HR2 := Lib.hid (show r = mqK 1 (s.extract 2 s.size) from hrk)
            clear hrk
            go_upto_region 6 with (fail)
            go_quiet (fail)
            have HBd := Lib.hid (below_drewN HBq.out _ : Below w.heap.size w (wr.drewN nq))
            go_wp2_with fail
            refine (specParseAction_n8 (s.extract 2 s.size) A HA.out _ hsz2).mono ?_
            rintro e w1 ⟨rfl, hb1⟩
            have HG1 := Lib.hid ((hb1.block gr HSq.out).trans HGq.out)
            have HB1 := Lib.hid (HBd.out.trans (hb1.mono HBd.out.size))
            have hs1 : gr < w1.heap.size := Nat.lt_of_lt_of_le HSq.out hb1.size
            clear hb1
            obtain ⟨⟨ak, ac, am, an⟩, ab⟩ := A
            simp only []
            have hmk : mqK 1 (s.extract 2 s.size) = (⟨1, ac, am⟩, ab && decide (ak = 2)) := by rw [mqK, ← HA.out]
            go_upto_region 8 with (fail)
            obtain ⟨U, hU⟩ : ∃ U, U = w1.alloc (.cells #[.int .i64 ak, .int .i64 ac, .int .i64 am, .int .i64 an] 67) := ⟨_, rfl⟩
            obtain ⟨g, hg⟩ : ∃ g, g = w1.heap.size := ⟨_, rfl⟩
            have hu : Below w1.heap.size w1 U := by rw [hU]; exact below_alloc1 _ _
            have hgu : U.heap[g]? = some (.cells #[.int .i64 ak, .int .i64 ac, .int .i64 am, .int .i64 an] 67 (0, 0)) := by rw [hU, hg]; exact heap_alloc_new _ _
            rw [← hU, ← hg]
            have HG2 := Lib.hid ((hu.block gr hs1).trans HG1.out)
            have HB2 := Lib.hid (HB1.out.trans (hu.mono HB1.out.size))
            have HGu := Lib.hid hgu
            have HNE := Lib.hid (show ¬ g = gr by omega)
            clear hU hg hu hs1
            obtain ⟨y0, -⟩ := cells_of_heap hgu 0 (by simp)
            obtain ⟨y1, -⟩ := cells_of_heap hgu 1 (by simp)
            obtain ⟨y2, -⟩ := cells_of_heap hgu 2 (by simp)
            obtain ⟨y3, -⟩ := cells_of_heap hgu 3 (by simp)
            clear hgu
            simp only [List.getElem_toArray, List.getElem_cons_zero, List.getElem_cons_succ] at y0 y1 y2 y3
            obtain ⟨x0, p0⟩ := cells_of_heap HG2.out 0 (by simp)
            obtain ⟨x1, p1⟩ := cells_of_heap HG2.out 1 (by simp)
            obtain ⟨x2, p2⟩ := cells_of_heap HG2.out 2 (by simp)
            have hn1 : ¬ g = gr := HNE.out
            have hn2 : ¬ gr = g := fun e => HNE.out e.symm
            cases ab
            · skip
              have HR3 := Lib.hid (show r = (⟨1, ac, am⟩, false) from by rw [HR2.out, hmk]; rfl)
              clear hmk
              go_region
              go_wp2
              clear x0 x1 x2 p0 p1 p2 y0 y1 y2 y3 hn1 hn2
              have hgr0 : w.heap.size ≤ gr := HGR.out
              obtain ⟨wf, hwf⟩ : ∃ x, x = (putW U gr 0 [.int .i64 1, .int .i64 ac, .int .i64 am]).drew := ⟨_, rfl⟩
              have kf : wf.heap[gr]? = some (.cells #[.int .i64 1, .int .i64 ac, .int .i64 am] 39 (0, 0)) := by rw [hwf]; exact putW_all [.int .i64 1, .int .i64 ac, .int .i64 am] HG2.out rfl
              have bf : Below w.heap.size w wf := by rw [hwf]; exact (putW_below (b := gr) hgr0 [.int .i64 1, .int .i64 ac, .int .i64 am] 0 _ HB2.out).drew
              have cf := hwf.symm
              simp only [putW, Nat.reduceAdd] at cf
              rw [cf]
              clear cf hwf
              have f0 := (cells_of_heap kf 0 (by simp)).1
              have f1 := (cells_of_heap kf 1 (by simp)).1
              have f2 := (cells_of_heap kf 2 (by simp)).1
              simp only [List.getElem_toArray, List.getElem_cons_zero, List.getElem_cons_succ] at f0 f1 f2
              refine bodyPost_ret (v := .tuple #[stv 1 ac am, .bool false]) (by simp [results, Tryd.results45, go_sem, f0, f1, f2]) rfl ⟨by rw [HR3.out], bf⟩
            · by_cases hk2 : ak = 2
              · subst hk2
                have HR3 := Lib.hid (show r = (⟨1, ac, am⟩, true) from by rw [HR2.out, hmk]; rfl)
                clear hmk
                go_region
                go_wp2
                clear x0 x1 x2 p0 p1 p2 y0 y1 y2 y3 hn1 hn2
                have hgr0 : w.heap.size ≤ gr := HGR.out
                obtain ⟨wf, hwf⟩ : ∃ x, x = (putW U gr 0 [.int .i64 1, .int .i64 ac, .int .i64 am]).drew := ⟨_, rfl⟩
                have kf : wf.heap[gr]? = some (.cells #[.int .i64 1, .int .i64 ac, .int .i64 am] 39 (0, 0)) := by rw [hwf]; exact putW_all [.int .i64 1, .int .i64 ac, .int .i64 am] HG2.out rfl
                have bf : Below w.heap.size w wf := by rw [hwf]; exact (putW_below (b := gr) hgr0 [.int .i64 1, .int .i64 ac, .int .i64 am] 0 _ HB2.out).drew
                have cf := hwf.symm
                simp only [putW, Nat.reduceAdd] at cf
                rw [cf]
                clear cf hwf
                have f0 := (cells_of_heap kf 0 (by simp)).1
                have f1 := (cells_of_heap kf 1 (by simp)).1
                have f2 := (cells_of_heap kf 2 (by simp)).1
                simp only [List.getElem_toArray, List.getElem_cons_zero, List.getElem_cons_succ] at f0 f1 f2
                refine bodyPost_ret (v := .tuple #[stv 1 ac am, .bool true]) (by simp [results, Tryd.results45, go_sem, f0, f1, f2]) rfl ⟨by rw [HR3.out], bf⟩
              · have b2 : (ak == 2) = false := by simp [hk2]
                have HR3 := Lib.hid (show r = (⟨1, ac, am⟩, false) from by rw [HR2.out, hmk]; simp [hk2])
                clear hmk
                go_region
                go_wp2
                clear x0 x1 x2 p0 p1 p2 y0 y1 y2 y3 hn1 hn2
                have hgr0 : w.heap.size ≤ gr := HGR.out
                obtain ⟨wf, hwf⟩ : ∃ x, x = (putW U gr 0 [.int .i64 1, .int .i64 ac, .int .i64 am]).drew := ⟨_, rfl⟩
                have kf : wf.heap[gr]? = some (.cells #[.int .i64 1, .int .i64 ac, .int .i64 am] 39 (0, 0)) := by rw [hwf]; exact putW_all [.int .i64 1, .int .i64 ac, .int .i64 am] HG2.out rfl
                have bf : Below w.heap.size w wf := by rw [hwf]; exact (putW_below (b := gr) hgr0 [.int .i64 1, .int .i64 ac, .int .i64 am] 0 _ HB2.out).drew
                have cf := hwf.symm
                simp only [putW, Nat.reduceAdd] at cf
                rw [cf]
                clear cf hwf
                have f0 := (cells_of_heap kf 0 (by simp)).1
                have f1 := (cells_of_heap kf 1 (by simp)).1
                have f2 := (cells_of_heap kf 2 (by simp)).1
                simp only [List.getElem_toArray, List.getElem_cons_zero, List.getElem_cons_succ] at f0 f1 f2
                refine bodyPost_ret (v := .tuple #[stv 1 ac am, .bool false]) (by simp [results, Tryd.results45, go_sem, f0, f1, f2]) rfl ⟨by rw [HR3.out], bf⟩
          · have bm : (b0 == 100) = false := by simp [hm]
            have hcb : ((⟨#[116, 100, 117]⟩ : ByteArray)[1]'(by decide)).toNat = 100 := rfl
            go_upto_region 6 with (fail)
            go_quiet (fail)
            clear hcb
            go_wp2
            go_roundw
            case rel => exact ⟨2, by omega, by go_num, fun _ => m0, fun _ => hm, fun h => absurd h (by omega), below_drewN HBw.out _⟩
            case measure => simp [intOf]
        · clear n2
          have m0 := n0 (by omega)
          have m1 := n1 (by omega)
          by_cases hm : b0 = 117
          · have hrk := HRA.out
            rw [if_neg m0, if_neg m1, if_pos hm] at hrk
            subst hm
            have HR2 := Lib.hid (show r = mqK 2 (s.extract 2 s.size) from hrk)
            clear hrk
            go_upto_region 6 with (fail)
            go_quiet (fail)
            have HBd := Lib.hid (below_drewN HBq.out _ : Below w.heap.size w (wr.drewN nq))
            go_wp2_with fail
            refine (specParseAction_n8 (s.extract 2 s.size) A HA.out _ hsz2).mono ?_
            rintro e w1 ⟨rfl, hb1⟩
            have HG1 := Lib.hid ((hb1.block gr HSq.out).trans HGq.out)
            have HB1 := Lib.hid (HBd.out.trans (hb1.mono HBd.out.size))
            have hs1 : gr < w1.heap.size := Nat.lt_of_lt_of_le HSq.out hb1.size
            clear hb1
            obtain ⟨⟨ak, ac, am, an⟩, ab⟩ := A
            simp only []
            have hmk : mqK 2 (s.extract 2 s.size) = (⟨2, ac, am⟩, ab && decide (ak = 2)) := by rw [mqK, ← HA.out]
            go_upto_region 8 with (fail)
            obtain ⟨U, hU⟩ : ∃ U, U = w1.alloc (.cells #[.int .i64 ak, .int .i64 ac, .int .i64 am, .int .i64 an] 67) := ⟨_, rfl⟩
            obtain ⟨g, hg⟩ : ∃ g, g = w1.heap.size := ⟨_, rfl⟩
            have hu : Below w1.heap.size w1 U := by rw [hU]; exact below_alloc1 _ _
            have hgu : U.heap[g]? = some (.cells #[.int .i64 ak, .int .i64 ac, .int .i64 am, .int .i64 an] 67 (0, 0)) := by rw [hU, hg]; exact heap_alloc_new _ _
            rw [← hU, ← hg]
            have HG2 := Lib.hid ((hu.block gr hs1).trans HG1.out)
            have HB2 := Lib.hid (HB1.out.trans (hu.mono HB1.out.size))
            have HGu := Lib.hid hgu
            have HNE := Lib.hid (show ¬ g = gr by omega)
            clear hU hg hu hs1
            obtain ⟨y0, -⟩ := cells_of_heap hgu 0 (by simp)
            obtain ⟨y1, -⟩ := cells_of_heap hgu 1 (by simp)
            obtain ⟨y2, -⟩ := cells_of_heap hgu 2 (by simp)
            obtain ⟨y3, -⟩ := cells_of_heap hgu 3 (by simp)
            clear hgu
            simp only [List.getElem_toArray, List.getElem_cons_zero, List.getElem_cons_succ] at y0 y1 y2 y3
            obtain ⟨x0, p0⟩ := cells_of_heap HG2.out 0 (by simp)
            obtain ⟨x1, p1⟩ := cells_of_heap HG2.out 1 (by simp)
            obtain ⟨x2, p2⟩ := cells_of_heap HG2.out 2 (by simp)
            have hn1 : ¬ g = gr := HNE.out
            have hn2 : ¬ gr = g := fun e => HNE.out e.symm
            cases ab
            · skip
              have HR3 := Lib.hid (show r = (⟨2, ac, am⟩, false) from by rw [HR2.out, hmk]; rfl)
              clear hmk
              go_region
              go_wp2
              clear x0 x1 x2 p0 p1 p2 y0 y1 y2 y3 hn1 hn2
              have hgr0 : w.heap.size ≤ gr := HGR.out
              obtain ⟨wf, hwf⟩ : ∃ x, x = (putW U gr 0 [.int .i64 2, .int .i64 ac, .int .i64 am]).drew := ⟨_, rfl⟩
              have kf : wf.heap[gr]? = some (.cells #[.int .i64 2, .int .i64 ac, .int .i64 am] 39 (0, 0)) := by rw [hwf]; exact putW_all [.int .i64 2, .int .i64 ac, .int .i64 am] HG2.out rfl
              have bf : Below w.heap.size w wf := by rw [hwf]; exact (putW_below (b := gr) hgr0 [.int .i64 2, .int .i64 ac, .int .i64 am] 0 _ HB2.out).drew
              have cf := hwf.symm
              simp only [putW, Nat.reduceAdd] at cf
              rw [cf]
              clear cf hwf
              have f0 := (cells_of_heap kf 0 (by simp)).1
              have f1 := (cells_of_heap kf 1 (by simp)).1
              have f2 := (cells_of_heap kf 2 (by simp)).1
              simp only [List.getElem_toArray, List.getElem_cons_zero, List.getElem_cons_succ] at f0 f1 f2
              refine bodyPost_ret (v := .tuple #[stv 2 ac am, .bool false]) (by simp [results, Tryd.results45, go_sem, f0, f1, f2]) rfl ⟨by rw [HR3.out], bf⟩
            · by_cases hk2 : ak = 2
              · subst hk2
                have HR3 := Lib.hid (show r = (⟨2, ac, am⟩, true) from by rw [HR2.out, hmk]; rfl)
                clear hmk
                go_region
                go_wp2
                clear x0 x1 x2 p0 p1 p2 y0 y1 y2 y3 hn1 hn2
                have hgr0 : w.heap.size ≤ gr := HGR.out
                obtain ⟨wf, hwf⟩ : ∃ x, x = (putW U gr 0 [.int .i64 2, .int .i64 ac, .int .i64 am]).drew := ⟨_, rfl⟩
                have kf : wf.heap[gr]? = some (.cells #[.int .i64 2, .int .i64 ac, .int .i64 am] 39 (0, 0)) := by rw [hwf]; exact putW_all [.int .i64 2, .int .i64 ac, .int .i64 am] HG2.out rfl
                have bf : Below w.heap.size w wf := by rw [hwf]; exact (putW_below (b := gr) hgr0 [.int .i64 2, .int .i64 ac, .int .i64 am] 0 _ HB2.out).drew
                have cf := hwf.symm
                simp only [putW, Nat.reduceAdd] at cf
                rw [cf]
                clear cf hwf
                have f0 := (cells_of_heap kf 0 (by simp)).1
                have f1 := (cells_of_heap kf 1 (by simp)).1
                have f2 := (cells_of_heap kf 2 (by simp)).1
                simp only [List.getElem_toArray, List.getElem_cons_zero, List.getElem_cons_succ] at f0 f1 f2
                refine bodyPost_ret (v := .tuple #[stv 2 ac am, .bool true]) (by simp [results, Tryd.results45, go_sem, f0, f1, f2]) rfl ⟨by rw [HR3.out], bf⟩
              · have b2 : (ak == 2) = false := by simp [hk2]
                have HR3 := Lib.hid (show r = (⟨2, ac, am⟩, false) from by rw [HR2.out, hmk]; simp [hk2])
                clear hmk
                go_region
                go_wp2
                clear x0 x1 x2 p0 p1 p2 y0 y1 y2 y3 hn1 hn2
                have hgr0 : w.heap.size ≤ gr := HGR.out
                obtain ⟨wf, hwf⟩ : ∃ x, x = (putW U gr 0 [.int .i64 2, .int .i64 ac, .int .i64 am]).drew := ⟨_, rfl⟩
                have kf : wf.heap[gr]? = some (.cells #[.int .i64 2, .int .i64 ac, .int .i64 am] 39 (0, 0)) := by rw [hwf]; exact putW_all [.int .i64 2, .int .i64 ac, .int .i64 am] HG2.out rfl
                have bf : Below w.heap.size w wf := by rw [hwf]; exact (putW_below (b := gr) hgr0 [.int .i64 2, .int .i64 ac, .int .i64 am] 0 _ HB2.out).drew
                have cf := hwf.symm
                simp only [putW, Nat.reduceAdd] at cf
                rw [cf]
                clear cf hwf
                have f0 := (cells_of_heap kf 0 (by simp)).1
                have f1 := (cells_of_heap kf 1 (by simp)).1
                have f2 := (cells_of_heap kf 2 (by simp)).1
                simp only [List.getElem_toArray, List.getElem_cons_zero, List.getElem_cons_succ] at f0 f1 f2
                refine bodyPost_ret (v := .tuple #[stv 2 ac am, .bool false]) (by simp [results, Tryd.results45, go_sem, f0, f1, f2]) rfl ⟨by rw [HR3.out], bf⟩
          · have bm : (b0 == 117) = false := by simp [hm]
            have hcb : ((⟨#[116, 100, 117]⟩ : ByteArray)[2]'(by decide)).toNat = 117 := rfl
            go_upto_region 6 with (fail)
            go_quiet (fail)
            clear hcb
            go_wp2
            go_roundw
            case rel => exact ⟨3, by omega, by go_num, fun _ => m0, fun _ => m1, fun _ => hm, below_drewN HBw.out _⟩
            case measure => simp [intOf]
        · have HR2 := Lib.hid (show r = (⟨0, 0, 0⟩, false) from by rw [HRA.out, if_neg (n0 (by omega)), if_neg (n1 (by omega)), if_neg (n2 (by omega))])
          clear n0 n1 n2
          obtain ⟨x0, p0⟩ := cells_of_heap HGq.out 0 (by simp)
          obtain ⟨x1, p1⟩ := cells_of_heap HGq.out 1 (by simp)
          obtain ⟨x2, p2⟩ := cells_of_heap HGq.out 2 (by simp)
          go_wp2
          clear x0 x1 x2 p0 p1 p2
          have hgr0 : w.heap.size ≤ gr := HGR.out
          obtain ⟨wf, hwf⟩ : ∃ x, x = putW (wr) (gr) 0 [.int .i64 0, .int .i64 0, .int .i64 0] := ⟨_, rfl⟩
          have kf := putW_all [.int .i64 0, .int .i64 0, .int .i64 0] HGq.out rfl
          have bf := putW_below (b := gr) (by first | omega | simp) [.int .i64 0, .int .i64 0, .int .i64 0] 0 _ HBq.out
          rw [← hwf] at kf bf
          have cf := hwf.symm
          simp only [putW, Nat.reduceAdd] at cf
          rw [cf]
          clear cf hwf
          have f0 := (cells_of_heap kf 0 (by simp)).1
          have f1 := (cells_of_heap kf 1 (by simp)).1
          have f2 := (cells_of_heap kf 2 (by simp)).1
          simp only [List.getElem_toArray, List.getElem_cons_zero, List.getElem_cons_succ] at f0 f1 f2
          refine bodyPost_ret (v := .tuple #[stv 0 0 0, .bool false]) (by simp [results, Tryd.results45, go_sem, f0, f1, f2]) rfl ⟨by rw [HR2.out], bf⟩

    · have HR2 := Lib.hid (show r = (⟨0, 0, 0⟩, false) from by rw [HR1.out, if_pos (.inr h61)])
      have b61 : (b1 == 61) = false := by simp [h61]
      obtain ⟨x0, p0⟩ := cells_of_heap HG0.out 0 (by simp)
      obtain ⟨x1, p1⟩ := cells_of_heap HG0.out 1 (by simp)
      obtain ⟨x2, p2⟩ := cells_of_heap HG0.out 2 (by simp)
      go_wp2
      clear x0 x1 x2 p0 p1 p2
      have hgr0 : w.heap.size ≤ gr := HGR.out
      obtain ⟨wf, hwf⟩ : ∃ x, x = putW (V) (gr) 0 [.int .i64 0, .int .i64 0, .int .i64 0] := ⟨_, rfl⟩
      have kf := putW_all [.int .i64 0, .int .i64 0, .int .i64 0] HG0.out rfl
      have bf := putW_below (b := gr) (by first | omega | simp) [.int .i64 0, .int .i64 0, .int .i64 0] 0 _ HB0.out
      rw [← hwf] at kf bf
      have cf := hwf.symm
      simp only [putW, Nat.reduceAdd] at cf
      rw [cf]
      clear cf hwf
      have f0 := (cells_of_heap kf 0 (by simp)).1
      have f1 := (cells_of_heap kf 1 (by simp)).1
      have f2 := (cells_of_heap kf 2 (by simp)).1
      simp only [List.getElem_toArray, List.getElem_cons_zero, List.getElem_cons_succ] at f0 f1 f2
      refine bodyPost_ret (v := .tuple #[stv 0 0 0, .bool false]) (by simp [results, Tryd.results45, go_sem, f0, f1, f2]) rfl ⟨by rw [HR2.out], bf⟩
end Go.Proofs.YtnfnhbldphiohaaDoor

namespace Go.Proofs.YtnfnhbldphiohaaDoor
open Go.RowKit

/-- Steps in memory of the caller's own, and whether there are. -/
def StO (x : List St × Bool) (w : World) (e : Ending) (w' : World) : Prop := ∃ a c, e = .returned (.tuple #[.slice a x.1.length c, .bool x.2]) ∧ w'.ownsRow w.heap.size 39 3 (.slice a x.1.length c) x.1.length (flatSt x.1) ∧ Below w.heap.size w w'
theorem mqV_eq (s : ByteArray) (ws : List ByteArray) (h : ws = parts s 32) (h0 : s ≠ ⟨#[]⟩) : mqV s = if ws.length ≤ 8 ∧ mqN ws ws.length = true ∧ okMc (mqO ws ws.length) = true then (mqO ws ws.length, true) else ([], false) := by
  rw [mqV, if_neg h0, ← h]

set_option maxRecDepth 100000 in
set_option maxHeartbeats 8000000 in
theorem specParseMacro_any (s : ByteArray) (x : List St × Bool) (hx : x = mqV s) (w : World) (hl : s.size ≤ 1048576) :
    Calls Tryd.prog 21 #[.string s] w (StO x w) := by
  obtain ⟨i0, hi, hz0, hz1, hz2⟩ := info_parts info_st
  have HX := Lib.hid hx
  have HL := Lib.hid hl
  clear hx
  go_enter Tryd.func21, Tryd.ntmps21
  go_upto_region 2 with (fail)
  obtain ⟨W, hW⟩ : ∃ W, W = w.alloc (.cells #[] 39) := ⟨_, rfl⟩
  obtain ⟨g0, hg0⟩ : ∃ x, x = w.heap.size := ⟨_, rfl⟩
  have hB0 : Below w.heap.size w W := by rw [hW]; exact below_alloc1 _ _
  have hO0 : W.ownsRow w.heap.size 39 3 (.slice (some ⟨g0, 0, none⟩) 0 0) 0 [] := by rw [hW, hg0]; exact World.ownsRow_lit (e := 39) (size := 3) w #[] 0 (Nat.le_refl _) (by simp [maxLen]) rfl
  have HGL := Lib.hid (show g0 < W.heap.size by rw [hW, hg0]; simp)
  have HB0 := Lib.hid hB0
  have HO0 := Lib.hid hO0
  rw [← hW, ← hg0]
  clear hW hg0 hB0 hO0
  by_cases hs : s = ⟨#[]⟩
  · have HX2 := Lib.hid (show x = ([], true) from by rw [HX.out, mqV, if_pos hs])
    subst hs
    go_wp2
    go_ret2
    rw [HX2.out]
    exact ⟨_, _, rfl, HO0.out, HB0.out⟩
  · obtain ⟨ws, hws⟩ : ∃ ws, ws = parts s 32 := ⟨_, rfl⟩
    have hme := mqV_eq s ws hws hs
    rw [← HX.out] at hme
    obtain ⟨N, hN⟩ : ∃ N, N = ws.length := ⟨_, rfl⟩
    have hpt : ∀ j, pt s 32 j = ws.getD j ⟨#[]⟩ := fun j => by rw [hws]; rfl
    rw [← hN] at hme
    have HME := Lib.hid hme
    have HN := Lib.hid hN
    have HNP := Lib.hid (show N = (parts s 32).length by rw [hN, hws])
    have HPT := Lib.hid hpt
    have hlen := parts_len s 32
    rw [← HNP.out] at hlen
    have HNL := Lib.hid (show N ≤ 1048577 by omega)
    have b0 : (s.toList == []) = false := by have := toList_ne (y := ⟨#[]⟩) hs; simpa using this
    clear hme hN hpt hlen hws HX
    go_wp2_with fail
    refine (specSplit_n s 32 N HNP.out _ hl).mono ?_
    rintro e w2 ⟨b1, cap1, rfl, hm1, hl1, hc1, hb2⟩
    have HB2 := Lib.hid (HB0.out.trans (hb2.mono HB0.out.size))
    have HO2 := Lib.hid (owns_below HO0.out hb2)
    have HC1 := Lib.hid hc1
    have HM1 := Lib.hid (show b1 ≠ g0 by have := HGL.out; omega)
    clear hb2 hc1 hm1 b0
    by_cases h8 : N ≤ 8
    · have h8' : (N : Int) ≤ 8 := by omega
      have h8n : ¬ (8 : Int) < (N : Int) := by omega
      go_wp2
      go_loopw [4, 6, 7, 8] (fun u i _ _ wr => ∃ (j : Nat) (a : Option Addr) (c : Nat), j ≤ N ∧ i = .int .i64 j ∧ u = .slice a j c ∧ wr.ownsRow w.heap.size 39 3 (.slice a j c) j (flatSt (mqO ws j)) ∧ mqN ws j = true ∧ Below w.heap.size w wr ∧ (∀ k, k < N → wr.cell? ⟨b1, k, none⟩ = some (.string (pt s 32 k))) ∧ (∀ q, (Value.slice a j c).ownBlock = some q → q ≠ b1) ∧ b1 < wr.heap.size) (fun _ i _ _ _ => N - (intOf i).toNat)
      case atStart => exact ⟨0, _, _, Nat.zero_le _, rfl, rfl, HO2.out, rfl, HB2.out, HC1.out, fun q hq => by simp [Value.ownBlock] at hq; have := HM1.out; omega, hl1⟩
      case round =>
        obtain ⟨j, ua, uc, hj, rfl, rfl, ho, hmq, hb, hcc, hnb, hbl⟩ := hrel
        have HO := Lib.hid ho
        have HB := Lib.hid hb
        have HCC := Lib.hid hcc
        have HNB := Lib.hid hnb
        have HMQ := Lib.hid hmq
        clear ho hb hnb hmq
        by_cases hlt' : j < N
        · have d0 := hcc j hlt'
          have hbad : (mqS (ws.getD j ⟨#[]⟩)).2 = false → x = ([], false) := fun h0 => by
            rw [HME.out, if_neg]
            rintro ⟨_, h2, _⟩
            rw [mqN_no h0 N hlt'] at h2
            exact absurd h2 (by decide)
          have hok : (mqS (ws.getD j ⟨#[]⟩)).2 = true → mqN ws (j + 1) = true := fun h0 => by rw [mqN, HMQ.out, h0]; rfl
          have hst := mqO_succ ws j (by rw [← HN.out]; exact hlt')
          have hol := mqO_len ws j (by rw [← HN.out]; omega)
          obtain ⟨T, hT⟩ : ∃ T, T = pt s 32 j := ⟨_, rfl⟩
          have hTs : T.size ≤ 1048576 := by rw [hT]; exact pt_size s 32 j hl
          rw [← hT] at d0
          have hTw : T = ws.getD j ⟨#[]⟩ := by rw [hT]; exact HPT.out j
          rw [← hTw] at hbad hok hst
          obtain ⟨R, hR⟩ : ∃ R, R = mqS T := ⟨_, rfl⟩
          rw [← hR] at hbad hok hst
          have HRR := Lib.hid hR
          obtain ⟨⟨k, c, m⟩, o⟩ := R
          have HBad := Lib.hid hbad
          have HOk := Lib.hid hok
          have HST := Lib.hid hst
          have HOL := Lib.hid hol
          have b63 : j + 1 ≤ maxLen := by unfold maxLen; omega
          have b47 : (j + 1) * 24 ≤ 140737488355328 := by omega
          clear hbad hok hst hol hT hTw hR hcc
          go_wp2_with fail
          refine (specL8Parse_any T _ HRR.out _ hTs).mono ?_
          rintro e w3 ⟨rfl, hb3⟩
          have HB3 := Lib.hid (HB.out.trans (hb3.mono HB.out.size))
          have HO3 := Lib.hid (owns_below HO.out hb3)
          have HCC3 := Lib.hid (fun k (hk : k < N) => (hb3.cell (p := ⟨b1, k, none⟩) hbl).trans (HCC.out k hk))
          have hbl3 : b1 < w3.heap.size := Nat.lt_of_lt_of_le hbl hb3.size
          have hz3 : w.heap.size ≤ w3.heap.size := HB3.out.size
          clear hb3 d0
          cases o
          · have HX2 := Lib.hid (HBad.out rfl)
            go_wp2
            go_ret2
            rw [HX2.out]
            have h3 := HB3.out.alloc hz3 (.cells #[.int .i64 k, .int .i64 c, .int .i64 m] 39)
            have h4 := owns_noneN 39 3 h3.size
            rw [show (w3.alloc (.cells #[.int .i64 k, .int .i64 c, .int .i64 m] 39)).heap.size = w3.heap.size + 1 from by simp] at h4
            exact ⟨_, _, rfl, h4, h3.alloc h3.size _⟩
          · have HM2 := Lib.hid (HOk.out rfl)
            go_wp2_with (at_builtin; refine wpList_append_lies _ rfl _ _ 26 rfl w.heap.size 39 i0 (.agg #[.int .i64 0, .int .i64 0, .int .i64 0]) 3 24 Tryd.underlying26 hi hz0 hz1 hz2 rfl (by decide) _ _ _ rfl ((HO3.out.alloc _).alloc _) ⟨w3.heap.size + 1, 0, none⟩ 1 1 [.int .i64 k, .int .i64 c, .int .i64 m] rfl rfl ?c1 ?c2 (by decide) b63 b47 ?c5 (w3.heap.size + 1 + 1) (by simp) ?_)
            case c1 =>
              have := news_of_new (w := w3.alloc (.cells #[Value.int .i64 k, Value.int .i64 c, Value.int .i64 m] 39)) (cs := [Value.int .i64 k, Value.int .i64 c, Value.int .i64 m]) (t := 39)
              simpa using this
            case c2 => intro u hu; simp at hu; rcases hu with rfl | rfl | rfl <;> rfl
            case c5 => simp; omega
            · intro ga ca w6 hown1 hgrow hat hlt6
              have hal : Below w3.heap.size w3 ((w3.alloc (.cells #[Value.int .i64 k, Value.int .i64 c, Value.int .i64 m] 39)).alloc (.cells #[Value.int .i64 k, Value.int .i64 c, Value.int .i64 m] 39)) := ((Below.refl _ _).alloc (Nat.le_refl _) _).alloc (by simp) _
              have HB6 := Lib.hid ((HB3.out.trans (hal.mono hz3)).grown hgrow (by simp; omega) (fun q hq => by have := (HO3.out.lt q hq).1; omega))
              have HO6 := Lib.hid hown1
              have HCC6 := Lib.hid (fun k (hk : k < N) => (hgrow.cell_far ⟨b1, k, none⟩ (by simp; omega) (fun e => HNB.out b1 e.symm rfl)).trans ((hal.cell (p := ⟨b1, k, none⟩) hbl3).trans (HCC3.out k hk)))
              have hbl6 : b1 < w6.heap.size := Nat.lt_of_lt_of_le hbl3 (Nat.le_trans hal.size hgrow.size)
              have hnb6 : ga ≠ b1 := by
                rcases hat with h | h
                · exact HNB.out ga h
                · omega
              clear hown1 hgrow hat hal
              go_wp2
              go_roundw
              case rel =>
                refine ⟨j + 1, some ⟨ga, 0, none⟩, ca, by omega, by go_num, by first | rfl | trivial, ?_, HM2.out, HB6.out, HCC6.out, fun q hq => by simp [Value.ownBlock] at hq; omega, hbl6⟩
                rw [HST.out, flatSt_snoc]
                exact HO6.out
              case measure => simp [intOf]; omega
        · obtain rfl : j = N := by omega
          obtain ⟨L, hL⟩ : ∃ L, L = mqO ws j := ⟨_, rfl⟩
          have hLl : L.length = j := by rw [hL]; exact mqO_len ws j (by rw [← HN.out]; exact Nat.le_refl _)
          rw [← hL] at HO
          have hme := HME.out
          rw [← hL] at hme
          have HME2 := Lib.hid hme
          have HLl := Lib.hid hLl
          obtain ⟨O, hO⟩ : ∃ O, O = okMc L := ⟨_, rfl⟩
          have HOO := Lib.hid hO
          clear hL hme hO hcc
          go_wp2_with fail
          refine (specIsMacro_any _ L _ (by omega) (by rw [HLl.out]; exact RdN.of_owns HO.out)).mono ?_
          rw [← HOO.out]
          rintro e w3 ⟨rfl, hb3⟩
          have HB3 := Lib.hid (HB.out.trans (hb3.mono HB.out.size))
          have HO3 := Lib.hid (owns_below HO.out hb3)
          clear hb3
          cases O
          · have HX2 := Lib.hid (show x = ([], false) from by
              rw [HME2.out, if_neg]
              rintro ⟨_, _, h3⟩
              rw [← HOO.out] at h3
              exact absurd h3 (by decide))
            go_wp2
            go_ret2
            rw [HX2.out]
            exact ⟨_, _, rfl, owns_noneN 39 3 HB3.out.size, HB3.out.alloc HB3.out.size _⟩
          · have HX2 := Lib.hid (show x = (L, true) from by rw [HME2.out, if_pos ⟨h8, HMQ.out, HOO.out.symm⟩])
            go_wp2
            go_ret2
            rw [HX2.out]
            exact ⟨ua, uc, by rw [HLl.out]; rfl, by rw [HLl.out]; exact HO3.out, HB3.out⟩
    · have h8' : ¬ (N : Int) ≤ 8 := by omega
      have h8d : decide ((N : Int) ≤ 8) = false := decide_eq_false h8'
      have h8n : (8 : Int) < (N : Int) := by omega
      have hN0 : (0 : Int) < (N : Int) := by omega
      have HX2 := Lib.hid (show x = ([], false) from by rw [HME.out, if_neg (fun h => h8 h.1)])
      go_wp2
      refine wp_loop_rounds 1 ?_
      rw [rounds_succ]
      go_wp2
      go_ret2
      rw [HX2.out]
      exact ⟨_, _, rfl, owns_noneN 39 3 HB2.out.size, HB2.out.alloc HB2.out.size _⟩

end Go.Proofs.YtnfnhbldphiohaaDoor
