/- DERIVED. Drawing a valid action of a keymap of so many layers by the reference's cursor. -/
import Derived.Test.YtbpopgplpipfeaaGreatAcs
import Derived.Test.YtbpopgplpipfeaaGreatDraw
namespace Go.Proofs.YtbpopgplpipfeaaGreat
open Go.RowKit

theorem Draws.putW {B b n : Nat} {v : Value} {zs : List Int} {x : Nat} (hx : x ≠ b) (hB : B ≤ x) : ∀ (l : List Value) (s : Nat) {w : World}, Draws B b v n zs w → Draws B b v n zs (Go.Proofs.YtbpopgplpipfeaaGreat.putW w x s l)
  | [], _, _, h => h
  | u :: l, s, _, h => by rw [Go.Proofs.YtbpopgplpipfeaaGreat.putW]; exact Draws.putW hx hB l _ (h.setCell x s u hx hB)
theorem grown_putW {x : Nat} {r : Option Nat} {w0 : World} (hx : w0.heap.size ≤ x) : ∀ (l : List Value) (s : Nat) {w : World}, w0.grownBy w r → w0.grownBy (putW w x s l) r
  | [], _, _, h => h
  | u :: l, s, _, h => by rw [putW]; exact grown_putW hx l _ (grown_new h x s u hx)
/-- A valid action of a keymap of L layers, not one that passes. -/
structure AcFit (a : Ac) (L : Int) : Prop where
  ok : okAc a.k a.c a.m a.n = true
  np : a.k ≠ 1
  lay : a.k ≠ 9 → a.n < L
theorem fit_key {c m L : Int} (hc : 1 ≤ c ∧ c ≤ 56) (hm : 0 ≤ m ∧ m ≤ 15) (hL : 1 ≤ L) : AcFit ⟨2, c, m, 0⟩ L :=
  ⟨by unfold okAc inB; simp; omega, by simp, fun _ => by show (0 : Int) < L; omega⟩
theorem fit_mods {m L : Int} (hm : 1 ≤ m ∧ m ≤ 15) (hL : 1 ≤ L) : AcFit ⟨2, 0, m, 0⟩ L :=
  ⟨by unfold okAc inB; simp; omega, by simp, fun _ => by show (0 : Int) < L; omega⟩
theorem fit_mt {c m L : Int} (hc : 1 ≤ c ∧ c ≤ 56) (hm : 1 ≤ m ∧ m ≤ 15) (hL : 1 ≤ L) : AcFit ⟨6, c, m, 0⟩ L :=
  ⟨by unfold okAc inB; simp; omega, by simp, fun _ => by show (0 : Int) < L; omega⟩
theorem fit_once {m L : Int} (hm : 1 ≤ m ∧ m ≤ 15) (hL : 1 ≤ L) : AcFit ⟨8, 0, m, 0⟩ L :=
  ⟨by unfold okAc inB; simp; omega, by simp, fun _ => by show (0 : Int) < L; omega⟩
theorem fit_macro {n L : Int} (hn : 0 ≤ n ∧ n ≤ 3) : AcFit ⟨9, 0, 0, n⟩ L :=
  ⟨by unfold okAc inB; simp; omega, by simp, fun h => absurd rfl h⟩
theorem fit_caps {L : Int} (hL : 1 ≤ L) : AcFit ⟨10, 0, 0, 0⟩ L := ⟨by decide, by decide, fun _ => by show (0 : Int) < L; omega⟩
theorem fit_to {n L : Int} (hn : 0 ≤ n ∧ n ≤ 3) (hL : n < L) : AcFit ⟨5, 0, 0, n⟩ L :=
  ⟨by unfold okAc inB; simp; omega, by simp, fun _ => hL⟩
theorem fit_mo {n L : Int} (hn : 1 ≤ n ∧ n ≤ 3) (hL : n < L) : AcFit ⟨3, 0, 0, n⟩ L :=
  ⟨by unfold okAc inB; simp; omega, by simp, fun _ => hL⟩
theorem fit_tg {n L : Int} (hn : 1 ≤ n ∧ n ≤ 3) (hL : n < L) : AcFit ⟨4, 0, 0, n⟩ L :=
  ⟨by unfold okAc inB; simp; omega, by simp, fun _ => hL⟩
theorem fit_lt {c n L : Int} (hc : 1 ≤ c ∧ c ≤ 56) (hn : 1 ≤ n ∧ n ≤ 3) (hL : n < L) : AcFit ⟨7, c, 0, n⟩ L :=
  ⟨by unfold okAc inB; simp; omega, by simp, fun _ => hL⟩

set_option maxHeartbeats 8000000 in
set_option maxRecDepth 100000 in
theorem l5Draw_draw {B b n : Nat} {v : Value} {zs : List Int} {w : World} (L : Int) (h : Draws B b v n zs w) (l1 : 1 ≤ L) (l4 : L ≤ 4) :
    Calls Tryz.prog 149 #[.pointer (some ⟨b, 0, none⟩), .int .i64 L] w fun e w' => ∃ a : Ac, e = .returned (acv a.k a.c a.m a.n) ∧ AcFit a L ∧ Draws B b v n zs w' ∧ w.grownBy w' (some b) := by
  have HLT := Lib.hid h.lt
  have HBL := Lib.hid h.low
  obtain ⟨V, hV⟩ : ∃ V, V = w.alloc (.cells #[.int .i64 0, .int .i64 0, .int .i64 0, .int .i64 0] 41) := ⟨_, rfl⟩
  have HG0 := Lib.hid (show V.heap[w.heap.size]? = some (.cells #[.int .i64 0, .int .i64 0, .int .i64 0, .int .i64 0] 41 (0, 0)) by rw [hV]; exact heap_alloc_new w _)
  have HS0 := Lib.hid (show w.heap.size < V.heap.size by rw [hV]; simp)
  have HD0 := Lib.hid (show Draws B b v n zs V by rw [hV]; exact h.alloc _)
  have HR0 := Lib.hid (show w.grownBy V (some b) by rw [hV]; exact grown_alloc _ _ _)
  have HV2 := Lib.hid hV
  clear hV h
  go_enter Tryz.func149, Tryz.ntmps149
  go_wp2_with fail
  rw [← HV2.out]
  refine (l1Below_draw 56 HD0.out (by omega) (by omega)).mono ?_
  rintro e w1 ⟨c, rfl, c0, c1, hd, hg⟩
  have HD1 := Lib.hid hd
  have HR1 := Lib.hid (grown_trans HR0.out hg)
  have HG1 := Lib.hid ((hg.block _ HS0.out (by have := HLT.out; simp; omega)).trans HG0.out)
  have HS1 := Lib.hid (Nat.lt_of_lt_of_le HS0.out hg.size)
  clear hd hg
  obtain ⟨C, hC⟩ : ∃ C, C = 1 + c := ⟨_, rfl⟩
  go_wp2_with fail
  refine (l1Below_draw 15 HD1.out (by omega) (by omega)).mono ?_
  rintro e w2 ⟨m, rfl, m0, m1, hd, hg⟩
  have HD2 := Lib.hid hd
  have HR2 := Lib.hid (grown_trans HR1.out hg)
  have HG2 := Lib.hid ((hg.block _ HS1.out (by have := HLT.out; simp; omega)).trans HG1.out)
  have HS2 := Lib.hid (Nat.lt_of_lt_of_le HS1.out hg.size)
  clear hd hg
  go_wp2_with fail
  refine (l1Once_draw 2 HD2.out (by omega) (by omega)).mono ?_
  rintro e w3 ⟨t, rfl, hd, hg⟩
  have HD3 := Lib.hid hd
  have HR3 := Lib.hid (grown_trans HR2.out hg)
  have HG3 := Lib.hid ((hg.block _ HS2.out (by have := HLT.out; simp; omega)).trans HG2.out)
  have HS3 := Lib.hid (Nat.lt_of_lt_of_le HS2.out hg.size)
  clear hd hg
  go_upto_if 15 with (fail)
  go_cut [6] (fun s6 wx => (∃ M : Int, s6 = .int .i64 M ∧ 1 ≤ M ∧ M ≤ 15) ∧ w3 = wx)
  case first =>
    cases t
    all_goals
      go_wp2
      go_meet
      exact ⟨⟨_, rfl, by omega, by omega⟩, rfl⟩
  case rest =>
    obtain ⟨⟨M, rfl, M1, M2⟩, rfl⟩ := hcut
    clear m0 m1
    go_upto_region 5 with (fail)
    go_cut [7] (fun s7 wx => (∃ N : Int, s7 = .int .i64 N ∧ 1 ≤ N ∧ N ≤ 3 ∧ (1 < L → N < L)) ∧ Draws B b v n zs wx ∧ w3.grownBy wx (some b))
    case first =>
      by_cases hx : L - 1 ≤ 1
      · go_wp2_with fail
        refine (l1Below_draw 1 HD3.out (by omega) (by omega)).mono ?_
        rintro e w4 ⟨x, rfl, x0, x1, hd, hg⟩
        have HD4 := Lib.hid hd
        have HR4 := Lib.hid hg
        clear hd hg
        go_wp2
        go_meet
        exact ⟨⟨_, rfl, by omega, by omega, fun _ => by omega⟩, HD4.out, HR4.out⟩
      · go_wp2_with fail
        refine (l1Below_draw (L - 1) HD3.out (by omega) (by omega)).mono ?_
        rintro e w4 ⟨x, rfl, x0, x1, hd, hg⟩
        have HD4 := Lib.hid hd
        have HR4 := Lib.hid hg
        clear hd hg
        go_wp2
        go_meet
        exact ⟨⟨_, rfl, by omega, by omega, fun _ => by omega⟩, HD4.out, HR4.out⟩
    case rest =>
      obtain ⟨⟨N, rfl, N1, N3, NL⟩, hd, hg⟩ := hcut
      have HD4 := Lib.hid hd
      have HR4 := Lib.hid (grown_trans HR3.out hg)
      have HG4 := Lib.hid ((hg.block _ HS3.out (by have := HLT.out; simp; omega)).trans HG3.out)
      have HS4 := Lib.hid (Nat.lt_of_lt_of_le HS3.out hg.size)
      clear hd hg
      have HNL := Lib.hid NL
      clear NL
      have cC : 1 ≤ C ∧ C ≤ 56 := by omega
      rw [← hC]
      clear hC c0 c1
      go_wp2_with fail
      refine (l1Below_draw 16 HD4.out (by omega) (by omega)).mono ?_
      rintro e w5 ⟨q, rfl, q0, q1, hd, hg⟩
      have HD5 := Lib.hid hd
      have HR5 := Lib.hid (grown_trans HR4.out hg)
      have HG5 := Lib.hid ((hg.block _ HS4.out (by have := HLT.out; simp; omega)).trans HG4.out)
      have HS5 := Lib.hid (Nat.lt_of_lt_of_le HS4.out hg.size)
      clear hd hg
      have key : q = 0 ∨ q = 1 ∨ q = 2 ∨ q = 3 ∨ q = 4 ∨ q = 5 ∨ q = 6 ∨ q = 7 ∨ (q = 8 ∨ q = 9 ∨ q = 10) ∨ (q = 11 ∨ q = 12 ∨ q = 13 ∨ q = 14 ∨ q = 15) := by omega
      clear q0 q1
      rcases key with rfl | rfl | rfl | rfl | rfl | rfl | rfl | rfl | hq | hq
      · skip
        obtain ⟨y0, q0⟩ := cells_of_heap HG5.out 0 (by simp)
        obtain ⟨y1, q1⟩ := cells_of_heap HG5.out 1 (by simp)
        obtain ⟨y2, q2⟩ := cells_of_heap HG5.out 2 (by simp)
        obtain ⟨y3, q3⟩ := cells_of_heap HG5.out 3 (by simp)
        go_wp2
        clear y0 q0 y1 q1 y2 q2 y3 q3
        obtain ⟨wf, hwf⟩ : ∃ wz, wz = putW (w5) (w.heap.size) 0 [.int .i64 2, .int .i64 C, .int .i64 M, .int .i64 0] := ⟨_, rfl⟩
        have kf := putW_all [.int .i64 2, .int .i64 C, .int .i64 M, .int .i64 0] HG5.out rfl
        have hdf := HD5.out.putW (x := w.heap.size) (by have := HLT.out; omega) (by have := HLT.out; have := HBL.out; omega) [.int .i64 2, .int .i64 C, .int .i64 M, .int .i64 0] 0
        have hgf := grown_putW (Nat.le_refl w.heap.size) [.int .i64 2, .int .i64 C, .int .i64 M, .int .i64 0] 0 HR5.out
        rw [← hwf] at kf hdf hgf
        have cf := hwf.symm
        simp only [putW, Nat.reduceAdd] at cf
        rw [cf]
        clear cf hwf
        have f0 := (cells_of_heap kf 0 (by simp)).1
        have f1 := (cells_of_heap kf 1 (by simp)).1
        have f2 := (cells_of_heap kf 2 (by simp)).1
        have f3 := (cells_of_heap kf 3 (by simp)).1
        simp only [List.getElem_toArray, List.getElem_cons_zero, List.getElem_cons_succ] at f0 f1 f2 f3
        refine bodyPost_ret (v := acv 2 C M 0) (by simp [results, Tryz.results149, go_sem, f0, f1, f2, f3]) rfl ⟨⟨2, C, M, 0⟩, rfl, fit_key ⟨by omega, by omega⟩ ⟨by omega, by omega⟩ l1, hdf, hgf⟩
      · skip
        obtain ⟨y0, q0⟩ := cells_of_heap HG5.out 0 (by simp)
        obtain ⟨y1, q1⟩ := cells_of_heap HG5.out 1 (by simp)
        obtain ⟨y2, q2⟩ := cells_of_heap HG5.out 2 (by simp)
        obtain ⟨y3, q3⟩ := cells_of_heap HG5.out 3 (by simp)
        go_wp2
        clear y0 q0 y1 q1 y2 q2 y3 q3
        obtain ⟨wf, hwf⟩ : ∃ wz, wz = putW (w5) (w.heap.size) 0 [.int .i64 2, .int .i64 0, .int .i64 M, .int .i64 0] := ⟨_, rfl⟩
        have kf := putW_all [.int .i64 2, .int .i64 0, .int .i64 M, .int .i64 0] HG5.out rfl
        have hdf := HD5.out.putW (x := w.heap.size) (by have := HLT.out; omega) (by have := HLT.out; have := HBL.out; omega) [.int .i64 2, .int .i64 0, .int .i64 M, .int .i64 0] 0
        have hgf := grown_putW (Nat.le_refl w.heap.size) [.int .i64 2, .int .i64 0, .int .i64 M, .int .i64 0] 0 HR5.out
        rw [← hwf] at kf hdf hgf
        have cf := hwf.symm
        simp only [putW, Nat.reduceAdd] at cf
        rw [cf]
        clear cf hwf
        have f0 := (cells_of_heap kf 0 (by simp)).1
        have f1 := (cells_of_heap kf 1 (by simp)).1
        have f2 := (cells_of_heap kf 2 (by simp)).1
        have f3 := (cells_of_heap kf 3 (by simp)).1
        simp only [List.getElem_toArray, List.getElem_cons_zero, List.getElem_cons_succ] at f0 f1 f2 f3
        refine bodyPost_ret (v := acv 2 0 M 0) (by simp [results, Tryz.results149, go_sem, f0, f1, f2, f3]) rfl ⟨⟨2, 0, M, 0⟩, rfl, fit_mods ⟨by omega, by omega⟩ l1, hdf, hgf⟩
      · skip
        obtain ⟨y0, q0⟩ := cells_of_heap HG5.out 0 (by simp)
        obtain ⟨y1, q1⟩ := cells_of_heap HG5.out 1 (by simp)
        obtain ⟨y2, q2⟩ := cells_of_heap HG5.out 2 (by simp)
        obtain ⟨y3, q3⟩ := cells_of_heap HG5.out 3 (by simp)
        go_wp2
        clear y0 q0 y1 q1 y2 q2 y3 q3
        obtain ⟨wf, hwf⟩ : ∃ wz, wz = putW (w5) (w.heap.size) 0 [.int .i64 6, .int .i64 C, .int .i64 M, .int .i64 0] := ⟨_, rfl⟩
        have kf := putW_all [.int .i64 6, .int .i64 C, .int .i64 M, .int .i64 0] HG5.out rfl
        have hdf := HD5.out.putW (x := w.heap.size) (by have := HLT.out; omega) (by have := HLT.out; have := HBL.out; omega) [.int .i64 6, .int .i64 C, .int .i64 M, .int .i64 0] 0
        have hgf := grown_putW (Nat.le_refl w.heap.size) [.int .i64 6, .int .i64 C, .int .i64 M, .int .i64 0] 0 HR5.out
        rw [← hwf] at kf hdf hgf
        have cf := hwf.symm
        simp only [putW, Nat.reduceAdd] at cf
        rw [cf]
        clear cf hwf
        have f0 := (cells_of_heap kf 0 (by simp)).1
        have f1 := (cells_of_heap kf 1 (by simp)).1
        have f2 := (cells_of_heap kf 2 (by simp)).1
        have f3 := (cells_of_heap kf 3 (by simp)).1
        simp only [List.getElem_toArray, List.getElem_cons_zero, List.getElem_cons_succ] at f0 f1 f2 f3
        refine bodyPost_ret (v := acv 6 C M 0) (by simp [results, Tryz.results149, go_sem, f0, f1, f2, f3]) rfl ⟨⟨6, C, M, 0⟩, rfl, fit_mt ⟨by omega, by omega⟩ ⟨by omega, by omega⟩ l1, hdf, hgf⟩
      · skip
        obtain ⟨y0, q0⟩ := cells_of_heap HG5.out 0 (by simp)
        obtain ⟨y1, q1⟩ := cells_of_heap HG5.out 1 (by simp)
        obtain ⟨y2, q2⟩ := cells_of_heap HG5.out 2 (by simp)
        obtain ⟨y3, q3⟩ := cells_of_heap HG5.out 3 (by simp)
        go_wp2
        clear y0 q0 y1 q1 y2 q2 y3 q3
        obtain ⟨wf, hwf⟩ : ∃ wz, wz = putW (w5) (w.heap.size) 0 [.int .i64 6, .int .i64 C, .int .i64 M, .int .i64 0] := ⟨_, rfl⟩
        have kf := putW_all [.int .i64 6, .int .i64 C, .int .i64 M, .int .i64 0] HG5.out rfl
        have hdf := HD5.out.putW (x := w.heap.size) (by have := HLT.out; omega) (by have := HLT.out; have := HBL.out; omega) [.int .i64 6, .int .i64 C, .int .i64 M, .int .i64 0] 0
        have hgf := grown_putW (Nat.le_refl w.heap.size) [.int .i64 6, .int .i64 C, .int .i64 M, .int .i64 0] 0 HR5.out
        rw [← hwf] at kf hdf hgf
        have cf := hwf.symm
        simp only [putW, Nat.reduceAdd] at cf
        rw [cf]
        clear cf hwf
        have f0 := (cells_of_heap kf 0 (by simp)).1
        have f1 := (cells_of_heap kf 1 (by simp)).1
        have f2 := (cells_of_heap kf 2 (by simp)).1
        have f3 := (cells_of_heap kf 3 (by simp)).1
        simp only [List.getElem_toArray, List.getElem_cons_zero, List.getElem_cons_succ] at f0 f1 f2 f3
        refine bodyPost_ret (v := acv 6 C M 0) (by simp [results, Tryz.results149, go_sem, f0, f1, f2, f3]) rfl ⟨⟨6, C, M, 0⟩, rfl, fit_mt ⟨by omega, by omega⟩ ⟨by omega, by omega⟩ l1, hdf, hgf⟩
      · skip
        obtain ⟨y0, q0⟩ := cells_of_heap HG5.out 0 (by simp)
        obtain ⟨y1, q1⟩ := cells_of_heap HG5.out 1 (by simp)
        obtain ⟨y2, q2⟩ := cells_of_heap HG5.out 2 (by simp)
        obtain ⟨y3, q3⟩ := cells_of_heap HG5.out 3 (by simp)
        go_wp2
        clear y0 q0 y1 q1 y2 q2 y3 q3
        obtain ⟨wf, hwf⟩ : ∃ wz, wz = putW (w5) (w.heap.size) 0 [.int .i64 8, .int .i64 0, .int .i64 M, .int .i64 0] := ⟨_, rfl⟩
        have kf := putW_all [.int .i64 8, .int .i64 0, .int .i64 M, .int .i64 0] HG5.out rfl
        have hdf := HD5.out.putW (x := w.heap.size) (by have := HLT.out; omega) (by have := HLT.out; have := HBL.out; omega) [.int .i64 8, .int .i64 0, .int .i64 M, .int .i64 0] 0
        have hgf := grown_putW (Nat.le_refl w.heap.size) [.int .i64 8, .int .i64 0, .int .i64 M, .int .i64 0] 0 HR5.out
        rw [← hwf] at kf hdf hgf
        have cf := hwf.symm
        simp only [putW, Nat.reduceAdd] at cf
        rw [cf]
        clear cf hwf
        have f0 := (cells_of_heap kf 0 (by simp)).1
        have f1 := (cells_of_heap kf 1 (by simp)).1
        have f2 := (cells_of_heap kf 2 (by simp)).1
        have f3 := (cells_of_heap kf 3 (by simp)).1
        simp only [List.getElem_toArray, List.getElem_cons_zero, List.getElem_cons_succ] at f0 f1 f2 f3
        refine bodyPost_ret (v := acv 8 0 M 0) (by simp [results, Tryz.results149, go_sem, f0, f1, f2, f3]) rfl ⟨⟨8, 0, M, 0⟩, rfl, fit_once ⟨by omega, by omega⟩ l1, hdf, hgf⟩
      · skip
        go_wp2_with fail
        refine (l1Below_draw 4 HD5.out (by omega) (by omega)).mono ?_
        rintro e w6 ⟨x, rfl, x0, x1, hd, hg⟩
        have HD6 := Lib.hid hd
        have HR6 := Lib.hid (grown_trans HR5.out hg)
        have HG6 := Lib.hid ((hg.block _ HS5.out (by have := HLT.out; simp; omega)).trans HG5.out)
        have HS6 := Lib.hid (Nat.lt_of_lt_of_le HS5.out hg.size)
        clear hd hg
        obtain ⟨y0, q0⟩ := cells_of_heap HG6.out 0 (by simp)
        obtain ⟨y1, q1⟩ := cells_of_heap HG6.out 1 (by simp)
        obtain ⟨y2, q2⟩ := cells_of_heap HG6.out 2 (by simp)
        obtain ⟨y3, q3⟩ := cells_of_heap HG6.out 3 (by simp)
        go_wp2
        clear y0 q0 y1 q1 y2 q2 y3 q3
        obtain ⟨wf, hwf⟩ : ∃ wz, wz = putW (w6) (w.heap.size) 0 [.int .i64 9, .int .i64 0, .int .i64 0, .int .i64 x] := ⟨_, rfl⟩
        have kf := putW_all [.int .i64 9, .int .i64 0, .int .i64 0, .int .i64 x] HG6.out rfl
        have hdf := HD6.out.putW (x := w.heap.size) (by have := HLT.out; omega) (by have := HLT.out; have := HBL.out; omega) [.int .i64 9, .int .i64 0, .int .i64 0, .int .i64 x] 0
        have hgf := grown_putW (Nat.le_refl w.heap.size) [.int .i64 9, .int .i64 0, .int .i64 0, .int .i64 x] 0 HR6.out
        rw [← hwf] at kf hdf hgf
        have cf := hwf.symm
        simp only [putW, Nat.reduceAdd] at cf
        rw [cf]
        clear cf hwf
        have f0 := (cells_of_heap kf 0 (by simp)).1
        have f1 := (cells_of_heap kf 1 (by simp)).1
        have f2 := (cells_of_heap kf 2 (by simp)).1
        have f3 := (cells_of_heap kf 3 (by simp)).1
        simp only [List.getElem_toArray, List.getElem_cons_zero, List.getElem_cons_succ] at f0 f1 f2 f3
        refine bodyPost_ret (v := acv 9 0 0 x) (by simp [results, Tryz.results149, go_sem, f0, f1, f2, f3]) rfl ⟨⟨9, 0, 0, x⟩, rfl, fit_macro ⟨x0, by omega⟩, hdf, hgf⟩
      · skip
        obtain ⟨y0, q0⟩ := cells_of_heap HG5.out 0 (by simp)
        obtain ⟨y1, q1⟩ := cells_of_heap HG5.out 1 (by simp)
        obtain ⟨y2, q2⟩ := cells_of_heap HG5.out 2 (by simp)
        obtain ⟨y3, q3⟩ := cells_of_heap HG5.out 3 (by simp)
        go_wp2
        clear y0 q0 y1 q1 y2 q2 y3 q3
        obtain ⟨wf, hwf⟩ : ∃ wz, wz = putW (w5) (w.heap.size) 0 [.int .i64 10, .int .i64 0, .int .i64 0, .int .i64 0] := ⟨_, rfl⟩
        have kf := putW_all [.int .i64 10, .int .i64 0, .int .i64 0, .int .i64 0] HG5.out rfl
        have hdf := HD5.out.putW (x := w.heap.size) (by have := HLT.out; omega) (by have := HLT.out; have := HBL.out; omega) [.int .i64 10, .int .i64 0, .int .i64 0, .int .i64 0] 0
        have hgf := grown_putW (Nat.le_refl w.heap.size) [.int .i64 10, .int .i64 0, .int .i64 0, .int .i64 0] 0 HR5.out
        rw [← hwf] at kf hdf hgf
        have cf := hwf.symm
        simp only [putW, Nat.reduceAdd] at cf
        rw [cf]
        clear cf hwf
        have f0 := (cells_of_heap kf 0 (by simp)).1
        have f1 := (cells_of_heap kf 1 (by simp)).1
        have f2 := (cells_of_heap kf 2 (by simp)).1
        have f3 := (cells_of_heap kf 3 (by simp)).1
        simp only [List.getElem_toArray, List.getElem_cons_zero, List.getElem_cons_succ] at f0 f1 f2 f3
        refine bodyPost_ret (v := acv 10 0 0 0) (by simp [results, Tryz.results149, go_sem, f0, f1, f2, f3]) rfl ⟨⟨10, 0, 0, 0⟩, rfl, fit_caps l1, hdf, hgf⟩
      · skip
        by_cases hx : L ≤ 1
        · skip
          go_wp2_with fail
          refine (l1Below_draw 1 HD5.out (by omega) (by omega)).mono ?_
          rintro e w6 ⟨x, rfl, x0, x1, hd, hg⟩
          have HD6 := Lib.hid hd
          have HR6 := Lib.hid (grown_trans HR5.out hg)
          have HG6 := Lib.hid ((hg.block _ HS5.out (by have := HLT.out; simp; omega)).trans HG5.out)
          have HS6 := Lib.hid (Nat.lt_of_lt_of_le HS5.out hg.size)
          clear hd hg
          obtain ⟨y0, q0⟩ := cells_of_heap HG6.out 0 (by simp)
          obtain ⟨y1, q1⟩ := cells_of_heap HG6.out 1 (by simp)
          obtain ⟨y2, q2⟩ := cells_of_heap HG6.out 2 (by simp)
          obtain ⟨y3, q3⟩ := cells_of_heap HG6.out 3 (by simp)
          go_wp2
          clear y0 q0 y1 q1 y2 q2 y3 q3
          obtain ⟨wf, hwf⟩ : ∃ wz, wz = putW (w6) (w.heap.size) 0 [.int .i64 5, .int .i64 0, .int .i64 0, .int .i64 x] := ⟨_, rfl⟩
          have kf := putW_all [.int .i64 5, .int .i64 0, .int .i64 0, .int .i64 x] HG6.out rfl
          have hdf := HD6.out.putW (x := w.heap.size) (by have := HLT.out; omega) (by have := HLT.out; have := HBL.out; omega) [.int .i64 5, .int .i64 0, .int .i64 0, .int .i64 x] 0
          have hgf := grown_putW (Nat.le_refl w.heap.size) [.int .i64 5, .int .i64 0, .int .i64 0, .int .i64 x] 0 HR6.out
          rw [← hwf] at kf hdf hgf
          have cf := hwf.symm
          simp only [putW, Nat.reduceAdd] at cf
          rw [cf]
          clear cf hwf
          have f0 := (cells_of_heap kf 0 (by simp)).1
          have f1 := (cells_of_heap kf 1 (by simp)).1
          have f2 := (cells_of_heap kf 2 (by simp)).1
          have f3 := (cells_of_heap kf 3 (by simp)).1
          simp only [List.getElem_toArray, List.getElem_cons_zero, List.getElem_cons_succ] at f0 f1 f2 f3
          refine bodyPost_ret (v := acv 5 0 0 x) (by simp [results, Tryz.results149, go_sem, f0, f1, f2, f3]) rfl ⟨⟨5, 0, 0, x⟩, rfl, fit_to ⟨x0, by omega⟩ (by omega), hdf, hgf⟩
        · skip
          go_wp2_with fail
          refine (l1Below_draw L HD5.out (by omega) (by omega)).mono ?_
          rintro e w6 ⟨x, rfl, x0, x1, hd, hg⟩
          have HD6 := Lib.hid hd
          have HR6 := Lib.hid (grown_trans HR5.out hg)
          have HG6 := Lib.hid ((hg.block _ HS5.out (by have := HLT.out; simp; omega)).trans HG5.out)
          have HS6 := Lib.hid (Nat.lt_of_lt_of_le HS5.out hg.size)
          clear hd hg
          obtain ⟨y0, q0⟩ := cells_of_heap HG6.out 0 (by simp)
          obtain ⟨y1, q1⟩ := cells_of_heap HG6.out 1 (by simp)
          obtain ⟨y2, q2⟩ := cells_of_heap HG6.out 2 (by simp)
          obtain ⟨y3, q3⟩ := cells_of_heap HG6.out 3 (by simp)
          go_wp2
          clear y0 q0 y1 q1 y2 q2 y3 q3
          obtain ⟨wf, hwf⟩ : ∃ wz, wz = putW (w6) (w.heap.size) 0 [.int .i64 5, .int .i64 0, .int .i64 0, .int .i64 x] := ⟨_, rfl⟩
          have kf := putW_all [.int .i64 5, .int .i64 0, .int .i64 0, .int .i64 x] HG6.out rfl
          have hdf := HD6.out.putW (x := w.heap.size) (by have := HLT.out; omega) (by have := HLT.out; have := HBL.out; omega) [.int .i64 5, .int .i64 0, .int .i64 0, .int .i64 x] 0
          have hgf := grown_putW (Nat.le_refl w.heap.size) [.int .i64 5, .int .i64 0, .int .i64 0, .int .i64 x] 0 HR6.out
          rw [← hwf] at kf hdf hgf
          have cf := hwf.symm
          simp only [putW, Nat.reduceAdd] at cf
          rw [cf]
          clear cf hwf
          have f0 := (cells_of_heap kf 0 (by simp)).1
          have f1 := (cells_of_heap kf 1 (by simp)).1
          have f2 := (cells_of_heap kf 2 (by simp)).1
          have f3 := (cells_of_heap kf 3 (by simp)).1
          simp only [List.getElem_toArray, List.getElem_cons_zero, List.getElem_cons_succ] at f0 f1 f2 f3
          refine bodyPost_ret (v := acv 5 0 0 x) (by simp [results, Tryz.results149, go_sem, f0, f1, f2, f3]) rfl ⟨⟨5, 0, 0, x⟩, rfl, fit_to ⟨x0, by omega⟩ (by omega), hdf, hgf⟩
      · by_cases hL : 1 < L
        · have hN := HNL.out hL
          obtain ⟨U, hU⟩ : ∃ U, U = w5.alloc (.cells #[.int .i64 3, .int .i64 0, .int .i64 0, .int .i64 N, .int .i64 4, .int .i64 0, .int .i64 0, .int .i64 N, .int .i64 7, .int .i64 C, .int .i64 0, .int .i64 N] 41) := ⟨_, rfl⟩
          have hK := heap_alloc_new w5 (.cells #[.int .i64 3, .int .i64 0, .int .i64 0, .int .i64 N, .int .i64 4, .int .i64 0, .int .i64 0, .int .i64 N, .int .i64 7, .int .i64 C, .int .i64 0, .int .i64 N] 41)
          rw [← hU] at hK
          have hg : w5.grownBy U none := by rw [hU]; exact grown_alloc _ _ _
          have hd : Draws B b v n zs U := by rw [hU]; exact HD5.out.alloc _
          have HRU := Lib.hid (grown_high HR5.out hg (fun q e => by cases e))
          have HGU := Lib.hid ((hg.block _ HS5.out (by simp)).trans HG5.out)
          have HSU := Lib.hid (Nat.lt_of_lt_of_le HS5.out hg.size)
          have HDU := Lib.hid hd
          have HKU := Lib.hid hK
          have HBK := Lib.hid (show w5.heap.size ≠ b by have := HD5.out.lt; omega)
          have HKL := Lib.hid (Array.getElem?_eq_some_iff.1 hK).1
          have HU2 := Lib.hid hU
          clear hg hd hK hU
          rcases hq with rfl | rfl | rfl
          all_goals
            go_wp2_with fail
            rw [← HU2.out]
            refine (l1Below_draw 3 HDU.out (by omega) (by omega)).mono ?_
            rintro e w6 ⟨j, rfl, j0, j1, hd, hg⟩
            have HD6 := Lib.hid hd
            have HR6 := Lib.hid (grown_trans HRU.out hg)
            have HG6 := Lib.hid ((hg.block _ HSU.out (by have := HLT.out; simp; omega)).trans HGU.out)
            have HS6 := Lib.hid (Nat.lt_of_lt_of_le HSU.out hg.size)
            have hK6 := (hg.block _ HKL.out (by have := HBK.out; simp; omega)).trans HKU.out
            clear hd hg
            have k0 := (cells_of_heap hK6 0 (by simp)).1
            have k1 := (cells_of_heap hK6 1 (by simp)).1
            have k2 := (cells_of_heap hK6 2 (by simp)).1
            have k3 := (cells_of_heap hK6 3 (by simp)).1
            have k4 := (cells_of_heap hK6 4 (by simp)).1
            have k5 := (cells_of_heap hK6 5 (by simp)).1
            have k6 := (cells_of_heap hK6 6 (by simp)).1
            have k7 := (cells_of_heap hK6 7 (by simp)).1
            have k8 := (cells_of_heap hK6 8 (by simp)).1
            have k9 := (cells_of_heap hK6 9 (by simp)).1
            have k10 := (cells_of_heap hK6 10 (by simp)).1
            have k11 := (cells_of_heap hK6 11 (by simp)).1
            simp only [List.getElem_toArray, List.getElem_cons_zero, List.getElem_cons_succ] at k0 k1 k2 k3 k4 k5 k6 k7 k8 k9 k10 k11
            clear hK6
            have hj : j = 0 ∨ j = 1 ∨ j = 2 := by omega
            clear j0 j1
            rcases hj with rfl | rfl | rfl
            · skip
              obtain ⟨y0, q0⟩ := cells_of_heap HG6.out 0 (by simp)
              obtain ⟨y1, q1⟩ := cells_of_heap HG6.out 1 (by simp)
              obtain ⟨y2, q2⟩ := cells_of_heap HG6.out 2 (by simp)
              obtain ⟨y3, q3⟩ := cells_of_heap HG6.out 3 (by simp)
              go_wp2
              clear y0 q0 y1 q1 y2 q2 y3 q3
              obtain ⟨wf, hwf⟩ : ∃ wz, wz = putW (w6) (w.heap.size) 0 [.int .i64 3, .int .i64 0, .int .i64 0, .int .i64 N] := ⟨_, rfl⟩
              have kf := putW_all [.int .i64 3, .int .i64 0, .int .i64 0, .int .i64 N] HG6.out rfl
              have hdf := HD6.out.putW (x := w.heap.size) (by have := HLT.out; omega) (by have := HLT.out; have := HBL.out; omega) [.int .i64 3, .int .i64 0, .int .i64 0, .int .i64 N] 0
              have hgf := grown_putW (Nat.le_refl w.heap.size) [.int .i64 3, .int .i64 0, .int .i64 0, .int .i64 N] 0 HR6.out
              rw [← hwf] at kf hdf hgf
              have cf := hwf.symm
              simp only [putW, Nat.reduceAdd] at cf
              rw [cf]
              clear cf hwf
              have f0 := (cells_of_heap kf 0 (by simp)).1
              have f1 := (cells_of_heap kf 1 (by simp)).1
              have f2 := (cells_of_heap kf 2 (by simp)).1
              have f3 := (cells_of_heap kf 3 (by simp)).1
              simp only [List.getElem_toArray, List.getElem_cons_zero, List.getElem_cons_succ] at f0 f1 f2 f3
              refine bodyPost_ret (v := acv 3 0 0 N) (by simp [results, Tryz.results149, go_sem, f0, f1, f2, f3]) rfl ⟨⟨3, 0, 0, N⟩, rfl, fit_mo ⟨N1, N3⟩ hN, hdf, hgf⟩
            · skip
              obtain ⟨y0, q0⟩ := cells_of_heap HG6.out 0 (by simp)
              obtain ⟨y1, q1⟩ := cells_of_heap HG6.out 1 (by simp)
              obtain ⟨y2, q2⟩ := cells_of_heap HG6.out 2 (by simp)
              obtain ⟨y3, q3⟩ := cells_of_heap HG6.out 3 (by simp)
              go_wp2
              clear y0 q0 y1 q1 y2 q2 y3 q3
              obtain ⟨wf, hwf⟩ : ∃ wz, wz = putW (w6) (w.heap.size) 0 [.int .i64 4, .int .i64 0, .int .i64 0, .int .i64 N] := ⟨_, rfl⟩
              have kf := putW_all [.int .i64 4, .int .i64 0, .int .i64 0, .int .i64 N] HG6.out rfl
              have hdf := HD6.out.putW (x := w.heap.size) (by have := HLT.out; omega) (by have := HLT.out; have := HBL.out; omega) [.int .i64 4, .int .i64 0, .int .i64 0, .int .i64 N] 0
              have hgf := grown_putW (Nat.le_refl w.heap.size) [.int .i64 4, .int .i64 0, .int .i64 0, .int .i64 N] 0 HR6.out
              rw [← hwf] at kf hdf hgf
              have cf := hwf.symm
              simp only [putW, Nat.reduceAdd] at cf
              rw [cf]
              clear cf hwf
              have f0 := (cells_of_heap kf 0 (by simp)).1
              have f1 := (cells_of_heap kf 1 (by simp)).1
              have f2 := (cells_of_heap kf 2 (by simp)).1
              have f3 := (cells_of_heap kf 3 (by simp)).1
              simp only [List.getElem_toArray, List.getElem_cons_zero, List.getElem_cons_succ] at f0 f1 f2 f3
              refine bodyPost_ret (v := acv 4 0 0 N) (by simp [results, Tryz.results149, go_sem, f0, f1, f2, f3]) rfl ⟨⟨4, 0, 0, N⟩, rfl, fit_tg ⟨N1, N3⟩ hN, hdf, hgf⟩
            · skip
              obtain ⟨y0, q0⟩ := cells_of_heap HG6.out 0 (by simp)
              obtain ⟨y1, q1⟩ := cells_of_heap HG6.out 1 (by simp)
              obtain ⟨y2, q2⟩ := cells_of_heap HG6.out 2 (by simp)
              obtain ⟨y3, q3⟩ := cells_of_heap HG6.out 3 (by simp)
              go_wp2
              clear y0 q0 y1 q1 y2 q2 y3 q3
              obtain ⟨wf, hwf⟩ : ∃ wz, wz = putW (w6) (w.heap.size) 0 [.int .i64 7, .int .i64 C, .int .i64 0, .int .i64 N] := ⟨_, rfl⟩
              have kf := putW_all [.int .i64 7, .int .i64 C, .int .i64 0, .int .i64 N] HG6.out rfl
              have hdf := HD6.out.putW (x := w.heap.size) (by have := HLT.out; omega) (by have := HLT.out; have := HBL.out; omega) [.int .i64 7, .int .i64 C, .int .i64 0, .int .i64 N] 0
              have hgf := grown_putW (Nat.le_refl w.heap.size) [.int .i64 7, .int .i64 C, .int .i64 0, .int .i64 N] 0 HR6.out
              rw [← hwf] at kf hdf hgf
              have cf := hwf.symm
              simp only [putW, Nat.reduceAdd] at cf
              rw [cf]
              clear cf hwf
              have f0 := (cells_of_heap kf 0 (by simp)).1
              have f1 := (cells_of_heap kf 1 (by simp)).1
              have f2 := (cells_of_heap kf 2 (by simp)).1
              have f3 := (cells_of_heap kf 3 (by simp)).1
              simp only [List.getElem_toArray, List.getElem_cons_zero, List.getElem_cons_succ] at f0 f1 f2 f3
              refine bodyPost_ret (v := acv 7 C 0 N) (by simp [results, Tryz.results149, go_sem, f0, f1, f2, f3]) rfl ⟨⟨7, C, 0, N⟩, rfl, fit_lt cC ⟨N1, N3⟩ hN, hdf, hgf⟩
        · rcases hq with rfl | rfl | rfl
          all_goals
            obtain ⟨y0, q0⟩ := cells_of_heap HG5.out 0 (by simp)
            obtain ⟨y1, q1⟩ := cells_of_heap HG5.out 1 (by simp)
            obtain ⟨y2, q2⟩ := cells_of_heap HG5.out 2 (by simp)
            obtain ⟨y3, q3⟩ := cells_of_heap HG5.out 3 (by simp)
            go_wp2
            clear y0 q0 y1 q1 y2 q2 y3 q3
            obtain ⟨wf, hwf⟩ : ∃ wz, wz = putW (w5) (w.heap.size) 0 [.int .i64 2, .int .i64 C, .int .i64 0, .int .i64 0] := ⟨_, rfl⟩
            have kf := putW_all [.int .i64 2, .int .i64 C, .int .i64 0, .int .i64 0] HG5.out rfl
            have hdf := HD5.out.putW (x := w.heap.size) (by have := HLT.out; omega) (by have := HLT.out; have := HBL.out; omega) [.int .i64 2, .int .i64 C, .int .i64 0, .int .i64 0] 0
            have hgf := grown_putW (Nat.le_refl w.heap.size) [.int .i64 2, .int .i64 C, .int .i64 0, .int .i64 0] 0 HR5.out
            rw [← hwf] at kf hdf hgf
            have cf := hwf.symm
            simp only [putW, Nat.reduceAdd] at cf
            rw [cf]
            clear cf hwf
            have f0 := (cells_of_heap kf 0 (by simp)).1
            have f1 := (cells_of_heap kf 1 (by simp)).1
            have f2 := (cells_of_heap kf 2 (by simp)).1
            have f3 := (cells_of_heap kf 3 (by simp)).1
            simp only [List.getElem_toArray, List.getElem_cons_zero, List.getElem_cons_succ] at f0 f1 f2 f3
            refine bodyPost_ret (v := acv 2 C 0 0) (by simp [results, Tryz.results149, go_sem, f0, f1, f2, f3]) rfl ⟨⟨2, C, 0, 0⟩, rfl, fit_key ⟨by omega, by omega⟩ ⟨by omega, by omega⟩ l1, hdf, hgf⟩
      · rcases hq with rfl | rfl | rfl | rfl | rfl
        all_goals
          obtain ⟨y0, q0⟩ := cells_of_heap HG5.out 0 (by simp)
          obtain ⟨y1, q1⟩ := cells_of_heap HG5.out 1 (by simp)
          obtain ⟨y2, q2⟩ := cells_of_heap HG5.out 2 (by simp)
          obtain ⟨y3, q3⟩ := cells_of_heap HG5.out 3 (by simp)
          go_wp2
          clear y0 q0 y1 q1 y2 q2 y3 q3
          obtain ⟨wf, hwf⟩ : ∃ wz, wz = putW (w5) (w.heap.size) 0 [.int .i64 2, .int .i64 C, .int .i64 0, .int .i64 0] := ⟨_, rfl⟩
          have kf := putW_all [.int .i64 2, .int .i64 C, .int .i64 0, .int .i64 0] HG5.out rfl
          have hdf := HD5.out.putW (x := w.heap.size) (by have := HLT.out; omega) (by have := HLT.out; have := HBL.out; omega) [.int .i64 2, .int .i64 C, .int .i64 0, .int .i64 0] 0
          have hgf := grown_putW (Nat.le_refl w.heap.size) [.int .i64 2, .int .i64 C, .int .i64 0, .int .i64 0] 0 HR5.out
          rw [← hwf] at kf hdf hgf
          have cf := hwf.symm
          simp only [putW, Nat.reduceAdd] at cf
          rw [cf]
          clear cf hwf
          have f0 := (cells_of_heap kf 0 (by simp)).1
          have f1 := (cells_of_heap kf 1 (by simp)).1
          have f2 := (cells_of_heap kf 2 (by simp)).1
          have f3 := (cells_of_heap kf 3 (by simp)).1
          simp only [List.getElem_toArray, List.getElem_cons_zero, List.getElem_cons_succ] at f0 f1 f2 f3
          refine bodyPost_ret (v := acv 2 C 0 0) (by simp [results, Tryz.results149, go_sem, f0, f1, f2, f3]) rfl ⟨⟨2, C, 0, 0⟩, rfl, fit_key ⟨by omega, by omega⟩ ⟨by omega, by omega⟩ l1, hdf, hgf⟩

end Go.Proofs.YtbpopgplpipfeaaGreat
