/- DERIVED. The reference's ParseAction returns what a plain function reads. Called with any text of at most 1048576 bytes. -/
import Derived.Test.YtnfnhbldphiohaaDoorAcTx
import Derived.Deep.DeepCutAuto
namespace Go.Proofs.YtnfnhbldphiohaaDoor
open Go.RowKit

abbrev sNone : ByteArray := ⟨#[110, 111, 110, 101]⟩
abbrev sPass : ByteArray := ⟨#[112, 97, 115, 115]⟩
abbrev sCaps : ByteArray := ⟨#[99, 97, 112, 115]⟩
def pt (s : ByteArray) (c : Int) (j : Nat) : ByteArray := (parts s c).getD j ⟨#[]⟩
/-- What a text could be the action of. -/
def acG (s : ByteArray) : Ac :=
  if s = sNone then ⟨0, 0, 0, 0⟩ else if s = sPass then ⟨1, 0, 0, 0⟩ else if s = sCaps then ⟨10, 0, 0, 0⟩
  else if (parts s 58).length = 2 then leftV 8 (pt s 58 0) (pt s 58 1)
  else if (parts s 47).length = 2 then (if okI (pt s 47 0) = true then ⟨7, codeV (pt s 47 1), 0, pval (pt s 47 0)⟩ else ⟨6, codeV (pt s 47 1), pmV (pt s 47 0), 0⟩)
  else if (parts s 45).length = 2 then ⟨2, codeV (pt s 45 1), pmV (pt s 45 0), 0⟩
  else ⟨2, codeV s, 0, 0⟩
def acP (s : ByteArray) : Ac × Bool := if s = ⟨#[]⟩ ∨ ¬ acS (acG s).k (acG s).c (acG s).m (acG s).n = s then (⟨0, 0, 0, 0⟩, false) else (acG s, true)

/-- An action is stored into block g; block b stays. -/
theorem ac_put {w wk : World} {g b : Nat} {T : TypeId} (x0 x1 x2 x3 : Value) {cur : Array Value} {o : Option Obj} (hg : wk.heap[g]? = some (.cells cur T (0, 0))) (hs : cur.size = 4) (hb : wk.heap[b]? = o) (hne : b ≠ g) {B : Nat} (hB : Below B w wk) (hBg : B ≤ g) :
    ((((wk.setCell ⟨g, 0, none⟩ x0).setCell ⟨g, 1, none⟩ x1).setCell ⟨g, 2, none⟩ x2).setCell ⟨g, 3, none⟩ x3).heap[g]? = some (.cells #[x0, x1, x2, x3] T (0, 0)) ∧ ((((wk.setCell ⟨g, 0, none⟩ x0).setCell ⟨g, 1, none⟩ x1).setCell ⟨g, 2, none⟩ x2).setCell ⟨g, 3, none⟩ x3).heap[b]? = o ∧ Below B w ((((wk.setCell ⟨g, 0, none⟩ x0).setCell ⟨g, 1, none⟩ x1).setCell ⟨g, 2, none⟩ x2).setCell ⟨g, 3, none⟩ x3) :=
  ⟨putW_all [x0, x1, x2, x3] hg (by simp [hs]), (putW_other hne [x0, x1, x2, x3] 0 wk).trans hb, putW_below hBg [x0, x1, x2, x3] 0 wk hB⟩
theorem pt_size (s : ByteArray) (c : Int) (j : Nat) (hl : s.size ≤ 1048576) : (pt s c j).size ≤ 1048576 := Nat.le_trans (parts_sizes s c j) hl
/-- What a walk knows of the parts of a text, behind the call. -/
theorem split_known {s : ByteArray} {c : Int} {w w' : World} {e : Ending} (h : Splitted w.heap.size s c w e w') : ∃ b cap, e = .returned (.slice (some ⟨b, 0, none⟩) (parts s c).length cap) ∧ w.heap.size ≤ b ∧ b < w'.heap.size ∧ (∀ j, j < (parts s c).length → w'.cell? ⟨b, j, none⟩ = some (.string (pt s c j))) ∧ Below w.heap.size w w' := by
  obtain ⟨v, rfl, hown, hb⟩ := h
  obtain ⟨b, cap, rfl, hbW, hlt⟩ := hown.form (by simp [parts])
  refine ⟨b, cap, rfl, hbW, hlt, fun j hj => ?_, hb⟩
  rw [hown.cellAt j (by omega), pt, List.getElem?_map, List.getD_eq_getElem?_getD, List.getElem?_eq_getElem hj]
  rfl
theorem specSplit_n (s : ByteArray) (c : Int) (N : Nat) (hN : N = (parts s c).length) (w : World) (hl : s.size ≤ 1048576) : Calls Tryd.prog 44 #[.string s, .int .u8 c] w fun e w' => ∃ b cap, e = .returned (.slice (some ⟨b, 0, none⟩) N cap) ∧ w.heap.size ≤ b ∧ b < w'.heap.size ∧ (∀ j, j < N → w'.cell? ⟨b, j, none⟩ = some (.string (pt s c j))) ∧ Below w.heap.size w w' := by
  subst hN
  refine (specSplit_any s c w hl).mono ?_
  intro e w' h
  exact split_known h

theorem specFormatAction_n (k c m n : Int) (T : ByteArray) (hT : T = acS k c m n) (w : World) : Calls Tryd.prog 39 #[acv k c m n] w fun e w' => e = .returned (.string T) ∧ Below w.heap.size w w' := by
  rw [hT]; exact specFormatAction_any k c m n w
theorem specLeft_n (k : Int) (l r : ByteArray) (z : Ac) (hz : z = leftV k l r) (w : World) (hl : r.size ≤ 1048576) : Calls Tryd.prog 86 #[.int .i64 k, .string l, .string r] w fun e w' => e = .returned (acv z.k z.c z.m z.n) ∧ Below w.heap.size w w' := by
  rw [hz]; exact specLeft_any k l r w hl
theorem specCodeOf_n (s : ByteArray) (n : Nat) (hn : n = codeV s) (w : World) : Calls Tryd.prog 85 #[.string s] w fun e w' => e = .returned (.int .i64 (n : Nat)) ∧ Below w.heap.size w w' := by
  rw [hn]; exact specCodeOf_any s w
theorem specParseMods_n (s : ByteArray) (n : Nat) (hn : n = pmV s) (w : World) : Calls Tryd.prog 88 #[.string s] w fun e w' => e = .returned (.int .i64 (n : Nat)) ∧ Below w.heap.size w w' := by
  rw [hn]; exact specParseMods_any s w
theorem cell_heap {w w' : World} {b j : Nat} (h : w'.heap[b]? = w.heap[b]?) : w'.cell? ⟨b, j, none⟩ = w.cell? ⟨b, j, none⟩ := by simp [World.cell?, h]
theorem acP_no {s : ByteArray} {z : Ac} (hz : z = acG s) (h : s = ⟨#[]⟩ ∨ ¬ acS z.k z.c z.m z.n = s) : acP s = (⟨0, 0, 0, 0⟩, false) := by
  rw [hz] at h; unfold acP; rw [if_pos h]
theorem acP_yes {s : ByteArray} {z : Ac} (hz : z = acG s) (h0 : ¬ s = ⟨#[]⟩) (h : acS z.k z.c z.m z.n = s) : acP s = (z, true) := by
  rw [hz] at h; unfold acP; rw [if_neg (fun e => e.elim h0 (fun e => e h)), hz]
theorem ac_heap {w : World} {b : Nat} {T : TypeId} {z z' : Ac} (h : w.heap[b]? = some (.cells #[.int .i64 z.k, .int .i64 z.c, .int .i64 z.m, .int .i64 z.n] T (0, 0))) (e : z' = z) : w.heap[b]? = some (.cells #[.int .i64 z'.k, .int .i64 z'.c, .int .i64 z'.m, .int .i64 z'.n] T (0, 0)) := by rw [e]; exact h

set_option maxRecDepth 100000 in
set_option maxHeartbeats 8000000 in
theorem specParseAction_any (s : ByteArray) (w : World) (hl : s.size ≤ 1048576) : Calls Tryd.prog 72 #[.string s] w fun e w' => e = .returned (.tuple #[acv (acP s).1.k (acP s).1.c (acP s).1.m (acP s).1.n, .bool (acP s).2]) ∧ Below w.heap.size w w' := by
  obtain ⟨r, hr⟩ : ∃ r, r = acP s := ⟨_, rfl⟩
  rw [← hr]
  have HR := Lib.hid hr
  clear hr
  go_enter Tryd.func72, Tryd.ntmps72
  go_wp2_with fail
  obtain ⟨V, hV⟩ : ∃ V, V = w.alloc (.cells #[.int .i64 0, .int .i64 0, .int .i64 0, .int .i64 0] 67) := ⟨_, rfl⟩
  have hG0 : V.heap[w.heap.size]? = some (.cells #[.int .i64 0, .int .i64 0, .int .i64 0, .int .i64 0] 67 (0, 0)) := by rw [hV]; exact heap_alloc_new w _
  have hB0 : Below w.heap.size w V := by rw [hV]; exact (Below.refl _ _).alloc (Nat.le_refl _) _
  have hS0 : w.heap.size < V.heap.size := by rw [hV]; simp
  rw [← hV]
  clear hV
  obtain ⟨C, hC⟩ : ∃ C, C = codeV s := ⟨_, rfl⟩
  refine (specCodeOf_any s _).mono ?_
  rw [← hC]
  rintro e w1 ⟨rfl, hb⟩
  have HC := Lib.hid hC
  have hB1 := hB0.trans (hb.mono hB0.size)
  have hG1 := (hb.block _ hS0).trans hG0
  have hS1 := Nat.lt_of_lt_of_le hS0 hb.size
  clear hb hB0 hG0 hS0 hC
  go_wp2_with fail
  obtain ⟨g, hg⟩ : ∃ g, g = w1.heap.size := ⟨_, rfl⟩
  obtain ⟨U, hU⟩ : ∃ U, U = w1.alloc (.cells #[.int .i64 2, .int .i64 C, .int .i64 0, .int .i64 0] 67) := ⟨_, rfl⟩
  have hA2 : U.heap[g]? = some (.cells #[.int .i64 2, .int .i64 C, .int .i64 0, .int .i64 0] 67 (0, 0)) := by rw [hU, hg]; exact heap_alloc_new w1 _
  have hB2 : Below w.heap.size w U := by rw [hU]; exact hB1.alloc (Nat.le_of_lt hS1) _
  have hU1 : Below w1.heap.size w1 U := by rw [hU]; exact (Below.refl _ _).alloc (Nat.le_refl _) _
  have hG2 := (hU1.block _ hS1).trans hG1
  have hS2 : g < U.heap.size := by rw [hU, hg]; simp
  have hgw : w.heap.size < g := by rw [hg]; exact hS1
  rw [← hU, ← hg]
  clear hU hU1 hG1 hB1 hS1 hg
  obtain ⟨N1, hN1⟩ : ∃ n, n = (parts s 58).length := ⟨_, rfl⟩
  obtain ⟨N2, hN2⟩ : ∃ n, n = (parts s 47).length := ⟨_, rfl⟩
  obtain ⟨N3, hN3⟩ : ∃ n, n = (parts s 45).length := ⟨_, rfl⟩
  have HN1 := Lib.hid hN1
  have HN2 := Lib.hid hN2
  have HN3 := Lib.hid hN3
  clear hN1 hN2 hN3
  refine (specSplit_n s 58 N1 HN1.out _ hl).mono ?_
  rintro e w2 ⟨b1, cap1, rfl, hm1, hl1, hc1, hb⟩
  have HM1 := Lib.hid (show b1 ≠ g by omega)
  clear hm1
  have hB3 := hB2.trans (hb.mono hB2.size)
  have hG3 := (hb.block _ (Nat.lt_trans hgw hS2)).trans hG2
  have hA3 := (hb.block _ hS2).trans hA2
  have hS3 := Nat.lt_of_lt_of_le hS2 hb.size
  have HC1 := Lib.hid hc1
  clear hb hB2 hG2 hA2 hS2 hc1
  go_wp2_with fail
  refine (specSplit_n s 47 N2 HN2.out _ hl).mono ?_
  rintro e w3 ⟨b2, cap2, rfl, hm2, hl2, hc2, hb⟩
  have HM2 := Lib.hid (show b2 ≠ g by omega)
  clear hm2
  have hc1 : ∀ j, j < N1 → w3.cell? ⟨b1, j, none⟩ = some (.string (pt s 58 j)) := fun j hj => (hb.cell (p := ⟨b1, j, none⟩) hl1).trans (HC1.out j hj)
  have hl1' := Nat.lt_of_lt_of_le hl1 hb.size
  have hB4 := hB3.trans (hb.mono hB3.size)
  have hG4 := (hb.block _ (Nat.lt_trans hgw hS3)).trans hG3
  have hA4 := (hb.block _ hS3).trans hA3
  have hS4 := Nat.lt_of_lt_of_le hS3 hb.size
  have HD1 := Lib.hid hc1
  have HC2 := Lib.hid hc2
  clear hb hB3 hG3 hA3 hS3 hc1 hc2 HC1 hl1
  go_wp2_with fail
  refine (specSplit_n s 45 N3 HN3.out _ hl).mono ?_
  rintro e w4 ⟨b3, cap3, rfl, hm3, hl3, hc3, hb⟩
  have HM3 := Lib.hid (show b3 ≠ g by omega)
  clear hm3
  have hc1 : ∀ j, j < N1 → w4.cell? ⟨b1, j, none⟩ = some (.string (pt s 58 j)) := fun j hj => (hb.cell (p := ⟨b1, j, none⟩) hl1').trans (HD1.out j hj)
  have hc2 : ∀ j, j < N2 → w4.cell? ⟨b2, j, none⟩ = some (.string (pt s 47 j)) := fun j hj => (hb.cell (p := ⟨b2, j, none⟩) hl2).trans (HC2.out j hj)
  have HL1 := Lib.hid (Nat.lt_of_lt_of_le hl1' hb.size)
  have HL2 := Lib.hid (Nat.lt_of_lt_of_le hl2 hb.size)
  have HL3 := Lib.hid hl3
  have HB5 := Lib.hid (hB4.trans (hb.mono hB4.size))
  have HG5 := Lib.hid ((hb.block _ (Nat.lt_trans hgw hS4)).trans hG4)
  have HA5 := Lib.hid ((hb.block _ hS4).trans hA4)
  have HS5 := Lib.hid (Nat.lt_of_lt_of_le hS4 hb.size)
  have HGW := Lib.hid hgw
  have HE1 := Lib.hid hc1
  have HE2 := Lib.hid hc2
  have HE3 := Lib.hid hc3
  clear hb hB4 hG4 hA4 hS4 hc1 hc2 hc3 HD1 HC2 hl1' hl2 hl3 hgw
  obtain ⟨z, hz⟩ : ∃ z, z = acG s := ⟨_, rfl⟩
  have hz2 := hz
  unfold acG at hz2
  rw [← HN1.out, ← HN2.out, ← HN3.out, ← HC.out] at hz2
  have HZ := Lib.hid hz
  have HZ2 := Lib.hid hz2
  clear hz hz2
  obtain ⟨y0, q0⟩ := cells_of_heap HA5.out 0 (by simp)
  obtain ⟨y1, q1⟩ := cells_of_heap HA5.out 1 (by simp)
  obtain ⟨y2, q2⟩ := cells_of_heap HA5.out 2 (by simp)
  obtain ⟨y3, q3⟩ := cells_of_heap HA5.out 3 (by simp)
  by_cases h1 : s = sNone
  · skip
    have HZ3 := Lib.hid (show z = ⟨0, 0, 0, 0⟩ by rw [HZ2.out, if_pos h1])
    have hs0 : ¬ s = ⟨#[]⟩ := by rw [h1]; decide
    have e0 := lit_ne [] hs0
    have e1 := lit_eq [110, 111, 110, 101] h1
    clear h1
    go_upto_region 20 with (fail)
    clear y0 y1 y2 y3 q0 q1 q2 q3
    obtain ⟨wx, ewx⟩ : ∃ x, x = putW (w4) (g) 0 [.int .i64 0, .int .i64 0, .int .i64 0, .int .i64 0] := ⟨_, rfl⟩
    have cwx := ewx.symm
    simp only [putW, Nat.reduceAdd] at cwx
    rw [cwx]
    clear cwx
    have hpx := ac_put (.int .i64 0) (.int .i64 0) (.int .i64 0) (.int .i64 0) HA5.out rfl HG5.out (Nat.ne_of_lt HGW.out) HB5.out (Nat.le_of_lt HGW.out)
    have HSx := Lib.hid (show g < wx.heap.size by rw [ewx, putW_size]; exact HS5.out)
    have hwx : wx = ((((w4).setCell ⟨g, 0, none⟩ (.int .i64 0)).setCell ⟨g, 1, none⟩ (.int .i64 0)).setCell ⟨g, 2, none⟩ (.int .i64 0)).setCell ⟨g, 3, none⟩ (.int .i64 0) := ewx
    rw [← hwx] at hpx
    have HAx := Lib.hid (ac_heap (z := ⟨0, 0, 0, 0⟩) hpx.1 HZ3.out)
    have HGx := Lib.hid hpx.2.1
    have HBx := Lib.hid hpx.2.2
    clear hpx hwx ewx
    obtain ⟨T, hT⟩ : ∃ T, T = acS z.k z.c z.m z.n := ⟨_, rfl⟩
    have HT := Lib.hid hT
    clear hT
    have HS0 := Lib.hid hs0
    clear hs0
    obtain ⟨y0, q0⟩ := cells_of_heap HAx.out 0 (by simp)
    obtain ⟨y1, q1⟩ := cells_of_heap HAx.out 1 (by simp)
    obtain ⟨y2, q2⟩ := cells_of_heap HAx.out 2 (by simp)
    obtain ⟨y3, q3⟩ := cells_of_heap HAx.out 3 (by simp)
    go_wp2_with fail
    refine (specFormatAction_n z.k z.c z.m z.n T HT.out _).mono ?_
    rintro e w7 ⟨rfl, hb⟩
    have HB7 := Lib.hid (HBx.out.trans (hb.mono HBx.out.size))
    have HG := Lib.hid ((hb.block _ (Nat.lt_trans HGW.out HSx.out)).trans HGx.out)
    have HA7 := Lib.hid ((hb.block _ HSx.out).trans HAx.out)
    clear hb y0 y1 y2 y3 q0 q1 q2 q3
    obtain ⟨y0, q0⟩ := cells_of_heap HA7.out 0 (by simp)
    obtain ⟨y1, q1⟩ := cells_of_heap HA7.out 1 (by simp)
    obtain ⟨y2, q2⟩ := cells_of_heap HA7.out 2 (by simp)
    obtain ⟨y3, q3⟩ := cells_of_heap HA7.out 3 (by simp)
    obtain ⟨x0, p0⟩ := cells_of_heap HG.out 0 (by simp)
    obtain ⟨x1, p1⟩ := cells_of_heap HG.out 1 (by simp)
    obtain ⟨x2, p2⟩ := cells_of_heap HG.out 2 (by simp)
    obtain ⟨x3, p3⟩ := cells_of_heap HG.out 3 (by simp)
    by_cases heq : T = s
    · have HRr := Lib.hid (HR.out.trans (acP_yes HZ.out HS0.out (by rw [← HT.out, heq])))
      have b0 : (T.toList == s.toList) = true := by rw [heq]; simp
      have b1 : (!(T.toList == s.toList)) = false := by rw [b0]; rfl
      clear heq
      go_wp2
      clear x0 x1 x2 x3 p0 p1 p2 p3 y0 y1 y2 y3 q0 q1 q2 q3 b0 b1
      obtain ⟨wf, hwf⟩ : ∃ x, x = putW (w7) (w.heap.size) 0 [.int .i64 z.k, .int .i64 z.c, .int .i64 z.m, .int .i64 z.n] := ⟨_, rfl⟩
      have kf := putW_all [.int .i64 z.k, .int .i64 z.c, .int .i64 z.m, .int .i64 z.n] HG.out rfl
      have bf := putW_below (b := w.heap.size) (by simp) [.int .i64 z.k, .int .i64 z.c, .int .i64 z.m, .int .i64 z.n] 0 _ HB7.out
      rw [← hwf] at kf bf
      have cf := hwf.symm
      simp only [putW, Nat.reduceAdd] at cf
      rw [cf]
      clear cf hwf
      have f0 := (cells_of_heap kf 0 (by simp)).1
      have f1 := (cells_of_heap kf 1 (by simp)).1
      have f2 := (cells_of_heap kf 2 (by simp)).1
      have f3 := (cells_of_heap kf 3 (by simp)).1
      simp only [List.getElem_toArray, List.getElem_cons_zero, List.getElem_cons_succ] at f0 f1 f2 f3
      refine bodyPost_ret (v := .tuple #[acv z.k z.c z.m z.n, .bool true]) (by simp [results, Tryd.results72, go_sem, f0, f1, f2, f3]) rfl ⟨by rw [HRr.out], bf⟩
    · have HRr := Lib.hid (HR.out.trans (acP_no HZ.out (.inr (by rw [← HT.out]; exact heq))))
      have b0 : (T.toList == s.toList) = false := toList_ne heq
      have b1 : (!(T.toList == s.toList)) = true := by rw [b0]; rfl
      clear heq
      go_wp2
      clear x0 x1 x2 x3 p0 p1 p2 p3 y0 y1 y2 y3 q0 q1 q2 q3 b0 b1
      obtain ⟨wf, hwf⟩ : ∃ x, x = putW (w7) (w.heap.size) 0 [.int .i64 0, .int .i64 0, .int .i64 0, .int .i64 0] := ⟨_, rfl⟩
      have kf := putW_all [.int .i64 0, .int .i64 0, .int .i64 0, .int .i64 0] HG.out rfl
      have bf := putW_below (b := w.heap.size) (by simp) [.int .i64 0, .int .i64 0, .int .i64 0, .int .i64 0] 0 _ HB7.out
      rw [← hwf] at kf bf
      have cf := hwf.symm
      simp only [putW, Nat.reduceAdd] at cf
      rw [cf]
      clear cf hwf
      have f0 := (cells_of_heap kf 0 (by simp)).1
      have f1 := (cells_of_heap kf 1 (by simp)).1
      have f2 := (cells_of_heap kf 2 (by simp)).1
      have f3 := (cells_of_heap kf 3 (by simp)).1
      simp only [List.getElem_toArray, List.getElem_cons_zero, List.getElem_cons_succ] at f0 f1 f2 f3
      refine bodyPost_ret (v := .tuple #[acv 0 0 0 0, .bool false]) (by simp [results, Tryd.results72, go_sem, f0, f1, f2, f3]) rfl ⟨by rw [HRr.out], bf⟩
  · skip
    by_cases h2 : s = sPass
    · skip
      have HZ3 := Lib.hid (show z = ⟨1, 0, 0, 0⟩ by rw [HZ2.out, if_neg h1, if_pos h2])
      have hs0 : ¬ s = ⟨#[]⟩ := by rw [h2]; decide
      have e0 := lit_ne [] hs0
      have e1 := lit_ne [110, 111, 110, 101] h1
      have e2 := lit_eq [112, 97, 115, 115] h2
      clear h1 h2
      go_upto_region 20 with (fail)
      clear y0 y1 y2 y3 q0 q1 q2 q3
      obtain ⟨wx, ewx⟩ : ∃ x, x = putW (w4) (g) 0 [.int .i64 1, .int .i64 0, .int .i64 0, .int .i64 0] := ⟨_, rfl⟩
      have cwx := ewx.symm
      simp only [putW, Nat.reduceAdd] at cwx
      rw [cwx]
      clear cwx
      have hpx := ac_put (.int .i64 1) (.int .i64 0) (.int .i64 0) (.int .i64 0) HA5.out rfl HG5.out (Nat.ne_of_lt HGW.out) HB5.out (Nat.le_of_lt HGW.out)
      have HSx := Lib.hid (show g < wx.heap.size by rw [ewx, putW_size]; exact HS5.out)
      have hwx : wx = ((((w4).setCell ⟨g, 0, none⟩ (.int .i64 1)).setCell ⟨g, 1, none⟩ (.int .i64 0)).setCell ⟨g, 2, none⟩ (.int .i64 0)).setCell ⟨g, 3, none⟩ (.int .i64 0) := ewx
      rw [← hwx] at hpx
      have HAx := Lib.hid (ac_heap (z := ⟨1, 0, 0, 0⟩) hpx.1 HZ3.out)
      have HGx := Lib.hid hpx.2.1
      have HBx := Lib.hid hpx.2.2
      clear hpx hwx ewx
      obtain ⟨T, hT⟩ : ∃ T, T = acS z.k z.c z.m z.n := ⟨_, rfl⟩
      have HT := Lib.hid hT
      clear hT
      have HS0 := Lib.hid hs0
      clear hs0
      obtain ⟨y0, q0⟩ := cells_of_heap HAx.out 0 (by simp)
      obtain ⟨y1, q1⟩ := cells_of_heap HAx.out 1 (by simp)
      obtain ⟨y2, q2⟩ := cells_of_heap HAx.out 2 (by simp)
      obtain ⟨y3, q3⟩ := cells_of_heap HAx.out 3 (by simp)
      go_wp2_with fail
      refine (specFormatAction_n z.k z.c z.m z.n T HT.out _).mono ?_
      rintro e w7 ⟨rfl, hb⟩
      have HB7 := Lib.hid (HBx.out.trans (hb.mono HBx.out.size))
      have HG := Lib.hid ((hb.block _ (Nat.lt_trans HGW.out HSx.out)).trans HGx.out)
      have HA7 := Lib.hid ((hb.block _ HSx.out).trans HAx.out)
      clear hb y0 y1 y2 y3 q0 q1 q2 q3
      obtain ⟨y0, q0⟩ := cells_of_heap HA7.out 0 (by simp)
      obtain ⟨y1, q1⟩ := cells_of_heap HA7.out 1 (by simp)
      obtain ⟨y2, q2⟩ := cells_of_heap HA7.out 2 (by simp)
      obtain ⟨y3, q3⟩ := cells_of_heap HA7.out 3 (by simp)
      obtain ⟨x0, p0⟩ := cells_of_heap HG.out 0 (by simp)
      obtain ⟨x1, p1⟩ := cells_of_heap HG.out 1 (by simp)
      obtain ⟨x2, p2⟩ := cells_of_heap HG.out 2 (by simp)
      obtain ⟨x3, p3⟩ := cells_of_heap HG.out 3 (by simp)
      by_cases heq : T = s
      · have HRr := Lib.hid (HR.out.trans (acP_yes HZ.out HS0.out (by rw [← HT.out, heq])))
        have b0 : (T.toList == s.toList) = true := by rw [heq]; simp
        have b1 : (!(T.toList == s.toList)) = false := by rw [b0]; rfl
        clear heq
        go_wp2
        clear x0 x1 x2 x3 p0 p1 p2 p3 y0 y1 y2 y3 q0 q1 q2 q3 b0 b1
        obtain ⟨wf, hwf⟩ : ∃ x, x = putW (w7) (w.heap.size) 0 [.int .i64 z.k, .int .i64 z.c, .int .i64 z.m, .int .i64 z.n] := ⟨_, rfl⟩
        have kf := putW_all [.int .i64 z.k, .int .i64 z.c, .int .i64 z.m, .int .i64 z.n] HG.out rfl
        have bf := putW_below (b := w.heap.size) (by simp) [.int .i64 z.k, .int .i64 z.c, .int .i64 z.m, .int .i64 z.n] 0 _ HB7.out
        rw [← hwf] at kf bf
        have cf := hwf.symm
        simp only [putW, Nat.reduceAdd] at cf
        rw [cf]
        clear cf hwf
        have f0 := (cells_of_heap kf 0 (by simp)).1
        have f1 := (cells_of_heap kf 1 (by simp)).1
        have f2 := (cells_of_heap kf 2 (by simp)).1
        have f3 := (cells_of_heap kf 3 (by simp)).1
        simp only [List.getElem_toArray, List.getElem_cons_zero, List.getElem_cons_succ] at f0 f1 f2 f3
        refine bodyPost_ret (v := .tuple #[acv z.k z.c z.m z.n, .bool true]) (by simp [results, Tryd.results72, go_sem, f0, f1, f2, f3]) rfl ⟨by rw [HRr.out], bf⟩
      · have HRr := Lib.hid (HR.out.trans (acP_no HZ.out (.inr (by rw [← HT.out]; exact heq))))
        have b0 : (T.toList == s.toList) = false := toList_ne heq
        have b1 : (!(T.toList == s.toList)) = true := by rw [b0]; rfl
        clear heq
        go_wp2
        clear x0 x1 x2 x3 p0 p1 p2 p3 y0 y1 y2 y3 q0 q1 q2 q3 b0 b1
        obtain ⟨wf, hwf⟩ : ∃ x, x = putW (w7) (w.heap.size) 0 [.int .i64 0, .int .i64 0, .int .i64 0, .int .i64 0] := ⟨_, rfl⟩
        have kf := putW_all [.int .i64 0, .int .i64 0, .int .i64 0, .int .i64 0] HG.out rfl
        have bf := putW_below (b := w.heap.size) (by simp) [.int .i64 0, .int .i64 0, .int .i64 0, .int .i64 0] 0 _ HB7.out
        rw [← hwf] at kf bf
        have cf := hwf.symm
        simp only [putW, Nat.reduceAdd] at cf
        rw [cf]
        clear cf hwf
        have f0 := (cells_of_heap kf 0 (by simp)).1
        have f1 := (cells_of_heap kf 1 (by simp)).1
        have f2 := (cells_of_heap kf 2 (by simp)).1
        have f3 := (cells_of_heap kf 3 (by simp)).1
        simp only [List.getElem_toArray, List.getElem_cons_zero, List.getElem_cons_succ] at f0 f1 f2 f3
        refine bodyPost_ret (v := .tuple #[acv 0 0 0 0, .bool false]) (by simp [results, Tryd.results72, go_sem, f0, f1, f2, f3]) rfl ⟨by rw [HRr.out], bf⟩
    · skip
      by_cases h3 : s = sCaps
      · skip
        have HZ3 := Lib.hid (show z = ⟨10, 0, 0, 0⟩ by rw [HZ2.out, if_neg h1, if_neg h2, if_pos h3])
        have hs0 : ¬ s = ⟨#[]⟩ := by rw [h3]; decide
        have e0 := lit_ne [] hs0
        have e1 := lit_ne [110, 111, 110, 101] h1
        have e2 := lit_ne [112, 97, 115, 115] h2
        have e3 := lit_eq [99, 97, 112, 115] h3
        clear h1 h2 h3
        go_upto_region 20 with (fail)
        clear y0 y1 y2 y3 q0 q1 q2 q3
        obtain ⟨wx, ewx⟩ : ∃ x, x = putW (w4) (g) 0 [.int .i64 10, .int .i64 0, .int .i64 0, .int .i64 0] := ⟨_, rfl⟩
        have cwx := ewx.symm
        simp only [putW, Nat.reduceAdd] at cwx
        rw [cwx]
        clear cwx
        have hpx := ac_put (.int .i64 10) (.int .i64 0) (.int .i64 0) (.int .i64 0) HA5.out rfl HG5.out (Nat.ne_of_lt HGW.out) HB5.out (Nat.le_of_lt HGW.out)
        have HSx := Lib.hid (show g < wx.heap.size by rw [ewx, putW_size]; exact HS5.out)
        have hwx : wx = ((((w4).setCell ⟨g, 0, none⟩ (.int .i64 10)).setCell ⟨g, 1, none⟩ (.int .i64 0)).setCell ⟨g, 2, none⟩ (.int .i64 0)).setCell ⟨g, 3, none⟩ (.int .i64 0) := ewx
        rw [← hwx] at hpx
        have HAx := Lib.hid (ac_heap (z := ⟨10, 0, 0, 0⟩) hpx.1 HZ3.out)
        have HGx := Lib.hid hpx.2.1
        have HBx := Lib.hid hpx.2.2
        clear hpx hwx ewx
        obtain ⟨T, hT⟩ : ∃ T, T = acS z.k z.c z.m z.n := ⟨_, rfl⟩
        have HT := Lib.hid hT
        clear hT
        have HS0 := Lib.hid hs0
        clear hs0
        obtain ⟨y0, q0⟩ := cells_of_heap HAx.out 0 (by simp)
        obtain ⟨y1, q1⟩ := cells_of_heap HAx.out 1 (by simp)
        obtain ⟨y2, q2⟩ := cells_of_heap HAx.out 2 (by simp)
        obtain ⟨y3, q3⟩ := cells_of_heap HAx.out 3 (by simp)
        go_wp2_with fail
        refine (specFormatAction_n z.k z.c z.m z.n T HT.out _).mono ?_
        rintro e w7 ⟨rfl, hb⟩
        have HB7 := Lib.hid (HBx.out.trans (hb.mono HBx.out.size))
        have HG := Lib.hid ((hb.block _ (Nat.lt_trans HGW.out HSx.out)).trans HGx.out)
        have HA7 := Lib.hid ((hb.block _ HSx.out).trans HAx.out)
        clear hb y0 y1 y2 y3 q0 q1 q2 q3
        obtain ⟨y0, q0⟩ := cells_of_heap HA7.out 0 (by simp)
        obtain ⟨y1, q1⟩ := cells_of_heap HA7.out 1 (by simp)
        obtain ⟨y2, q2⟩ := cells_of_heap HA7.out 2 (by simp)
        obtain ⟨y3, q3⟩ := cells_of_heap HA7.out 3 (by simp)
        obtain ⟨x0, p0⟩ := cells_of_heap HG.out 0 (by simp)
        obtain ⟨x1, p1⟩ := cells_of_heap HG.out 1 (by simp)
        obtain ⟨x2, p2⟩ := cells_of_heap HG.out 2 (by simp)
        obtain ⟨x3, p3⟩ := cells_of_heap HG.out 3 (by simp)
        by_cases heq : T = s
        · have HRr := Lib.hid (HR.out.trans (acP_yes HZ.out HS0.out (by rw [← HT.out, heq])))
          have b0 : (T.toList == s.toList) = true := by rw [heq]; simp
          have b1 : (!(T.toList == s.toList)) = false := by rw [b0]; rfl
          clear heq
          go_wp2
          clear x0 x1 x2 x3 p0 p1 p2 p3 y0 y1 y2 y3 q0 q1 q2 q3 b0 b1
          obtain ⟨wf, hwf⟩ : ∃ x, x = putW (w7) (w.heap.size) 0 [.int .i64 z.k, .int .i64 z.c, .int .i64 z.m, .int .i64 z.n] := ⟨_, rfl⟩
          have kf := putW_all [.int .i64 z.k, .int .i64 z.c, .int .i64 z.m, .int .i64 z.n] HG.out rfl
          have bf := putW_below (b := w.heap.size) (by simp) [.int .i64 z.k, .int .i64 z.c, .int .i64 z.m, .int .i64 z.n] 0 _ HB7.out
          rw [← hwf] at kf bf
          have cf := hwf.symm
          simp only [putW, Nat.reduceAdd] at cf
          rw [cf]
          clear cf hwf
          have f0 := (cells_of_heap kf 0 (by simp)).1
          have f1 := (cells_of_heap kf 1 (by simp)).1
          have f2 := (cells_of_heap kf 2 (by simp)).1
          have f3 := (cells_of_heap kf 3 (by simp)).1
          simp only [List.getElem_toArray, List.getElem_cons_zero, List.getElem_cons_succ] at f0 f1 f2 f3
          refine bodyPost_ret (v := .tuple #[acv z.k z.c z.m z.n, .bool true]) (by simp [results, Tryd.results72, go_sem, f0, f1, f2, f3]) rfl ⟨by rw [HRr.out], bf⟩
        · have HRr := Lib.hid (HR.out.trans (acP_no HZ.out (.inr (by rw [← HT.out]; exact heq))))
          have b0 : (T.toList == s.toList) = false := toList_ne heq
          have b1 : (!(T.toList == s.toList)) = true := by rw [b0]; rfl
          clear heq
          go_wp2
          clear x0 x1 x2 x3 p0 p1 p2 p3 y0 y1 y2 y3 q0 q1 q2 q3 b0 b1
          obtain ⟨wf, hwf⟩ : ∃ x, x = putW (w7) (w.heap.size) 0 [.int .i64 0, .int .i64 0, .int .i64 0, .int .i64 0] := ⟨_, rfl⟩
          have kf := putW_all [.int .i64 0, .int .i64 0, .int .i64 0, .int .i64 0] HG.out rfl
          have bf := putW_below (b := w.heap.size) (by simp) [.int .i64 0, .int .i64 0, .int .i64 0, .int .i64 0] 0 _ HB7.out
          rw [← hwf] at kf bf
          have cf := hwf.symm
          simp only [putW, Nat.reduceAdd] at cf
          rw [cf]
          clear cf hwf
          have f0 := (cells_of_heap kf 0 (by simp)).1
          have f1 := (cells_of_heap kf 1 (by simp)).1
          have f2 := (cells_of_heap kf 2 (by simp)).1
          have f3 := (cells_of_heap kf 3 (by simp)).1
          simp only [List.getElem_toArray, List.getElem_cons_zero, List.getElem_cons_succ] at f0 f1 f2 f3
          refine bodyPost_ret (v := .tuple #[acv 0 0 0 0, .bool false]) (by simp [results, Tryd.results72, go_sem, f0, f1, f2, f3]) rfl ⟨by rw [HRr.out], bf⟩
      · skip
        have e1 := lit_ne [110, 111, 110, 101] h1
        have e2 := lit_ne [112, 97, 115, 115] h2
        have e3 := lit_ne [99, 97, 112, 115] h3
        have HZ4 := Lib.hid (show z = (if N1 = 2 then leftV 8 (pt s 58 0) (pt s 58 1) else if N2 = 2 then (if okI (pt s 47 0) = true then ⟨7, codeV (pt s 47 1), 0, pval (pt s 47 0)⟩ else ⟨6, codeV (pt s 47 1), pmV (pt s 47 0), 0⟩) else if N3 = 2 then ⟨2, codeV (pt s 45 1), pmV (pt s 45 0), 0⟩ else ⟨2, C, 0, 0⟩) by rw [HZ2.out, if_neg h1, if_neg h2, if_neg h3])
        clear h1 h2 h3
        by_cases n1 : N1 = 2
        · skip
          subst n1
          have g1 := HM1.out
          have g2 := HM1.out.symm
          have d0 := HE1.out 0 (by decide)
          have d1 := HE1.out 1 (by decide)
          have s0 := pt_size s 58 0 hl
          have s1 := pt_size s 58 1 hl
          have hz3 : z = leftV 8 (pt s 58 0) (pt s 58 1) := by rw [HZ4.out, if_pos rfl]
          obtain ⟨P0, hP0⟩ : ∃ P, P = pt s 58 0 := ⟨_, rfl⟩
          obtain ⟨P1, hP1⟩ : ∃ P, P = pt s 58 1 := ⟨_, rfl⟩
          rw [← hP0] at d0 s0
          rw [← hP1] at d1 s1
          have HP0 := Lib.hid hP0
          have HP1 := Lib.hid hP1
          have HQ0 := Lib.hid s0
          have HQ1 := Lib.hid s1
          clear hP0 hP1 s0 s1
          rw [← HP0.out, ← HP1.out] at hz3
          have HZ5 := Lib.hid hz3
          clear hz3
          go_upto_region 12 with (fail)
          go_region_held3 (fun w' => w'.cell? ⟨b1, 0, none⟩ = some (.string P0) ∧ w'.cell? ⟨b1, 1, none⟩ = some (.string P1)) (first | go_keep | simp [go_sem, *])
            (first | (go_at_call 86; refine (specLeft_n 8 P0 P1 z HZ5.out _ HQ1.out).mono ?_; rintro e w5 ⟨rfl, hb5⟩; have hy5 : Below w4.heap.size w4 w5 := ((Below.refl _ _).drew).trans hb5; have k0 := (hy5.cell (p := ⟨b1, 0, none⟩) HL1.out).trans d0; have k1 := (hy5.cell (p := ⟨b1, 1, none⟩) HL1.out).trans d1; have ha5 := (hy5.block g HS5.out).trans HA5.out; obtain ⟨v0, r0⟩ := cells_of_heap ha5 0 (by simp); obtain ⟨v1, r1⟩ := cells_of_heap ha5 1 (by simp); obtain ⟨v2, r2⟩ := cells_of_heap ha5 2 (by simp); obtain ⟨v3, r3⟩ := cells_of_heap ha5 3 (by simp); clear hb5))
          all_goals
            have HA6 := Lib.hid ha5
            have HG6 := Lib.hid ((hy5.block _ (Nat.lt_trans HGW.out HS5.out)).trans HG5.out)
            have HB6 := Lib.hid (HB5.out.trans (hy5.mono HB5.out.size))
            have HS6 := Lib.hid (Nat.lt_of_lt_of_le HS5.out hy5.size)
            clear ha5 hy5 v0 v1 v2 v3 r0 r1 r2 r3 k0 k1 d0 d1 g1 g2 y0 y1 y2 y3 q0 q1 q2 q3
            go_upto_region 20 with (fail)
            obtain ⟨wx, ewx⟩ : ∃ x, x = putW (w5) (g) 0 [.int .i64 z.k, .int .i64 z.c, .int .i64 z.m, .int .i64 z.n] := ⟨_, rfl⟩
            have cwx := ewx.symm
            simp only [putW, Nat.reduceAdd] at cwx
            rw [cwx]
            clear cwx
            have hpx := ac_put (.int .i64 z.k) (.int .i64 z.c) (.int .i64 z.m) (.int .i64 z.n) HA6.out rfl HG6.out (Nat.ne_of_lt HGW.out) HB6.out (Nat.le_of_lt HGW.out)
            have HSx := Lib.hid (show g < wx.heap.size by rw [ewx, putW_size]; exact HS6.out)
            have hwx : wx = ((((w5).setCell ⟨g, 0, none⟩ (.int .i64 z.k)).setCell ⟨g, 1, none⟩ (.int .i64 z.c)).setCell ⟨g, 2, none⟩ (.int .i64 z.m)).setCell ⟨g, 3, none⟩ (.int .i64 z.n) := ewx
            rw [← hwx] at hpx
            have HAx := Lib.hid (ac_heap (z := z) hpx.1 rfl)
            have HGx := Lib.hid hpx.2.1
            have HBx := Lib.hid hpx.2.2
            clear hpx hwx ewx
            by_cases hs0 : s = ⟨#[]⟩
            · have HRr := Lib.hid (HR.out.trans (acP_no HZ.out (.inl hs0)))
              have e0 := lit_eq [] hs0
              have HG := HGx
              clear hs0
              obtain ⟨x0, p0⟩ := cells_of_heap HG.out 0 (by simp)
              obtain ⟨x1, p1⟩ := cells_of_heap HG.out 1 (by simp)
              obtain ⟨x2, p2⟩ := cells_of_heap HG.out 2 (by simp)
              obtain ⟨x3, p3⟩ := cells_of_heap HG.out 3 (by simp)
              go_wp2
              clear x0 x1 x2 x3 p0 p1 p2 p3 e0
              obtain ⟨wf, hwf⟩ : ∃ x, x = putW (wx) (w.heap.size) 0 [.int .i64 0, .int .i64 0, .int .i64 0, .int .i64 0] := ⟨_, rfl⟩
              have kf := putW_all [.int .i64 0, .int .i64 0, .int .i64 0, .int .i64 0] HG.out rfl
              have bf := putW_below (b := w.heap.size) (by simp) [.int .i64 0, .int .i64 0, .int .i64 0, .int .i64 0] 0 _ HBx.out
              rw [← hwf] at kf bf
              have cf := hwf.symm
              simp only [putW, Nat.reduceAdd] at cf
              rw [cf]
              clear cf hwf
              have f0 := (cells_of_heap kf 0 (by simp)).1
              have f1 := (cells_of_heap kf 1 (by simp)).1
              have f2 := (cells_of_heap kf 2 (by simp)).1
              have f3 := (cells_of_heap kf 3 (by simp)).1
              simp only [List.getElem_toArray, List.getElem_cons_zero, List.getElem_cons_succ] at f0 f1 f2 f3
              refine bodyPost_ret (v := .tuple #[acv 0 0 0 0, .bool false]) (by simp [results, Tryd.results72, go_sem, f0, f1, f2, f3]) rfl ⟨by rw [HRr.out], bf⟩
            · have e0 := lit_ne [] hs0
              obtain ⟨T, hT⟩ : ∃ T, T = acS z.k z.c z.m z.n := ⟨_, rfl⟩
              have HT := Lib.hid hT
              clear hT
              have HS0 := Lib.hid hs0
              clear hs0
              obtain ⟨y0, q0⟩ := cells_of_heap HAx.out 0 (by simp)
              obtain ⟨y1, q1⟩ := cells_of_heap HAx.out 1 (by simp)
              obtain ⟨y2, q2⟩ := cells_of_heap HAx.out 2 (by simp)
              obtain ⟨y3, q3⟩ := cells_of_heap HAx.out 3 (by simp)
              go_wp2_with fail
              refine (specFormatAction_n z.k z.c z.m z.n T HT.out _).mono ?_
              rintro e w7 ⟨rfl, hb⟩
              have HB7 := Lib.hid (HBx.out.trans (hb.mono HBx.out.size))
              have HG := Lib.hid ((hb.block _ (Nat.lt_trans HGW.out HSx.out)).trans HGx.out)
              have HA7 := Lib.hid ((hb.block _ HSx.out).trans HAx.out)
              clear hb y0 y1 y2 y3 q0 q1 q2 q3
              obtain ⟨y0, q0⟩ := cells_of_heap HA7.out 0 (by simp)
              obtain ⟨y1, q1⟩ := cells_of_heap HA7.out 1 (by simp)
              obtain ⟨y2, q2⟩ := cells_of_heap HA7.out 2 (by simp)
              obtain ⟨y3, q3⟩ := cells_of_heap HA7.out 3 (by simp)
              obtain ⟨x0, p0⟩ := cells_of_heap HG.out 0 (by simp)
              obtain ⟨x1, p1⟩ := cells_of_heap HG.out 1 (by simp)
              obtain ⟨x2, p2⟩ := cells_of_heap HG.out 2 (by simp)
              obtain ⟨x3, p3⟩ := cells_of_heap HG.out 3 (by simp)
              by_cases heq : T = s
              · have HRr := Lib.hid (HR.out.trans (acP_yes HZ.out HS0.out (by rw [← HT.out, heq])))
                have b0 : (T.toList == s.toList) = true := by rw [heq]; simp
                have b1 : (!(T.toList == s.toList)) = false := by rw [b0]; rfl
                clear heq
                go_wp2
                clear x0 x1 x2 x3 p0 p1 p2 p3 y0 y1 y2 y3 q0 q1 q2 q3 b0 b1
                obtain ⟨wf, hwf⟩ : ∃ x, x = putW (w7) (w.heap.size) 0 [.int .i64 z.k, .int .i64 z.c, .int .i64 z.m, .int .i64 z.n] := ⟨_, rfl⟩
                have kf := putW_all [.int .i64 z.k, .int .i64 z.c, .int .i64 z.m, .int .i64 z.n] HG.out rfl
                have bf := putW_below (b := w.heap.size) (by simp) [.int .i64 z.k, .int .i64 z.c, .int .i64 z.m, .int .i64 z.n] 0 _ HB7.out
                rw [← hwf] at kf bf
                have cf := hwf.symm
                simp only [putW, Nat.reduceAdd] at cf
                rw [cf]
                clear cf hwf
                have f0 := (cells_of_heap kf 0 (by simp)).1
                have f1 := (cells_of_heap kf 1 (by simp)).1
                have f2 := (cells_of_heap kf 2 (by simp)).1
                have f3 := (cells_of_heap kf 3 (by simp)).1
                simp only [List.getElem_toArray, List.getElem_cons_zero, List.getElem_cons_succ] at f0 f1 f2 f3
                refine bodyPost_ret (v := .tuple #[acv z.k z.c z.m z.n, .bool true]) (by simp [results, Tryd.results72, go_sem, f0, f1, f2, f3]) rfl ⟨by rw [HRr.out], bf⟩
              · have HRr := Lib.hid (HR.out.trans (acP_no HZ.out (.inr (by rw [← HT.out]; exact heq))))
                have b0 : (T.toList == s.toList) = false := toList_ne heq
                have b1 : (!(T.toList == s.toList)) = true := by rw [b0]; rfl
                clear heq
                go_wp2
                clear x0 x1 x2 x3 p0 p1 p2 p3 y0 y1 y2 y3 q0 q1 q2 q3 b0 b1
                obtain ⟨wf, hwf⟩ : ∃ x, x = putW (w7) (w.heap.size) 0 [.int .i64 0, .int .i64 0, .int .i64 0, .int .i64 0] := ⟨_, rfl⟩
                have kf := putW_all [.int .i64 0, .int .i64 0, .int .i64 0, .int .i64 0] HG.out rfl
                have bf := putW_below (b := w.heap.size) (by simp) [.int .i64 0, .int .i64 0, .int .i64 0, .int .i64 0] 0 _ HB7.out
                rw [← hwf] at kf bf
                have cf := hwf.symm
                simp only [putW, Nat.reduceAdd] at cf
                rw [cf]
                clear cf hwf
                have f0 := (cells_of_heap kf 0 (by simp)).1
                have f1 := (cells_of_heap kf 1 (by simp)).1
                have f2 := (cells_of_heap kf 2 (by simp)).1
                have f3 := (cells_of_heap kf 3 (by simp)).1
                simp only [List.getElem_toArray, List.getElem_cons_zero, List.getElem_cons_succ] at f0 f1 f2 f3
                refine bodyPost_ret (v := .tuple #[acv 0 0 0 0, .bool false]) (by simp [results, Tryd.results72, go_sem, f0, f1, f2, f3]) rfl ⟨by rw [HRr.out], bf⟩
        · have m1 : ((N1 : Int) == 2) = false := by simp; omega
          by_cases n2 : N2 = 2
          · skip
            subst n2
            have d0 := HE2.out 0 (by decide)
            have d1 := HE2.out 1 (by decide)
            have s0 := pt_size s 47 0 hl
            have s1 := pt_size s 47 1 hl
            have hz3 : z = (if okI (pt s 47 0) = true then ⟨7, codeV (pt s 47 1), 0, pval (pt s 47 0)⟩ else ⟨6, codeV (pt s 47 1), pmV (pt s 47 0), 0⟩) := by rw [HZ4.out, if_neg n1, if_pos rfl]
            obtain ⟨P0, hP0⟩ : ∃ P, P = pt s 47 0 := ⟨_, rfl⟩
            obtain ⟨P1, hP1⟩ : ∃ P, P = pt s 47 1 := ⟨_, rfl⟩
            rw [← hP0] at d0 s0
            rw [← hP1] at d1 s1
            rw [← hP0, ← hP1] at hz3
            have HP0 := Lib.hid hP0
            have HP1 := Lib.hid hP1
            have HQ0 := Lib.hid s0
            have HQ1 := Lib.hid s1
            clear hP0 hP1 s0 s1
            obtain ⟨X0, hX0⟩ : ∃ x, x = pmV P0 := ⟨_, rfl⟩
            obtain ⟨X1, hX1⟩ : ∃ x, x = codeV P1 := ⟨_, rfl⟩
            obtain ⟨Xn, hXn⟩ : ∃ x, x = pval P0 := ⟨_, rfl⟩
            obtain ⟨Xb, hXb⟩ : ∃ x, x = okI P0 := ⟨_, rfl⟩
            rw [← hX0, ← hX1, ← hXn, ← hXb] at hz3
            have HX0 := Lib.hid hX0
            have HX1 := Lib.hid hX1
            have HXn := Lib.hid hXn
            have HXb := Lib.hid hXb
            have HZ5 := Lib.hid hz3
            clear hz3 hX0 hX1 hXn hXb n1
            go_wp2_with fail
            refine (specParseInt_n P0 Xn Xb HXn.out HXb.out _ HQ0.out).mono ?_
            rintro e w9 ⟨rfl, hb⟩
            have d2 := (hb.cell (p := ⟨b2, 0, none⟩) HL2.out).trans d0
            have d3 := (hb.cell (p := ⟨b2, 1, none⟩) HL2.out).trans d1
            have HL9 := Lib.hid (Nat.lt_of_lt_of_le HL2.out hb.size)
            have HA9 := Lib.hid ((hb.block _ HS5.out).trans HA5.out)
            have HG9 := Lib.hid ((hb.block _ (Nat.lt_trans HGW.out HS5.out)).trans HG5.out)
            have HB9 := Lib.hid (HB5.out.trans (hb.mono HB5.out.size))
            have HS9 := Lib.hid (Nat.lt_of_lt_of_le HS5.out hb.size)
            have g1 := HM2.out
            have g2 := HM2.out.symm
            clear hb d0 d1 y0 y1 y2 y3 q0 q1 q2 q3
            obtain ⟨y0, q0⟩ := cells_of_heap HA9.out 0 (by simp)
            obtain ⟨y1, q1⟩ := cells_of_heap HA9.out 1 (by simp)
            obtain ⟨y2, q2⟩ := cells_of_heap HA9.out 2 (by simp)
            obtain ⟨y3, q3⟩ := cells_of_heap HA9.out 3 (by simp)
            go_upto_region 15 with (fail)
            go_region_held3 (fun w' => w'.cell? ⟨b2, 0, none⟩ = some (.string P0) ∧ w'.cell? ⟨b2, 1, none⟩ = some (.string P1)) (first | go_keep | simp [go_sem, *])
              (first
                | (go_at_call 85; refine (specCodeOf_n P1 X1 HX1.out _).mono ?_; rintro e w5 ⟨rfl, hb5⟩; have hy5 : Below w9.heap.size w9 w5 := ((Below.refl _ _).drew).trans hb5; have k0 := (hy5.cell (p := ⟨b2, 0, none⟩) HL9.out).trans d2; have k1 := (hy5.cell (p := ⟨b2, 1, none⟩) HL9.out).trans d3; clear hb5)
                | (go_at_call 88; refine (specParseMods_n P0 X0 HX0.out _).mono ?_; rintro e w6 ⟨rfl, hb6⟩; have hy6 : Below w9.heap.size w9 w6 := hy5.trans (hb6.mono hy5.size); have k2 := (hy6.cell (p := ⟨b2, 0, none⟩) HL9.out).trans d2; have k3 := (hy6.cell (p := ⟨b2, 1, none⟩) HL9.out).trans d3; have ha6 := (hy6.block g HS9.out).trans HA9.out; obtain ⟨v0, r0⟩ := cells_of_heap ha6 0 (by simp); obtain ⟨v1, r1⟩ := cells_of_heap ha6 1 (by simp); obtain ⟨v2, r2⟩ := cells_of_heap ha6 2 (by simp); obtain ⟨v3, r3⟩ := cells_of_heap ha6 3 (by simp); clear hb6))
            all_goals
              have HA6 := Lib.hid ha6
              have HG6 := Lib.hid ((hy6.block _ (Nat.lt_trans HGW.out HS9.out)).trans HG9.out)
              have HB6 := Lib.hid (HB9.out.trans (hy6.mono HB9.out.size))
              have HS6 := Lib.hid (Nat.lt_of_lt_of_le HS9.out hy6.size)
              have HL6 := Lib.hid (Nat.lt_of_lt_of_le HL9.out hy6.size)
              have HK3 := Lib.hid k3
              clear ha6 hy6 hy5 v0 v1 v2 v3 r0 r1 r2 r3 k0 k1 k2 k3 d2 d3 y0 y1 y2 y3 q0 q1 q2 q3
              go_upto_region 16 with (fail)
              obtain ⟨wy, ewy⟩ : ∃ x, x = putW (w6) (g) 0 [.int .i64 6, .int .i64 X1, .int .i64 X0, .int .i64 0] := ⟨_, rfl⟩
              have cwy := ewy.symm
              simp only [putW, Nat.reduceAdd] at cwy
              rw [cwy]
              clear cwy
              have hpx := ac_put (.int .i64 6) (.int .i64 X1) (.int .i64 X0) (.int .i64 0) HA6.out rfl HG6.out (Nat.ne_of_lt HGW.out) HB6.out (Nat.le_of_lt HGW.out)
              have HSy := Lib.hid (show g < wy.heap.size by rw [ewy, putW_size]; exact HS6.out)
              have hwx : wy = ((((w6).setCell ⟨g, 0, none⟩ (.int .i64 6)).setCell ⟨g, 1, none⟩ (.int .i64 X1)).setCell ⟨g, 2, none⟩ (.int .i64 X0)).setCell ⟨g, 3, none⟩ (.int .i64 0) := ewy
              rw [← hwx] at hpx
              have HAy := Lib.hid hpx.1
              have HGy := Lib.hid hpx.2.1
              have HBy := Lib.hid hpx.2.2
              clear hpx hwx
              have d3 : wy.cell? ⟨b2, 1, none⟩ = some (.string P1) := (cell_heap (by rw [ewy]; exact putW_other g1 _ _ _)).trans HK3.out
              have HLy := Lib.hid (show b2 < wy.heap.size by rw [ewy, putW_size]; exact HL6.out)
              clear ewy g1 g2
              cases Xb
              · have HZ3 := Lib.hid (show z = ⟨6, X1, X0, 0⟩ from HZ5.out)
                go_upto_region 20 with (fail)
                obtain ⟨wx, hwx⟩ : ∃ wx, wx = wy := ⟨_, rfl⟩
                have HAx := Lib.hid (ac_heap (z := ⟨6, X1, X0, 0⟩) HAy.out HZ3.out)
                have HGx := HGy
                have HBx := HBy
                have HSx := HSy
                rw [← hwx] at HAx HGx HBx HSx ⊢
                clear hwx d3
                by_cases hs0 : s = ⟨#[]⟩
                · have HRr := Lib.hid (HR.out.trans (acP_no HZ.out (.inl hs0)))
                  have e0 := lit_eq [] hs0
                  have HG := HGx
                  clear hs0
                  obtain ⟨x0, p0⟩ := cells_of_heap HG.out 0 (by simp)
                  obtain ⟨x1, p1⟩ := cells_of_heap HG.out 1 (by simp)
                  obtain ⟨x2, p2⟩ := cells_of_heap HG.out 2 (by simp)
                  obtain ⟨x3, p3⟩ := cells_of_heap HG.out 3 (by simp)
                  go_wp2
                  clear x0 x1 x2 x3 p0 p1 p2 p3 e0
                  obtain ⟨wf, hwf⟩ : ∃ x, x = putW (wx) (w.heap.size) 0 [.int .i64 0, .int .i64 0, .int .i64 0, .int .i64 0] := ⟨_, rfl⟩
                  have kf := putW_all [.int .i64 0, .int .i64 0, .int .i64 0, .int .i64 0] HG.out rfl
                  have bf := putW_below (b := w.heap.size) (by simp) [.int .i64 0, .int .i64 0, .int .i64 0, .int .i64 0] 0 _ HBx.out
                  rw [← hwf] at kf bf
                  have cf := hwf.symm
                  simp only [putW, Nat.reduceAdd] at cf
                  rw [cf]
                  clear cf hwf
                  have f0 := (cells_of_heap kf 0 (by simp)).1
                  have f1 := (cells_of_heap kf 1 (by simp)).1
                  have f2 := (cells_of_heap kf 2 (by simp)).1
                  have f3 := (cells_of_heap kf 3 (by simp)).1
                  simp only [List.getElem_toArray, List.getElem_cons_zero, List.getElem_cons_succ] at f0 f1 f2 f3
                  refine bodyPost_ret (v := .tuple #[acv 0 0 0 0, .bool false]) (by simp [results, Tryd.results72, go_sem, f0, f1, f2, f3]) rfl ⟨by rw [HRr.out], bf⟩
                · have e0 := lit_ne [] hs0
                  obtain ⟨T, hT⟩ : ∃ T, T = acS z.k z.c z.m z.n := ⟨_, rfl⟩
                  have HT := Lib.hid hT
                  clear hT
                  have HS0 := Lib.hid hs0
                  clear hs0
                  obtain ⟨y0, q0⟩ := cells_of_heap HAx.out 0 (by simp)
                  obtain ⟨y1, q1⟩ := cells_of_heap HAx.out 1 (by simp)
                  obtain ⟨y2, q2⟩ := cells_of_heap HAx.out 2 (by simp)
                  obtain ⟨y3, q3⟩ := cells_of_heap HAx.out 3 (by simp)
                  go_wp2_with fail
                  refine (specFormatAction_n z.k z.c z.m z.n T HT.out _).mono ?_
                  rintro e w7 ⟨rfl, hb⟩
                  have HB7 := Lib.hid (HBx.out.trans (hb.mono HBx.out.size))
                  have HG := Lib.hid ((hb.block _ (Nat.lt_trans HGW.out HSx.out)).trans HGx.out)
                  have HA7 := Lib.hid ((hb.block _ HSx.out).trans HAx.out)
                  clear hb y0 y1 y2 y3 q0 q1 q2 q3
                  obtain ⟨y0, q0⟩ := cells_of_heap HA7.out 0 (by simp)
                  obtain ⟨y1, q1⟩ := cells_of_heap HA7.out 1 (by simp)
                  obtain ⟨y2, q2⟩ := cells_of_heap HA7.out 2 (by simp)
                  obtain ⟨y3, q3⟩ := cells_of_heap HA7.out 3 (by simp)
                  obtain ⟨x0, p0⟩ := cells_of_heap HG.out 0 (by simp)
                  obtain ⟨x1, p1⟩ := cells_of_heap HG.out 1 (by simp)
                  obtain ⟨x2, p2⟩ := cells_of_heap HG.out 2 (by simp)
                  obtain ⟨x3, p3⟩ := cells_of_heap HG.out 3 (by simp)
                  by_cases heq : T = s
                  · have HRr := Lib.hid (HR.out.trans (acP_yes HZ.out HS0.out (by rw [← HT.out, heq])))
                    have b0 : (T.toList == s.toList) = true := by rw [heq]; simp
                    have b1 : (!(T.toList == s.toList)) = false := by rw [b0]; rfl
                    clear heq
                    go_wp2
                    clear x0 x1 x2 x3 p0 p1 p2 p3 y0 y1 y2 y3 q0 q1 q2 q3 b0 b1
                    obtain ⟨wf, hwf⟩ : ∃ x, x = putW (w7) (w.heap.size) 0 [.int .i64 z.k, .int .i64 z.c, .int .i64 z.m, .int .i64 z.n] := ⟨_, rfl⟩
                    have kf := putW_all [.int .i64 z.k, .int .i64 z.c, .int .i64 z.m, .int .i64 z.n] HG.out rfl
                    have bf := putW_below (b := w.heap.size) (by simp) [.int .i64 z.k, .int .i64 z.c, .int .i64 z.m, .int .i64 z.n] 0 _ HB7.out
                    rw [← hwf] at kf bf
                    have cf := hwf.symm
                    simp only [putW, Nat.reduceAdd] at cf
                    rw [cf]
                    clear cf hwf
                    have f0 := (cells_of_heap kf 0 (by simp)).1
                    have f1 := (cells_of_heap kf 1 (by simp)).1
                    have f2 := (cells_of_heap kf 2 (by simp)).1
                    have f3 := (cells_of_heap kf 3 (by simp)).1
                    simp only [List.getElem_toArray, List.getElem_cons_zero, List.getElem_cons_succ] at f0 f1 f2 f3
                    refine bodyPost_ret (v := .tuple #[acv z.k z.c z.m z.n, .bool true]) (by simp [results, Tryd.results72, go_sem, f0, f1, f2, f3]) rfl ⟨by rw [HRr.out], bf⟩
                  · have HRr := Lib.hid (HR.out.trans (acP_no HZ.out (.inr (by rw [← HT.out]; exact heq))))
                    have b0 : (T.toList == s.toList) = false := toList_ne heq
                    have b1 : (!(T.toList == s.toList)) = true := by rw [b0]; rfl
                    clear heq
                    go_wp2
                    clear x0 x1 x2 x3 p0 p1 p2 p3 y0 y1 y2 y3 q0 q1 q2 q3 b0 b1
                    obtain ⟨wf, hwf⟩ : ∃ x, x = putW (w7) (w.heap.size) 0 [.int .i64 0, .int .i64 0, .int .i64 0, .int .i64 0] := ⟨_, rfl⟩
                    have kf := putW_all [.int .i64 0, .int .i64 0, .int .i64 0, .int .i64 0] HG.out rfl
                    have bf := putW_below (b := w.heap.size) (by simp) [.int .i64 0, .int .i64 0, .int .i64 0, .int .i64 0] 0 _ HB7.out
                    rw [← hwf] at kf bf
                    have cf := hwf.symm
                    simp only [putW, Nat.reduceAdd] at cf
                    rw [cf]
                    clear cf hwf
                    have f0 := (cells_of_heap kf 0 (by simp)).1
                    have f1 := (cells_of_heap kf 1 (by simp)).1
                    have f2 := (cells_of_heap kf 2 (by simp)).1
                    have f3 := (cells_of_heap kf 3 (by simp)).1
                    simp only [List.getElem_toArray, List.getElem_cons_zero, List.getElem_cons_succ] at f0 f1 f2 f3
                    refine bodyPost_ret (v := .tuple #[acv 0 0 0 0, .bool false]) (by simp [results, Tryd.results72, go_sem, f0, f1, f2, f3]) rfl ⟨by rw [HRr.out], bf⟩
              · have HZ3 := Lib.hid (show z = ⟨7, X1, 0, Xn⟩ from HZ5.out)
                go_wp2_with fail
                refine (specCodeOf_n P1 X1 HX1.out _).mono ?_
                rintro e w8 ⟨rfl, hb⟩
                have HA8 := Lib.hid ((hb.block _ HSy.out).trans HAy.out)
                have HG8 := Lib.hid ((hb.block _ (Nat.lt_trans HGW.out HSy.out)).trans HGy.out)
                have HB8 := Lib.hid (HBy.out.trans (hb.mono HBy.out.size))
                have HS8 := Lib.hid (Nat.lt_of_lt_of_le HSy.out hb.size)
                clear hb d3
                obtain ⟨y0, q0⟩ := cells_of_heap HA8.out 0 (by simp)
                obtain ⟨y1, q1⟩ := cells_of_heap HA8.out 1 (by simp)
                obtain ⟨y2, q2⟩ := cells_of_heap HA8.out 2 (by simp)
                obtain ⟨y3, q3⟩ := cells_of_heap HA8.out 3 (by simp)
                go_upto_region 20 with (fail)
                clear y0 y1 y2 y3 q0 q1 q2 q3
                obtain ⟨wx, ewx⟩ : ∃ x, x = putW (w8) (g) 0 [.int .i64 7, .int .i64 X1, .int .i64 0, .int .i64 Xn] := ⟨_, rfl⟩
                have cwx := ewx.symm
                simp only [putW, Nat.reduceAdd] at cwx
                rw [cwx]
                clear cwx
                have hpx := ac_put (.int .i64 7) (.int .i64 X1) (.int .i64 0) (.int .i64 Xn) HA8.out rfl HG8.out (Nat.ne_of_lt HGW.out) HB8.out (Nat.le_of_lt HGW.out)
                have HSx := Lib.hid (show g < wx.heap.size by rw [ewx, putW_size]; exact HS8.out)
                have hwx : wx = ((((w8).setCell ⟨g, 0, none⟩ (.int .i64 7)).setCell ⟨g, 1, none⟩ (.int .i64 X1)).setCell ⟨g, 2, none⟩ (.int .i64 0)).setCell ⟨g, 3, none⟩ (.int .i64 Xn) := ewx
                rw [← hwx] at hpx
                have HAx := Lib.hid (ac_heap (z := ⟨7, X1, 0, Xn⟩) hpx.1 HZ3.out)
                have HGx := Lib.hid hpx.2.1
                have HBx := Lib.hid hpx.2.2
                clear hpx hwx ewx
                by_cases hs0 : s = ⟨#[]⟩
                · have HRr := Lib.hid (HR.out.trans (acP_no HZ.out (.inl hs0)))
                  have e0 := lit_eq [] hs0
                  have HG := HGx
                  clear hs0
                  obtain ⟨x0, p0⟩ := cells_of_heap HG.out 0 (by simp)
                  obtain ⟨x1, p1⟩ := cells_of_heap HG.out 1 (by simp)
                  obtain ⟨x2, p2⟩ := cells_of_heap HG.out 2 (by simp)
                  obtain ⟨x3, p3⟩ := cells_of_heap HG.out 3 (by simp)
                  go_wp2
                  clear x0 x1 x2 x3 p0 p1 p2 p3 e0
                  obtain ⟨wf, hwf⟩ : ∃ x, x = putW (wx) (w.heap.size) 0 [.int .i64 0, .int .i64 0, .int .i64 0, .int .i64 0] := ⟨_, rfl⟩
                  have kf := putW_all [.int .i64 0, .int .i64 0, .int .i64 0, .int .i64 0] HG.out rfl
                  have bf := putW_below (b := w.heap.size) (by simp) [.int .i64 0, .int .i64 0, .int .i64 0, .int .i64 0] 0 _ HBx.out
                  rw [← hwf] at kf bf
                  have cf := hwf.symm
                  simp only [putW, Nat.reduceAdd] at cf
                  rw [cf]
                  clear cf hwf
                  have f0 := (cells_of_heap kf 0 (by simp)).1
                  have f1 := (cells_of_heap kf 1 (by simp)).1
                  have f2 := (cells_of_heap kf 2 (by simp)).1
                  have f3 := (cells_of_heap kf 3 (by simp)).1
                  simp only [List.getElem_toArray, List.getElem_cons_zero, List.getElem_cons_succ] at f0 f1 f2 f3
                  refine bodyPost_ret (v := .tuple #[acv 0 0 0 0, .bool false]) (by simp [results, Tryd.results72, go_sem, f0, f1, f2, f3]) rfl ⟨by rw [HRr.out], bf⟩
                · have e0 := lit_ne [] hs0
                  obtain ⟨T, hT⟩ : ∃ T, T = acS z.k z.c z.m z.n := ⟨_, rfl⟩
                  have HT := Lib.hid hT
                  clear hT
                  have HS0 := Lib.hid hs0
                  clear hs0
                  obtain ⟨y0, q0⟩ := cells_of_heap HAx.out 0 (by simp)
                  obtain ⟨y1, q1⟩ := cells_of_heap HAx.out 1 (by simp)
                  obtain ⟨y2, q2⟩ := cells_of_heap HAx.out 2 (by simp)
                  obtain ⟨y3, q3⟩ := cells_of_heap HAx.out 3 (by simp)
                  go_wp2_with fail
                  refine (specFormatAction_n z.k z.c z.m z.n T HT.out _).mono ?_
                  rintro e w7 ⟨rfl, hb⟩
                  have HB7 := Lib.hid (HBx.out.trans (hb.mono HBx.out.size))
                  have HG := Lib.hid ((hb.block _ (Nat.lt_trans HGW.out HSx.out)).trans HGx.out)
                  have HA7 := Lib.hid ((hb.block _ HSx.out).trans HAx.out)
                  clear hb y0 y1 y2 y3 q0 q1 q2 q3
                  obtain ⟨y0, q0⟩ := cells_of_heap HA7.out 0 (by simp)
                  obtain ⟨y1, q1⟩ := cells_of_heap HA7.out 1 (by simp)
                  obtain ⟨y2, q2⟩ := cells_of_heap HA7.out 2 (by simp)
                  obtain ⟨y3, q3⟩ := cells_of_heap HA7.out 3 (by simp)
                  obtain ⟨x0, p0⟩ := cells_of_heap HG.out 0 (by simp)
                  obtain ⟨x1, p1⟩ := cells_of_heap HG.out 1 (by simp)
                  obtain ⟨x2, p2⟩ := cells_of_heap HG.out 2 (by simp)
                  obtain ⟨x3, p3⟩ := cells_of_heap HG.out 3 (by simp)
                  by_cases heq : T = s
                  · have HRr := Lib.hid (HR.out.trans (acP_yes HZ.out HS0.out (by rw [← HT.out, heq])))
                    have b0 : (T.toList == s.toList) = true := by rw [heq]; simp
                    have b1 : (!(T.toList == s.toList)) = false := by rw [b0]; rfl
                    clear heq
                    go_wp2
                    clear x0 x1 x2 x3 p0 p1 p2 p3 y0 y1 y2 y3 q0 q1 q2 q3 b0 b1
                    obtain ⟨wf, hwf⟩ : ∃ x, x = putW (w7) (w.heap.size) 0 [.int .i64 z.k, .int .i64 z.c, .int .i64 z.m, .int .i64 z.n] := ⟨_, rfl⟩
                    have kf := putW_all [.int .i64 z.k, .int .i64 z.c, .int .i64 z.m, .int .i64 z.n] HG.out rfl
                    have bf := putW_below (b := w.heap.size) (by simp) [.int .i64 z.k, .int .i64 z.c, .int .i64 z.m, .int .i64 z.n] 0 _ HB7.out
                    rw [← hwf] at kf bf
                    have cf := hwf.symm
                    simp only [putW, Nat.reduceAdd] at cf
                    rw [cf]
                    clear cf hwf
                    have f0 := (cells_of_heap kf 0 (by simp)).1
                    have f1 := (cells_of_heap kf 1 (by simp)).1
                    have f2 := (cells_of_heap kf 2 (by simp)).1
                    have f3 := (cells_of_heap kf 3 (by simp)).1
                    simp only [List.getElem_toArray, List.getElem_cons_zero, List.getElem_cons_succ] at f0 f1 f2 f3
                    refine bodyPost_ret (v := .tuple #[acv z.k z.c z.m z.n, .bool true]) (by simp [results, Tryd.results72, go_sem, f0, f1, f2, f3]) rfl ⟨by rw [HRr.out], bf⟩
                  · have HRr := Lib.hid (HR.out.trans (acP_no HZ.out (.inr (by rw [← HT.out]; exact heq))))
                    have b0 : (T.toList == s.toList) = false := toList_ne heq
                    have b1 : (!(T.toList == s.toList)) = true := by rw [b0]; rfl
                    clear heq
                    go_wp2
                    clear x0 x1 x2 x3 p0 p1 p2 p3 y0 y1 y2 y3 q0 q1 q2 q3 b0 b1
                    obtain ⟨wf, hwf⟩ : ∃ x, x = putW (w7) (w.heap.size) 0 [.int .i64 0, .int .i64 0, .int .i64 0, .int .i64 0] := ⟨_, rfl⟩
                    have kf := putW_all [.int .i64 0, .int .i64 0, .int .i64 0, .int .i64 0] HG.out rfl
                    have bf := putW_below (b := w.heap.size) (by simp) [.int .i64 0, .int .i64 0, .int .i64 0, .int .i64 0] 0 _ HB7.out
                    rw [← hwf] at kf bf
                    have cf := hwf.symm
                    simp only [putW, Nat.reduceAdd] at cf
                    rw [cf]
                    clear cf hwf
                    have f0 := (cells_of_heap kf 0 (by simp)).1
                    have f1 := (cells_of_heap kf 1 (by simp)).1
                    have f2 := (cells_of_heap kf 2 (by simp)).1
                    have f3 := (cells_of_heap kf 3 (by simp)).1
                    simp only [List.getElem_toArray, List.getElem_cons_zero, List.getElem_cons_succ] at f0 f1 f2 f3
                    refine bodyPost_ret (v := .tuple #[acv 0 0 0 0, .bool false]) (by simp [results, Tryd.results72, go_sem, f0, f1, f2, f3]) rfl ⟨by rw [HRr.out], bf⟩
          · have m2 : ((N2 : Int) == 2) = false := by simp; omega
            by_cases n3 : N3 = 2
            · skip
              subst n3
              have g1 := HM3.out
              have g2 := HM3.out.symm
              have d0 := HE3.out 0 (by decide)
              have d1 := HE3.out 1 (by decide)
              have s0 := pt_size s 45 0 hl
              have s1 := pt_size s 45 1 hl
              have hz3 : z = ⟨2, codeV (pt s 45 1), pmV (pt s 45 0), 0⟩ := by rw [HZ4.out, if_neg n1, if_neg n2, if_pos rfl]
              obtain ⟨P0, hP0⟩ : ∃ P, P = pt s 45 0 := ⟨_, rfl⟩
              obtain ⟨P1, hP1⟩ : ∃ P, P = pt s 45 1 := ⟨_, rfl⟩
              rw [← hP0] at d0 s0
              rw [← hP1] at d1 s1
              have HP0 := Lib.hid hP0
              have HP1 := Lib.hid hP1
              have HQ0 := Lib.hid s0
              have HQ1 := Lib.hid s1
              clear hP0 hP1 s0 s1
              rw [← HP0.out, ← HP1.out] at hz3
              obtain ⟨X0, hX0⟩ : ∃ x, x = pmV P0 := ⟨_, rfl⟩
              obtain ⟨X1, hX1⟩ : ∃ x, x = codeV P1 := ⟨_, rfl⟩
              rw [← hX0, ← hX1] at hz3
              have HX0 := Lib.hid hX0
              have HX1 := Lib.hid hX1
              have HZ3 := Lib.hid hz3
              clear hz3 hX0 hX1 n1 n2
              go_upto_region 19 with (fail)
              go_region_held3 (fun w' => w'.cell? ⟨b3, 0, none⟩ = some (.string P0) ∧ w'.cell? ⟨b3, 1, none⟩ = some (.string P1)) (first | go_keep | simp [go_sem, *])
                (first
                  | (go_at_call 85; refine (specCodeOf_n P1 X1 HX1.out _).mono ?_; rintro e w5 ⟨rfl, hb5⟩; have hy5 : Below w4.heap.size w4 w5 := ((Below.refl _ _).drew).trans hb5; have k0 := (hy5.cell (p := ⟨b3, 0, none⟩) HL3.out).trans d0; have k1 := (hy5.cell (p := ⟨b3, 1, none⟩) HL3.out).trans d1; clear hb5)
                  | (go_at_call 88; refine (specParseMods_n P0 X0 HX0.out _).mono ?_; rintro e w6 ⟨rfl, hb6⟩; have hy6 : Below w4.heap.size w4 w6 := hy5.trans (hb6.mono hy5.size); have k2 := (hy6.cell (p := ⟨b3, 0, none⟩) HL3.out).trans d0; have k3 := (hy6.cell (p := ⟨b3, 1, none⟩) HL3.out).trans d1; have ha6 := (hy6.block g HS5.out).trans HA5.out; obtain ⟨v0, r0⟩ := cells_of_heap ha6 0 (by simp); obtain ⟨v1, r1⟩ := cells_of_heap ha6 1 (by simp); obtain ⟨v2, r2⟩ := cells_of_heap ha6 2 (by simp); obtain ⟨v3, r3⟩ := cells_of_heap ha6 3 (by simp); clear hb6))
              all_goals
                have HA6 := Lib.hid ha6
                have HG6 := Lib.hid ((hy6.block _ (Nat.lt_trans HGW.out HS5.out)).trans HG5.out)
                have HB6 := Lib.hid (HB5.out.trans (hy6.mono HB5.out.size))
                have HS6 := Lib.hid (Nat.lt_of_lt_of_le HS5.out hy6.size)
                clear ha6 hy6 hy5 v0 v1 v2 v3 r0 r1 r2 r3 k0 k1 k2 k3 d0 d1 g1 g2 y0 y1 y2 y3 q0 q1 q2 q3
                go_upto_region 20 with (fail)
                obtain ⟨wx, ewx⟩ : ∃ x, x = putW (w6) (g) 0 [.int .i64 2, .int .i64 X1, .int .i64 X0, .int .i64 0] := ⟨_, rfl⟩
                have cwx := ewx.symm
                simp only [putW, Nat.reduceAdd] at cwx
                rw [cwx]
                clear cwx
                have hpx := ac_put (.int .i64 2) (.int .i64 X1) (.int .i64 X0) (.int .i64 0) HA6.out rfl HG6.out (Nat.ne_of_lt HGW.out) HB6.out (Nat.le_of_lt HGW.out)
                have HSx := Lib.hid (show g < wx.heap.size by rw [ewx, putW_size]; exact HS6.out)
                have hwx : wx = ((((w6).setCell ⟨g, 0, none⟩ (.int .i64 2)).setCell ⟨g, 1, none⟩ (.int .i64 X1)).setCell ⟨g, 2, none⟩ (.int .i64 X0)).setCell ⟨g, 3, none⟩ (.int .i64 0) := ewx
                rw [← hwx] at hpx
                have HAx := Lib.hid (ac_heap (z := ⟨2, X1, X0, 0⟩) hpx.1 HZ3.out)
                have HGx := Lib.hid hpx.2.1
                have HBx := Lib.hid hpx.2.2
                clear hpx hwx ewx
                by_cases hs0 : s = ⟨#[]⟩
                · have HRr := Lib.hid (HR.out.trans (acP_no HZ.out (.inl hs0)))
                  have e0 := lit_eq [] hs0
                  have HG := HGx
                  clear hs0
                  obtain ⟨x0, p0⟩ := cells_of_heap HG.out 0 (by simp)
                  obtain ⟨x1, p1⟩ := cells_of_heap HG.out 1 (by simp)
                  obtain ⟨x2, p2⟩ := cells_of_heap HG.out 2 (by simp)
                  obtain ⟨x3, p3⟩ := cells_of_heap HG.out 3 (by simp)
                  go_wp2
                  clear x0 x1 x2 x3 p0 p1 p2 p3 e0
                  obtain ⟨wf, hwf⟩ : ∃ x, x = putW (wx) (w.heap.size) 0 [.int .i64 0, .int .i64 0, .int .i64 0, .int .i64 0] := ⟨_, rfl⟩
                  have kf := putW_all [.int .i64 0, .int .i64 0, .int .i64 0, .int .i64 0] HG.out rfl
                  have bf := putW_below (b := w.heap.size) (by simp) [.int .i64 0, .int .i64 0, .int .i64 0, .int .i64 0] 0 _ HBx.out
                  rw [← hwf] at kf bf
                  have cf := hwf.symm
                  simp only [putW, Nat.reduceAdd] at cf
                  rw [cf]
                  clear cf hwf
                  have f0 := (cells_of_heap kf 0 (by simp)).1
                  have f1 := (cells_of_heap kf 1 (by simp)).1
                  have f2 := (cells_of_heap kf 2 (by simp)).1
                  have f3 := (cells_of_heap kf 3 (by simp)).1
                  simp only [List.getElem_toArray, List.getElem_cons_zero, List.getElem_cons_succ] at f0 f1 f2 f3
                  refine bodyPost_ret (v := .tuple #[acv 0 0 0 0, .bool false]) (by simp [results, Tryd.results72, go_sem, f0, f1, f2, f3]) rfl ⟨by rw [HRr.out], bf⟩
                · have e0 := lit_ne [] hs0
                  obtain ⟨T, hT⟩ : ∃ T, T = acS z.k z.c z.m z.n := ⟨_, rfl⟩
                  have HT := Lib.hid hT
                  clear hT
                  have HS0 := Lib.hid hs0
                  clear hs0
                  obtain ⟨y0, q0⟩ := cells_of_heap HAx.out 0 (by simp)
                  obtain ⟨y1, q1⟩ := cells_of_heap HAx.out 1 (by simp)
                  obtain ⟨y2, q2⟩ := cells_of_heap HAx.out 2 (by simp)
                  obtain ⟨y3, q3⟩ := cells_of_heap HAx.out 3 (by simp)
                  go_wp2_with fail
                  refine (specFormatAction_n z.k z.c z.m z.n T HT.out _).mono ?_
                  rintro e w7 ⟨rfl, hb⟩
                  have HB7 := Lib.hid (HBx.out.trans (hb.mono HBx.out.size))
                  have HG := Lib.hid ((hb.block _ (Nat.lt_trans HGW.out HSx.out)).trans HGx.out)
                  have HA7 := Lib.hid ((hb.block _ HSx.out).trans HAx.out)
                  clear hb y0 y1 y2 y3 q0 q1 q2 q3
                  obtain ⟨y0, q0⟩ := cells_of_heap HA7.out 0 (by simp)
                  obtain ⟨y1, q1⟩ := cells_of_heap HA7.out 1 (by simp)
                  obtain ⟨y2, q2⟩ := cells_of_heap HA7.out 2 (by simp)
                  obtain ⟨y3, q3⟩ := cells_of_heap HA7.out 3 (by simp)
                  obtain ⟨x0, p0⟩ := cells_of_heap HG.out 0 (by simp)
                  obtain ⟨x1, p1⟩ := cells_of_heap HG.out 1 (by simp)
                  obtain ⟨x2, p2⟩ := cells_of_heap HG.out 2 (by simp)
                  obtain ⟨x3, p3⟩ := cells_of_heap HG.out 3 (by simp)
                  by_cases heq : T = s
                  · have HRr := Lib.hid (HR.out.trans (acP_yes HZ.out HS0.out (by rw [← HT.out, heq])))
                    have b0 : (T.toList == s.toList) = true := by rw [heq]; simp
                    have b1 : (!(T.toList == s.toList)) = false := by rw [b0]; rfl
                    clear heq
                    go_wp2
                    clear x0 x1 x2 x3 p0 p1 p2 p3 y0 y1 y2 y3 q0 q1 q2 q3 b0 b1
                    obtain ⟨wf, hwf⟩ : ∃ x, x = putW (w7) (w.heap.size) 0 [.int .i64 z.k, .int .i64 z.c, .int .i64 z.m, .int .i64 z.n] := ⟨_, rfl⟩
                    have kf := putW_all [.int .i64 z.k, .int .i64 z.c, .int .i64 z.m, .int .i64 z.n] HG.out rfl
                    have bf := putW_below (b := w.heap.size) (by simp) [.int .i64 z.k, .int .i64 z.c, .int .i64 z.m, .int .i64 z.n] 0 _ HB7.out
                    rw [← hwf] at kf bf
                    have cf := hwf.symm
                    simp only [putW, Nat.reduceAdd] at cf
                    rw [cf]
                    clear cf hwf
                    have f0 := (cells_of_heap kf 0 (by simp)).1
                    have f1 := (cells_of_heap kf 1 (by simp)).1
                    have f2 := (cells_of_heap kf 2 (by simp)).1
                    have f3 := (cells_of_heap kf 3 (by simp)).1
                    simp only [List.getElem_toArray, List.getElem_cons_zero, List.getElem_cons_succ] at f0 f1 f2 f3
                    refine bodyPost_ret (v := .tuple #[acv z.k z.c z.m z.n, .bool true]) (by simp [results, Tryd.results72, go_sem, f0, f1, f2, f3]) rfl ⟨by rw [HRr.out], bf⟩
                  · have HRr := Lib.hid (HR.out.trans (acP_no HZ.out (.inr (by rw [← HT.out]; exact heq))))
                    have b0 : (T.toList == s.toList) = false := toList_ne heq
                    have b1 : (!(T.toList == s.toList)) = true := by rw [b0]; rfl
                    clear heq
                    go_wp2
                    clear x0 x1 x2 x3 p0 p1 p2 p3 y0 y1 y2 y3 q0 q1 q2 q3 b0 b1
                    obtain ⟨wf, hwf⟩ : ∃ x, x = putW (w7) (w.heap.size) 0 [.int .i64 0, .int .i64 0, .int .i64 0, .int .i64 0] := ⟨_, rfl⟩
                    have kf := putW_all [.int .i64 0, .int .i64 0, .int .i64 0, .int .i64 0] HG.out rfl
                    have bf := putW_below (b := w.heap.size) (by simp) [.int .i64 0, .int .i64 0, .int .i64 0, .int .i64 0] 0 _ HB7.out
                    rw [← hwf] at kf bf
                    have cf := hwf.symm
                    simp only [putW, Nat.reduceAdd] at cf
                    rw [cf]
                    clear cf hwf
                    have f0 := (cells_of_heap kf 0 (by simp)).1
                    have f1 := (cells_of_heap kf 1 (by simp)).1
                    have f2 := (cells_of_heap kf 2 (by simp)).1
                    have f3 := (cells_of_heap kf 3 (by simp)).1
                    simp only [List.getElem_toArray, List.getElem_cons_zero, List.getElem_cons_succ] at f0 f1 f2 f3
                    refine bodyPost_ret (v := .tuple #[acv 0 0 0 0, .bool false]) (by simp [results, Tryd.results72, go_sem, f0, f1, f2, f3]) rfl ⟨by rw [HRr.out], bf⟩
            · have m3 : ((N3 : Int) == 2) = false := by simp; omega
              have HZ3 := Lib.hid (show z = ⟨2, C, 0, 0⟩ by rw [HZ4.out, if_neg n1, if_neg n2, if_neg n3])
              clear n1 n2 n3
              go_upto_region 20 with (fail)
              clear y0 y1 y2 y3 q0 q1 q2 q3
              obtain ⟨wx, hwx⟩ : ∃ wx, wx = w4 := ⟨_, rfl⟩
              have HAx := Lib.hid (ac_heap (z := ⟨2, C, 0, 0⟩) HA5.out HZ3.out)
              have HGx := HG5
              have HBx := HB5
              have HSx := HS5
              rw [← hwx] at HAx HGx HBx HSx ⊢
              clear hwx
              by_cases hs0 : s = ⟨#[]⟩
              · have HRr := Lib.hid (HR.out.trans (acP_no HZ.out (.inl hs0)))
                have e0 := lit_eq [] hs0
                have HG := HGx
                clear hs0
                obtain ⟨x0, p0⟩ := cells_of_heap HG.out 0 (by simp)
                obtain ⟨x1, p1⟩ := cells_of_heap HG.out 1 (by simp)
                obtain ⟨x2, p2⟩ := cells_of_heap HG.out 2 (by simp)
                obtain ⟨x3, p3⟩ := cells_of_heap HG.out 3 (by simp)
                go_wp2
                clear x0 x1 x2 x3 p0 p1 p2 p3 e0
                obtain ⟨wf, hwf⟩ : ∃ x, x = putW (wx) (w.heap.size) 0 [.int .i64 0, .int .i64 0, .int .i64 0, .int .i64 0] := ⟨_, rfl⟩
                have kf := putW_all [.int .i64 0, .int .i64 0, .int .i64 0, .int .i64 0] HG.out rfl
                have bf := putW_below (b := w.heap.size) (by simp) [.int .i64 0, .int .i64 0, .int .i64 0, .int .i64 0] 0 _ HBx.out
                rw [← hwf] at kf bf
                have cf := hwf.symm
                simp only [putW, Nat.reduceAdd] at cf
                rw [cf]
                clear cf hwf
                have f0 := (cells_of_heap kf 0 (by simp)).1
                have f1 := (cells_of_heap kf 1 (by simp)).1
                have f2 := (cells_of_heap kf 2 (by simp)).1
                have f3 := (cells_of_heap kf 3 (by simp)).1
                simp only [List.getElem_toArray, List.getElem_cons_zero, List.getElem_cons_succ] at f0 f1 f2 f3
                refine bodyPost_ret (v := .tuple #[acv 0 0 0 0, .bool false]) (by simp [results, Tryd.results72, go_sem, f0, f1, f2, f3]) rfl ⟨by rw [HRr.out], bf⟩
              · have e0 := lit_ne [] hs0
                obtain ⟨T, hT⟩ : ∃ T, T = acS z.k z.c z.m z.n := ⟨_, rfl⟩
                have HT := Lib.hid hT
                clear hT
                have HS0 := Lib.hid hs0
                clear hs0
                obtain ⟨y0, q0⟩ := cells_of_heap HAx.out 0 (by simp)
                obtain ⟨y1, q1⟩ := cells_of_heap HAx.out 1 (by simp)
                obtain ⟨y2, q2⟩ := cells_of_heap HAx.out 2 (by simp)
                obtain ⟨y3, q3⟩ := cells_of_heap HAx.out 3 (by simp)
                go_wp2_with fail
                refine (specFormatAction_n z.k z.c z.m z.n T HT.out _).mono ?_
                rintro e w7 ⟨rfl, hb⟩
                have HB7 := Lib.hid (HBx.out.trans (hb.mono HBx.out.size))
                have HG := Lib.hid ((hb.block _ (Nat.lt_trans HGW.out HSx.out)).trans HGx.out)
                have HA7 := Lib.hid ((hb.block _ HSx.out).trans HAx.out)
                clear hb y0 y1 y2 y3 q0 q1 q2 q3
                obtain ⟨y0, q0⟩ := cells_of_heap HA7.out 0 (by simp)
                obtain ⟨y1, q1⟩ := cells_of_heap HA7.out 1 (by simp)
                obtain ⟨y2, q2⟩ := cells_of_heap HA7.out 2 (by simp)
                obtain ⟨y3, q3⟩ := cells_of_heap HA7.out 3 (by simp)
                obtain ⟨x0, p0⟩ := cells_of_heap HG.out 0 (by simp)
                obtain ⟨x1, p1⟩ := cells_of_heap HG.out 1 (by simp)
                obtain ⟨x2, p2⟩ := cells_of_heap HG.out 2 (by simp)
                obtain ⟨x3, p3⟩ := cells_of_heap HG.out 3 (by simp)
                by_cases heq : T = s
                · have HRr := Lib.hid (HR.out.trans (acP_yes HZ.out HS0.out (by rw [← HT.out, heq])))
                  have b0 : (T.toList == s.toList) = true := by rw [heq]; simp
                  have b1 : (!(T.toList == s.toList)) = false := by rw [b0]; rfl
                  clear heq
                  go_wp2
                  clear x0 x1 x2 x3 p0 p1 p2 p3 y0 y1 y2 y3 q0 q1 q2 q3 b0 b1
                  obtain ⟨wf, hwf⟩ : ∃ x, x = putW (w7) (w.heap.size) 0 [.int .i64 z.k, .int .i64 z.c, .int .i64 z.m, .int .i64 z.n] := ⟨_, rfl⟩
                  have kf := putW_all [.int .i64 z.k, .int .i64 z.c, .int .i64 z.m, .int .i64 z.n] HG.out rfl
                  have bf := putW_below (b := w.heap.size) (by simp) [.int .i64 z.k, .int .i64 z.c, .int .i64 z.m, .int .i64 z.n] 0 _ HB7.out
                  rw [← hwf] at kf bf
                  have cf := hwf.symm
                  simp only [putW, Nat.reduceAdd] at cf
                  rw [cf]
                  clear cf hwf
                  have f0 := (cells_of_heap kf 0 (by simp)).1
                  have f1 := (cells_of_heap kf 1 (by simp)).1
                  have f2 := (cells_of_heap kf 2 (by simp)).1
                  have f3 := (cells_of_heap kf 3 (by simp)).1
                  simp only [List.getElem_toArray, List.getElem_cons_zero, List.getElem_cons_succ] at f0 f1 f2 f3
                  refine bodyPost_ret (v := .tuple #[acv z.k z.c z.m z.n, .bool true]) (by simp [results, Tryd.results72, go_sem, f0, f1, f2, f3]) rfl ⟨by rw [HRr.out], bf⟩
                · have HRr := Lib.hid (HR.out.trans (acP_no HZ.out (.inr (by rw [← HT.out]; exact heq))))
                  have b0 : (T.toList == s.toList) = false := toList_ne heq
                  have b1 : (!(T.toList == s.toList)) = true := by rw [b0]; rfl
                  clear heq
                  go_wp2
                  clear x0 x1 x2 x3 p0 p1 p2 p3 y0 y1 y2 y3 q0 q1 q2 q3 b0 b1
                  obtain ⟨wf, hwf⟩ : ∃ x, x = putW (w7) (w.heap.size) 0 [.int .i64 0, .int .i64 0, .int .i64 0, .int .i64 0] := ⟨_, rfl⟩
                  have kf := putW_all [.int .i64 0, .int .i64 0, .int .i64 0, .int .i64 0] HG.out rfl
                  have bf := putW_below (b := w.heap.size) (by simp) [.int .i64 0, .int .i64 0, .int .i64 0, .int .i64 0] 0 _ HB7.out
                  rw [← hwf] at kf bf
                  have cf := hwf.symm
                  simp only [putW, Nat.reduceAdd] at cf
                  rw [cf]
                  clear cf hwf
                  have f0 := (cells_of_heap kf 0 (by simp)).1
                  have f1 := (cells_of_heap kf 1 (by simp)).1
                  have f2 := (cells_of_heap kf 2 (by simp)).1
                  have f3 := (cells_of_heap kf 3 (by simp)).1
                  simp only [List.getElem_toArray, List.getElem_cons_zero, List.getElem_cons_succ] at f0 f1 f2 f3
                  refine bodyPost_ret (v := .tuple #[acv 0 0 0 0, .bool false]) (by simp [results, Tryd.results72, go_sem, f0, f1, f2, f3]) rfl ⟨by rw [HRr.out], bf⟩

end Go.Proofs.YtnfnhbldphiohaaDoor
