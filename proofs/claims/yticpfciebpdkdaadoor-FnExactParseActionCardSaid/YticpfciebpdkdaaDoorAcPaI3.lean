/- DERIVED. The program's ParseAction: it answers as the reference's, where the tables are as their texts lay them. -/
import Derived.Test.YticpfciebpdkdaaDoorAcPaI2
import Derived.Test.YticpfciebpdkdaaDoorAcLawD
import Derived.Test.YticpfciebpdkdaaDoorAcLaw
namespace Go.Proofs.YticpfciebpdkdaaDoor
open Go.RowKit

theorem implFormatAction_n (k c m n : Int) (T : ByteArray) (hT : T = acS k c m n) (w : World) (ht : AcTabs w) : Calls Tryd.prog 13 #[acv k c m n] w fun e w' => e = .returned (.string T) ∧ Below w.heap.size w w' := by
  rw [hT]; exact implFormatAction_any k c m n w ht

set_option maxHeartbeats 4000000 in
set_option maxRecDepth 100000 in
theorem implParseAction_any (s : ByteArray) (w : World) (ht : AcTabs w) (hl : s.size ≤ 1048576) : Calls Tryd.prog 15 #[.string s] w fun e w' => e = .returned (.tuple #[acv (acP s).1.k (acP s).1.c (acP s).1.m (acP s).1.n, .bool (acP s).2]) ∧ Below w.heap.size w w' := by
  obtain ⟨z, hz⟩ : ∃ z, z = gaV s := ⟨_, rfl⟩
  have hp := acP_ga s z hz
  obtain ⟨⟨r, rb⟩, hr⟩ : ∃ r, r = acP s := ⟨_, rfl⟩
  rw [← hr] at hp ⊢
  obtain ⟨v, hv⟩ : ∃ v, v = okAc z.k z.c z.m z.n := ⟨_, rfl⟩
  obtain ⟨T, hT⟩ : ∃ T, T = acS z.k z.c z.m z.n := ⟨_, rfl⟩
  rw [← hv, ← hT] at hp
  have HZ := Lib.hid hz
  have HP := Lib.hid hp
  have HV := Lib.hid hv
  have HTX := Lib.hid hT
  have HL := Lib.hid hl
  have HT := Lib.hid ht
  clear hz hp hr hv hT hl ht
  obtain ⟨V, hV⟩ : ∃ V, V = w.alloc (.cells #[.int .i64 0, .int .i64 0, .int .i64 0, .int .i64 0] 29) := ⟨_, rfl⟩
  have HG0 := Lib.hid (show V.heap[w.heap.size]? = some (.cells #[.int .i64 0, .int .i64 0, .int .i64 0, .int .i64 0] 29 (0, 0)) by rw [hV]; exact heap_alloc_new w _)
  have HB0 := Lib.hid (show Below w.heap.size w V by rw [hV]; exact (Below.refl _ _).alloc (Nat.le_refl _) _)
  have HS0 := Lib.hid (show w.heap.size < V.heap.size by rw [hV]; simp)
  have HV2 := Lib.hid hV
  clear hV
  have HT0 := Lib.hid (HT.out.below HB0.out)
  go_enter Tryd.func15, Tryd.ntmps15
  go_wp2_with fail
  rw [← HV2.out]
  refine (guessAction_any s z HZ.out _ HT0.out HL.out).mono ?_
  rintro e w1 ⟨rfl, hb⟩
  have HB1 := Lib.hid (HB0.out.trans (hb.mono HB0.out.size))
  have HG1 := Lib.hid ((hb.block _ HS0.out).trans HG0.out)
  have HS1 := Lib.hid (Nat.lt_of_lt_of_le HS0.out hb.size)
  have HT1 := Lib.hid (HT0.out.below hb)
  clear hb
  go_upto_region 2 with (fail)
  obtain ⟨g, hg⟩ : ∃ g, g = w1.heap.size := ⟨_, rfl⟩
  obtain ⟨U, hU⟩ : ∃ U, U = w1.alloc (.cells #[.int .i64 z.k, .int .i64 z.c, .int .i64 z.m, .int .i64 z.n] 29) := ⟨_, rfl⟩
  have hA2 : U.heap[g]? = some (.cells #[.int .i64 z.k, .int .i64 z.c, .int .i64 z.m, .int .i64 z.n] 29 (0, 0)) := by rw [hU, hg]; exact heap_alloc_new w1 _
  have hU1 : Below w1.heap.size w1 U := by rw [hU]; exact (Below.refl _ _).alloc (Nat.le_refl _) _
  have hB2 := HB1.out.trans (hU1.mono HB1.out.size)
  have hG2 := (hU1.block _ HS1.out).trans HG1.out
  have hS2 : g < U.heap.size := by rw [hU, hg]; simp
  have hgw : w.heap.size < g := by rw [hg]; exact HS1.out
  have HTU := Lib.hid (HT1.out.below hU1)
  rw [← hU, ← hg]
  clear hU hU1 hg HB1 HG1 HS1
  obtain ⟨c0, -⟩ := cells_of_heap hA2 0 (by simp)
  obtain ⟨c1, -⟩ := cells_of_heap hA2 1 (by simp)
  obtain ⟨c2, -⟩ := cells_of_heap hA2 2 (by simp)
  obtain ⟨c3, -⟩ := cells_of_heap hA2 3 (by simp)
  simp only [List.getElem_toArray, List.getElem_cons_zero, List.getElem_cons_succ] at c0 c1 c2 c3
  have HA2 := Lib.hid hA2
  have HB2 := Lib.hid hB2
  have HG2 := Lib.hid hG2
  have HS2 := Lib.hid hS2
  have HGW := Lib.hid hgw
  clear hA2 hB2 hG2 hS2 hgw
  go_wp2_with fail
  refine (implIsAction_q z.k z.c z.m z.n v HV.out _).mono ?_
  rintro e w3 ⟨rfl, hb⟩
  have HB3 := Lib.hid (HB2.out.trans (hb.mono HB2.out.size))
  have HG3 := Lib.hid ((hb.block _ (Nat.lt_trans HGW.out HS2.out)).trans HG2.out)
  have HA3 := Lib.hid ((hb.block _ HS2.out).trans HA2.out)
  have HS3 := Lib.hid (Nat.lt_of_lt_of_le HS2.out hb.size)
  have HT3 := Lib.hid (HTU.out.below hb)
  clear hb c0 c1 c2 c3
  cases v
  · have HP2 := Lib.hid (show (r, rb) = (⟨0, 0, 0, 0⟩, false) by rw [HP.out, if_neg (fun h => by simp at h)])
    obtain ⟨x0, p0⟩ := cells_of_heap HG3.out 0 (by simp)
    obtain ⟨x1, p1⟩ := cells_of_heap HG3.out 1 (by simp)
    obtain ⟨x2, p2⟩ := cells_of_heap HG3.out 2 (by simp)
    obtain ⟨x3, p3⟩ := cells_of_heap HG3.out 3 (by simp)
    go_wp2
    clear x0 x1 x2 x3 p0 p1 p2 p3
    obtain ⟨wf, hwf⟩ : ∃ x, x = putW (w3) (w.heap.size) 0 [.int .i64 0, .int .i64 0, .int .i64 0, .int .i64 0] := ⟨_, rfl⟩
    have kf := putW_all [.int .i64 0, .int .i64 0, .int .i64 0, .int .i64 0] HG3.out rfl
    have bf := putW_below (b := w.heap.size) (by first | omega | simp) [.int .i64 0, .int .i64 0, .int .i64 0, .int .i64 0] 0 _ HB3.out
    rw [← hwf] at kf bf
    have cf := hwf.symm
    simp only [putW, Nat.reduceAdd] at cf
    rw [cf]
    clear cf hwf
    have f0 := (cells_of_heap kf 0 (by simp)).1
    have f1 := (cells_of_heap kf 1 (by simp)).1
    have f2 := (cells_of_heap kf 2 (by simp)).1
    have f3 := (cells_of_heap kf 3 (by simp)).1
    simp only [List.getElem_toArray, List.getElem_cons_zero, List.getElem_cons_succ] at f0 f1 f2 f3
    refine bodyPost_ret (v := .tuple #[acv 0 0 0 0, .bool false]) (by simp [results, Tryd.results15, go_sem, f0, f1, f2, f3]) rfl ⟨by obtain ⟨rfl, rfl⟩ := Prod.mk.inj HP2.out; rfl, bf⟩
  · obtain ⟨c0, -⟩ := cells_of_heap HA3.out 0 (by simp)
    obtain ⟨c1, -⟩ := cells_of_heap HA3.out 1 (by simp)
    obtain ⟨c2, -⟩ := cells_of_heap HA3.out 2 (by simp)
    obtain ⟨c3, -⟩ := cells_of_heap HA3.out 3 (by simp)
    simp only [List.getElem_toArray, List.getElem_cons_zero, List.getElem_cons_succ] at c0 c1 c2 c3
    go_wp2_with fail
    refine (implFormatAction_n z.k z.c z.m z.n T HTX.out _ HT3.out).mono ?_
    rintro e w4 ⟨rfl, hb⟩
    have HB4 := Lib.hid (HB3.out.trans (hb.mono HB3.out.size))
    have HG4 := Lib.hid ((hb.block _ (Nat.lt_trans HGW.out HS3.out)).trans HG3.out)
    have HA4 := Lib.hid ((hb.block _ HS3.out).trans HA3.out)
    clear hb c0 c1 c2 c3
    obtain ⟨c0, -⟩ := cells_of_heap HA4.out 0 (by simp)
    obtain ⟨c1, -⟩ := cells_of_heap HA4.out 1 (by simp)
    obtain ⟨c2, -⟩ := cells_of_heap HA4.out 2 (by simp)
    obtain ⟨c3, -⟩ := cells_of_heap HA4.out 3 (by simp)
    simp only [List.getElem_toArray, List.getElem_cons_zero, List.getElem_cons_succ] at c0 c1 c2 c3
    obtain ⟨x0, p0⟩ := cells_of_heap HG4.out 0 (by simp)
    obtain ⟨x1, p1⟩ := cells_of_heap HG4.out 1 (by simp)
    obtain ⟨x2, p2⟩ := cells_of_heap HG4.out 2 (by simp)
    obtain ⟨x3, p3⟩ := cells_of_heap HG4.out 3 (by simp)
    by_cases heq : T = s
    · have HP2 := Lib.hid (show (r, rb) = (z, true) by rw [HP.out, if_pos (by simp [heq])])
      have b0 : (T.toList == s.toList) = true := by rw [heq]; simp
      have b1 : (!(T.toList == s.toList)) = false := by rw [b0]; rfl
      clear heq
      go_wp2
      clear c0 c1 c2 c3 x0 x1 x2 x3 p0 p1 p2 p3 b0 b1
      obtain ⟨wf, hwf⟩ : ∃ x, x = putW (w4) (w.heap.size) 0 [.int .i64 z.k, .int .i64 z.c, .int .i64 z.m, .int .i64 z.n] := ⟨_, rfl⟩
      have kf := putW_all [.int .i64 z.k, .int .i64 z.c, .int .i64 z.m, .int .i64 z.n] HG4.out rfl
      have bf := putW_below (b := w.heap.size) (by first | omega | simp) [.int .i64 z.k, .int .i64 z.c, .int .i64 z.m, .int .i64 z.n] 0 _ HB4.out
      rw [← hwf] at kf bf
      have cf := hwf.symm
      simp only [putW, Nat.reduceAdd] at cf
      rw [cf]
      clear cf hwf
      have f0 := (cells_of_heap kf 0 (by simp)).1
      have f1 := (cells_of_heap kf 1 (by simp)).1
      have f2 := (cells_of_heap kf 2 (by simp)).1
      have f3 := (cells_of_heap kf 3 (by simp)).1
      simp only [List.getElem_toArray, List.getElem_cons_zero, List.getElem_cons_succ] at f0 f1 f2 f3
      refine bodyPost_ret (v := .tuple #[acv z.k z.c z.m z.n, .bool true]) (by simp [results, Tryd.results15, go_sem, f0, f1, f2, f3]) rfl ⟨by obtain ⟨rfl, rfl⟩ := Prod.mk.inj HP2.out; rfl, bf⟩
    · have HP2 := Lib.hid (show (r, rb) = (⟨0, 0, 0, 0⟩, false) by rw [HP.out, if_neg (fun h => heq h.2)])
      have b0 : (T.toList == s.toList) = false := toList_ne heq
      have b1 : (!(T.toList == s.toList)) = true := by rw [b0]; rfl
      clear heq
      go_wp2
      clear c0 c1 c2 c3 x0 x1 x2 x3 p0 p1 p2 p3 b0 b1
      obtain ⟨wf, hwf⟩ : ∃ x, x = putW (w4) (w.heap.size) 0 [.int .i64 0, .int .i64 0, .int .i64 0, .int .i64 0] := ⟨_, rfl⟩
      have kf := putW_all [.int .i64 0, .int .i64 0, .int .i64 0, .int .i64 0] HG4.out rfl
      have bf := putW_below (b := w.heap.size) (by first | omega | simp) [.int .i64 0, .int .i64 0, .int .i64 0, .int .i64 0] 0 _ HB4.out
      rw [← hwf] at kf bf
      have cf := hwf.symm
      simp only [putW, Nat.reduceAdd] at cf
      rw [cf]
      clear cf hwf
      have f0 := (cells_of_heap kf 0 (by simp)).1
      have f1 := (cells_of_heap kf 1 (by simp)).1
      have f2 := (cells_of_heap kf 2 (by simp)).1
      have f3 := (cells_of_heap kf 3 (by simp)).1
      simp only [List.getElem_toArray, List.getElem_cons_zero, List.getElem_cons_succ] at f0 f1 f2 f3
      refine bodyPost_ret (v := .tuple #[acv 0 0 0 0, .bool false]) (by simp [results, Tryd.results15, go_sem, f0, f1, f2, f3]) rfl ⟨by obtain ⟨rfl, rfl⟩ := Prod.mk.inj HP2.out; rfl, bf⟩

theorem lawCodeName_all (c : Int) (w : World) (ht : TabH w 0 nmTab) : Calls Tryd.prog 3 #[.int .i64 c] w fun e w' => e = .returned (.bool true) ∧ Below w.heap.size w w' :=
  lawCodeName_walk c w fun w' hb => (implCodeName_any c w' (ht.below hb ht.lt)).mono fun e w2 h => ⟨h.1, by rw [← h.2]; exact Below.refl _ _⟩
theorem lawCodeOf_all (s : ByteArray) (w : World) (ht : TabH w 0 nmTab) : Calls Tryd.prog 4 #[.string s] w fun e w' => e = .returned (.bool true) ∧ Below w.heap.size w w' :=
  lawCodeOf_walk s w fun _ w' hb => (implCodeOf_any s w' (ht.below hb ht.lt)).mono fun e w2 h => ⟨h.1, by rw [← h.2]; exact Below.refl _ _⟩
theorem lawFormatAction_all (k c m n : Int) (w : World) (ht : AcTabs w) : Calls Tryd.prog 5 #[acv k c m n] w fun e w' => e = .returned (.bool true) ∧ Below w.heap.size w w' :=
  lawFormatAction_walk k c m n w fun w' hb => implFormatAction_any k c m n w' (ht.below hb)
theorem lawParseAction_all (s : ByteArray) (w : World) (ht : AcTabs w) : Calls Tryd.prog 6 #[.string s] w fun e w' => e = .returned (.bool true) ∧ Below w.heap.size w w' :=
  lawParseAction_walk s w fun hl w' hb => implParseAction_any s w' (ht.below hb) hl

end Go.Proofs.YticpfciebpdkdaaDoor
