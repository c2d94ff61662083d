/- DERIVED. The program's NewDebouncer, called with any numbers: it returns what a plain function says. -/
import Derived.Test.YtdlcpijiekhafaaDebImpl
import Derived.Test.YtdlcpijiekhafaaDebNew
namespace Go.Proofs.Ytdlcpijiekhafaa
open Go.RowKit

set_option maxHeartbeats 2000000 in
set_option maxRecDepth 100000 in
theorem implNewDebouncer_any (k t n : Int) (w : World) : Calls Try.prog 27 #[.int .i64 k, .int .i64 t, .int .i64 n] w (NewDeb k t n w) := by
  obtain ⟨i0, hi, hy0, hy1, hy2⟩ := info_parts info_int
  obtain ⟨W, hW⟩ : ∃ W, W = w.alloc (.cells #[.int .i64 0, .int .i64 0, .int .i64 0, .int .i64 0, .int .i64 0, .slice none 0 0] 26) := ⟨_, rfl⟩
  have HT := Lib.hid (show W.heap[w.heap.size]? = some (.cells #[.int .i64 0, .int .i64 0, .int .i64 0, .int .i64 0, .int .i64 0, .slice none 0 0] 26 (0, 0)) by rw [hW]; exact heap_alloc_new w _)
  have HB0 := Lib.hid (show Below w.heap.size w W by rw [hW]; exact (Below.refl _ _).alloc (Nat.le_refl _) _)
  have HSZ := Lib.hid (show W.heap.size = w.heap.size + 1 by rw [hW]; simp)
  have HW := Lib.hid hW
  clear hW
  by_cases hn : 1 ≤ n ∧ n ≤ 24
  · obtain ⟨n1, n24⟩ := hn
    obtain ⟨N, rfl⟩ := Int.eq_ofNat_of_zero_le (show 0 ≤ n by omega)
    have hN1 : 1 ≤ N := by omega
    have hN24 : N ≤ 24 := by omega
    obtain ⟨ok, hok⟩ : ∃ ok, ok = okNew k t N := ⟨_, rfl⟩
    have hokd : okDeb k t N 0 0 (List.replicate N 99) = ok := by rw [okDeb_new k t N N (fun _ _ => rfl), hok]
    have HOK := Lib.hid hok
    have HOD := Lib.hid hokd
    clear hok hokd
    go_enter Try.func27, Try.ntmps27
    go_wp2_with (at_make; refine wpList_make_full _ rfl _ _ 24 rfl (w.heap.size + 1) 3 i0 (.int .i64 0) 1 Try.underlying24 hi hy0 hy1 .i64 .i64 _ _ N rfl rfl rfl rfl (made_boundI hy2 (by omega)) ?_ ?_ ?_)
    · unfold maxLen; omega
    · simp
    · intro w1 hown hgr
      rw [← HW.out] at hgr
      try rw [← HW.out, HSZ.out] at hown
      have ht1 := (hgr.block w.heap.size (by rw [HSZ.out]; omega) (by simp)).trans HT.out
      have hb1 : Below w.heap.size w w1 := HB0.out.grown hgr (by rw [HSZ.out]; omega) (fun q hq => by cases hq)
      have hsz1 : w.heap.size + 1 < w1.heap.size := by
        rcases hown.2 with ⟨h, _⟩ | ⟨g, cap, cur, h, hg, hh, _⟩
        · simp at h
        · simp at h
          obtain ⟨rfl, _⟩ := h
          exact (Array.getElem?_eq_some_iff.mp hh).1
      obtain ⟨g, hg⟩ : ∃ g, g = w1.heap.size := ⟨_, rfl⟩
      have HG2 := Lib.hid (show (w1.alloc (.cells #[.int .i64 k, .int .i64 t, .int .i64 N, .int .i64 0, .int .i64 0, .slice (some ⟨w.heap.size + 1, 0, none⟩) N N] 26)).heap[g]? = some (.cells #[.int .i64 k, .int .i64 t, .int .i64 N, .int .i64 0, .int .i64 0, .slice (some ⟨w.heap.size + 1, 0, none⟩) N N] 26 (0, 0)) by rw [hg]; exact heap_alloc_new w1 _)
      have HT2 := Lib.hid (show (w1.alloc (.cells #[.int .i64 k, .int .i64 t, .int .i64 N, .int .i64 0, .int .i64 0, .slice (some ⟨w.heap.size + 1, 0, none⟩) N N] 26)).heap[w.heap.size]? = _ from (Below.heap_alloc _ _ _ (by omega)).trans ht1)
      have HB2 := Lib.hid (hb1.alloc (by omega) (.cells #[.int .i64 k, .int .i64 t, .int .i64 N, .int .i64 0, .int .i64 0, .slice (some ⟨w.heap.size + 1, 0, none⟩) N N] 26))
      have HO2 := Lib.hid (owns_below hown ((Below.refl _ _).alloc (Nat.le_refl _) (.cells #[.int .i64 k, .int .i64 t, .int .i64 N, .int .i64 0, .int .i64 0, .slice (some ⟨w.heap.size + 1, 0, none⟩) N N] 26)))
      have HGG := Lib.hid hg
      have HSZ1 := Lib.hid hsz1
      clear hown hgr ht1 hb1
      go_wp2
      rw [← hg]
      clear hg
      obtain ⟨W2, hW2⟩ : ∃ W2, W2 = w1.alloc (.cells #[.int .i64 k, .int .i64 t, .int .i64 N, .int .i64 0, .int .i64 0, .slice (some ⟨w.heap.size + 1, 0, none⟩) N N] 26) := ⟨_, rfl⟩
      rw [← hW2] at HG2 HT2 HB2 HO2 ⊢
      clear hW2
      go_loopw [26] (fun i wr => ∃ (j : Nat) (xs : List Value), j ≤ N ∧ i = .int .i64 j ∧ wr.heap[g]? = some (.cells #[.int .i64 k, .int .i64 t, .int .i64 N, .int .i64 0, .int .i64 0, .slice (some ⟨w.heap.size + 1, 0, none⟩) N N] 26 (0, 0)) ∧
          wr.heap[w.heap.size]? = some (.cells #[.int .i64 0, .int .i64 0, .int .i64 0, .int .i64 0, .int .i64 0, .slice none 0 0] 26 (0, 0)) ∧
          wr.ownsRow (w.heap.size + 1) 3 1 (.slice (some ⟨w.heap.size + 1, 0, none⟩) N N) N xs ∧ (∀ q, q < j → xs[q]? = some (.int .i64 99)) ∧ Below w.heap.size w wr) (fun i _ => N - (intOf i).toNat)
      case atStart => exact ⟨0, _, Nat.zero_le _, rfl, HG2.out, HT2.out, HO2.out, fun q hq => by omega, HB2.out⟩
      case round =>
        obtain ⟨j, xs, hj, rfl, hg, ht, hown, hxs, hb⟩ := hrel
        have hlx : xs.length = N := by simpa using hown.1
        have g5 := (cells_of_heap hg 5 (by simp)).1
        by_cases hlt : j < N
        · obtain ⟨y, hst⟩ : ∃ y, wr.cell? ⟨w.heap.size + 1, j, none⟩ = some y := ⟨xs[j]'(by omega), by rw [hown.cellAt j (by omega), List.getElem?_eq_getElem (show j < xs.length by omega)]⟩
          have hfr := hown.frozenAt j
          have HS1 := Lib.hid (hown.stored j (.int .i64 99)).1
          have HG := Lib.hid hg
          have HT := Lib.hid ht
          have HB := Lib.hid hb
          have HX := Lib.hid hxs
          have HLX := Lib.hid hlx
          clear hg ht hb hxs hown hlx
          go_wp2
          go_roundw
          case rel =>
            refine ⟨j + 1, _, by omega, by go_num, (Below.heap_setCell _ ⟨w.heap.size + 1, j, none⟩ _ g (by have := HGG.out; have := HSZ1.out; simp; omega)).trans HG.out, (Below.heap_setCell _ ⟨w.heap.size + 1, j, none⟩ _ w.heap.size (by simp)).trans HT.out, HS1.out, fun q hq => ?_, HB.out.setCell (by simp) _⟩
            by_cases hqj : q = j
            · subst hqj
              rw [List.getElem?_set]; simp [HLX.out, hlt]
            · rw [List.getElem?_set, if_neg (by omega)]; exact HX.out q (by omega)
          case measure => simp [intOf]; omega
        · obtain rfl : j = N := by omega
          have hxe : xs = (List.replicate j (99 : Int)).map (.int .i64) := by
            apply List.ext_getElem?
            intro q
            by_cases hq : q < j
            · rw [hxs q hq]; simp [hq]
            · rw [List.getElem?_eq_none (by omega), List.getElem?_eq_none (by simp; omega)]
          subst hxe
          have hrd : Rd wr (.slice (some ⟨w.heap.size + 1, 0, none⟩) j j) ((List.replicate j (99 : Int)).map (.int .i64)) := Rd.of_owns hown
          have g0 := (cells_of_heap hg 0 (by simp)).1
          have g1 := (cells_of_heap hg 1 (by simp)).1
          have g2 := (cells_of_heap hg 2 (by simp)).1
          have g3 := (cells_of_heap hg 3 (by simp)).1
          have g4 := (cells_of_heap hg 4 (by simp)).1
          have hgsz : g < wr.heap.size := (Array.getElem?_eq_some_iff.mp hg).1
          have htsz : w.heap.size < wr.heap.size := (Array.getElem?_eq_some_iff.mp ht).1
          have HG := Lib.hid hg
          have HT := Lib.hid ht
          have HO := Lib.hid hown
          have HB := Lib.hid hb
          have HRD := Lib.hid hrd
          clear hg ht hown hb hxs hlx hrd
          go_wp2_with fail
          refine (implIsDebouncer_any k t j 0 0 _ (List.replicate j 99) _ (by unfold maxLen; simp; omega) HRD.out).mono ?_
          rw [HOD.out]
          rintro e w5 ⟨rfl, hb5⟩
          have hg5 := (hb5.block g hgsz).trans HG.out
          have ht5 := (hb5.block w.heap.size htsz).trans HT.out
          have HBB := Lib.hid (HB.out.trans (hb5.mono HB.out.size))
          have HOO := Lib.hid (owns_below HO.out hb5)
          clear g0 g1 g2 g3 g4 g5 hb5
          have g0 := (cells_of_heap hg5 0 (by simp)).1
          have g1 := (cells_of_heap hg5 1 (by simp)).1
          have g2 := (cells_of_heap hg5 2 (by simp)).1
          have g3 := (cells_of_heap hg5 3 (by simp)).1
          have g4 := (cells_of_heap hg5 4 (by simp)).1
          have g5 := (cells_of_heap hg5 5 (by simp)).1
          obtain ⟨t0, q0⟩ := cells_of_heap ht5 0 (by simp)
          obtain ⟨t1, q1⟩ := cells_of_heap ht5 1 (by simp)
          obtain ⟨t2, q2⟩ := cells_of_heap ht5 2 (by simp)
          obtain ⟨t3, q3⟩ := cells_of_heap ht5 3 (by simp)
          obtain ⟨t4, q4⟩ := cells_of_heap ht5 4 (by simp)
          obtain ⟨t5, q5⟩ := cells_of_heap ht5 5 (by simp)
          have HTT := Lib.hid ht5
          clear hg5 ht5
          cases ok
          · go_wp2
            have k1 : (w5.setCell ⟨w.heap.size, 0, none⟩ (.int .i64 0)).heap[w.heap.size]? = some (.cells #[.int .i64 0, .int .i64 0, .int .i64 0, .int .i64 0, .int .i64 0, .slice none 0 0] 26 (0, 0)) := heap_setCell_same _ _ 0 _ _ _ HTT.out
            have k2 : ((w5.setCell ⟨w.heap.size, 0, none⟩ (.int .i64 0)).setCell ⟨w.heap.size, 1, none⟩ (.int .i64 0)).heap[w.heap.size]? = some (.cells #[.int .i64 0, .int .i64 0, .int .i64 0, .int .i64 0, .int .i64 0, .slice none 0 0] 26 (0, 0)) := heap_setCell_same _ _ 1 _ _ _ k1
            have k3 : (((w5.setCell ⟨w.heap.size, 0, none⟩ (.int .i64 0)).setCell ⟨w.heap.size, 1, none⟩ (.int .i64 0)).setCell ⟨w.heap.size, 2, none⟩ (.int .i64 0)).heap[w.heap.size]? = some (.cells #[.int .i64 0, .int .i64 0, .int .i64 0, .int .i64 0, .int .i64 0, .slice none 0 0] 26 (0, 0)) := heap_setCell_same _ _ 2 _ _ _ k2
            have k4 : ((((w5.setCell ⟨w.heap.size, 0, none⟩ (.int .i64 0)).setCell ⟨w.heap.size, 1, none⟩ (.int .i64 0)).setCell ⟨w.heap.size, 2, none⟩ (.int .i64 0)).setCell ⟨w.heap.size, 3, none⟩ (.int .i64 0)).heap[w.heap.size]? = some (.cells #[.int .i64 0, .int .i64 0, .int .i64 0, .int .i64 0, .int .i64 0, .slice none 0 0] 26 (0, 0)) := heap_setCell_same _ _ 3 _ _ _ k3
            have k5 : (((((w5.setCell ⟨w.heap.size, 0, none⟩ (.int .i64 0)).setCell ⟨w.heap.size, 1, none⟩ (.int .i64 0)).setCell ⟨w.heap.size, 2, none⟩ (.int .i64 0)).setCell ⟨w.heap.size, 3, none⟩ (.int .i64 0)).setCell ⟨w.heap.size, 4, none⟩ (.int .i64 0)).heap[w.heap.size]? = some (.cells #[.int .i64 0, .int .i64 0, .int .i64 0, .int .i64 0, .int .i64 0, .slice none 0 0] 26 (0, 0)) := heap_setCell_same _ _ 4 _ _ _ k4
            have k6 : ((((((w5.setCell ⟨w.heap.size, 0, none⟩ (.int .i64 0)).setCell ⟨w.heap.size, 1, none⟩ (.int .i64 0)).setCell ⟨w.heap.size, 2, none⟩ (.int .i64 0)).setCell ⟨w.heap.size, 3, none⟩ (.int .i64 0)).setCell ⟨w.heap.size, 4, none⟩ (.int .i64 0)).setCell ⟨w.heap.size, 5, none⟩ (.slice none 0 0)).heap[w.heap.size]? = some (.cells #[.int .i64 0, .int .i64 0, .int .i64 0, .int .i64 0, .int .i64 0, .slice none 0 0] 26 (0, 0)) := heap_setCell_same _ _ 5 _ _ _ k5
            have bf : Below w.heap.size w ((((((w5.setCell ⟨w.heap.size, 0, none⟩ (.int .i64 0)).setCell ⟨w.heap.size, 1, none⟩ (.int .i64 0)).setCell ⟨w.heap.size, 2, none⟩ (.int .i64 0)).setCell ⟨w.heap.size, 3, none⟩ (.int .i64 0)).setCell ⟨w.heap.size, 4, none⟩ (.int .i64 0)).setCell ⟨w.heap.size, 5, none⟩ (.slice none 0 0)) := ((((((HBB.out).setCell (by simp) _).setCell (by simp) _).setCell (by simp) _).setCell (by simp) _).setCell (by simp) _).setCell (by simp) _
            obtain ⟨wf, hwf⟩ : ∃ wf, wf = ((((((w5.setCell ⟨w.heap.size, 0, none⟩ (.int .i64 0)).setCell ⟨w.heap.size, 1, none⟩ (.int .i64 0)).setCell ⟨w.heap.size, 2, none⟩ (.int .i64 0)).setCell ⟨w.heap.size, 3, none⟩ (.int .i64 0)).setCell ⟨w.heap.size, 4, none⟩ (.int .i64 0)).setCell ⟨w.heap.size, 5, none⟩ (.slice none 0 0)) := ⟨_, rfl⟩
            rw [← hwf] at k6 bf ⊢
            clear hwf k1 k2 k3 k4 k5
            have f0 := (cells_of_heap k6 0 (by simp)).1
            have f1 := (cells_of_heap k6 1 (by simp)).1
            have f2 := (cells_of_heap k6 2 (by simp)).1
            have f3 := (cells_of_heap k6 3 (by simp)).1
            have f4 := (cells_of_heap k6 4 (by simp)).1
            have f5 := (cells_of_heap k6 5 (by simp)).1
            clear t0 t1 t2 t3 t4 t5 q0 q1 q2 q3 q4 q5 g0 g1 g2 g3 g4 g5
            refine bodyPost_ret (v := .tuple #[zeroDb, .bool false]) (by simp [results, Try.results27, go_sem, f0, f1, f2, f3, f4, f5]) rfl ?_
            have hfin : NewDeb k t j w (.returned (.tuple #[zeroDb, .bool false])) wf := by rw [NewDeb, ← HOK.out, if_neg (by simp)]; exact ⟨rfl, bf⟩
            exact hfin
          · go_wp2
            have HSZ : Hid (w.heap.size < w.heap.size + 1) := Lib.hid (by omega)
            have k1 : (w5.setCell ⟨w.heap.size, 0, none⟩ (.int .i64 k)).heap[w.heap.size]? = some (.cells #[.int .i64 k, .int .i64 0, .int .i64 0, .int .i64 0, .int .i64 0, .slice none 0 0] 26 (0, 0)) := heap_setCell_same _ _ 0 _ _ _ HTT.out
            have k2 : ((w5.setCell ⟨w.heap.size, 0, none⟩ (.int .i64 k)).setCell ⟨w.heap.size, 1, none⟩ (.int .i64 t)).heap[w.heap.size]? = some (.cells #[.int .i64 k, .int .i64 t, .int .i64 0, .int .i64 0, .int .i64 0, .slice none 0 0] 26 (0, 0)) := heap_setCell_same _ _ 1 _ _ _ k1
            have k3 : (((w5.setCell ⟨w.heap.size, 0, none⟩ (.int .i64 k)).setCell ⟨w.heap.size, 1, none⟩ (.int .i64 t)).setCell ⟨w.heap.size, 2, none⟩ (.int .i64 j)).heap[w.heap.size]? = some (.cells #[.int .i64 k, .int .i64 t, .int .i64 j, .int .i64 0, .int .i64 0, .slice none 0 0] 26 (0, 0)) := heap_setCell_same _ _ 2 _ _ _ k2
            have k4 : ((((w5.setCell ⟨w.heap.size, 0, none⟩ (.int .i64 k)).setCell ⟨w.heap.size, 1, none⟩ (.int .i64 t)).setCell ⟨w.heap.size, 2, none⟩ (.int .i64 j)).setCell ⟨w.heap.size, 3, none⟩ (.int .i64 0)).heap[w.heap.size]? = some (.cells #[.int .i64 k, .int .i64 t, .int .i64 j, .int .i64 0, .int .i64 0, .slice none 0 0] 26 (0, 0)) := heap_setCell_same _ _ 3 _ _ _ k3
            have k5 : (((((w5.setCell ⟨w.heap.size, 0, none⟩ (.int .i64 k)).setCell ⟨w.heap.size, 1, none⟩ (.int .i64 t)).setCell ⟨w.heap.size, 2, none⟩ (.int .i64 j)).setCell ⟨w.heap.size, 3, none⟩ (.int .i64 0)).setCell ⟨w.heap.size, 4, none⟩ (.int .i64 0)).heap[w.heap.size]? = some (.cells #[.int .i64 k, .int .i64 t, .int .i64 j, .int .i64 0, .int .i64 0, .slice none 0 0] 26 (0, 0)) := heap_setCell_same _ _ 4 _ _ _ k4
            have k6 : ((((((w5.setCell ⟨w.heap.size, 0, none⟩ (.int .i64 k)).setCell ⟨w.heap.size, 1, none⟩ (.int .i64 t)).setCell ⟨w.heap.size, 2, none⟩ (.int .i64 j)).setCell ⟨w.heap.size, 3, none⟩ (.int .i64 0)).setCell ⟨w.heap.size, 4, none⟩ (.int .i64 0)).setCell ⟨w.heap.size, 5, none⟩ (.slice (some ⟨w.heap.size + 1, 0, none⟩) j j)).heap[w.heap.size]? = some (.cells #[.int .i64 k, .int .i64 t, .int .i64 j, .int .i64 0, .int .i64 0, .slice (some ⟨w.heap.size + 1, 0, none⟩) j j] 26 (0, 0)) := heap_setCell_same _ _ 5 _ _ _ k5
            have bf : Below w.heap.size w ((((((w5.setCell ⟨w.heap.size, 0, none⟩ (.int .i64 k)).setCell ⟨w.heap.size, 1, none⟩ (.int .i64 t)).setCell ⟨w.heap.size, 2, none⟩ (.int .i64 j)).setCell ⟨w.heap.size, 3, none⟩ (.int .i64 0)).setCell ⟨w.heap.size, 4, none⟩ (.int .i64 0)).setCell ⟨w.heap.size, 5, none⟩ (.slice (some ⟨w.heap.size + 1, 0, none⟩) j j)) := ((((((HBB.out).setCell (by simp) _).setCell (by simp) _).setCell (by simp) _).setCell (by simp) _).setCell (by simp) _).setCell (by simp) _
            have of := ownsRow_setCell_below (a := ⟨w.heap.size, 5, none⟩) (ownsRow_setCell_below (a := ⟨w.heap.size, 4, none⟩) (ownsRow_setCell_below (a := ⟨w.heap.size, 3, none⟩) (ownsRow_setCell_below (a := ⟨w.heap.size, 2, none⟩) (ownsRow_setCell_below (a := ⟨w.heap.size, 1, none⟩) (ownsRow_setCell_below (a := ⟨w.heap.size, 0, none⟩) (HOO.out) (by have := HSZ.out; simp <;> omega) (.int .i64 k)) (by have := HSZ.out; simp <;> omega) (.int .i64 t)) (by have := HSZ.out; simp <;> omega) (.int .i64 j)) (by have := HSZ.out; simp <;> omega) (.int .i64 0)) (by have := HSZ.out; simp <;> omega) (.int .i64 0)) (by have := HSZ.out; simp <;> omega) (.slice (some ⟨w.heap.size + 1, 0, none⟩) j j)
            obtain ⟨wf, hwf⟩ : ∃ wf, wf = ((((((w5.setCell ⟨w.heap.size, 0, none⟩ (.int .i64 k)).setCell ⟨w.heap.size, 1, none⟩ (.int .i64 t)).setCell ⟨w.heap.size, 2, none⟩ (.int .i64 j)).setCell ⟨w.heap.size, 3, none⟩ (.int .i64 0)).setCell ⟨w.heap.size, 4, none⟩ (.int .i64 0)).setCell ⟨w.heap.size, 5, none⟩ (.slice (some ⟨w.heap.size + 1, 0, none⟩) j j)) := ⟨_, rfl⟩
            rw [← hwf] at k6 bf of ⊢
            clear hwf k1 k2 k3 k4 k5
            have f0 := (cells_of_heap k6 0 (by simp)).1
            have f1 := (cells_of_heap k6 1 (by simp)).1
            have f2 := (cells_of_heap k6 2 (by simp)).1
            have f3 := (cells_of_heap k6 3 (by simp)).1
            have f4 := (cells_of_heap k6 4 (by simp)).1
            have f5 := (cells_of_heap k6 5 (by simp)).1
            clear t0 t1 t2 t3 t4 t5 q0 q1 q2 q3 q4 q5 g0 g1 g2 g3 g4 g5
            refine bodyPost_ret (v := .tuple #[dbv k t j 0 0 (.slice (some ⟨w.heap.size + 1, 0, none⟩) j j), .bool true]) (by simp [results, Try.results27, go_sem, f0, f1, f2, f3, f4, f5]) rfl ?_
            have hfin : NewDeb k t j w (.returned (.tuple #[dbv k t j 0 0 (.slice (some ⟨w.heap.size + 1, 0, none⟩) j j), .bool true])) wf := by
              rw [NewDeb, ← HOK.out, if_pos rfl]
              exact ⟨_, rfl, by simpa using owns_base of (show w.heap.size ≤ w.heap.size + 1 by omega), bf⟩
            exact hfin
  · have hno : okNew k t n = false := by
      unfold okNew
      rw [show inB n 1 24 = false from decide_eq_false hn, Bool.and_false]
    have HNO := Lib.hid hno
    obtain ⟨t0, q0⟩ := cells_of_heap HT.out 0 (by simp)
    obtain ⟨t1, q1⟩ := cells_of_heap HT.out 1 (by simp)
    obtain ⟨t2, q2⟩ := cells_of_heap HT.out 2 (by simp)
    obtain ⟨t3, q3⟩ := cells_of_heap HT.out 3 (by simp)
    obtain ⟨t4, q4⟩ := cells_of_heap HT.out 4 (by simp)
    obtain ⟨t5, q5⟩ := cells_of_heap HT.out 5 (by simp)
    clear hno
    by_cases n1 : 1 ≤ n
    · have n24 : 24 < n := by omega
      clear hn
      go_enter Try.func27, Try.ntmps27
      go_wp2
      refine bodyPost_ret (v := .tuple #[zeroDb, .bool false]) (by simp [results, Try.results27, go_sem]) rfl ?_
      rw [← HW.out]
      have hfin : NewDeb k t n w (.returned (.tuple #[zeroDb, .bool false])) W := by rw [NewDeb, HNO.out, if_neg (by simp)]; exact ⟨rfl, HB0.out⟩
      exact hfin
    · clear hn
      go_enter Try.func27, Try.ntmps27
      go_wp2
      refine bodyPost_ret (v := .tuple #[zeroDb, .bool false]) (by simp [results, Try.results27, go_sem]) rfl ?_
      rw [← HW.out]
      have hfin : NewDeb k t n w (.returned (.tuple #[zeroDb, .bool false])) W := by rw [NewDeb, HNO.out, if_neg (by simp)]; exact ⟨rfl, HB0.out⟩
      exact hfin

end Go.Proofs.Ytdlcpijiekhafaa
