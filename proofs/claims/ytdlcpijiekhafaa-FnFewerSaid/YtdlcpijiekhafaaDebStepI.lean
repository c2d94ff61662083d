/- DERIVED. The program's DebounceStep, called with any debouncer and any samples: it returns what a plain function says. -/
import Derived.Test.YtdlcpijiekhafaaDebMach
namespace Go.Proofs.Ytdlcpijiekhafaa
open Go.RowKit

theorem ageTo_in {k t : Int} {raw last shown : Nat} {a : Int} {j : Nat} (h0 : 0 ≤ a) : 0 ≤ ageTo k t raw last shown a j ∧ ageTo k t raw last shown a j ≤ 99 := by
  have h : 0 ≤ aged k raw last a j ∧ aged k raw last a j ≤ 99 := by unfold aged; split <;> omega
  unfold ageTo
  split <;> omega
set_option maxHeartbeats 4000000 in
set_option maxRecDepth 100000 in
theorem implDebounceStep_any (k t n s l : Int) (u : Value) (zs : List Int) (raw : Int) (w : World) (hl : zs.length ≤ maxLen) (h : Rd w u (zs.map (.int .i64))) :
    Calls Try.prog 17 #[dbv k t n s l u, .int .i64 raw] w (StepDeb k t n s l zs raw w) := by
  obtain ⟨i0, hi, hy0, hy1, hy2⟩ := info_parts info_int
  obtain ⟨a0, cap0, rfl⟩ : ∃ a cap, u = .slice a zs.length cap := by obtain ⟨a, cap, hu, _⟩ := h; exact ⟨a, cap, by simpa using hu⟩
  obtain ⟨W, hW⟩ : ∃ W, W = (w.alloc (.cells #[.int .i64 k, .int .i64 t, .int .i64 n, .int .i64 s, .int .i64 l, .slice a0 zs.length cap0] 26)).alloc (.cells #[.int .i64 0, .int .i64 0, .int .i64 0, .int .i64 0, .int .i64 0, .slice none 0 0] 26) := ⟨_, rfl⟩
  have HT := Lib.hid (show W.heap[w.heap.size + 1]? = some (.cells #[.int .i64 0, .int .i64 0, .int .i64 0, .int .i64 0, .int .i64 0, .slice none 0 0] 26 (0, 0)) by rw [hW]; simpa using heap_alloc_new (w.alloc (.cells #[.int .i64 k, .int .i64 t, .int .i64 n, .int .i64 s, .int .i64 l, .slice a0 zs.length cap0] 26)) _)
  have HX := Lib.hid (show W.heap[w.heap.size]? = some (.cells #[.int .i64 k, .int .i64 t, .int .i64 n, .int .i64 s, .int .i64 l, .slice a0 zs.length cap0] 26 (0, 0)) by
    rw [hW, Below.heap_alloc _ _ _ (by simp)]; exact heap_alloc_new w _)
  have HB0 := Lib.hid (show Below w.heap.size w W by rw [hW]; exact ((Below.refl _ _).alloc (Nat.le_refl _) _).alloc (by simp) _)
  have HSZ := Lib.hid (show W.heap.size = w.heap.size + 1 + 1 by rw [hW]; simp)
  have HR := Lib.hid (h.below HB0.out)
  have HW := Lib.hid hW
  have HRW := Lib.hid h
  clear hW h
  obtain ⟨ok, hok⟩ : ∃ ok, ok = okDeb k t n s l zs := ⟨_, rfl⟩
  cases ok
  · have hns : okStep k t n s l zs raw = false := by rw [okStep, ← hok]; rfl
    have HO := Lib.hid hok
    have HNS := Lib.hid hns
    clear hok hns
    go_enter Try.func17, Try.ntmps17
    go_wp2_with fail
    rw [← HW.out]
    refine (implIsDebouncer_any k t n s l _ zs _ hl HR.out).mono ?_
    rw [← HO.out]
    rintro e w1 ⟨rfl, hb⟩
    have ht1 := (hb.block (w.heap.size + 1) (by rw [HSZ.out]; omega)).trans HT.out
    have hbb := HB0.out.trans (hb.mono HB0.out.size)
    clear hb
    obtain ⟨t0, q0⟩ := cells_of_heap ht1 0 (by simp)
    obtain ⟨t1, q1⟩ := cells_of_heap ht1 1 (by simp)
    obtain ⟨t2, q2⟩ := cells_of_heap ht1 2 (by simp)
    obtain ⟨t3, q3⟩ := cells_of_heap ht1 3 (by simp)
    obtain ⟨t4, q4⟩ := cells_of_heap ht1 4 (by simp)
    obtain ⟨t5, q5⟩ := cells_of_heap ht1 5 (by simp)
    have HTT := Lib.hid ht1
    have HBB := Lib.hid hbb
    clear ht1 hbb
    go_wp2
    have k1 : (w1.setCell ⟨w.heap.size + 1, 0, none⟩ (.int .i64 0)).heap[w.heap.size + 1]? = some (.cells #[.int .i64 0, .int .i64 0, .int .i64 0, .int .i64 0, .int .i64 0, .slice none 0 0] 26 (0, 0)) := heap_setCell_same _ _ 0 _ _ _ HTT.out
    have k2 : ((w1.setCell ⟨w.heap.size + 1, 0, none⟩ (.int .i64 0)).setCell ⟨w.heap.size + 1, 1, none⟩ (.int .i64 0)).heap[w.heap.size + 1]? = some (.cells #[.int .i64 0, .int .i64 0, .int .i64 0, .int .i64 0, .int .i64 0, .slice none 0 0] 26 (0, 0)) := heap_setCell_same _ _ 1 _ _ _ k1
    have k3 : (((w1.setCell ⟨w.heap.size + 1, 0, none⟩ (.int .i64 0)).setCell ⟨w.heap.size + 1, 1, none⟩ (.int .i64 0)).setCell ⟨w.heap.size + 1, 2, none⟩ (.int .i64 0)).heap[w.heap.size + 1]? = some (.cells #[.int .i64 0, .int .i64 0, .int .i64 0, .int .i64 0, .int .i64 0, .slice none 0 0] 26 (0, 0)) := heap_setCell_same _ _ 2 _ _ _ k2
    have k4 : ((((w1.setCell ⟨w.heap.size + 1, 0, none⟩ (.int .i64 0)).setCell ⟨w.heap.size + 1, 1, none⟩ (.int .i64 0)).setCell ⟨w.heap.size + 1, 2, none⟩ (.int .i64 0)).setCell ⟨w.heap.size + 1, 3, none⟩ (.int .i64 0)).heap[w.heap.size + 1]? = some (.cells #[.int .i64 0, .int .i64 0, .int .i64 0, .int .i64 0, .int .i64 0, .slice none 0 0] 26 (0, 0)) := heap_setCell_same _ _ 3 _ _ _ k3
    have k5 : (((((w1.setCell ⟨w.heap.size + 1, 0, none⟩ (.int .i64 0)).setCell ⟨w.heap.size + 1, 1, none⟩ (.int .i64 0)).setCell ⟨w.heap.size + 1, 2, none⟩ (.int .i64 0)).setCell ⟨w.heap.size + 1, 3, none⟩ (.int .i64 0)).setCell ⟨w.heap.size + 1, 4, none⟩ (.int .i64 0)).heap[w.heap.size + 1]? = some (.cells #[.int .i64 0, .int .i64 0, .int .i64 0, .int .i64 0, .int .i64 0, .slice none 0 0] 26 (0, 0)) := heap_setCell_same _ _ 4 _ _ _ k4
    have k6 : ((((((w1.setCell ⟨w.heap.size + 1, 0, none⟩ (.int .i64 0)).setCell ⟨w.heap.size + 1, 1, none⟩ (.int .i64 0)).setCell ⟨w.heap.size + 1, 2, none⟩ (.int .i64 0)).setCell ⟨w.heap.size + 1, 3, none⟩ (.int .i64 0)).setCell ⟨w.heap.size + 1, 4, none⟩ (.int .i64 0)).setCell ⟨w.heap.size + 1, 5, none⟩ (.slice none 0 0)).heap[w.heap.size + 1]? = some (.cells #[.int .i64 0, .int .i64 0, .int .i64 0, .int .i64 0, .int .i64 0, .slice none 0 0] 26 (0, 0)) := heap_setCell_same _ _ 5 _ _ _ k5
    have bf : Below w.heap.size w ((((((w1.setCell ⟨w.heap.size + 1, 0, none⟩ (.int .i64 0)).setCell ⟨w.heap.size + 1, 1, none⟩ (.int .i64 0)).setCell ⟨w.heap.size + 1, 2, none⟩ (.int .i64 0)).setCell ⟨w.heap.size + 1, 3, none⟩ (.int .i64 0)).setCell ⟨w.heap.size + 1, 4, none⟩ (.int .i64 0)).setCell ⟨w.heap.size + 1, 5, none⟩ (.slice none 0 0)) := ((((((HBB.out).setCell (by simp) _).setCell (by simp) _).setCell (by simp) _).setCell (by simp) _).setCell (by simp) _).setCell (by simp) _
    obtain ⟨wf, hwf⟩ : ∃ wf, wf = ((((((w1.setCell ⟨w.heap.size + 1, 0, none⟩ (.int .i64 0)).setCell ⟨w.heap.size + 1, 1, none⟩ (.int .i64 0)).setCell ⟨w.heap.size + 1, 2, none⟩ (.int .i64 0)).setCell ⟨w.heap.size + 1, 3, none⟩ (.int .i64 0)).setCell ⟨w.heap.size + 1, 4, none⟩ (.int .i64 0)).setCell ⟨w.heap.size + 1, 5, none⟩ (.slice none 0 0)) := ⟨_, rfl⟩
    rw [← hwf] at k6 bf ⊢
    clear hwf k1 k2 k3 k4 k5
    have f0 := (cells_of_heap k6 0 (by simp)).1
    have f1 := (cells_of_heap k6 1 (by simp)).1
    have f2 := (cells_of_heap k6 2 (by simp)).1
    have f3 := (cells_of_heap k6 3 (by simp)).1
    have f4 := (cells_of_heap k6 4 (by simp)).1
    have f5 := (cells_of_heap k6 5 (by simp)).1
    clear t0 t1 t2 t3 t4 t5 q0 q1 q2 q3 q4 q5
    refine bodyPost_ret (v := .tuple #[zeroDb, .bool false]) (by simp [results, Try.results17, go_sem, f0, f1, f2, f3, f4, f5]) rfl ?_
    have hfin : StepDeb k t n s l zs raw w (.returned (.tuple #[zeroDb, .bool false])) wf := by rw [StepDeb, HNS.out, if_neg (by simp)]; exact ⟨rfl, bf⟩
    exact hfin
  · obtain ⟨N, S, L, rfl, rfl, rfl, hk0, hk2, ht1, ht20, hN1, hN24, hlen, hS, hL, hages⟩ := okDeb_nat hok.symm
    obtain rfl : N = zs.length := hlen.symm
    clear hlen
    have hpw := wrap64_pow62 (k := zs.length) (by omega)
    have hpi := pow_nat zs.length
    have hp62 := pow62 (k := zs.length) (by omega)
    obtain ⟨p, hpd⟩ : ∃ p, p = 2 ^ zs.length := ⟨_, rfl⟩
    rw [← hpd] at hpw hpi hp62
    obtain ⟨rb, hrb⟩ : ∃ rb, rb = inB raw 0 ((p : Int) - 1) := ⟨_, rfl⟩
    have hst : okStep k t zs.length S L zs raw = rb := by rw [okStep, ← hok, hrb]; simp [hpi]
    have HO := Lib.hid hok
    have HST := Lib.hid hst
    have HRB := Lib.hid hrb
    have HPD := Lib.hid hpd
    have HS := Lib.hid hS
    have HL := Lib.hid hL
    have HA := Lib.hid hages
    have HPI := Lib.hid hpi
    clear hok hst hrb hpd hS hL hages hpi
    cases rb
    · have HNS := HST
      go_enter Try.func17, Try.ntmps17
      go_wp2_with fail
      rw [← HW.out]
      refine (implIsDebouncer_any k t zs.length S L _ zs _ hl HR.out).mono ?_
      rw [← HO.out]
      rintro e w1 ⟨rfl, hb⟩
      have ht1 := (hb.block (w.heap.size + 1) (by rw [HSZ.out]; omega)).trans HT.out
      have hbb := HB0.out.trans (hb.mono HB0.out.size)
      have hx1 := (hb.block w.heap.size (by rw [HSZ.out]; omega)).trans HX.out
      have x0 := (cells_of_heap hx1 0 (by simp)).1
      have x1 := (cells_of_heap hx1 1 (by simp)).1
      have x2 := (cells_of_heap hx1 2 (by simp)).1
      have x3 := (cells_of_heap hx1 3 (by simp)).1
      have x4 := (cells_of_heap hx1 4 (by simp)).1
      have x5 := (cells_of_heap hx1 5 (by simp)).1
      clear hx1
      clear hb
      obtain ⟨t0, q0⟩ := cells_of_heap ht1 0 (by simp)
      obtain ⟨t1, q1⟩ := cells_of_heap ht1 1 (by simp)
      obtain ⟨t2, q2⟩ := cells_of_heap ht1 2 (by simp)
      obtain ⟨t3, q3⟩ := cells_of_heap ht1 3 (by simp)
      obtain ⟨t4, q4⟩ := cells_of_heap ht1 4 (by simp)
      obtain ⟨t5, q5⟩ := cells_of_heap ht1 5 (by simp)
      have HTT := Lib.hid ht1
      have HBB := Lib.hid hbb
      clear ht1 hbb
      go_wp2_with fail
      refine (isMaskOf_any zs.length raw _ hN24).mono ?_
      rw [HPI.out, ← HRB.out]
      rintro e w0 ⟨rfl, rfl⟩
      go_wp2
      have k1 : (w1.setCell ⟨w.heap.size + 1, 0, none⟩ (.int .i64 0)).heap[w.heap.size + 1]? = some (.cells #[.int .i64 0, .int .i64 0, .int .i64 0, .int .i64 0, .int .i64 0, .slice none 0 0] 26 (0, 0)) := heap_setCell_same _ _ 0 _ _ _ HTT.out
      have k2 : ((w1.setCell ⟨w.heap.size + 1, 0, none⟩ (.int .i64 0)).setCell ⟨w.heap.size + 1, 1, none⟩ (.int .i64 0)).heap[w.heap.size + 1]? = some (.cells #[.int .i64 0, .int .i64 0, .int .i64 0, .int .i64 0, .int .i64 0, .slice none 0 0] 26 (0, 0)) := heap_setCell_same _ _ 1 _ _ _ k1
      have k3 : (((w1.setCell ⟨w.heap.size + 1, 0, none⟩ (.int .i64 0)).setCell ⟨w.heap.size + 1, 1, none⟩ (.int .i64 0)).setCell ⟨w.heap.size + 1, 2, none⟩ (.int .i64 0)).heap[w.heap.size + 1]? = some (.cells #[.int .i64 0, .int .i64 0, .int .i64 0, .int .i64 0, .int .i64 0, .slice none 0 0] 26 (0, 0)) := heap_setCell_same _ _ 2 _ _ _ k2
      have k4 : ((((w1.setCell ⟨w.heap.size + 1, 0, none⟩ (.int .i64 0)).setCell ⟨w.heap.size + 1, 1, none⟩ (.int .i64 0)).setCell ⟨w.heap.size + 1, 2, none⟩ (.int .i64 0)).setCell ⟨w.heap.size + 1, 3, none⟩ (.int .i64 0)).heap[w.heap.size + 1]? = some (.cells #[.int .i64 0, .int .i64 0, .int .i64 0, .int .i64 0, .int .i64 0, .slice none 0 0] 26 (0, 0)) := heap_setCell_same _ _ 3 _ _ _ k3
      have k5 : (((((w1.setCell ⟨w.heap.size + 1, 0, none⟩ (.int .i64 0)).setCell ⟨w.heap.size + 1, 1, none⟩ (.int .i64 0)).setCell ⟨w.heap.size + 1, 2, none⟩ (.int .i64 0)).setCell ⟨w.heap.size + 1, 3, none⟩ (.int .i64 0)).setCell ⟨w.heap.size + 1, 4, none⟩ (.int .i64 0)).heap[w.heap.size + 1]? = some (.cells #[.int .i64 0, .int .i64 0, .int .i64 0, .int .i64 0, .int .i64 0, .slice none 0 0] 26 (0, 0)) := heap_setCell_same _ _ 4 _ _ _ k4
      have k6 : ((((((w1.setCell ⟨w.heap.size + 1, 0, none⟩ (.int .i64 0)).setCell ⟨w.heap.size + 1, 1, none⟩ (.int .i64 0)).setCell ⟨w.heap.size + 1, 2, none⟩ (.int .i64 0)).setCell ⟨w.heap.size + 1, 3, none⟩ (.int .i64 0)).setCell ⟨w.heap.size + 1, 4, none⟩ (.int .i64 0)).setCell ⟨w.heap.size + 1, 5, none⟩ (.slice none 0 0)).heap[w.heap.size + 1]? = some (.cells #[.int .i64 0, .int .i64 0, .int .i64 0, .int .i64 0, .int .i64 0, .slice none 0 0] 26 (0, 0)) := heap_setCell_same _ _ 5 _ _ _ k5
      have bf : Below w.heap.size w ((((((w1.setCell ⟨w.heap.size + 1, 0, none⟩ (.int .i64 0)).setCell ⟨w.heap.size + 1, 1, none⟩ (.int .i64 0)).setCell ⟨w.heap.size + 1, 2, none⟩ (.int .i64 0)).setCell ⟨w.heap.size + 1, 3, none⟩ (.int .i64 0)).setCell ⟨w.heap.size + 1, 4, none⟩ (.int .i64 0)).setCell ⟨w.heap.size + 1, 5, none⟩ (.slice none 0 0)) := ((((((HBB.out).setCell (by simp) _).setCell (by simp) _).setCell (by simp) _).setCell (by simp) _).setCell (by simp) _).setCell (by simp) _
      obtain ⟨wf, hwf⟩ : ∃ wf, wf = ((((((w1.setCell ⟨w.heap.size + 1, 0, none⟩ (.int .i64 0)).setCell ⟨w.heap.size + 1, 1, none⟩ (.int .i64 0)).setCell ⟨w.heap.size + 1, 2, none⟩ (.int .i64 0)).setCell ⟨w.heap.size + 1, 3, none⟩ (.int .i64 0)).setCell ⟨w.heap.size + 1, 4, none⟩ (.int .i64 0)).setCell ⟨w.heap.size + 1, 5, none⟩ (.slice none 0 0)) := ⟨_, rfl⟩
      rw [← hwf] at k6 bf ⊢
      clear hwf k1 k2 k3 k4 k5
      have f0 := (cells_of_heap k6 0 (by simp)).1
      have f1 := (cells_of_heap k6 1 (by simp)).1
      have f2 := (cells_of_heap k6 2 (by simp)).1
      have f3 := (cells_of_heap k6 3 (by simp)).1
      have f4 := (cells_of_heap k6 4 (by simp)).1
      have f5 := (cells_of_heap k6 5 (by simp)).1
      clear t0 t1 t2 t3 t4 t5 q0 q1 q2 q3 q4 q5
      refine bodyPost_ret (v := .tuple #[zeroDb, .bool false]) (by simp [results, Try.results17, go_sem, f0, f1, f2, f3, f4, f5]) rfl ?_
      have hfin : StepDeb k t zs.length S L zs raw w (.returned (.tuple #[zeroDb, .bool false])) wf := by rw [StepDeb, HNS.out, if_neg (by simp)]; exact ⟨rfl, bf⟩
      exact hfin
    · have hrw := of_decide_eq_true (show decide (0 ≤ raw ∧ raw ≤ (p : Int) - 1) = true from HRB.out.symm)
      obtain ⟨Q, rfl⟩ := Int.eq_ofNat_of_zero_le hrw.1
      have HQ := Lib.hid (show Q < 2 ^ zs.length by have := HPD.out; omega)
      have hp24 : 2 ^ zs.length ≤ 2 ^ 24 := Nat.pow_le_pow_right (by decide) hN24
      have HS24 : Hid (S < 2 ^ 24) := Lib.hid (Nat.lt_of_lt_of_le HS.out hp24)
      have HL24 : Hid (L < 2 ^ 24) := Lib.hid (Nat.lt_of_lt_of_le HL.out hp24)
      have HQ24 : Hid (Q < 2 ^ 24) := Lib.hid (Nat.lt_of_lt_of_le HQ.out hp24)
      clear hrw hp24
      go_enter Try.func17, Try.ntmps17
      go_wp2_with fail
      rw [← HW.out]
      refine (implIsDebouncer_any k t zs.length S L _ zs _ hl HR.out).mono ?_
      rw [← HO.out]
      rintro e w1 ⟨rfl, hb⟩
      have hx1 := (hb.block w.heap.size (by rw [HSZ.out]; omega)).trans HX.out
      have htt1 := (hb.block (w.heap.size + 1) (by rw [HSZ.out]; omega)).trans HT.out
      have hb1 := HB0.out.trans (hb.mono HB0.out.size)
      have hsz1 : w.heap.size + 1 + 1 ≤ w1.heap.size := by have := hb.size; have := HSZ.out; omega
      have x0 := (cells_of_heap hx1 0 (by simp)).1
      have x1 := (cells_of_heap hx1 1 (by simp)).1
      have x2 := (cells_of_heap hx1 2 (by simp)).1
      have x3 := (cells_of_heap hx1 3 (by simp)).1
      have x4 := (cells_of_heap hx1 4 (by simp)).1
      have x5 := (cells_of_heap hx1 5 (by simp)).1
      have HX1 := Lib.hid hx1
      have HT1 := Lib.hid htt1
      have HB1 := Lib.hid hb1
      clear hb hx1 htt1 hb1
      go_wp2_with fail
      refine (isMaskOf_any zs.length Q _ hN24).mono ?_
      rw [HPI.out, ← HRB.out]
      rintro e w0 ⟨rfl, rfl⟩
      go_wp2_with fail
      refine (keyMachine_any k t zs.length S L (.slice a0 zs.length cap0) zs Q w1 (HRW.out.below HB1.out) hk0 hk2 hN24 HA.out HS24.out HL24.out HQ24.out).mono ?_
      rintro e w2 ⟨v, rfl, ⟨F, caps, rfl, hF, hmach⟩, hb⟩
      have HF := Lib.hid hF
      clear hF
      have hx2 := (hb.block w.heap.size (by omega)).trans HX1.out
      have ht2 := (hb.block (w.heap.size + 1) (by omega)).trans HT1.out
      have hb2 := HB1.out.trans (hb.mono HB1.out.size)
      have hsz2 : w.heap.size + 1 + 1 ≤ w2.heap.size := Nat.le_trans hsz1 hb.size
      clear x0 x1 x2 x3 x4 x5
      have x0 := (cells_of_heap hx2 0 (by simp)).1
      have x1 := (cells_of_heap hx2 1 (by simp)).1
      have x2 := (cells_of_heap hx2 2 (by simp)).1
      have x3 := (cells_of_heap hx2 3 (by simp)).1
      have x4 := (cells_of_heap hx2 4 (by simp)).1
      have x5 := (cells_of_heap hx2 5 (by simp)).1
      have y2 : (w2.alloc (.cells #[.int .i64 k, .int .i64 t, .int .i64 zs.length, .int .i64 S, .int .i64 Q, .slice a0 zs.length cap0] 26)).cell? ⟨w.heap.size, 2, none⟩ = some (.int .i64 zs.length) :=
        (((Below.refl w2.heap.size w2).alloc (Nat.le_refl _) _).cell (p := ⟨w.heap.size, 2, none⟩) (show w.heap.size < w2.heap.size by omega)).trans x2
      have HX2 := Lib.hid hx2
      have HT2 := Lib.hid ht2
      have HB2 := Lib.hid hb2
      have HM := Lib.hid hmach
      clear hb hx2 ht2 hb2 hmach hsz1
      go_wp2_with (at_make; refine wpList_make_full _ rfl _ _ 24 rfl (w2.heap.size + 1) 3 i0 (.int .i64 0) 1 Try.underlying24 hi hy0 hy1 .i64 .i64 _ _ zs.length rfl rfl rfl rfl (made_boundI hy2 (by omega)) ?_ ?_ ?_)
      · simp [maxLen]; omega
      · simp
      · intro w3 hown hgr
        have hg3 := (hgr.block w2.heap.size (by simp) (by simp)).trans (heap_alloc_new w2 (.cells #[.int .i64 k, .int .i64 t, .int .i64 zs.length, .int .i64 S, .int .i64 Q, .slice a0 zs.length cap0] 26))
        have hb23 : Below w2.heap.size w2 w3 := ((Below.refl w2.heap.size w2).alloc (Nat.le_refl _) _).grown hgr (by simp) (fun q hq => by cases hq)
        have hx3 := (hb23.block w.heap.size (by omega)).trans HX2.out
        have ht3 := (hb23.block (w.heap.size + 1) (by omega)).trans HT2.out
        obtain ⟨g, hg⟩ : ∃ g, g = w2.heap.size := ⟨_, rfl⟩
        have hlen2 : (w2.alloc (.cells #[.int .i64 k, .int .i64 t, .int .i64 zs.length, .int .i64 S, .int .i64 Q, .slice a0 zs.length cap0] 26)).heap.size = g + 1 := by rw [hg]; simp
        rw [← hg] at hg3
        try rw [hlen2] at hown
        try rw [← hg] at hown
        have hgs : w.heap.size + 1 < g := by omega
        clear x0 x1 x2 x3 x4 x5 y2
        have x2 := (cells_of_heap hx3 2 (by simp)).1
        obtain ⟨e5, g5⟩ := cells_of_heap hg3 5 (by simp)
        have HG3 := Lib.hid (heap_setCell_same w3 g 5 _ _ (.slice (some ⟨g + 1, 0, none⟩) zs.length zs.length) hg3)
        have HX3 := Lib.hid ((Below.heap_setCell w3 ⟨g, 5, none⟩ (.slice (some ⟨g + 1, 0, none⟩) zs.length zs.length) w.heap.size (by simp; omega)).trans hx3)
        have HT3 := Lib.hid ((Below.heap_setCell w3 ⟨g, 5, none⟩ (.slice (some ⟨g + 1, 0, none⟩) zs.length zs.length) (w.heap.size + 1) (by simp; omega)).trans ht3)
        have HB3 := Lib.hid (show Below w2.heap.size w2 (w3.setCell ⟨g, 5, none⟩ (.slice (some ⟨g + 1, 0, none⟩) zs.length zs.length)) from hb23.setCell (by simp; omega) _)
        have HO3 := Lib.hid (ownsRow_setCell_below hown (show (⟨g, 5, none⟩ : Addr).block < g + 1 from Nat.lt_succ_self g) (.slice (some ⟨g + 1, 0, none⟩) zs.length zs.length))
        have HGG := Lib.hid hg
        rw [← hg]
        clear hown hgr hg3 hb23 hx3 ht3 hlen2 hsz2 hg
        have HGS := Lib.hid hgs
        go_wp2
        clear x2 e5 g5
        obtain ⟨W3, hW3⟩ : ∃ W3, W3 = w3.setCell ⟨g, 5, none⟩ (.slice (some ⟨g + 1, 0, none⟩) zs.length zs.length) := ⟨_, rfl⟩
        rw [← hW3] at HG3 HX3 HT3 HB3 HO3 ⊢
        clear hW3
        go_loopw [34] (fun i wr => ∃ (j : Nat) (xs : List Value), j ≤ zs.length ∧ i = .int .i64 j ∧ wr.heap[g]? = some (.cells #[.int .i64 k, .int .i64 t, .int .i64 zs.length, .int .i64 (shownTo k t Q L S zs j : Nat), .int .i64 Q, .slice (some ⟨g + 1, 0, none⟩) zs.length zs.length] 26 (0, 0)) ∧
            wr.heap[w.heap.size + 1]? = some (.cells #[.int .i64 0, .int .i64 0, .int .i64 0, .int .i64 0, .int .i64 0, .slice none 0 0] 26 (0, 0)) ∧
            wr.ownsRow (g + 1) 3 1 (.slice (some ⟨g + 1, 0, none⟩) zs.length zs.length) zs.length xs ∧ (∀ q, q < j → xs[q]? = some (.int .i64 (ageTo k t Q L S (zs.getD q 0) q))) ∧ Below w2.heap.size w2 wr) (fun i _ => zs.length - (intOf i).toNat)
        case atStart => exact ⟨0, _, Nat.zero_le _, rfl, HG3.out, HT3.out, HO3.out, fun q hq => by omega, HB3.out⟩
        case round =>
          obtain ⟨j, xs, hj, rfl, hg, ht, hown, hxs, hb⟩ := hrel
          have hlx : xs.length = zs.length := by simpa using hown.1
          have hgsz : g < wr.heap.size := (Array.getElem?_eq_some_iff.mp hg).1
          by_cases hlt : j < zs.length
          · have hag := ageTo_in (k := k) (t := t) (raw := Q) (last := L) (shown := S) (a := zs.getD j 0) (j := j) (HA.out j hlt).1
            obtain ⟨y, hst⟩ : ∃ y, wr.cell? ⟨g + 1, j, none⟩ = some y := ⟨xs[j]'(by omega), by rw [hown.cellAt j (by omega), List.getElem?_eq_getElem (show j < xs.length by omega)]⟩
            have hfr := hown.frozenAt j
            have g5 := (cells_of_heap hg 5 (by simp)).1
            have hcall := HM.out wr j hb hlt
            have hsh : shownTo k t Q L S zs (j + 1) = if flips k t Q L S (zs.getD j 0) j = true then shownTo k t Q L S zs j ^^^ 2 ^ j else shownTo k t Q L S zs j := by rw [shownTo]
            have hsh62 : shownTo k t Q L S zs j < 2 ^ 62 := Nat.lt_of_lt_of_le (shownTo_lt (kind := k) (time := t) (raw := Q) (last := L) (zs := zs) HS.out j (by omega)) (Nat.pow_le_pow_right (by decide) (by omega))
            obtain ⟨ag, hagd⟩ : ∃ ag, ag = ageTo k t Q L S (zs.getD j 0) j := ⟨_, rfl⟩
            obtain ⟨fl, hfl⟩ : ∃ fl, fl = flips k t Q L S (zs.getD j 0) j := ⟨_, rfl⟩
            obtain ⟨sh, hshd⟩ : ∃ sh, sh = shownTo k t Q L S zs j := ⟨_, rfl⟩
            rw [← hfl, ← hshd] at hsh
            rw [← hagd, ← hfl] at hcall
            rw [← hagd] at hag
            rw [← hshd] at hg hsh62
            obtain ⟨ag0, ag1⟩ := hag
            have HS1 := Lib.hid (hown.stored j (.int .i64 ag)).1
            have HSH := Lib.hid hsh
            have HAG := Lib.hid hagd
            have HG := Lib.hid hg
            have HT := Lib.hid ht
            have HB := Lib.hid hb
            have HX := Lib.hid hxs
            have HLX := Lib.hid hlx
            have HC := Lib.hid hcall
            clear hsh hagd hfl hshd hg ht hb hxs hown hlx hcall
            have hw := wrap_pow62 (k := j) (by omega)
            have hxo := xor_nat sh (2 ^ j) hsh62 (pow62 (by omega))
            obtain ⟨p2, hp2⟩ : ∃ p2, p2 = 2 ^ j := ⟨_, rfl⟩
            rw [← hp2] at hw hxo HSH
            clear hp2
            rcases HF.out with ⟨rfl, c1, c2, c3, rfl⟩ | ⟨rfl, c1, c2, c3, rfl⟩ | ⟨rfl, c1, c2, rfl⟩
            all_goals
              go_wp2_with fail
              refine (HC.out).mono ?_
              rintro e w4 ⟨rfl, m, rfl⟩
              go_upto_if 48 with (fail)
              obtain ⟨w5, hw5⟩ : ∃ w5, w5 = (wr.drewN m).setCell ⟨g + 1, j, none⟩ (.int .i64 ag) := ⟨_, rfl⟩
              have HG5 := Lib.hid (show w5.heap[g]? = some (.cells #[.int .i64 k, .int .i64 t, .int .i64 zs.length, .int .i64 ((sh : Nat)), .int .i64 Q, .slice (some ⟨g + 1, 0, none⟩) zs.length zs.length] 26 (0, 0)) by rw [hw5]; exact (Below.heap_setCell _ ⟨g + 1, j, none⟩ _ g (by simp)).trans HG.out)
              have HT5 := Lib.hid (show w5.heap[w.heap.size + 1]? = some (.cells #[.int .i64 0, .int .i64 0, .int .i64 0, .int .i64 0, .int .i64 0, .slice none 0 0] 26 (0, 0)) by rw [hw5]; exact (Below.heap_setCell _ ⟨g + 1, j, none⟩ _ (w.heap.size + 1) (by have := HGS.out; simp; omega)).trans HT.out)
              have HB5 := Lib.hid (show Below w2.heap.size w2 w5 by rw [hw5]; exact (below_drewN HB.out m).setCell (by have := HGG.out; simp; omega) _)
              have HO5 := Lib.hid (show w5.ownsRow (g + 1) 3 1 (.slice (some ⟨g + 1, 0, none⟩) zs.length zs.length) zs.length (xs.set j (.int .i64 ag)) by rw [hw5]; exact HS1.out)
              rw [← hw5]
              clear hw5 hst hfr g5
              obtain ⟨y3, v3⟩ := cells_of_heap HG5.out 3 (by simp)
              cases fl
              · have hs2 : shownTo k t Q L S zs (j + 1) = sh := by rw [HSH.out]; rfl
                have HS2 := Lib.hid hs2
                clear hs2 y3 v3
                go_wp2
                go_roundw
                case rel =>
                  refine ⟨j + 1, _, by omega, by go_num, by rw [HS2.out]; exact HG5.out, HT5.out, HO5.out, fun q hq => ?_, HB5.out⟩
                  by_cases hqj : q = j
                  · subst hqj
                    rw [List.getElem?_set, ← HAG.out]; simp [HLX.out, hlt]
                  · rw [List.getElem?_set, if_neg (by omega)]; exact HX.out q (by omega)
                case measure => simp [intOf]; omega
              · have hs2 : shownTo k t Q L S zs (j + 1) = sh ^^^ p2 := by rw [HSH.out]; rfl
                have HS2 := Lib.hid hs2
                clear hs2
                go_wp2
                go_still_tail 6, (by kernel_rfl)
                go_wp2
                go_roundw
                case rel =>
                  refine ⟨j + 1, _, by omega, by go_num, by rw [HS2.out]; exact heap_setCell_same _ g 3 _ _ _ HG5.out, (Below.heap_setCell _ ⟨g, 3, none⟩ _ (w.heap.size + 1) (by have := HGS.out; simp; omega)).trans HT5.out, ownsRow_setCell_below (owns_below HO5.out (below_drewN (Below.refl _ _) 1)) (show (⟨g, 3, none⟩ : Addr).block < g + 1 from Nat.lt_succ_self g) _, fun q hq => ?_, (below_drewN HB5.out 1).setCell (by have := HGG.out; simp; omega) _⟩
                  by_cases hqj : q = j
                  · subst hqj
                    rw [List.getElem?_set, ← HAG.out]; simp [HLX.out, hlt]
                  · rw [List.getElem?_set, if_neg (by omega)]; exact HX.out q (by omega)
                case measure => simp [intOf]; omega
          · obtain rfl : j = zs.length := by omega
            have y0 := (cells_of_heap hg 0 (by simp)).1
            have y1 := (cells_of_heap hg 1 (by simp)).1
            have y2 := (cells_of_heap hg 2 (by simp)).1
            have y3 := (cells_of_heap hg 3 (by simp)).1
            have y4 := (cells_of_heap hg 4 (by simp)).1
            have y5 := (cells_of_heap hg 5 (by simp)).1
            obtain ⟨t0, q0⟩ := cells_of_heap ht 0 (by simp)
            obtain ⟨t1, q1⟩ := cells_of_heap ht 1 (by simp)
            obtain ⟨t2, q2⟩ := cells_of_heap ht 2 (by simp)
            obtain ⟨t3, q3⟩ := cells_of_heap ht 3 (by simp)
            obtain ⟨t4, q4⟩ := cells_of_heap ht 4 (by simp)
            obtain ⟨t5, q5⟩ := cells_of_heap ht 5 (by simp)
            have hxe : xs = (agesTo k t Q L S zs zs.length).map (.int .i64) := by
              apply List.ext_getElem?
              intro q
              by_cases hq : q < zs.length
              · rw [hxs q hq]; simp [agesTo, hq]
              · rw [List.getElem?_eq_none (by omega), List.getElem?_eq_none (by simp [agesTo]; omega)]
            subst hxe
            have HTT := Lib.hid ht
            have HBB := Lib.hid (HB2.out.trans (hb.mono (by have := HGS.out; have := HGG.out; omega)))
            have HOO := Lib.hid hown
            clear hg ht hown hb hxs hlx
            obtain ⟨sh, hsh⟩ : ∃ sh, sh = shownTo k t Q L S zs zs.length := ⟨_, rfl⟩
            rw [← hsh] at y3
            have HSH := Lib.hid hsh
            have HSZ := HGS
            clear hsh
            go_wp2
            have k1 : (wr.setCell ⟨w.heap.size + 1, 0, none⟩ (.int .i64 k)).heap[w.heap.size + 1]? = some (.cells #[.int .i64 k, .int .i64 0, .int .i64 0, .int .i64 0, .int .i64 0, .slice none 0 0] 26 (0, 0)) := heap_setCell_same _ _ 0 _ _ _ HTT.out
            have k2 : ((wr.setCell ⟨w.heap.size + 1, 0, none⟩ (.int .i64 k)).setCell ⟨w.heap.size + 1, 1, none⟩ (.int .i64 t)).heap[w.heap.size + 1]? = some (.cells #[.int .i64 k, .int .i64 t, .int .i64 0, .int .i64 0, .int .i64 0, .slice none 0 0] 26 (0, 0)) := heap_setCell_same _ _ 1 _ _ _ k1
            have k3 : (((wr.setCell ⟨w.heap.size + 1, 0, none⟩ (.int .i64 k)).setCell ⟨w.heap.size + 1, 1, none⟩ (.int .i64 t)).setCell ⟨w.heap.size + 1, 2, none⟩ (.int .i64 zs.length)).heap[w.heap.size + 1]? = some (.cells #[.int .i64 k, .int .i64 t, .int .i64 zs.length, .int .i64 0, .int .i64 0, .slice none 0 0] 26 (0, 0)) := heap_setCell_same _ _ 2 _ _ _ k2
            have k4 : ((((wr.setCell ⟨w.heap.size + 1, 0, none⟩ (.int .i64 k)).setCell ⟨w.heap.size + 1, 1, none⟩ (.int .i64 t)).setCell ⟨w.heap.size + 1, 2, none⟩ (.int .i64 zs.length)).setCell ⟨w.heap.size + 1, 3, none⟩ (.int .i64 (sh : Nat))).heap[w.heap.size + 1]? = some (.cells #[.int .i64 k, .int .i64 t, .int .i64 zs.length, .int .i64 (sh : Nat), .int .i64 0, .slice none 0 0] 26 (0, 0)) := heap_setCell_same _ _ 3 _ _ _ k3
            have k5 : (((((wr.setCell ⟨w.heap.size + 1, 0, none⟩ (.int .i64 k)).setCell ⟨w.heap.size + 1, 1, none⟩ (.int .i64 t)).setCell ⟨w.heap.size + 1, 2, none⟩ (.int .i64 zs.length)).setCell ⟨w.heap.size + 1, 3, none⟩ (.int .i64 (sh : Nat))).setCell ⟨w.heap.size + 1, 4, none⟩ (.int .i64 (Q : Int))).heap[w.heap.size + 1]? = some (.cells #[.int .i64 k, .int .i64 t, .int .i64 zs.length, .int .i64 (sh : Nat), .int .i64 (Q : Int), .slice none 0 0] 26 (0, 0)) := heap_setCell_same _ _ 4 _ _ _ k4
            have k6 : ((((((wr.setCell ⟨w.heap.size + 1, 0, none⟩ (.int .i64 k)).setCell ⟨w.heap.size + 1, 1, none⟩ (.int .i64 t)).setCell ⟨w.heap.size + 1, 2, none⟩ (.int .i64 zs.length)).setCell ⟨w.heap.size + 1, 3, none⟩ (.int .i64 (sh : Nat))).setCell ⟨w.heap.size + 1, 4, none⟩ (.int .i64 (Q : Int))).setCell ⟨w.heap.size + 1, 5, none⟩ (.slice (some ⟨g + 1, 0, none⟩) zs.length zs.length)).heap[w.heap.size + 1]? = some (.cells #[.int .i64 k, .int .i64 t, .int .i64 zs.length, .int .i64 (sh : Nat), .int .i64 (Q : Int), .slice (some ⟨g + 1, 0, none⟩) zs.length zs.length] 26 (0, 0)) := heap_setCell_same _ _ 5 _ _ _ k5
            have bf : Below w.heap.size w ((((((wr.setCell ⟨w.heap.size + 1, 0, none⟩ (.int .i64 k)).setCell ⟨w.heap.size + 1, 1, none⟩ (.int .i64 t)).setCell ⟨w.heap.size + 1, 2, none⟩ (.int .i64 zs.length)).setCell ⟨w.heap.size + 1, 3, none⟩ (.int .i64 (sh : Nat))).setCell ⟨w.heap.size + 1, 4, none⟩ (.int .i64 (Q : Int))).setCell ⟨w.heap.size + 1, 5, none⟩ (.slice (some ⟨g + 1, 0, none⟩) zs.length zs.length)) := ((((((HBB.out).setCell (by simp) _).setCell (by simp) _).setCell (by simp) _).setCell (by simp) _).setCell (by simp) _).setCell (by simp) _
            have of := ownsRow_setCell_below (a := ⟨w.heap.size + 1, 5, none⟩) (ownsRow_setCell_below (a := ⟨w.heap.size + 1, 4, none⟩) (ownsRow_setCell_below (a := ⟨w.heap.size + 1, 3, none⟩) (ownsRow_setCell_below (a := ⟨w.heap.size + 1, 2, none⟩) (ownsRow_setCell_below (a := ⟨w.heap.size + 1, 1, none⟩) (ownsRow_setCell_below (a := ⟨w.heap.size + 1, 0, none⟩) (HOO.out) (by have := HSZ.out; simp; omega) (.int .i64 k)) (by have := HSZ.out; simp; omega) (.int .i64 t)) (by have := HSZ.out; simp; omega) (.int .i64 zs.length)) (by have := HSZ.out; simp; omega) (.int .i64 (sh : Nat))) (by have := HSZ.out; simp; omega) (.int .i64 (Q : Int))) (by have := HSZ.out; simp; omega) (.slice (some ⟨g + 1, 0, none⟩) zs.length zs.length)
            obtain ⟨wf, hwf⟩ : ∃ wf, wf = ((((((wr.setCell ⟨w.heap.size + 1, 0, none⟩ (.int .i64 k)).setCell ⟨w.heap.size + 1, 1, none⟩ (.int .i64 t)).setCell ⟨w.heap.size + 1, 2, none⟩ (.int .i64 zs.length)).setCell ⟨w.heap.size + 1, 3, none⟩ (.int .i64 (sh : Nat))).setCell ⟨w.heap.size + 1, 4, none⟩ (.int .i64 (Q : Int))).setCell ⟨w.heap.size + 1, 5, none⟩ (.slice (some ⟨g + 1, 0, none⟩) zs.length zs.length)) := ⟨_, rfl⟩
            rw [← hwf] at k6 bf of ⊢
            clear hwf k1 k2 k3 k4 k5
            have f0 := (cells_of_heap k6 0 (by simp)).1
            have f1 := (cells_of_heap k6 1 (by simp)).1
            have f2 := (cells_of_heap k6 2 (by simp)).1
            have f3 := (cells_of_heap k6 3 (by simp)).1
            have f4 := (cells_of_heap k6 4 (by simp)).1
            have f5 := (cells_of_heap k6 5 (by simp)).1
            clear t0 t1 t2 t3 t4 t5 q0 q1 q2 q3 q4 q5 y0 y1 y2 y3 y4 y5
            refine bodyPost_ret (v := .tuple #[dbv k t zs.length (sh : Nat) (Q : Int) (.slice (some ⟨g + 1, 0, none⟩) zs.length zs.length), .bool true]) (by simp [results, Try.results17, go_sem, f0, f1, f2, f3, f4, f5]) rfl ?_
            have hfin : StepDeb k t zs.length S L zs Q w (.returned (.tuple #[dbv k t zs.length (sh : Nat) (Q : Int) (.slice (some ⟨g + 1, 0, none⟩) zs.length zs.length), .bool true])) wf := by
              rw [StepDeb, HST.out, if_pos rfl]
              refine ⟨.slice (some ⟨g + 1, 0, none⟩) zs.length zs.length, ?_, ?_, bf⟩
              · rw [HSH.out]; simp
              · have := owns_base of (show w.heap.size ≤ g + 1 by have := HGS.out; omega)
                simpa using this
            exact hfin

end Go.Proofs.Ytdlcpijiekhafaa
