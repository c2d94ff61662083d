/- DERIVED. The reference's DebounceRun, called with any debouncer and samples that read as known numbers: it returns what a plain function says. -/
import Derived.Test.YtdlcpijiekhafaaDebStep
import Derived.Deep.AppendLies
namespace Go.Proofs.Ytdlcpijiekhafaa
open Go.RowKit

/-- What is shown, the last samples and the ages behind j samples. -/
def runN (k t n s l : Int) (zs xs : List Int) : Nat → Int × Int × List Int
  | 0 => (s, l, zs)
  | j + 1 => ((shownTo k t (xs.getD j 0).toNat (runN k t n s l zs xs j).2.1.toNat (runN k t n s l zs xs j).1.toNat (runN k t n s l zs xs j).2.2 n.toNat : Nat), xs.getD j 0,
      agesTo k t (xs.getD j 0).toNat (runN k t n s l zs xs j).2.1.toNat (runN k t n s l zs xs j).1.toNat (runN k t n s l zs xs j).2.2 n.toNat)
def runShown (k t n s l : Int) (zs xs : List Int) (m : Nat) : List Int := (List.range m).map fun j => (runN k t n s l zs xs (j + 1)).1
theorem runShown_snoc (k t n s l : Int) (zs xs : List Int) (m : Nat) : runShown k t n s l zs xs (m + 1) = runShown k t n s l zs xs m ++ [(runN k t n s l zs xs (m + 1)).1] := by
  simp [runShown, List.range_succ]
theorem ageTo_bd {k t : Int} {raw last shown : Nat} {a : Int} {j : Nat} (h0 : 0 ≤ a) : 0 ≤ ageTo k t raw last shown a j ∧ ageTo k t raw last shown a j ≤ 99 := by
  have h : 0 ≤ aged k raw last a j ∧ aged k raw last a j ≤ 99 := by unfold aged; split <;> omega
  unfold ageTo
  split <;> omega
theorem okDeb_step {k t n s l : Int} {zs : List Int} {raw : Int} (h : okStep k t n s l zs raw = true) :
    okDeb k t n (shownTo k t raw.toNat l.toNat s.toNat zs n.toNat : Nat) raw (agesTo k t raw.toNat l.toNat s.toNat zs n.toNat) = true := by
  unfold okStep at h
  rw [Bool.and_eq_true] at h
  obtain ⟨h1, h2⟩ := h
  obtain ⟨N, S, L, rfl, rfl, rfl, hk0, hk2, ht1, ht20, hN1, hN24, hlen, hS, hL, hages⟩ := okDeb_nat h1
  have h2' := of_decide_eq_true (show decide (0 ≤ raw ∧ raw ≤ 2 ^ (N : Int).toNat - 1) = true from h2)
  obtain ⟨Q, rfl⟩ := Int.eq_ofNat_of_zero_le h2'.1
  have hsh := shownTo_lt (kind := k) (time := t) (raw := Q) (last := L) (zs := zs) hS N (Nat.le_refl _)
  simp only [Int.toNat_natCast] at h2 h2' ⊢
  have hp := pow_nat N
  unfold okDeb
  simp only [Bool.and_eq_true, Int.toNat_natCast]
  refine ⟨⟨⟨⟨⟨⟨decide_eq_true ⟨hk0, hk2⟩, decide_eq_true ⟨ht1, ht20⟩⟩, decide_eq_true (by omega)⟩, decide_eq_true (by simp [agesTo])⟩, ?_⟩, decide_eq_true (by omega)⟩, h2⟩
  unfold allIn agesTo
  rw [List.all_map, List.all_eq_true]
  intro j hj
  have hj' : j < N := by simpa using hj
  exact decide_eq_true (ageTo_bd (hages j hj').1)
theorem allIn_get {lo hi : Int} {xs : List Int} (h : allIn lo hi xs = true) {j : Nat} (hj : j < xs.length) : inB (xs.getD j 0) lo hi = true := by
  unfold allIn at h
  rw [List.all_eq_true] at h
  have e : xs.getD j 0 = xs[j] := by simp [List.getElem?_eq_getElem hj]
  rw [e]
  exact h _ (List.getElem_mem hj)
theorem runN_ok {k t n s l : Int} {zs xs : List Int} (h : okDeb k t n s l zs = true) : ∀ j, (∀ i, i < j → inB (xs.getD i 0) 0 (2 ^ n.toNat - 1) = true) → okDeb k t n (runN k t n s l zs xs j).1 (runN k t n s l zs xs j).2.1 (runN k t n s l zs xs j).2.2 = true
  | 0, _ => h
  | j + 1, hx => by
    have ih := runN_ok h j (fun i hi => hx i (by omega))
    exact okDeb_step (by unfold okStep; rw [ih, hx j (by omega)]; rfl)
theorem allIn_of {lo hi : Int} {xs : List Int} (h : ∀ i, i < xs.length → inB (xs.getD i 0) lo hi = true) : allIn lo hi xs = true := by
  unfold allIn
  rw [List.all_eq_true]
  intro z hz
  obtain ⟨i, hi, rfl⟩ := List.getElem_of_mem hz
  have := h i hi
  have e : xs.getD i 0 = xs[i] := by simp [List.getElem?_eq_getElem hi]
  rwa [e] at this
def okRun (k t n s l : Int) (zs xs : List Int) : Bool := okDeb k t n s l zs && decide (xs.length ≤ 200) && allIn 0 (2 ^ n.toNat - 1) xs

/-- What DebounceRun returns: two rows of its own, apart from each other. -/
def RunDeb (k t n s l : Int) (zs xs : List Int) (w : World) (e : Ending) (w' : World) : Prop :=
  ∃ u o, (if okRun k t n s l zs xs = true then
      e = .returned (.tuple #[dbv k t n (runN k t n s l zs xs xs.length).1 (runN k t n s l zs xs xs.length).2.1 u, o, .bool true]) ∧ w'.ownsRow w.heap.size 3 1 u n.toNat ((runN k t n s l zs xs xs.length).2.2.map (.int .i64)) ∧ w'.ownsRow w.heap.size 3 1 o xs.length ((runShown k t n s l zs xs xs.length).map (.int .i64)) ∧ (∀ g, u.ownBlock = some g → o.ownBlock ≠ some g)
    else e = .returned (.tuple #[zeroDb, o, .bool false]) ∧ w'.ownsRow w.heap.size 3 1 o 0 []) ∧ Below w.heap.size w w'

set_option maxHeartbeats 4000000 in
set_option maxRecDepth 100000 in
theorem specDebounceRun_any (k t n s l : Int) (u : Value) (zs : List Int) (ax : Option Addr) (capx : Nat) (xs : List Int) (w : World) (hl : zs.length ≤ maxLen) (h : Rd w u (zs.map (.int .i64))) (hlx : xs.length ≤ 1048576) (hx : Rd w (.slice ax xs.length capx) (xs.map (.int .i64))) :
    Calls Try.prog 31 #[dbv k t n s l u, .slice ax xs.length capx] w (RunDeb k t n s l zs xs w) := by
  obtain ⟨i0, hi, hy0, hy1, hy2⟩ := info_parts info_int
  obtain ⟨a0, cap0, rfl⟩ : ∃ a cap, u = .slice a zs.length cap := by obtain ⟨a, cap, hu, _⟩ := h; exact ⟨a, cap, by simpa using hu⟩
  obtain ⟨W, hW⟩ : ∃ W, W = (w.alloc (.cells #[.int .i64 k, .int .i64 t, .int .i64 n, .int .i64 s, .int .i64 l, .slice a0 zs.length cap0] 26)).alloc (.cells #[.int .i64 0, .int .i64 0, .int .i64 0, .int .i64 0, .int .i64 0, .slice none 0 0] 26) := ⟨_, rfl⟩
  have HT := Lib.hid (show W.heap[w.heap.size + 1]? = some (.cells #[.int .i64 0, .int .i64 0, .int .i64 0, .int .i64 0, .int .i64 0, .slice none 0 0] 26 (0, 0)) by rw [hW]; simpa using heap_alloc_new (w.alloc (.cells #[.int .i64 k, .int .i64 t, .int .i64 n, .int .i64 s, .int .i64 l, .slice a0 zs.length cap0] 26)) _)
  have HX := Lib.hid (show W.heap[w.heap.size]? = some (.cells #[.int .i64 k, .int .i64 t, .int .i64 n, .int .i64 s, .int .i64 l, .slice a0 zs.length cap0] 26 (0, 0)) by
    rw [hW, Below.heap_alloc _ _ _ (by simp)]; exact heap_alloc_new w _)
  have HB0 := Lib.hid (show Below w.heap.size w W by rw [hW]; exact ((Below.refl _ _).alloc (Nat.le_refl _) _).alloc (by simp) _)
  have HSZ := Lib.hid (show W.heap.size = w.heap.size + 1 + 1 by rw [hW]; simp)
  have HR := Lib.hid (h.below HB0.out)
  have HW := Lib.hid hW
  have HRW := Lib.hid h
  have HRX := Lib.hid hx
  clear hW h hx
  obtain ⟨ok, hok⟩ : ∃ ok, ok = okDeb k t n s l zs := ⟨_, rfl⟩
  cases ok
  · have HNR : Hid (okRun k t n s l zs xs = false) := Lib.hid (by rw [okRun, ← hok]; rfl)
    have HO := Lib.hid hok
    clear hok
    go_enter Try.func31, Try.ntmps31
    go_wp2_with fail
    rw [← HW.out]
    refine (specIsDebouncer_any k t n s l _ zs _ hl HR.out).mono ?_
    rw [← HO.out]
    rintro e w1 ⟨rfl, hb⟩
    have ht1 := (hb.block (w.heap.size + 1) (by rw [HSZ.out]; omega)).trans HT.out
    have hbb := HB0.out.trans (hb.mono HB0.out.size)
    have hszz : w.heap.size + 1 < w1.heap.size := by have := hb.size; have := HSZ.out; omega
    clear hb
    have HSZ : Hid (w.heap.size + 1 < w1.heap.size) := Lib.hid hszz
    obtain ⟨t0, q0⟩ := cells_of_heap ht1 0 (by simp)
    obtain ⟨t1, q1⟩ := cells_of_heap ht1 1 (by simp)
    obtain ⟨t2, q2⟩ := cells_of_heap ht1 2 (by simp)
    obtain ⟨t3, q3⟩ := cells_of_heap ht1 3 (by simp)
    obtain ⟨t4, q4⟩ := cells_of_heap ht1 4 (by simp)
    obtain ⟨t5, q5⟩ := cells_of_heap ht1 5 (by simp)
    have HTT := Lib.hid ht1
    have HBB := Lib.hid hbb
    clear ht1 hbb
    go_wp2
    have k1 : (w1.setCell ⟨w.heap.size + 1, 0, none⟩ (.int .i64 0)).heap[w.heap.size + 1]? = some (.cells #[.int .i64 0, .int .i64 0, .int .i64 0, .int .i64 0, .int .i64 0, .slice none 0 0] 26 (0, 0)) := heap_setCell_same _ _ 0 _ _ _ HTT.out
    have k2 : ((w1.setCell ⟨w.heap.size + 1, 0, none⟩ (.int .i64 0)).setCell ⟨w.heap.size + 1, 1, none⟩ (.int .i64 0)).heap[w.heap.size + 1]? = some (.cells #[.int .i64 0, .int .i64 0, .int .i64 0, .int .i64 0, .int .i64 0, .slice none 0 0] 26 (0, 0)) := heap_setCell_same _ _ 1 _ _ _ k1
    have k3 : (((w1.setCell ⟨w.heap.size + 1, 0, none⟩ (.int .i64 0)).setCell ⟨w.heap.size + 1, 1, none⟩ (.int .i64 0)).setCell ⟨w.heap.size + 1, 2, none⟩ (.int .i64 0)).heap[w.heap.size + 1]? = some (.cells #[.int .i64 0, .int .i64 0, .int .i64 0, .int .i64 0, .int .i64 0, .slice none 0 0] 26 (0, 0)) := heap_setCell_same _ _ 2 _ _ _ k2
    have k4 : ((((w1.setCell ⟨w.heap.size + 1, 0, none⟩ (.int .i64 0)).setCell ⟨w.heap.size + 1, 1, none⟩ (.int .i64 0)).setCell ⟨w.heap.size + 1, 2, none⟩ (.int .i64 0)).setCell ⟨w.heap.size + 1, 3, none⟩ (.int .i64 0)).heap[w.heap.size + 1]? = some (.cells #[.int .i64 0, .int .i64 0, .int .i64 0, .int .i64 0, .int .i64 0, .slice none 0 0] 26 (0, 0)) := heap_setCell_same _ _ 3 _ _ _ k3
    have k5 : (((((w1.setCell ⟨w.heap.size + 1, 0, none⟩ (.int .i64 0)).setCell ⟨w.heap.size + 1, 1, none⟩ (.int .i64 0)).setCell ⟨w.heap.size + 1, 2, none⟩ (.int .i64 0)).setCell ⟨w.heap.size + 1, 3, none⟩ (.int .i64 0)).setCell ⟨w.heap.size + 1, 4, none⟩ (.int .i64 0)).heap[w.heap.size + 1]? = some (.cells #[.int .i64 0, .int .i64 0, .int .i64 0, .int .i64 0, .int .i64 0, .slice none 0 0] 26 (0, 0)) := heap_setCell_same _ _ 4 _ _ _ k4
    have k6 : ((((((w1.setCell ⟨w.heap.size + 1, 0, none⟩ (.int .i64 0)).setCell ⟨w.heap.size + 1, 1, none⟩ (.int .i64 0)).setCell ⟨w.heap.size + 1, 2, none⟩ (.int .i64 0)).setCell ⟨w.heap.size + 1, 3, none⟩ (.int .i64 0)).setCell ⟨w.heap.size + 1, 4, none⟩ (.int .i64 0)).setCell ⟨w.heap.size + 1, 5, none⟩ (.slice none 0 0)).heap[w.heap.size + 1]? = some (.cells #[.int .i64 0, .int .i64 0, .int .i64 0, .int .i64 0, .int .i64 0, .slice none 0 0] 26 (0, 0)) := heap_setCell_same _ _ 5 _ _ _ k5
    have k7 : (((((((w1.setCell ⟨w.heap.size + 1, 0, none⟩ (.int .i64 0)).setCell ⟨w.heap.size + 1, 1, none⟩ (.int .i64 0)).setCell ⟨w.heap.size + 1, 2, none⟩ (.int .i64 0)).setCell ⟨w.heap.size + 1, 3, none⟩ (.int .i64 0)).setCell ⟨w.heap.size + 1, 4, none⟩ (.int .i64 0)).setCell ⟨w.heap.size + 1, 5, none⟩ (.slice none 0 0)).alloc (.cells #[] 3)).heap[w.heap.size + 1]? = some (.cells #[.int .i64 0, .int .i64 0, .int .i64 0, .int .i64 0, .int .i64 0, .slice none 0 0] 26 (0, 0)) := (Below.heap_alloc _ _ _ (by have := HSZ.out; simp; omega)).trans k6
    have bf : Below w.heap.size w (((((((w1.setCell ⟨w.heap.size + 1, 0, none⟩ (.int .i64 0)).setCell ⟨w.heap.size + 1, 1, none⟩ (.int .i64 0)).setCell ⟨w.heap.size + 1, 2, none⟩ (.int .i64 0)).setCell ⟨w.heap.size + 1, 3, none⟩ (.int .i64 0)).setCell ⟨w.heap.size + 1, 4, none⟩ (.int .i64 0)).setCell ⟨w.heap.size + 1, 5, none⟩ (.slice none 0 0)).alloc (.cells #[] 3)) := (((((((HBB.out).setCell (by simp) _).setCell (by simp) _).setCell (by simp) _).setCell (by simp) _).setCell (by simp) _).setCell (by simp) _).alloc (by have := HSZ.out; simp; omega) _
    have of : (((((((w1.setCell ⟨w.heap.size + 1, 0, none⟩ (.int .i64 0)).setCell ⟨w.heap.size + 1, 1, none⟩ (.int .i64 0)).setCell ⟨w.heap.size + 1, 2, none⟩ (.int .i64 0)).setCell ⟨w.heap.size + 1, 3, none⟩ (.int .i64 0)).setCell ⟨w.heap.size + 1, 4, none⟩ (.int .i64 0)).setCell ⟨w.heap.size + 1, 5, none⟩ (.slice none 0 0)).alloc (.cells #[] 3)).ownsRow w.heap.size 3 1 (.slice (some ⟨w1.heap.size, 0, none⟩) 0 0) 0 [] := by simpa using owns_none (w := ((((((w1.setCell ⟨w.heap.size + 1, 0, none⟩ (.int .i64 0)).setCell ⟨w.heap.size + 1, 1, none⟩ (.int .i64 0)).setCell ⟨w.heap.size + 1, 2, none⟩ (.int .i64 0)).setCell ⟨w.heap.size + 1, 3, none⟩ (.int .i64 0)).setCell ⟨w.heap.size + 1, 4, none⟩ (.int .i64 0)).setCell ⟨w.heap.size + 1, 5, none⟩ (.slice none 0 0))) (B := w.heap.size) 3 (by have := HSZ.out; simp; omega)
    obtain ⟨wf, hwf⟩ : ∃ wf, wf = (((((((w1.setCell ⟨w.heap.size + 1, 0, none⟩ (.int .i64 0)).setCell ⟨w.heap.size + 1, 1, none⟩ (.int .i64 0)).setCell ⟨w.heap.size + 1, 2, none⟩ (.int .i64 0)).setCell ⟨w.heap.size + 1, 3, none⟩ (.int .i64 0)).setCell ⟨w.heap.size + 1, 4, none⟩ (.int .i64 0)).setCell ⟨w.heap.size + 1, 5, none⟩ (.slice none 0 0)).alloc (.cells #[] 3)) := ⟨_, rfl⟩
    rw [← hwf] at k7 bf of ⊢
    clear hwf k1 k2 k3 k4 k5 k6
    have f0 := (cells_of_heap k7 0 (by simp)).1
    have f1 := (cells_of_heap k7 1 (by simp)).1
    have f2 := (cells_of_heap k7 2 (by simp)).1
    have f3 := (cells_of_heap k7 3 (by simp)).1
    have f4 := (cells_of_heap k7 4 (by simp)).1
    have f5 := (cells_of_heap k7 5 (by simp)).1
    clear t0 t1 t2 t3 t4 t5 q0 q1 q2 q3 q4 q5
    refine bodyPost_ret (v := .tuple #[zeroDb, .slice (some ⟨w1.heap.size, 0, none⟩) 0 0, .bool false]) (by simp [results, Try.results31, go_sem, f0, f1, f2, f3, f4, f5]) rfl ?_
    have hfin : RunDeb k t n s l zs xs w (.returned (.tuple #[zeroDb, .slice (some ⟨w1.heap.size, 0, none⟩) 0 0, .bool false])) wf := by
      refine ⟨.slice none 0 0, .slice (some ⟨w1.heap.size, 0, none⟩) 0 0, ?_, bf⟩
      rw [HNR.out, if_neg (by simp)]
      exact ⟨rfl, of⟩
    exact hfin
  · by_cases h200 : xs.length ≤ 200
    · have hokd := hok.symm
      obtain ⟨N, S, L, rfl, rfl, rfl, hk0, hk2, ht1, ht20, hN1, hN24, hlen, hS, hL, hages⟩ := okDeb_nat hokd
      obtain rfl : N = zs.length := hlen.symm
      rcases rd_ints HRW.out with ⟨hnil, _⟩ | ⟨b0, off, cap1, _, hu, hbl, hc⟩
      · exfalso; rw [hnil] at hN1; simp at hN1
      · simp only [Value.slice.injEq] at hu
        obtain ⟨rfl, _, rfl⟩ := hu
        have HO := Lib.hid hok
        have HC := Lib.hid hc
        clear hok hokd hlen hS hL hages hc
        go_enter Try.func31, Try.ntmps31
        go_wp2_with fail
        rw [← HW.out]
        refine (specIsDebouncer_any k t zs.length S L _ zs _ hl HR.out).mono ?_
        rw [← HO.out]
        rintro e w1 ⟨rfl, hb⟩
        have hx1 := (hb.block w.heap.size (by rw [HSZ.out]; omega)).trans HX.out
        have htt1 := (hb.block (w.heap.size + 1) (by rw [HSZ.out]; omega)).trans HT.out
        have hb1 := HB0.out.trans (hb.mono HB0.out.size)
        have hsz1 : w.heap.size + 1 + 1 ≤ w1.heap.size := by have := hb.size; have := HSZ.out; omega
        have x0 := (cells_of_heap hx1 0 (by simp)).1
        have x1 := (cells_of_heap hx1 1 (by simp)).1
        have x2 := (cells_of_heap hx1 2 (by simp)).1
        have x3 := (cells_of_heap hx1 3 (by simp)).1
        have x4 := (cells_of_heap hx1 4 (by simp)).1
        have x5 := (cells_of_heap hx1 5 (by simp)).1
        have HX1 := Lib.hid hx1
        have HT1 := Lib.hid htt1
        have HB1 := Lib.hid hb1
        clear hb hx1 htt1 hb1
        have hb4 : Below w1.heap.size w1 ((w1.alloc (.cells #[.int .i64 k, .int .i64 t, .int .i64 zs.length, .int .i64 S, .int .i64 L, .slice (some ⟨b0, off, none⟩) zs.length cap0] 26)).alloc (.cells #[] 3)) := ((Below.refl _ _).alloc (Nat.le_refl _) _).alloc (by simp) _
        have x54 := (hb4.cell (p := ⟨w.heap.size, 5, none⟩) (show w.heap.size < w1.heap.size by omega)).trans x5
        have HB4 := Lib.hid hb4
        clear hb4
        have b63 : 0 + zs.length ≤ maxLen := by unfold maxLen; omega
        have b47 : (0 + zs.length) * 8 ≤ 140737488355328 := by omega
        have hown0 : ((w1.alloc (.cells #[.int .i64 k, .int .i64 t, .int .i64 zs.length, .int .i64 S, .int .i64 L, .slice (some ⟨b0, off, none⟩) zs.length cap0] 26)).alloc (.cells #[] 3)).ownsRow (w1.heap.size + 1) 3 1 (.slice (some ⟨w1.heap.size + 1, 0, none⟩) 0 0) 0 [] := by
          simpa using owns_none (w := w1.alloc (.cells #[.int .i64 k, .int .i64 t, .int .i64 zs.length, .int .i64 S, .int .i64 L, .slice (some ⟨b0, off, none⟩) zs.length cap0] 26)) (B := w1.heap.size + 1) 3 (by simp)
        have HO0 := Lib.hid hown0
        clear hown0
        go_wp2_with (at_builtin; refine wpList_append_lies _ rfl _ _ 24 rfl (w1.heap.size + 1) 3 i0 (.int .i64 0) 1 8 Try.underlying24 hi hy0 hy1 hy2 rfl (by decide) _ _ [] rfl HO0.out ⟨b0, off, none⟩ zs.length cap0 (zs.map (.int .i64)) rfl (by simp) ?c1 ?c2 hN1 b63 b47 ?c5 _ rfl ?_)
        case c1 =>
          intro j u hu
          have hj : j < zs.length := by have := (List.getElem?_eq_some_iff.mp hu).1; simpa using this
          have hadd : (⟨b0, off, none⟩ : Addr).add j = ⟨b0, off + j, none⟩ := by unfold Addr.add; split <;> simp_all
          have hu' : u = .int .i64 (zs.getD j 0) := by simp [List.getElem?_eq_getElem hj] at hu ⊢; exact hu.symm
          rw [hadd, hu']
          exact ((HB1.out.trans (HB4.out.mono (Nat.le_trans (by omega) HB1.out.size))).cell (p := ⟨b0, off + j, none⟩) hbl).trans (HC.out j hj)
        case c2 => intro u hu; simp at hu; obtain ⟨z, _, rfl⟩ := hu; rfl
        case c5 => simp
        · intro ga capa w2 hown1 hgrow hat hlt2
          have hXnew : ((w1.alloc (.cells #[.int .i64 k, .int .i64 t, .int .i64 zs.length, .int .i64 S, .int .i64 L, .slice (some ⟨b0, off, none⟩) zs.length cap0] 26)).alloc (.cells #[] 3)).heap[w1.heap.size]? = some (.cells #[.int .i64 k, .int .i64 t, .int .i64 zs.length, .int .i64 S, .int .i64 L, .slice (some ⟨b0, off, none⟩) zs.length cap0] 26 (0, 0)) := by
            rw [Below.heap_alloc _ _ _ (by simp)]; exact heap_alloc_new w1 _
          have hg2 := (hgrow.block w1.heap.size (by simp; omega) (by simp [Value.ownBlock])).trans hXnew
          have ht2 := (hgrow.block (w.heap.size + 1) (by simp; omega) (by simp [Value.ownBlock]; omega)).trans ((HB4.out.block (w.heap.size + 1) (by omega)).trans HT1.out)
          have hb2 : Below w.heap.size w w2 := (HB1.out.trans (HB4.out.mono HB1.out.size)).grown hgrow (by simp; omega) (fun q hq => by simp [Value.ownBlock] at hq; omega)
          have hga : w1.heap.size + 1 ≤ ga := by first | omega | (simp [Value.ownBlock] at hat; omega)
          obtain ⟨e5, g5⟩ := cells_of_heap hg2 5 (by simp)
          have HG2 := Lib.hid (heap_setCell_same w2 w1.heap.size 5 _ _ (.slice (some ⟨ga, 0, none⟩) zs.length capa) hg2)
          have HT2 := Lib.hid ((Below.heap_setCell w2 ⟨w1.heap.size, 5, none⟩ (.slice (some ⟨ga, 0, none⟩) zs.length capa) (w.heap.size + 1) (by simp; omega)).trans ht2)
          have HB2 := Lib.hid (show Below w.heap.size w (w2.setCell ⟨w1.heap.size, 5, none⟩ (.slice (some ⟨ga, 0, none⟩) zs.length capa)) from hb2.setCell (by simp; omega) _)
          have HO2 := Lib.hid (ownsRow_setCell_below hown1 (show (⟨w1.heap.size, 5, none⟩ : Addr).block < w1.heap.size + 1 from Nat.lt_succ_self _) (.slice (some ⟨ga, 0, none⟩) zs.length capa))
          clear hown1 hgrow hat hXnew hg2 ht2 hb2 x0 x1 x2 x3 x4 x5 x54
          go_wp2
          obtain ⟨g, hg⟩ : ∃ g, g = w1.heap.size := ⟨_, rfl⟩
          obtain ⟨W3, hW3⟩ : ∃ W3, W3 = (w2.setCell ⟨w1.heap.size, 5, none⟩ (.slice (some ⟨ga, 0, none⟩) zs.length capa)).alloc (.cells #[] 3) := ⟨_, rfl⟩
          have hbw3 : Below w2.heap.size (w2.setCell ⟨w1.heap.size, 5, none⟩ (.slice (some ⟨ga, 0, none⟩) zs.length capa)) W3 := by rw [hW3]; exact (Below.refl _ _).alloc (by simp) _
          have hw12 : w1.heap.size < w2.heap.size := by omega
          have hg3 := (hbw3.block w1.heap.size hw12).trans HG2.out
          have ht3 := (hbw3.block (w.heap.size + 1) (by omega)).trans HT2.out
          have hb3 := HB2.out.trans (hbw3.mono (Nat.le_trans (by omega) (Nat.le_of_lt hw12)))
          have hu3 : W3.ownsRow (w1.heap.size + 1) 3 1 (.slice (some ⟨ga, 0, none⟩) zs.length capa) zs.length (zs.map (.int .i64)) := owns_below HO2.out (hbw3.mono (by simp))
          have ho3 : W3.ownsRow (w1.heap.size + 1) 3 1 (.slice (some ⟨w2.heap.size, 0, none⟩) 0 0) 0 [] := by
            rw [hW3]
            simpa using owns_none (w := w2.setCell ⟨w1.heap.size, 5, none⟩ (.slice (some ⟨ga, 0, none⟩) zs.length capa)) (B := w1.heap.size + 1) 3 (by simp; omega)
          have hs3 : w1.heap.size + 1 ≤ W3.heap.size := by rw [hW3]; simp; omega
          rw [← hW3]
          rw [← hg] at hg3 hu3 ho3 hs3 ⊢
          have hgs : w.heap.size + 1 < g := by omega
          have HG3 := Lib.hid hg3
          have HT3 := Lib.hid ht3
          have HB3 := Lib.hid hb3
          have HU3 := Lib.hid hu3
          have HO3 := Lib.hid ho3
          have HS3 := Lib.hid hs3
          have HLT := Lib.hid hlt2
          have HGE := Lib.hid hg
          clear hg hg3 ht3 hb3 hu3 ho3 hs3 hbw3 hw12 hW3 hga e5 g5 hlt2 hsz1
          go_loopw [8, 9, 10, 11] (fun o i _ _ wr => ∃ (j : Nat) (au ao : Option Addr) (cu co : Nat), j ≤ xs.length ∧ i = .int .i64 j ∧ o = .slice ao j co ∧
              wr.heap[g]? = some (.cells #[.int .i64 k, .int .i64 t, .int .i64 zs.length, .int .i64 (runN k t zs.length S L zs xs j).1, .int .i64 (runN k t zs.length S L zs xs j).2.1, .slice au zs.length cu] 26 (0, 0)) ∧
              wr.heap[w.heap.size + 1]? = some (.cells #[.int .i64 0, .int .i64 0, .int .i64 0, .int .i64 0, .int .i64 0, .slice none 0 0] 26 (0, 0)) ∧
              wr.ownsRow (g + 1) 3 1 (.slice au zs.length cu) zs.length ((runN k t zs.length S L zs xs j).2.2.map (.int .i64)) ∧
              wr.ownsRow (g + 1) 3 1 (.slice ao j co) j ((runShown k t zs.length S L zs xs j).map (.int .i64)) ∧
              (∀ q, (Value.slice au zs.length cu).ownBlock = some q → (Value.slice ao j co).ownBlock ≠ some q) ∧
              (∀ i, i < j → inB (xs.getD i 0) 0 (2 ^ zs.length - 1) = true) ∧ Below w.heap.size w wr ∧ g + 1 ≤ wr.heap.size) (fun _ i _ _ _ => xs.length - (intOf i).toNat)
          case atStart => exact ⟨0, _, _, _, _, Nat.zero_le _, rfl, rfl, HG3.out, HT3.out, HU3.out, HO3.out, fun q hq => by (simp [Value.ownBlock] at hq ⊢; have := HLT.out; omega), fun i hi => by omega, HB3.out, HS3.out⟩
          case round =>
            obtain ⟨j, au, ao, cu, co, hj, rfl, rfl, hg, ht, hu, ho, hdj, hin, hb, hsg⟩ := hrel
            have hokst := runN_ok (xs := xs) HO.out.symm j (by simpa using hin)
            obtain ⟨st, hst⟩ : ∃ st, st = runN k t zs.length S L zs xs j := ⟨_, rfl⟩
            rw [← hst] at hg hu hokst
            obtain ⟨s1, l1, as1⟩ := st
            simp only at hg hu hokst
            have hal : as1.length = zs.length := by have := hu.1; simpa using this
            have g0 : wr.cell? ⟨g, 0, none⟩ = some (.int .i64 k) := (cells_of_heap hg 0 (by simp)).1
            have g1 : wr.cell? ⟨g, 1, none⟩ = some (.int .i64 t) := (cells_of_heap hg 1 (by simp)).1
            have g2 : wr.cell? ⟨g, 2, none⟩ = some (.int .i64 zs.length) := (cells_of_heap hg 2 (by simp)).1
            have g3 : wr.cell? ⟨g, 3, none⟩ = some (.int .i64 s1) := (cells_of_heap hg 3 (by simp)).1
            have g4 : wr.cell? ⟨g, 4, none⟩ = some (.int .i64 l1) := (cells_of_heap hg 4 (by simp)).1
            have g5 : wr.cell? ⟨g, 5, none⟩ = some (.slice au zs.length cu) := (cells_of_heap hg 5 (by simp)).1
            by_cases hlt : j < xs.length
            · rcases rd_ints HRX.out with ⟨hnil, _⟩ | ⟨bx, offx, capx1, _, hux, hbxl, hcx⟩
              · exfalso; rw [hnil] at hlt; simp at hlt
              · simp only [Value.slice.injEq] at hux
                obtain ⟨rfl, _, rfl⟩ := hux
                have hcell : wr.cell? ⟨bx, offx + j, none⟩ = some (.int .i64 (xs.getD j 0)) := (hb.cell (p := ⟨bx, offx + j, none⟩) hbxl).trans (hcx j hlt)
                obtain ⟨raw, hraw⟩ : ∃ raw, raw = xs.getD j 0 := ⟨_, rfl⟩
                rw [← hraw] at hcell
                have hrd : Rd wr (.slice au zs.length cu) (as1.map (.int .i64)) := Rd.of_owns hu
                obtain ⟨sm, hsm⟩ : ∃ sm, sm = inB raw 0 (2 ^ zs.length - 1) := ⟨_, rfl⟩
                have hstep : okStep k t zs.length s1 l1 as1 raw = sm := by rw [okStep, hokst, hsm]; simp
                have HG := Lib.hid hg
                have HTr := Lib.hid ht
                have HU := Lib.hid hu
                have HOO := Lib.hid ho
                have HDJ := Lib.hid hdj
                have HIN := Lib.hid hin
                have HB := Lib.hid hb
                have HST := Lib.hid hst
                have HRAW := Lib.hid hraw
                have HRD := Lib.hid hrd
                have HSM := Lib.hid hsm
                have HSTEP := Lib.hid hstep
                have HCX := Lib.hid hcx
                have hgl : g < wr.heap.size := by omega
                have hbxr : bx < wr.heap.size := Nat.lt_of_lt_of_le hbxl hb.size
                have hne1 : ¬ g = wr.heap.size := by omega
                have hne2 : ¬ bx = wr.heap.size := by omega
                have hne3 : ¬ wr.heap.size = g := by omega
                have hne4 : ¬ wr.heap.size = bx := by omega
                clear hg ht hu ho hdj hin hb hst hraw hrd hsm hstep hokst hcx
                cases sm
                · have HNR : Hid (okRun k t zs.length S L zs xs = false) := Lib.hid (by
                    have h3 : allIn 0 (2 ^ ((zs.length : Nat) : Int).toNat - 1) xs = false := allIn_false hlt (by rw [← HRAW.out]; simpa using HSM.out.symm)
                    rw [okRun, h3, Bool.and_false])
                  go_upto_region 9 with (fail)
                  go_cut [10, 11] (fun s10 s11 wx => ∃ (y : Nat), s10 = .pointer (some ⟨y, 0, none⟩) ∧ s11 = .bool false ∧ Below wr.heap.size wr wx)
                  case first =>
                    go_region_held3 (fun w' => w'.cell? ⟨g, 0, none⟩ = some (.int .i64 k) ∧ w'.cell? ⟨g, 1, none⟩ = some (.int .i64 t) ∧ w'.cell? ⟨g, 2, none⟩ = some (.int .i64 zs.length) ∧ w'.cell? ⟨g, 3, none⟩ = some (.int .i64 s1) ∧ w'.cell? ⟨g, 4, none⟩ = some (.int .i64 l1) ∧ w'.cell? ⟨g, 5, none⟩ = some (.slice au zs.length cu) ∧ w'.cell? ⟨bx, offx + j, none⟩ = some (.int .i64 raw)) (first | go_keep)
                      (first | (go_at_call 30; refine (specDebounceStep_any k t zs.length s1 l1 (.slice au zs.length cu) as1 raw ((wr.alloc (.cells #[.int .i64 0, .int .i64 0, .int .i64 0, .int .i64 0, .int .i64 0, .slice none 0 0] 26)).drew) (by rw [hal]; exact hl) (HRD.out.below (((Below.refl _ _).alloc (Nat.le_refl _) _).drew))).mono ?_; intro e w5 hp; rw [StepDeb, HSTEP.out, if_neg (by simp)] at hp; obtain ⟨rfl, hb5⟩ := hp; have hbr : Below wr.heap.size wr w5 := (((Below.refl _ _).alloc (Nat.le_refl _) _).drew).trans (hb5.mono (by simp)); have hy5 : w5.heap[wr.heap.size]? = some (.cells #[.int .i64 0, .int .i64 0, .int .i64 0, .int .i64 0, .int .i64 0, .slice none 0 0] 26 (0, 0)) := (hb5.block wr.heap.size (by simp)).trans (heap_alloc_new wr _); obtain ⟨m0, n0⟩ := cells_of_heap hy5 0 (by simp); obtain ⟨m1, n1⟩ := cells_of_heap hy5 1 (by simp); obtain ⟨m2, n2⟩ := cells_of_heap hy5 2 (by simp); obtain ⟨m3, n3⟩ := cells_of_heap hy5 3 (by simp); obtain ⟨m4, n4⟩ := cells_of_heap hy5 4 (by simp); obtain ⟨m5, n5⟩ := cells_of_heap hy5 5 (by simp); clear hy5; have k0 := (hbr.cell (p := ⟨g, 0, none⟩) hgl).trans g0; have k1 := (hbr.cell (p := ⟨g, 1, none⟩) hgl).trans g1; have k2 := (hbr.cell (p := ⟨g, 2, none⟩) hgl).trans g2; have k3 := (hbr.cell (p := ⟨g, 3, none⟩) hgl).trans g3; have k4 := (hbr.cell (p := ⟨g, 4, none⟩) hgl).trans g4; have k5 := (hbr.cell (p := ⟨g, 5, none⟩) hgl).trans g5; have k6 := (hbr.cell (p := ⟨bx, offx + j, none⟩) hbxr).trans hcell; have hsz5 : wr.heap.size ≤ w5.heap.size := hbr.size; have HBR := Lib.hid hbr; clear hbr hb5) | (go_at_call 30; refine (specDebounceStep_any k t zs.length s1 l1 (.slice au zs.length cu) as1 raw (wr.drew) (by rw [hal]; exact hl) (HRD.out.below ((Below.refl _ _).drew))).mono ?_; intro e w5 hp; rw [StepDeb, HSTEP.out, if_neg (by simp)] at hp; obtain ⟨rfl, hb5⟩ := hp; have hbr : Below wr.heap.size wr w5 := ((Below.refl _ _).drew).trans hb5; have k0 := (hbr.cell (p := ⟨g, 0, none⟩) hgl).trans g0; have k1 := (hbr.cell (p := ⟨g, 1, none⟩) hgl).trans g1; have k2 := (hbr.cell (p := ⟨g, 2, none⟩) hgl).trans g2; have k3 := (hbr.cell (p := ⟨g, 3, none⟩) hgl).trans g3; have k4 := (hbr.cell (p := ⟨g, 4, none⟩) hgl).trans g4; have k5 := (hbr.cell (p := ⟨g, 5, none⟩) hgl).trans g5; have k6 := (hbr.cell (p := ⟨bx, offx + j, none⟩) hbxr).trans hcell; have hsz5 : wr.heap.size ≤ w5.heap.size := hbr.size; have HBR := Lib.hid hbr; clear hbr hb5))
                    · go_wp2
                      go_meet
                      exact ⟨w5.heap.size, rfl, rfl, HBR.out.alloc hsz5 _⟩
                    · go_wp2
                      have bz6 : Below wr.heap.size wr ((((((w5.setCell ⟨wr.heap.size, 0, none⟩ (.int .i64 0)).setCell ⟨wr.heap.size, 1, none⟩ (.int .i64 0)).setCell ⟨wr.heap.size, 2, none⟩ (.int .i64 0)).setCell ⟨wr.heap.size, 3, none⟩ (.int .i64 0)).setCell ⟨wr.heap.size, 4, none⟩ (.int .i64 0)).setCell ⟨wr.heap.size, 5, none⟩ (.slice none 0 0)) := ((((((HBR.out).setCell (Nat.le_refl _) _).setCell (Nat.le_refl _) _).setCell (Nat.le_refl _) _).setCell (Nat.le_refl _) _).setCell (Nat.le_refl _) _).setCell (Nat.le_refl _) _
                      have BZ := Lib.hid bz6
                      clear bz6
                      go_meet
                      exact ⟨wr.heap.size, rfl, rfl, BZ.out⟩
                  case rest =>
                    obtain ⟨y, rfl, rfl, hby⟩ := hcut
                    have ht1 := (hby.block (w.heap.size + 1) (by omega)).trans HTr.out
                    have hbb := HB.out.trans (hby.mono HB.out.size)
                    have hszz : w.heap.size + 1 < wc.heap.size := by have := hby.size; omega
                    clear hby g0 g1 g2 g3 g4 g5 hcell
                    have HSZ : Hid (w.heap.size + 1 < wc.heap.size) := Lib.hid hszz
                    obtain ⟨t0, q0⟩ := cells_of_heap ht1 0 (by simp)
                    obtain ⟨t1, q1⟩ := cells_of_heap ht1 1 (by simp)
                    obtain ⟨t2, q2⟩ := cells_of_heap ht1 2 (by simp)
                    obtain ⟨t3, q3⟩ := cells_of_heap ht1 3 (by simp)
                    obtain ⟨t4, q4⟩ := cells_of_heap ht1 4 (by simp)
                    obtain ⟨t5, q5⟩ := cells_of_heap ht1 5 (by simp)
                    have HTT := Lib.hid ht1
                    have HBB := Lib.hid hbb
                    clear ht1 hbb
                    go_wp2
                    have k1 : (wc.setCell ⟨w.heap.size + 1, 0, none⟩ (.int .i64 0)).heap[w.heap.size + 1]? = some (.cells #[.int .i64 0, .int .i64 0, .int .i64 0, .int .i64 0, .int .i64 0, .slice none 0 0] 26 (0, 0)) := heap_setCell_same _ _ 0 _ _ _ HTT.out
                    have k2 : ((wc.setCell ⟨w.heap.size + 1, 0, none⟩ (.int .i64 0)).setCell ⟨w.heap.size + 1, 1, none⟩ (.int .i64 0)).heap[w.heap.size + 1]? = some (.cells #[.int .i64 0, .int .i64 0, .int .i64 0, .int .i64 0, .int .i64 0, .slice none 0 0] 26 (0, 0)) := heap_setCell_same _ _ 1 _ _ _ k1
                    have k3 : (((wc.setCell ⟨w.heap.size + 1, 0, none⟩ (.int .i64 0)).setCell ⟨w.heap.size + 1, 1, none⟩ (.int .i64 0)).setCell ⟨w.heap.size + 1, 2, none⟩ (.int .i64 0)).heap[w.heap.size + 1]? = some (.cells #[.int .i64 0, .int .i64 0, .int .i64 0, .int .i64 0, .int .i64 0, .slice none 0 0] 26 (0, 0)) := heap_setCell_same _ _ 2 _ _ _ k2
                    have k4 : ((((wc.setCell ⟨w.heap.size + 1, 0, none⟩ (.int .i64 0)).setCell ⟨w.heap.size + 1, 1, none⟩ (.int .i64 0)).setCell ⟨w.heap.size + 1, 2, none⟩ (.int .i64 0)).setCell ⟨w.heap.size + 1, 3, none⟩ (.int .i64 0)).heap[w.heap.size + 1]? = some (.cells #[.int .i64 0, .int .i64 0, .int .i64 0, .int .i64 0, .int .i64 0, .slice none 0 0] 26 (0, 0)) := heap_setCell_same _ _ 3 _ _ _ k3
                    have k5 : (((((wc.setCell ⟨w.heap.size + 1, 0, none⟩ (.int .i64 0)).setCell ⟨w.heap.size + 1, 1, none⟩ (.int .i64 0)).setCell ⟨w.heap.size + 1, 2, none⟩ (.int .i64 0)).setCell ⟨w.heap.size + 1, 3, none⟩ (.int .i64 0)).setCell ⟨w.heap.size + 1, 4, none⟩ (.int .i64 0)).heap[w.heap.size + 1]? = some (.cells #[.int .i64 0, .int .i64 0, .int .i64 0, .int .i64 0, .int .i64 0, .slice none 0 0] 26 (0, 0)) := heap_setCell_same _ _ 4 _ _ _ k4
                    have k6 : ((((((wc.setCell ⟨w.heap.size + 1, 0, none⟩ (.int .i64 0)).setCell ⟨w.heap.size + 1, 1, none⟩ (.int .i64 0)).setCell ⟨w.heap.size + 1, 2, none⟩ (.int .i64 0)).setCell ⟨w.heap.size + 1, 3, none⟩ (.int .i64 0)).setCell ⟨w.heap.size + 1, 4, none⟩ (.int .i64 0)).setCell ⟨w.heap.size + 1, 5, none⟩ (.slice none 0 0)).heap[w.heap.size + 1]? = some (.cells #[.int .i64 0, .int .i64 0, .int .i64 0, .int .i64 0, .int .i64 0, .slice none 0 0] 26 (0, 0)) := heap_setCell_same _ _ 5 _ _ _ k5
                    have k7 : (((((((wc.setCell ⟨w.heap.size + 1, 0, none⟩ (.int .i64 0)).setCell ⟨w.heap.size + 1, 1, none⟩ (.int .i64 0)).setCell ⟨w.heap.size + 1, 2, none⟩ (.int .i64 0)).setCell ⟨w.heap.size + 1, 3, none⟩ (.int .i64 0)).setCell ⟨w.heap.size + 1, 4, none⟩ (.int .i64 0)).setCell ⟨w.heap.size + 1, 5, none⟩ (.slice none 0 0)).alloc (.cells #[] 3)).heap[w.heap.size + 1]? = some (.cells #[.int .i64 0, .int .i64 0, .int .i64 0, .int .i64 0, .int .i64 0, .slice none 0 0] 26 (0, 0)) := (Below.heap_alloc _ _ _ (by have := HSZ.out; simp; omega)).trans k6
                    have bf : Below w.heap.size w (((((((wc.setCell ⟨w.heap.size + 1, 0, none⟩ (.int .i64 0)).setCell ⟨w.heap.size + 1, 1, none⟩ (.int .i64 0)).setCell ⟨w.heap.size + 1, 2, none⟩ (.int .i64 0)).setCell ⟨w.heap.size + 1, 3, none⟩ (.int .i64 0)).setCell ⟨w.heap.size + 1, 4, none⟩ (.int .i64 0)).setCell ⟨w.heap.size + 1, 5, none⟩ (.slice none 0 0)).alloc (.cells #[] 3)) := (((((((HBB.out).setCell (by simp) _).setCell (by simp) _).setCell (by simp) _).setCell (by simp) _).setCell (by simp) _).setCell (by simp) _).alloc (by have := HSZ.out; simp; omega) _
                    have of : (((((((wc.setCell ⟨w.heap.size + 1, 0, none⟩ (.int .i64 0)).setCell ⟨w.heap.size + 1, 1, none⟩ (.int .i64 0)).setCell ⟨w.heap.size + 1, 2, none⟩ (.int .i64 0)).setCell ⟨w.heap.size + 1, 3, none⟩ (.int .i64 0)).setCell ⟨w.heap.size + 1, 4, none⟩ (.int .i64 0)).setCell ⟨w.heap.size + 1, 5, none⟩ (.slice none 0 0)).alloc (.cells #[] 3)).ownsRow w.heap.size 3 1 (.slice (some ⟨wc.heap.size, 0, none⟩) 0 0) 0 [] := by simpa using owns_none (w := ((((((wc.setCell ⟨w.heap.size + 1, 0, none⟩ (.int .i64 0)).setCell ⟨w.heap.size + 1, 1, none⟩ (.int .i64 0)).setCell ⟨w.heap.size + 1, 2, none⟩ (.int .i64 0)).setCell ⟨w.heap.size + 1, 3, none⟩ (.int .i64 0)).setCell ⟨w.heap.size + 1, 4, none⟩ (.int .i64 0)).setCell ⟨w.heap.size + 1, 5, none⟩ (.slice none 0 0))) (B := w.heap.size) 3 (by have := HSZ.out; simp; omega)
                    obtain ⟨wf, hwf⟩ : ∃ wf, wf = (((((((wc.setCell ⟨w.heap.size + 1, 0, none⟩ (.int .i64 0)).setCell ⟨w.heap.size + 1, 1, none⟩ (.int .i64 0)).setCell ⟨w.heap.size + 1, 2, none⟩ (.int .i64 0)).setCell ⟨w.heap.size + 1, 3, none⟩ (.int .i64 0)).setCell ⟨w.heap.size + 1, 4, none⟩ (.int .i64 0)).setCell ⟨w.heap.size + 1, 5, none⟩ (.slice none 0 0)).alloc (.cells #[] 3)) := ⟨_, rfl⟩
                    rw [← hwf] at k7 bf of ⊢
                    clear hwf k1 k2 k3 k4 k5 k6
                    have f0 := (cells_of_heap k7 0 (by simp)).1
                    have f1 := (cells_of_heap k7 1 (by simp)).1
                    have f2 := (cells_of_heap k7 2 (by simp)).1
                    have f3 := (cells_of_heap k7 3 (by simp)).1
                    have f4 := (cells_of_heap k7 4 (by simp)).1
                    have f5 := (cells_of_heap k7 5 (by simp)).1
                    clear t0 t1 t2 t3 t4 t5 q0 q1 q2 q3 q4 q5
                    refine bodyPost_ret (v := .tuple #[zeroDb, .slice (some ⟨wc.heap.size, 0, none⟩) 0 0, .bool false]) (by simp [results, Try.results31, go_sem, f0, f1, f2, f3, f4, f5]) rfl ?_
                    have hfin : RunDeb k t zs.length S L zs xs w (.returned (.tuple #[zeroDb, .slice (some ⟨wc.heap.size, 0, none⟩) 0 0, .bool false])) wf := by
                      refine ⟨.slice none 0 0, .slice (some ⟨wc.heap.size, 0, none⟩) 0 0, ?_, bf⟩
                      rw [HNR.out, if_neg (by simp)]
                      exact ⟨rfl, of⟩
                    exact hfin
                · go_upto_region 9 with (fail)
                  go_cut [10, 11] (fun s10 s11 wx => ∃ (y : Nat) (a' : Option Addr) (c' : Nat), s10 = .pointer (some ⟨y, 0, none⟩) ∧ s11 = .bool true ∧ wx.heap[y]? = some (.cells #[.int .i64 k, .int .i64 t, .int .i64 zs.length, .int .i64 (shownTo k t raw.toNat l1.toNat s1.toNat as1 zs.length : Nat), .int .i64 raw, .slice a' zs.length c'] 26 (0, 0)) ∧
                      wx.ownsRow wr.heap.size 3 1 (.slice a' zs.length c') zs.length ((agesTo k t raw.toNat l1.toNat s1.toNat as1 zs.length).map (.int .i64)) ∧ Below wr.heap.size wr wx ∧ wr.heap.size ≤ y)
                  case first =>
                    go_region_held3 (fun w' => w'.cell? ⟨g, 0, none⟩ = some (.int .i64 k) ∧ w'.cell? ⟨g, 1, none⟩ = some (.int .i64 t) ∧ w'.cell? ⟨g, 2, none⟩ = some (.int .i64 zs.length) ∧ w'.cell? ⟨g, 3, none⟩ = some (.int .i64 s1) ∧ w'.cell? ⟨g, 4, none⟩ = some (.int .i64 l1) ∧ w'.cell? ⟨g, 5, none⟩ = some (.slice au zs.length cu) ∧ w'.cell? ⟨bx, offx + j, none⟩ = some (.int .i64 raw)) (first | go_keep)
                      (first | (go_at_call 30; refine (specDebounceStep_any k t zs.length s1 l1 (.slice au zs.length cu) as1 raw ((wr.alloc (.cells #[.int .i64 0, .int .i64 0, .int .i64 0, .int .i64 0, .int .i64 0, .slice none 0 0] 26)).drew) (by rw [hal]; exact hl) (HRD.out.below (((Below.refl _ _).alloc (Nat.le_refl _) _).drew))).mono ?_; intro e w5 hp; rw [StepDeb, HSTEP.out, if_pos rfl] at hp; obtain ⟨u', rfl, ho5, hb5⟩ := hp; obtain ⟨a', c', rfl⟩ := owns_shape ho5; simp only [Int.toNat_natCast] at ho5; have hbr : Below wr.heap.size wr w5 := (((Below.refl _ _).alloc (Nat.le_refl _) _).drew).trans (hb5.mono (by simp)); have hy5 : w5.heap[wr.heap.size]? = some (.cells #[.int .i64 0, .int .i64 0, .int .i64 0, .int .i64 0, .int .i64 0, .slice none 0 0] 26 (0, 0)) := (hb5.block wr.heap.size (by simp)).trans (heap_alloc_new wr _); obtain ⟨m0, n0⟩ := cells_of_heap hy5 0 (by simp); obtain ⟨m1, n1⟩ := cells_of_heap hy5 1 (by simp); obtain ⟨m2, n2⟩ := cells_of_heap hy5 2 (by simp); obtain ⟨m3, n3⟩ := cells_of_heap hy5 3 (by simp); obtain ⟨m4, n4⟩ := cells_of_heap hy5 4 (by simp); obtain ⟨m5, n5⟩ := cells_of_heap hy5 5 (by simp); have HBR := Lib.hid hbr; have HY5 := Lib.hid hy5; clear hy5; have k0 := (hbr.cell (p := ⟨g, 0, none⟩) hgl).trans g0; have k1 := (hbr.cell (p := ⟨g, 1, none⟩) hgl).trans g1; have k2 := (hbr.cell (p := ⟨g, 2, none⟩) hgl).trans g2; have k3 := (hbr.cell (p := ⟨g, 3, none⟩) hgl).trans g3; have k4 := (hbr.cell (p := ⟨g, 4, none⟩) hgl).trans g4; have k5 := (hbr.cell (p := ⟨g, 5, none⟩) hgl).trans g5; have k6 := (hbr.cell (p := ⟨bx, offx + j, none⟩) hbxr).trans hcell; have hsz5 : wr.heap.size ≤ w5.heap.size := hbr.size; clear hbr; have HO5 := Lib.hid ho5; have HB5 := Lib.hid hb5; clear ho5 hb5) | (go_at_call 30; refine (specDebounceStep_any k t zs.length s1 l1 (.slice au zs.length cu) as1 raw (wr.drew) (by rw [hal]; exact hl) (HRD.out.below ((Below.refl _ _).drew))).mono ?_; intro e w5 hp; rw [StepDeb, HSTEP.out, if_pos rfl] at hp; obtain ⟨u', rfl, ho5, hb5⟩ := hp; obtain ⟨a', c', rfl⟩ := owns_shape ho5; simp only [Int.toNat_natCast] at ho5; have hbr : Below wr.heap.size wr w5 := ((Below.refl _ _).drew).trans hb5; have HBR := Lib.hid hbr; have k0 := (hbr.cell (p := ⟨g, 0, none⟩) hgl).trans g0; have k1 := (hbr.cell (p := ⟨g, 1, none⟩) hgl).trans g1; have k2 := (hbr.cell (p := ⟨g, 2, none⟩) hgl).trans g2; have k3 := (hbr.cell (p := ⟨g, 3, none⟩) hgl).trans g3; have k4 := (hbr.cell (p := ⟨g, 4, none⟩) hgl).trans g4; have k5 := (hbr.cell (p := ⟨g, 5, none⟩) hgl).trans g5; have k6 := (hbr.cell (p := ⟨bx, offx + j, none⟩) hbxr).trans hcell; have hsz5 : wr.heap.size ≤ w5.heap.size := hbr.size; clear hbr; have HO5 := Lib.hid ho5; have HB5 := Lib.hid hb5; clear ho5 hb5))
                    · go_wp2
                      go_meet
                      exact ⟨w5.heap.size, a', c', rfl, rfl, heap_alloc_new w5 _, owns_below HO5.out ((Below.refl _ _).alloc (Nat.le_refl _) _), HBR.out.alloc hsz5 _, hsz5⟩
                    · go_wp2
                      have z0 : (w5.setCell ⟨wr.heap.size, 0, none⟩ (.int .i64 k)).heap[wr.heap.size]? = some (.cells #[.int .i64 k, .int .i64 0, .int .i64 0, .int .i64 0, .int .i64 0, .slice none 0 0] 26 (0, 0)) := heap_setCell_same _ _ 0 _ _ _ HY5.out
                      have z1 : ((w5.setCell ⟨wr.heap.size, 0, none⟩ (.int .i64 k)).setCell ⟨wr.heap.size, 1, none⟩ (.int .i64 t)).heap[wr.heap.size]? = some (.cells #[.int .i64 k, .int .i64 t, .int .i64 0, .int .i64 0, .int .i64 0, .slice none 0 0] 26 (0, 0)) := heap_setCell_same _ _ 1 _ _ _ z0
                      have z2 : (((w5.setCell ⟨wr.heap.size, 0, none⟩ (.int .i64 k)).setCell ⟨wr.heap.size, 1, none⟩ (.int .i64 t)).setCell ⟨wr.heap.size, 2, none⟩ (.int .i64 zs.length)).heap[wr.heap.size]? = some (.cells #[.int .i64 k, .int .i64 t, .int .i64 zs.length, .int .i64 0, .int .i64 0, .slice none 0 0] 26 (0, 0)) := heap_setCell_same _ _ 2 _ _ _ z1
                      have z3 : ((((w5.setCell ⟨wr.heap.size, 0, none⟩ (.int .i64 k)).setCell ⟨wr.heap.size, 1, none⟩ (.int .i64 t)).setCell ⟨wr.heap.size, 2, none⟩ (.int .i64 zs.length)).setCell ⟨wr.heap.size, 3, none⟩ (.int .i64 (shownTo k t raw.toNat l1.toNat s1.toNat as1 zs.length : Nat))).heap[wr.heap.size]? = some (.cells #[.int .i64 k, .int .i64 t, .int .i64 zs.length, .int .i64 (shownTo k t raw.toNat l1.toNat s1.toNat as1 zs.length : Nat), .int .i64 0, .slice none 0 0] 26 (0, 0)) := heap_setCell_same _ _ 3 _ _ _ z2
                      have z4 : (((((w5.setCell ⟨wr.heap.size, 0, none⟩ (.int .i64 k)).setCell ⟨wr.heap.size, 1, none⟩ (.int .i64 t)).setCell ⟨wr.heap.size, 2, none⟩ (.int .i64 zs.length)).setCell ⟨wr.heap.size, 3, none⟩ (.int .i64 (shownTo k t raw.toNat l1.toNat s1.toNat as1 zs.length : Nat))).setCell ⟨wr.heap.size, 4, none⟩ (.int .i64 raw)).heap[wr.heap.size]? = some (.cells #[.int .i64 k, .int .i64 t, .int .i64 zs.length, .int .i64 (shownTo k t raw.toNat l1.toNat s1.toNat as1 zs.length : Nat), .int .i64 raw, .slice none 0 0] 26 (0, 0)) := heap_setCell_same _ _ 4 _ _ _ z3
                      have z5 : ((((((w5.setCell ⟨wr.heap.size, 0, none⟩ (.int .i64 k)).setCell ⟨wr.heap.size, 1, none⟩ (.int .i64 t)).setCell ⟨wr.heap.size, 2, none⟩ (.int .i64 zs.length)).setCell ⟨wr.heap.size, 3, none⟩ (.int .i64 (shownTo k t raw.toNat l1.toNat s1.toNat as1 zs.length : Nat))).setCell ⟨wr.heap.size, 4, none⟩ (.int .i64 raw)).setCell ⟨wr.heap.size, 5, none⟩ (.slice a' zs.length c')).heap[wr.heap.size]? = some (.cells #[.int .i64 k, .int .i64 t, .int .i64 zs.length, .int .i64 (shownTo k t raw.toNat l1.toNat s1.toNat as1 zs.length : Nat), .int .i64 raw, .slice a' zs.length c'] 26 (0, 0)) := heap_setCell_same _ _ 5 _ _ _ z4
                      have bz6 : Below wr.heap.size wr ((((((w5.setCell ⟨wr.heap.size, 0, none⟩ (.int .i64 k)).setCell ⟨wr.heap.size, 1, none⟩ (.int .i64 t)).setCell ⟨wr.heap.size, 2, none⟩ (.int .i64 zs.length)).setCell ⟨wr.heap.size, 3, none⟩ (.int .i64 (shownTo k t raw.toNat l1.toNat s1.toNat as1 zs.length : Nat))).setCell ⟨wr.heap.size, 4, none⟩ (.int .i64 raw)).setCell ⟨wr.heap.size, 5, none⟩ (.slice a' zs.length c')) := ((((((HBR.out).setCell (Nat.le_refl _) _).setCell (Nat.le_refl _) _).setCell (Nat.le_refl _) _).setCell (Nat.le_refl _) _).setCell (Nat.le_refl _) _).setCell (Nat.le_refl _) _
                      have oz6 := ownsRow_setCell_below (a := ⟨wr.heap.size, 5, none⟩) (ownsRow_setCell_below (a := ⟨wr.heap.size, 4, none⟩) (ownsRow_setCell_below (a := ⟨wr.heap.size, 3, none⟩) (ownsRow_setCell_below (a := ⟨wr.heap.size, 2, none⟩) (ownsRow_setCell_below (a := ⟨wr.heap.size, 1, none⟩) (ownsRow_setCell_below (a := ⟨wr.heap.size, 0, none⟩) (HO5.out) (by simp) (.int .i64 k)) (by simp) (.int .i64 t)) (by simp) (.int .i64 zs.length)) (by simp) (.int .i64 (shownTo k t raw.toNat l1.toNat s1.toNat as1 zs.length : Nat))) (by simp) (.int .i64 raw)) (by simp) (.slice a' zs.length c')
                      have OZ := Lib.hid oz6
                      have BZ := Lib.hid bz6
                      have ZZ := Lib.hid z5
                      clear oz6 bz6 z0 z1 z2 z3 z4 z5
                      go_meet
                      exact ⟨wr.heap.size, a', c', rfl, rfl, ZZ.out, owns_base OZ.out (by simp), BZ.out, Nat.le_refl _⟩
                  case rest =>
                    obtain ⟨y, a', c', rfl, rfl, hy, hoy, hby, hyl⟩ := hcut
                    obtain ⟨sN, hsN⟩ : ∃ sN : Int, sN = (shownTo k t raw.toNat l1.toNat s1.toNat as1 zs.length : Nat) := ⟨_, rfl⟩
                    rw [← hsN] at hy
                    have HSN := Lib.hid hsN
                    have hgc := (hby.block g hgl).trans HG.out
                    have htc := (hby.block (w.heap.size + 1) (by omega)).trans HTr.out
                    have hoc := owns_below HOO.out hby
                    have hbc := HB.out.trans (hby.mono HB.out.size)
                    have hszc : wr.heap.size ≤ wc.heap.size := hby.size
                    have hyne : ¬ y = g := by omega
                    have hyne2 : ¬ g = y := by omega
                    have hywc : y < wc.heap.size := (Array.getElem?_eq_some_iff.mp hy).1
                    have y0 : wc.cell? ⟨y, 0, none⟩ = some (.int .i64 k) := (cells_of_heap hy 0 (by simp)).1
                    have y1 : wc.cell? ⟨y, 1, none⟩ = some (.int .i64 t) := (cells_of_heap hy 1 (by simp)).1
                    have y2 : wc.cell? ⟨y, 2, none⟩ = some (.int .i64 zs.length) := (cells_of_heap hy 2 (by simp)).1
                    have y3 : wc.cell? ⟨y, 3, none⟩ = some (.int .i64 sN) := (cells_of_heap hy 3 (by simp)).1
                    have y4 : wc.cell? ⟨y, 4, none⟩ = some (.int .i64 raw) := (cells_of_heap hy 4 (by simp)).1
                    have y5 : wc.cell? ⟨y, 5, none⟩ = some (.slice a' zs.length c') := (cells_of_heap hy 5 (by simp)).1
                    obtain ⟨r0, v0⟩ := cells_of_heap hgc 0 (by simp)
                    obtain ⟨r1, v1⟩ := cells_of_heap hgc 1 (by simp)
                    obtain ⟨r2, v2⟩ := cells_of_heap hgc 2 (by simp)
                    obtain ⟨r3, v3⟩ := cells_of_heap hgc 3 (by simp)
                    obtain ⟨r4, v4⟩ := cells_of_heap hgc 4 (by simp)
                    obtain ⟨r5, v5⟩ := cells_of_heap hgc 5 (by simp)
                    have z0 : (wc.setCell ⟨g, 0, none⟩ (.int .i64 k)).heap[g]? = some (.cells #[.int .i64 k, .int .i64 t, .int .i64 zs.length, .int .i64 s1, .int .i64 l1, .slice au zs.length cu] 26 (0, 0)) := heap_setCell_same _ _ 0 _ _ _ hgc
                    have z1 : ((wc.setCell ⟨g, 0, none⟩ (.int .i64 k)).setCell ⟨g, 1, none⟩ (.int .i64 t)).heap[g]? = some (.cells #[.int .i64 k, .int .i64 t, .int .i64 zs.length, .int .i64 s1, .int .i64 l1, .slice au zs.length cu] 26 (0, 0)) := heap_setCell_same _ _ 1 _ _ _ z0
                    have z2 : (((wc.setCell ⟨g, 0, none⟩ (.int .i64 k)).setCell ⟨g, 1, none⟩ (.int .i64 t)).setCell ⟨g, 2, none⟩ (.int .i64 zs.length)).heap[g]? = some (.cells #[.int .i64 k, .int .i64 t, .int .i64 zs.length, .int .i64 s1, .int .i64 l1, .slice au zs.length cu] 26 (0, 0)) := heap_setCell_same _ _ 2 _ _ _ z1
                    have z3 : ((((wc.setCell ⟨g, 0, none⟩ (.int .i64 k)).setCell ⟨g, 1, none⟩ (.int .i64 t)).setCell ⟨g, 2, none⟩ (.int .i64 zs.length)).setCell ⟨g, 3, none⟩ (.int .i64 sN)).heap[g]? = some (.cells #[.int .i64 k, .int .i64 t, .int .i64 zs.length, .int .i64 sN, .int .i64 l1, .slice au zs.length cu] 26 (0, 0)) := heap_setCell_same _ _ 3 _ _ _ z2
                    have z4 : (((((wc.setCell ⟨g, 0, none⟩ (.int .i64 k)).setCell ⟨g, 1, none⟩ (.int .i64 t)).setCell ⟨g, 2, none⟩ (.int .i64 zs.length)).setCell ⟨g, 3, none⟩ (.int .i64 sN)).setCell ⟨g, 4, none⟩ (.int .i64 raw)).heap[g]? = some (.cells #[.int .i64 k, .int .i64 t, .int .i64 zs.length, .int .i64 sN, .int .i64 raw, .slice au zs.length cu] 26 (0, 0)) := heap_setCell_same _ _ 4 _ _ _ z3
                    have z5 : ((((((wc.setCell ⟨g, 0, none⟩ (.int .i64 k)).setCell ⟨g, 1, none⟩ (.int .i64 t)).setCell ⟨g, 2, none⟩ (.int .i64 zs.length)).setCell ⟨g, 3, none⟩ (.int .i64 sN)).setCell ⟨g, 4, none⟩ (.int .i64 raw)).setCell ⟨g, 5, none⟩ (.slice a' zs.length c')).heap[g]? = some (.cells #[.int .i64 k, .int .i64 t, .int .i64 zs.length, .int .i64 sN, .int .i64 raw, .slice a' zs.length c'] 26 (0, 0)) := heap_setCell_same _ _ 5 _ _ _ z4
                    obtain ⟨wS, hwS⟩ : ∃ wS, wS = ((((((wc.setCell ⟨g, 0, none⟩ (.int .i64 k)).setCell ⟨g, 1, none⟩ (.int .i64 t)).setCell ⟨g, 2, none⟩ (.int .i64 zs.length)).setCell ⟨g, 3, none⟩ (.int .i64 sN)).setCell ⟨g, 4, none⟩ (.int .i64 raw)).setCell ⟨g, 5, none⟩ (.slice a' zs.length c')) := ⟨_, rfl⟩
                    have tS : wS.heap[w.heap.size + 1]? = some (.cells #[.int .i64 0, .int .i64 0, .int .i64 0, .int .i64 0, .int .i64 0, .slice none 0 0] 26 (0, 0)) := by rw [hwS]; exact (Below.heap_setCell _ ⟨g, 5, none⟩ (.slice a' zs.length c') _ (by simp; omega)).trans ((Below.heap_setCell _ ⟨g, 4, none⟩ (.int .i64 raw) _ (by simp; omega)).trans ((Below.heap_setCell _ ⟨g, 3, none⟩ (.int .i64 sN) _ (by simp; omega)).trans ((Below.heap_setCell _ ⟨g, 2, none⟩ (.int .i64 zs.length) _ (by simp; omega)).trans ((Below.heap_setCell _ ⟨g, 1, none⟩ (.int .i64 t) _ (by simp; omega)).trans ((Below.heap_setCell _ ⟨g, 0, none⟩ (.int .i64 k) _ (by simp; omega)).trans (htc))))))
                    have yS : wS.heap[y]? = some (.cells #[.int .i64 k, .int .i64 t, .int .i64 zs.length, .int .i64 sN, .int .i64 raw, .slice a' zs.length c'] 26 (0, 0)) := by rw [hwS]; exact (Below.heap_setCell _ ⟨g, 5, none⟩ (.slice a' zs.length c') _ (by simp; omega)).trans ((Below.heap_setCell _ ⟨g, 4, none⟩ (.int .i64 raw) _ (by simp; omega)).trans ((Below.heap_setCell _ ⟨g, 3, none⟩ (.int .i64 sN) _ (by simp; omega)).trans ((Below.heap_setCell _ ⟨g, 2, none⟩ (.int .i64 zs.length) _ (by simp; omega)).trans ((Below.heap_setCell _ ⟨g, 1, none⟩ (.int .i64 t) _ (by simp; omega)).trans ((Below.heap_setCell _ ⟨g, 0, none⟩ (.int .i64 k) _ (by simp; omega)).trans (hy))))))
                    have bS : Below w.heap.size w wS := by rw [hwS]; exact ((((((hbc).setCell (by simp; omega) _).setCell (by simp; omega) _).setCell (by simp; omega) _).setCell (by simp; omega) _).setCell (by simp; omega) _).setCell (by simp; omega) _
                    have oS : wS.ownsRow (g + 1) 3 1 (.slice ao j co) j ((runShown k t zs.length S L zs xs j).map (.int .i64)) := by rw [hwS]; exact ownsRow_setCell_below (a := ⟨g, 5, none⟩) (ownsRow_setCell_below (a := ⟨g, 4, none⟩) (ownsRow_setCell_below (a := ⟨g, 3, none⟩) (ownsRow_setCell_below (a := ⟨g, 2, none⟩) (ownsRow_setCell_below (a := ⟨g, 1, none⟩) (ownsRow_setCell_below (a := ⟨g, 0, none⟩) (hoc) (Nat.lt_succ_self g) (.int .i64 k)) (Nat.lt_succ_self g) (.int .i64 t)) (Nat.lt_succ_self g) (.int .i64 zs.length)) (Nat.lt_succ_self g) (.int .i64 sN)) (Nat.lt_succ_self g) (.int .i64 raw)) (Nat.lt_succ_self g) (.slice a' zs.length c')
                    have uS : wS.ownsRow wr.heap.size 3 1 (.slice a' zs.length c') zs.length ((agesTo k t raw.toNat l1.toNat s1.toNat as1 zs.length).map (.int .i64)) := by rw [hwS]; exact ownsRow_setCell_below (a := ⟨g, 5, none⟩) (ownsRow_setCell_below (a := ⟨g, 4, none⟩) (ownsRow_setCell_below (a := ⟨g, 3, none⟩) (ownsRow_setCell_below (a := ⟨g, 2, none⟩) (ownsRow_setCell_below (a := ⟨g, 1, none⟩) (ownsRow_setCell_below (a := ⟨g, 0, none⟩) (hoy) (by simp; omega) (.int .i64 k)) (by simp; omega) (.int .i64 t)) (by simp; omega) (.int .i64 zs.length)) (by simp; omega) (.int .i64 sN)) (by simp; omega) (.int .i64 raw)) (by simp; omega) (.slice a' zs.length c')
                    have sS : wS.heap.size = wc.heap.size := by rw [hwS]; simp
                    have gS : wS.heap[g]? = some (.cells #[.int .i64 k, .int .i64 t, .int .i64 zs.length, .int .i64 sN, .int .i64 raw, .slice a' zs.length c'] 26 (0, 0)) := by rw [hwS]; exact z5
                    have hob : ∀ q, (Value.slice ao j co).ownBlock = some q → q < wr.heap.size := fun q e => (HOO.out.lt q e).2
                    have H_tS := Lib.hid tS
                    have H_yS := Lib.hid yS
                    have H_bS := Lib.hid bS
                    have H_oS := Lib.hid oS
                    have H_uS := Lib.hid uS
                    have H_sS := Lib.hid sS
                    have H_gS := Lib.hid gS
                    have H_hob := Lib.hid hob
                    have H_hwS := Lib.hid hwS
                    have yS3 : wS.cell? ⟨y, 3, none⟩ = some (.int .i64 sN) := (cells_of_heap yS 3 (by simp)).1
                    have b63 : j + 1 ≤ maxLen := by unfold maxLen; omega
                    have b47 : (j + 1) * 8 ≤ 140737488355328 := by omega
                    clear z0 z1 z2 z3 z4 z5 tS yS bS oS uS gS hob hsN hgc htc hoc hbc hy hoy hby
                    go_upto_region 13 with (fail)
                    rw [← H_hwS.out]
                    have sSl : wc.heap.size ≤ wS.heap.size := Nat.le_of_eq sS.symm
                    have sSr : wS.heap.size ≤ wc.heap.size := Nat.le_of_eq sS
                    clear y0 y1 y2 y3 y4 y5 r0 v0 r1 v1 r2 v2 r3 v3 r4 v4 r5 v5 hwS sS
                    go_wp2_with (at_builtin; refine wpList_append_lies _ rfl _ _ 24 rfl (g + 1) 3 i0 (.int .i64 0) 1 8 Try.underlying24 hi hy0 hy1 hy2 rfl (by decide) _ _ _ rfl (H_oS.out.alloc _) ⟨wS.heap.size, 0, none⟩ 1 1 [.int .i64 sN] rfl rfl ?c1 ?c2 (by omega) b63 b47 ?c5 _ rfl ?_)
                    case c1 => exact cell_one_new _ _ _
                    case c2 => intro u hu; simp at hu; subst hu; rfl
                    case c5 => simp; omega
                    · intro go co' w6 hown1 hgrow hat hlt6
                      have hgn : go = wS.heap.size + 1 ∨ (Value.slice ao j co).ownBlock = some go := by rcases hat with h | h; exact .inr h; exact .inl (by simpa using h)
                      have hne : ∀ q, wr.heap.size ≤ q → some q ≠ (Value.slice ao j co).ownBlock := fun q hq e => by have := H_hob.out q e.symm; omega
                      have hneg : some g ≠ (Value.slice ao j co).ownBlock := fun e => by have := (H_oS.out.lt g e.symm).1; omega
                      have hnet : some (w.heap.size + 1) ≠ (Value.slice ao j co).ownBlock := fun e => by have := (H_oS.out.lt _ e.symm).1; omega
                      have ht6 := (hgrow.block (w.heap.size + 1) (by simp; omega) hnet).trans ((Below.heap_alloc _ _ _ (by omega)).trans H_tS.out)
                      have hg6 := (hgrow.block g (by simp; omega) hneg).trans ((Below.heap_alloc _ _ _ (by omega)).trans H_gS.out)
                      have hu6 : w6.ownsRow wr.heap.size 3 1 (.slice a' zs.length c') zs.length ((agesTo k t raw.toNat l1.toNat s1.toNat as1 zs.length).map (.int .i64)) :=
                        owns_apart (owns_below H_uS.out ((Below.refl _ _).alloc (Nat.le_refl _) _)) hgrow (fun q hq e => hne q (H_uS.out.lt q hq).1 e.symm)
                      have hb6 : Below w.heap.size w w6 := (H_bS.out.alloc (by omega) _).grown hgrow (by simp; omega) (fun q hq => by have := (H_oS.out.lt q hq).1; omega)
                      have hul : ∀ q, (Value.slice a' zs.length c').ownBlock = some q → wr.heap.size ≤ q ∧ q < wS.heap.size := fun q e => ⟨(H_uS.out.lt q e).1, (H_uS.out.lt q e).2⟩
                      have hdj6 : ∀ q, (Value.slice a' zs.length c').ownBlock = some q → (Value.slice (some ⟨go, 0, none⟩) (j + 1) co').ownBlock ≠ some q := fun q hq e => by
                        have h1 := hul q hq
                        have h2 : go = q := by simpa [Value.ownBlock] using e
                        rcases hgn with h | h
                        · omega
                        · have := H_hob.out go h; omega
                      have K1 := Lib.hid ht6
                      have K2 := Lib.hid hg6
                      have K3 := Lib.hid hu6
                      have K4 := Lib.hid hb6
                      have K5 := Lib.hid hdj6
                      have K6 := Lib.hid hown1
                      have K7 := Lib.hid (show g + 1 ≤ w6.heap.size from (Array.getElem?_eq_some_iff.mp hg6).1)
                      clear hown1 hgrow hat hgn hne hneg hnet ht6 hg6 hu6 hb6 hul hdj6 yS3
                      have hnx : runN k t zs.length S L zs xs (j + 1) = (sN, raw, agesTo k t raw.toNat l1.toNat s1.toNat as1 zs.length) := by
                        rw [runN, ← HST.out, ← HRAW.out, HSN.out]
                        simp
                      have HNX := Lib.hid hnx
                      clear hnx
                      go_wp2
                      go_roundw
                      case rel =>
                        refine ⟨j + 1, a', some ⟨go, 0, none⟩, c', co', by omega, by go_num, rfl, by rw [HNX.out]; exact K2.out, K1.out, ?_, ?_, K5.out, ?_, K4.out, K7.out⟩
                        · rw [HNX.out]; exact owns_base K3.out (by omega)
                        · rw [runShown_snoc, List.map_append, HNX.out]; exact K6.out
                        · intro i hi
                          by_cases hij : i = j
                          · subst hij; rw [← HRAW.out]; exact HSM.out.symm
                          · exact HIN.out i (by omega)
                      case measure => simp [intOf]; omega
            · obtain rfl : j = xs.length := by omega
              have hokR : okRun k t zs.length S L zs xs = true := by
                have h3 : allIn 0 (2 ^ ((zs.length : Nat) : Int).toNat - 1) xs = true := allIn_of (by simpa using hin)
                rw [okRun, ← HO.out, decide_eq_true h200, h3]; rfl
              have HOKR := Lib.hid hokR
              have HST := Lib.hid hst
              have HGS := Lib.hid hgs
              obtain ⟨t0, q0⟩ := cells_of_heap ht 0 (by simp)
              obtain ⟨t1, q1⟩ := cells_of_heap ht 1 (by simp)
              obtain ⟨t2, q2⟩ := cells_of_heap ht 2 (by simp)
              obtain ⟨t3, q3⟩ := cells_of_heap ht 3 (by simp)
              obtain ⟨t4, q4⟩ := cells_of_heap ht 4 (by simp)
              obtain ⟨t5, q5⟩ := cells_of_heap ht 5 (by simp)
              have HTT := Lib.hid ht
              have HBB := Lib.hid hb
              have HUU := Lib.hid hu
              have HOO := Lib.hid ho
              have HDD := Lib.hid hdj
              clear ht hb hu ho hdj hg hokR hst hin hokst
              go_wp2
              have k1 : (wr.setCell ⟨w.heap.size + 1, 0, none⟩ (.int .i64 k)).heap[w.heap.size + 1]? = some (.cells #[.int .i64 k, .int .i64 0, .int .i64 0, .int .i64 0, .int .i64 0, .slice none 0 0] 26 (0, 0)) := heap_setCell_same _ _ 0 _ _ _ HTT.out
              have k2 : ((wr.setCell ⟨w.heap.size + 1, 0, none⟩ (.int .i64 k)).setCell ⟨w.heap.size + 1, 1, none⟩ (.int .i64 t)).heap[w.heap.size + 1]? = some (.cells #[.int .i64 k, .int .i64 t, .int .i64 0, .int .i64 0, .int .i64 0, .slice none 0 0] 26 (0, 0)) := heap_setCell_same _ _ 1 _ _ _ k1
              have k3 : (((wr.setCell ⟨w.heap.size + 1, 0, none⟩ (.int .i64 k)).setCell ⟨w.heap.size + 1, 1, none⟩ (.int .i64 t)).setCell ⟨w.heap.size + 1, 2, none⟩ (.int .i64 zs.length)).heap[w.heap.size + 1]? = some (.cells #[.int .i64 k, .int .i64 t, .int .i64 zs.length, .int .i64 0, .int .i64 0, .slice none 0 0] 26 (0, 0)) := heap_setCell_same _ _ 2 _ _ _ k2
              have k4 : ((((wr.setCell ⟨w.heap.size + 1, 0, none⟩ (.int .i64 k)).setCell ⟨w.heap.size + 1, 1, none⟩ (.int .i64 t)).setCell ⟨w.heap.size + 1, 2, none⟩ (.int .i64 zs.length)).setCell ⟨w.heap.size + 1, 3, none⟩ (.int .i64 s1)).heap[w.heap.size + 1]? = some (.cells #[.int .i64 k, .int .i64 t, .int .i64 zs.length, .int .i64 s1, .int .i64 0, .slice none 0 0] 26 (0, 0)) := heap_setCell_same _ _ 3 _ _ _ k3
              have k5 : (((((wr.setCell ⟨w.heap.size + 1, 0, none⟩ (.int .i64 k)).setCell ⟨w.heap.size + 1, 1, none⟩ (.int .i64 t)).setCell ⟨w.heap.size + 1, 2, none⟩ (.int .i64 zs.length)).setCell ⟨w.heap.size + 1, 3, none⟩ (.int .i64 s1)).setCell ⟨w.heap.size + 1, 4, none⟩ (.int .i64 l1)).heap[w.heap.size + 1]? = some (.cells #[.int .i64 k, .int .i64 t, .int .i64 zs.length, .int .i64 s1, .int .i64 l1, .slice none 0 0] 26 (0, 0)) := heap_setCell_same _ _ 4 _ _ _ k4
              have k6 : ((((((wr.setCell ⟨w.heap.size + 1, 0, none⟩ (.int .i64 k)).setCell ⟨w.heap.size + 1, 1, none⟩ (.int .i64 t)).setCell ⟨w.heap.size + 1, 2, none⟩ (.int .i64 zs.length)).setCell ⟨w.heap.size + 1, 3, none⟩ (.int .i64 s1)).setCell ⟨w.heap.size + 1, 4, none⟩ (.int .i64 l1)).setCell ⟨w.heap.size + 1, 5, none⟩ (.slice au zs.length cu)).heap[w.heap.size + 1]? = some (.cells #[.int .i64 k, .int .i64 t, .int .i64 zs.length, .int .i64 s1, .int .i64 l1, .slice au zs.length cu] 26 (0, 0)) := heap_setCell_same _ _ 5 _ _ _ k5
              have bf : Below w.heap.size w ((((((wr.setCell ⟨w.heap.size + 1, 0, none⟩ (.int .i64 k)).setCell ⟨w.heap.size + 1, 1, none⟩ (.int .i64 t)).setCell ⟨w.heap.size + 1, 2, none⟩ (.int .i64 zs.length)).setCell ⟨w.heap.size + 1, 3, none⟩ (.int .i64 s1)).setCell ⟨w.heap.size + 1, 4, none⟩ (.int .i64 l1)).setCell ⟨w.heap.size + 1, 5, none⟩ (.slice au zs.length cu)) := ((((((HBB.out).setCell (by simp) _).setCell (by simp) _).setCell (by simp) _).setCell (by simp) _).setCell (by simp) _).setCell (by simp) _
              have of1 := ownsRow_setCell_below (a := ⟨w.heap.size + 1, 5, none⟩) (ownsRow_setCell_below (a := ⟨w.heap.size + 1, 4, none⟩) (ownsRow_setCell_below (a := ⟨w.heap.size + 1, 3, none⟩) (ownsRow_setCell_below (a := ⟨w.heap.size + 1, 2, none⟩) (ownsRow_setCell_below (a := ⟨w.heap.size + 1, 1, none⟩) (ownsRow_setCell_below (a := ⟨w.heap.size + 1, 0, none⟩) (HUU.out) (by have := HGS.out; simp; omega) (.int .i64 k)) (by have := HGS.out; simp; omega) (.int .i64 t)) (by have := HGS.out; simp; omega) (.int .i64 zs.length)) (by have := HGS.out; simp; omega) (.int .i64 s1)) (by have := HGS.out; simp; omega) (.int .i64 l1)) (by have := HGS.out; simp; omega) (.slice au zs.length cu)
              have of2 := ownsRow_setCell_below (a := ⟨w.heap.size + 1, 5, none⟩) (ownsRow_setCell_below (a := ⟨w.heap.size + 1, 4, none⟩) (ownsRow_setCell_below (a := ⟨w.heap.size + 1, 3, none⟩) (ownsRow_setCell_below (a := ⟨w.heap.size + 1, 2, none⟩) (ownsRow_setCell_below (a := ⟨w.heap.size + 1, 1, none⟩) (ownsRow_setCell_below (a := ⟨w.heap.size + 1, 0, none⟩) (HOO.out) (by have := HGS.out; simp; omega) (.int .i64 k)) (by have := HGS.out; simp; omega) (.int .i64 t)) (by have := HGS.out; simp; omega) (.int .i64 zs.length)) (by have := HGS.out; simp; omega) (.int .i64 s1)) (by have := HGS.out; simp; omega) (.int .i64 l1)) (by have := HGS.out; simp; omega) (.slice au zs.length cu)
              obtain ⟨wf, hwf⟩ : ∃ wf, wf = ((((((wr.setCell ⟨w.heap.size + 1, 0, none⟩ (.int .i64 k)).setCell ⟨w.heap.size + 1, 1, none⟩ (.int .i64 t)).setCell ⟨w.heap.size + 1, 2, none⟩ (.int .i64 zs.length)).setCell ⟨w.heap.size + 1, 3, none⟩ (.int .i64 s1)).setCell ⟨w.heap.size + 1, 4, none⟩ (.int .i64 l1)).setCell ⟨w.heap.size + 1, 5, none⟩ (.slice au zs.length cu)) := ⟨_, rfl⟩
              rw [← hwf] at k6 bf of1 of2 ⊢
              clear hwf k1 k2 k3 k4 k5
              have f0 := (cells_of_heap k6 0 (by simp)).1
              have f1 := (cells_of_heap k6 1 (by simp)).1
              have f2 := (cells_of_heap k6 2 (by simp)).1
              have f3 := (cells_of_heap k6 3 (by simp)).1
              have f4 := (cells_of_heap k6 4 (by simp)).1
              have f5 := (cells_of_heap k6 5 (by simp)).1
              clear t0 t1 t2 t3 t4 t5 q0 q1 q2 q3 q4 q5 g0 g1 g2 g3 g4 g5
              refine bodyPost_ret (v := .tuple #[dbv k t zs.length s1 l1 (.slice au zs.length cu), .slice ao xs.length co, .bool true]) (by simp [results, Try.results31, go_sem, f0, f1, f2, f3, f4, f5]) rfl ?_
              have hfin : RunDeb k t zs.length S L zs xs w (.returned (.tuple #[dbv k t zs.length s1 l1 (.slice au zs.length cu), .slice ao xs.length co, .bool true])) wf := by
                refine ⟨.slice au zs.length cu, .slice ao xs.length co, ?_, bf⟩
                rw [HOKR.out, if_pos rfl, ← HST.out]
                have hle : w.heap.size ≤ g + 1 := by have := HGS.out; omega
                exact ⟨rfl, by simpa using owns_base of1 hle, owns_base of2 hle, HDD.out⟩
              exact hfin
    · have HNR : Hid (okRun k t n s l zs xs = false) := Lib.hid (by rw [okRun, decide_eq_false h200]; simp)
      have h200' : (200 : Int) < (xs.length : Int) := by omega
      have HO := Lib.hid hok
      clear hok
      go_enter Try.func31, Try.ntmps31
      go_wp2_with fail
      rw [← HW.out]
      refine (specIsDebouncer_any k t n s l _ zs _ hl HR.out).mono ?_
      rw [← HO.out]
      rintro e w1 ⟨rfl, hb⟩
      have ht1 := (hb.block (w.heap.size + 1) (by rw [HSZ.out]; omega)).trans HT.out
      have hbb := HB0.out.trans (hb.mono HB0.out.size)
      have hszz : w.heap.size + 1 < w1.heap.size := by have := hb.size; have := HSZ.out; omega
      clear hb
      have HSZ : Hid (w.heap.size + 1 < w1.heap.size) := Lib.hid hszz
      obtain ⟨t0, q0⟩ := cells_of_heap ht1 0 (by simp)
      obtain ⟨t1, q1⟩ := cells_of_heap ht1 1 (by simp)
      obtain ⟨t2, q2⟩ := cells_of_heap ht1 2 (by simp)
      obtain ⟨t3, q3⟩ := cells_of_heap ht1 3 (by simp)
      obtain ⟨t4, q4⟩ := cells_of_heap ht1 4 (by simp)
      obtain ⟨t5, q5⟩ := cells_of_heap ht1 5 (by simp)
      have HTT := Lib.hid ht1
      have HBB := Lib.hid hbb
      clear ht1 hbb
      go_wp2
      have k1 : (w1.setCell ⟨w.heap.size + 1, 0, none⟩ (.int .i64 0)).heap[w.heap.size + 1]? = some (.cells #[.int .i64 0, .int .i64 0, .int .i64 0, .int .i64 0, .int .i64 0, .slice none 0 0] 26 (0, 0)) := heap_setCell_same _ _ 0 _ _ _ HTT.out
      have k2 : ((w1.setCell ⟨w.heap.size + 1, 0, none⟩ (.int .i64 0)).setCell ⟨w.heap.size + 1, 1, none⟩ (.int .i64 0)).heap[w.heap.size + 1]? = some (.cells #[.int .i64 0, .int .i64 0, .int .i64 0, .int .i64 0, .int .i64 0, .slice none 0 0] 26 (0, 0)) := heap_setCell_same _ _ 1 _ _ _ k1
      have k3 : (((w1.setCell ⟨w.heap.size + 1, 0, none⟩ (.int .i64 0)).setCell ⟨w.heap.size + 1, 1, none⟩ (.int .i64 0)).setCell ⟨w.heap.size + 1, 2, none⟩ (.int .i64 0)).heap[w.heap.size + 1]? = some (.cells #[.int .i64 0, .int .i64 0, .int .i64 0, .int .i64 0, .int .i64 0, .slice none 0 0] 26 (0, 0)) := heap_setCell_same _ _ 2 _ _ _ k2
      have k4 : ((((w1.setCell ⟨w.heap.size + 1, 0, none⟩ (.int .i64 0)).setCell ⟨w.heap.size + 1, 1, none⟩ (.int .i64 0)).setCell ⟨w.heap.size + 1, 2, none⟩ (.int .i64 0)).setCell ⟨w.heap.size + 1, 3, none⟩ (.int .i64 0)).heap[w.heap.size + 1]? = some (.cells #[.int .i64 0, .int .i64 0, .int .i64 0, .int .i64 0, .int .i64 0, .slice none 0 0] 26 (0, 0)) := heap_setCell_same _ _ 3 _ _ _ k3
      have k5 : (((((w1.setCell ⟨w.heap.size + 1, 0, none⟩ (.int .i64 0)).setCell ⟨w.heap.size + 1, 1, none⟩ (.int .i64 0)).setCell ⟨w.heap.size + 1, 2, none⟩ (.int .i64 0)).setCell ⟨w.heap.size + 1, 3, none⟩ (.int .i64 0)).setCell ⟨w.heap.size + 1, 4, none⟩ (.int .i64 0)).heap[w.heap.size + 1]? = some (.cells #[.int .i64 0, .int .i64 0, .int .i64 0, .int .i64 0, .int .i64 0, .slice none 0 0] 26 (0, 0)) := heap_setCell_same _ _ 4 _ _ _ k4
      have k6 : ((((((w1.setCell ⟨w.heap.size + 1, 0, none⟩ (.int .i64 0)).setCell ⟨w.heap.size + 1, 1, none⟩ (.int .i64 0)).setCell ⟨w.heap.size + 1, 2, none⟩ (.int .i64 0)).setCell ⟨w.heap.size + 1, 3, none⟩ (.int .i64 0)).setCell ⟨w.heap.size + 1, 4, none⟩ (.int .i64 0)).setCell ⟨w.heap.size + 1, 5, none⟩ (.slice none 0 0)).heap[w.heap.size + 1]? = some (.cells #[.int .i64 0, .int .i64 0, .int .i64 0, .int .i64 0, .int .i64 0, .slice none 0 0] 26 (0, 0)) := heap_setCell_same _ _ 5 _ _ _ k5
      have k7 : (((((((w1.setCell ⟨w.heap.size + 1, 0, none⟩ (.int .i64 0)).setCell ⟨w.heap.size + 1, 1, none⟩ (.int .i64 0)).setCell ⟨w.heap.size + 1, 2, none⟩ (.int .i64 0)).setCell ⟨w.heap.size + 1, 3, none⟩ (.int .i64 0)).setCell ⟨w.heap.size + 1, 4, none⟩ (.int .i64 0)).setCell ⟨w.heap.size + 1, 5, none⟩ (.slice none 0 0)).alloc (.cells #[] 3)).heap[w.heap.size + 1]? = some (.cells #[.int .i64 0, .int .i64 0, .int .i64 0, .int .i64 0, .int .i64 0, .slice none 0 0] 26 (0, 0)) := (Below.heap_alloc _ _ _ (by have := HSZ.out; simp; omega)).trans k6
      have bf : Below w.heap.size w (((((((w1.setCell ⟨w.heap.size + 1, 0, none⟩ (.int .i64 0)).setCell ⟨w.heap.size + 1, 1, none⟩ (.int .i64 0)).setCell ⟨w.heap.size + 1, 2, none⟩ (.int .i64 0)).setCell ⟨w.heap.size + 1, 3, none⟩ (.int .i64 0)).setCell ⟨w.heap.size + 1, 4, none⟩ (.int .i64 0)).setCell ⟨w.heap.size + 1, 5, none⟩ (.slice none 0 0)).alloc (.cells #[] 3)) := (((((((HBB.out).setCell (by simp) _).setCell (by simp) _).setCell (by simp) _).setCell (by simp) _).setCell (by simp) _).setCell (by simp) _).alloc (by have := HSZ.out; simp; omega) _
      have of : (((((((w1.setCell ⟨w.heap.size + 1, 0, none⟩ (.int .i64 0)).setCell ⟨w.heap.size + 1, 1, none⟩ (.int .i64 0)).setCell ⟨w.heap.size + 1, 2, none⟩ (.int .i64 0)).setCell ⟨w.heap.size + 1, 3, none⟩ (.int .i64 0)).setCell ⟨w.heap.size + 1, 4, none⟩ (.int .i64 0)).setCell ⟨w.heap.size + 1, 5, none⟩ (.slice none 0 0)).alloc (.cells #[] 3)).ownsRow w.heap.size 3 1 (.slice (some ⟨w1.heap.size, 0, none⟩) 0 0) 0 [] := by simpa using owns_none (w := ((((((w1.setCell ⟨w.heap.size + 1, 0, none⟩ (.int .i64 0)).setCell ⟨w.heap.size + 1, 1, none⟩ (.int .i64 0)).setCell ⟨w.heap.size + 1, 2, none⟩ (.int .i64 0)).setCell ⟨w.heap.size + 1, 3, none⟩ (.int .i64 0)).setCell ⟨w.heap.size + 1, 4, none⟩ (.int .i64 0)).setCell ⟨w.heap.size + 1, 5, none⟩ (.slice none 0 0))) (B := w.heap.size) 3 (by have := HSZ.out; simp; omega)
      obtain ⟨wf, hwf⟩ : ∃ wf, wf = (((((((w1.setCell ⟨w.heap.size + 1, 0, none⟩ (.int .i64 0)).setCell ⟨w.heap.size + 1, 1, none⟩ (.int .i64 0)).setCell ⟨w.heap.size + 1, 2, none⟩ (.int .i64 0)).setCell ⟨w.heap.size + 1, 3, none⟩ (.int .i64 0)).setCell ⟨w.heap.size + 1, 4, none⟩ (.int .i64 0)).setCell ⟨w.heap.size + 1, 5, none⟩ (.slice none 0 0)).alloc (.cells #[] 3)) := ⟨_, rfl⟩
      rw [← hwf] at k7 bf of ⊢
      clear hwf k1 k2 k3 k4 k5 k6
      have f0 := (cells_of_heap k7 0 (by simp)).1
      have f1 := (cells_of_heap k7 1 (by simp)).1
      have f2 := (cells_of_heap k7 2 (by simp)).1
      have f3 := (cells_of_heap k7 3 (by simp)).1
      have f4 := (cells_of_heap k7 4 (by simp)).1
      have f5 := (cells_of_heap k7 5 (by simp)).1
      clear t0 t1 t2 t3 t4 t5 q0 q1 q2 q3 q4 q5
      refine bodyPost_ret (v := .tuple #[zeroDb, .slice (some ⟨w1.heap.size, 0, none⟩) 0 0, .bool false]) (by simp [results, Try.results31, go_sem, f0, f1, f2, f3, f4, f5]) rfl ?_
      have hfin : RunDeb k t n s l zs xs w (.returned (.tuple #[zeroDb, .slice (some ⟨w1.heap.size, 0, none⟩) 0 0, .bool false])) wf := by
        refine ⟨.slice none 0 0, .slice (some ⟨w1.heap.size, 0, none⟩) 0 0, ?_, bf⟩
        rw [HNR.out, if_neg (by simp)]
        exact ⟨rfl, of⟩
      exact hfin

end Go.Proofs.Ytdlcpijiekhafaa
