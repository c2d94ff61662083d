/- DERIVED. The laws' own functions on debouncers: the size of one, a copy of it, two that are alike, its marks. Called with a debouncer whose ages read as known numbers. -/
import Derived.Test.YtdlcpijiekhafaaInts
import Derived.WalkSmall
namespace Go.Proofs.Ytdlcpijiekhafaa
open Go.RowKit

abbrev dbv (k t n s l : Int) (u : Value) : Value := .agg #[.int .i64 k, .int .i64 t, .int .i64 n, .int .i64 s, .int .i64 l, u]
abbrev dbV (k t n s l : Int) (u : Value) : List Value := [.int .i64 k, .int .i64 t, .int .i64 n, .int .i64 s, .int .i64 l, u]
def dbS : List Sh := [.int .i64, .int .i64, .int .i64, .int .i64, .int .i64, .row [.int .i64]]
def dbC (k t n s l : Int) (zs : List Int) : List Ce := [.int k, .int t, .int n, .int s, .int l, .row (ones zs)]

theorem szIntS_any (a : Option Addr) (n cap : Nat) (left : Int) (w : World) (hl : 0 ≤ left) (hl' : left ≤ 1099511627776) (hn : n ≤ maxLen) : Calls Try.prog 47 #[.slice a n cap, .int .i64 left] w fun e w' => e = .returned (.int .i64 (if left < n then -1 else left - n)) ∧ w = w' := by
  unfold maxLen at hn
  by_cases h : left < (n : Int)
  · rw [if_pos h]
    go_enter Try.func47, Try.ntmps47
    go_wp2
    go_ret
    exact ⟨rfl, rfl⟩
  · rw [if_neg h]
    go_enter Try.func47, Try.ntmps47
    go_wp2
    go_ret
    exact ⟨rfl, rfl⟩

theorem szDebouncer_any (k t n s l : Int) (a : Option Addr) (m cap : Nat) (left : Int) (w : World) (hl : 0 ≤ left) (hl' : left ≤ 1099511627776) (hn : m ≤ maxLen) : Calls Try.prog 22 #[dbv k t n s l (.slice a m cap), .int .i64 left] w fun e w' => e = .returned (.int .i64 (if left < m then -1 else left - m)) ∧ Below w.heap.size w w' := by
  by_cases h : left < (m : Int)
  · rw [if_pos h]
    obtain ⟨W, hW⟩ : ∃ W, W = w.alloc (.cells #[.int .i64 k, .int .i64 t, .int .i64 n, .int .i64 s, .int .i64 l, .slice a m cap] 39) := ⟨_, rfl⟩
    have HX0 := Lib.hid (show Bxd W w.heap.size [.int .i64 k, .int .i64 t, .int .i64 n, .int .i64 s, .int .i64 l, .slice a m cap] by rw [hW]; exact Bxd.new _ _ _)
    have HB0 := Lib.hid (show Below w.heap.size w W by rw [hW]; exact (Below.refl _ _).alloc (Nat.le_refl _) _)
    have HS0 := Lib.hid (show w.heap.size < W.heap.size by rw [hW]; simp)
    have HW := Lib.hid hW
    clear hW
    go_enter Try.func22, Try.ntmps22
    go_wp2_with fail
    refine (szIntS_any a m cap left _ hl hl' hn).mono ?_
    rw [if_pos h]
    rintro e w0 ⟨rfl, rfl⟩
    go_wp2
    go_ret
    rw [← HW.out]
    exact ⟨rfl, HB0.out⟩
  · rw [if_neg h]
    obtain ⟨W, hW⟩ : ∃ W, W = w.alloc (.cells #[.int .i64 k, .int .i64 t, .int .i64 n, .int .i64 s, .int .i64 l, .slice a m cap] 39) := ⟨_, rfl⟩
    have HX0 := Lib.hid (show Bxd W w.heap.size [.int .i64 k, .int .i64 t, .int .i64 n, .int .i64 s, .int .i64 l, .slice a m cap] by rw [hW]; exact Bxd.new _ _ _)
    have HB0 := Lib.hid (show Below w.heap.size w W by rw [hW]; exact (Below.refl _ _).alloc (Nat.le_refl _) _)
    have HS0 := Lib.hid (show w.heap.size < W.heap.size by rw [hW]; simp)
    have HW := Lib.hid hW
    clear hW
    go_enter Try.func22, Try.ntmps22
    go_wp2_with fail
    refine (szIntS_any a m cap left _ hl hl' hn).mono ?_
    rw [if_neg (show ¬ left < (m : Int) by omega)]
    rintro e w0 ⟨rfl, rfl⟩
    go_wp2
    go_ret
    rw [← HW.out]
    exact ⟨rfl, HB0.out⟩

set_option maxHeartbeats 400000 in
theorem toDebouncer_any (k t n s l : Int) (u : Value) (zs : List Int) (w : World) (hl : zs.length ≤ 1048576) (h : Rd w u (zs.map (.int .i64))) :
    Calls Try.prog 24 #[dbv k t n s l u] w fun e w' => ∃ u', e = .returned (dbv k t n s l u') ∧ w'.ownsRow w.heap.size 3 1 u' zs.length (zs.map (.int .i64)) ∧ Below w.heap.size w w' := by
  have HR := Lib.hid h
  clear h
  obtain ⟨W, hW⟩ : ∃ W, W = ((w.alloc (.cells #[.int .i64 k, .int .i64 t, .int .i64 n, .int .i64 s, .int .i64 l, u] 39)).alloc (.cells #[.int .i64 0, .int .i64 0, .int .i64 0, .int .i64 0, .int .i64 0, .slice none 0 0] 26)).alloc (.cells #[.int .i64 k, .int .i64 t, .int .i64 n, .int .i64 s, .int .i64 l, .slice none 0 0] 26) := ⟨_, rfl⟩
  have HO := Lib.hid (show W.heap[w.heap.size + 1 + 1]? = some (.cells #[.int .i64 k, .int .i64 t, .int .i64 n, .int .i64 s, .int .i64 l, .slice none 0 0] 26 (0, 0)) by rw [hW]; simpa using heap_alloc_new ((w.alloc (.cells #[.int .i64 k, .int .i64 t, .int .i64 n, .int .i64 s, .int .i64 l, u] 39)).alloc (.cells #[.int .i64 0, .int .i64 0, .int .i64 0, .int .i64 0, .int .i64 0, .slice none 0 0] 26)) _)
  have HT := Lib.hid (show W.heap[w.heap.size + 1]? = some (.cells #[.int .i64 0, .int .i64 0, .int .i64 0, .int .i64 0, .int .i64 0, .slice none 0 0] 26 (0, 0)) by
    rw [hW, Below.heap_alloc _ _ _ (by simp)]; simpa using heap_alloc_new (w.alloc (.cells #[.int .i64 k, .int .i64 t, .int .i64 n, .int .i64 s, .int .i64 l, u] 39)) _)
  have HB0 := Lib.hid (show Below w.heap.size w W by rw [hW]; exact (((Below.refl _ _).alloc (Nat.le_refl _) _).alloc (by simp) _).alloc (by simp; omega) _)
  have HSZ := Lib.hid (show W.heap.size = w.heap.size + 1 + 1 + 1 by rw [hW]; simp)
  have HW := Lib.hid hW
  clear hW
  go_enter Try.func24, Try.ntmps24
  go_wp2_with fail
  rw [← HW.out]
  refine (toIntS_any u zs _ hl (HR.out.below HB0.out)).mono ?_
  rintro e w1 ⟨u', rfl, hown, hb⟩
  obtain ⟨a', cap', rfl⟩ := owns_shape hown
  have ho := (hb.block (w.heap.size + 1 + 1) (by rw [HSZ.out]; omega)).trans HO.out
  have ht := (hb.block (w.heap.size + 1) (by rw [HSZ.out]; omega)).trans HT.out
  have HB1 := Lib.hid (HB0.out.trans (hb.mono HB0.out.size))
  have HOW := Lib.hid hown
  have hlt : w.heap.size + 1 + 1 < w1.heap.size := (Array.getElem?_eq_some_iff.mp ho).1
  have o5 := cells_of_heap ho 5 (by simp)
  have o0 := (cells_of_heap ho 0 (by simp)).1
  have o1 := (cells_of_heap ho 1 (by simp)).1
  have o2 := (cells_of_heap ho 2 (by simp)).1
  have o3 := (cells_of_heap ho 3 (by simp)).1
  have o4 := (cells_of_heap ho 4 (by simp)).1
  obtain ⟨o5, p5⟩ := o5
  obtain ⟨t0, q0⟩ := cells_of_heap ht 0 (by simp)
  obtain ⟨t1, q1⟩ := cells_of_heap ht 1 (by simp)
  obtain ⟨t2, q2⟩ := cells_of_heap ht 2 (by simp)
  obtain ⟨t3, q3⟩ := cells_of_heap ht 3 (by simp)
  obtain ⟨t4, q4⟩ := cells_of_heap ht 4 (by simp)
  obtain ⟨t5, q5⟩ := cells_of_heap ht 5 (by simp)
  have HTT := Lib.hid ht
  clear hb hown ho ht
  go_wp2
  have htt : (w1.setCell ⟨w.heap.size + 1 + 1, 5, none⟩ (.slice a' zs.length cap')).heap[w.heap.size + 1]? = some (.cells #[.int .i64 0, .int .i64 0, .int .i64 0, .int .i64 0, .int .i64 0, .slice none 0 0] 26 (0, 0)) := (Below.heap_setCell _ _ _ _ (by simp)).trans HTT.out
  have hbb : Below w.heap.size w (w1.setCell ⟨w.heap.size + 1 + 1, 5, none⟩ (.slice a' zs.length cap')) := HB1.out.setCell (by simp; omega) _
  have hoo := ownsRow_setCell_below HOW.out (show (⟨w.heap.size + 1 + 1, 5, none⟩ : Addr).block < W.heap.size by rw [HSZ.out]; simp) (.slice a' zs.length cap')
  have k1 : ((w1.setCell ⟨w.heap.size + 1 + 1, 5, none⟩ (.slice a' zs.length cap')).setCell ⟨w.heap.size + 1, 0, none⟩ (.int .i64 k)).heap[w.heap.size + 1]? = some (.cells #[.int .i64 k, .int .i64 0, .int .i64 0, .int .i64 0, .int .i64 0, .slice none 0 0] 26 (0, 0)) := heap_setCell_same _ _ 0 _ _ _ htt
  have k2 : (((w1.setCell ⟨w.heap.size + 1 + 1, 5, none⟩ (.slice a' zs.length cap')).setCell ⟨w.heap.size + 1, 0, none⟩ (.int .i64 k)).setCell ⟨w.heap.size + 1, 1, none⟩ (.int .i64 t)).heap[w.heap.size + 1]? = some (.cells #[.int .i64 k, .int .i64 t, .int .i64 0, .int .i64 0, .int .i64 0, .slice none 0 0] 26 (0, 0)) := heap_setCell_same _ _ 1 _ _ _ k1
  have k3 : ((((w1.setCell ⟨w.heap.size + 1 + 1, 5, none⟩ (.slice a' zs.length cap')).setCell ⟨w.heap.size + 1, 0, none⟩ (.int .i64 k)).setCell ⟨w.heap.size + 1, 1, none⟩ (.int .i64 t)).setCell ⟨w.heap.size + 1, 2, none⟩ (.int .i64 n)).heap[w.heap.size + 1]? = some (.cells #[.int .i64 k, .int .i64 t, .int .i64 n, .int .i64 0, .int .i64 0, .slice none 0 0] 26 (0, 0)) := heap_setCell_same _ _ 2 _ _ _ k2
  have k4 : (((((w1.setCell ⟨w.heap.size + 1 + 1, 5, none⟩ (.slice a' zs.length cap')).setCell ⟨w.heap.size + 1, 0, none⟩ (.int .i64 k)).setCell ⟨w.heap.size + 1, 1, none⟩ (.int .i64 t)).setCell ⟨w.heap.size + 1, 2, none⟩ (.int .i64 n)).setCell ⟨w.heap.size + 1, 3, none⟩ (.int .i64 s)).heap[w.heap.size + 1]? = some (.cells #[.int .i64 k, .int .i64 t, .int .i64 n, .int .i64 s, .int .i64 0, .slice none 0 0] 26 (0, 0)) := heap_setCell_same _ _ 3 _ _ _ k3
  have k5 : ((((((w1.setCell ⟨w.heap.size + 1 + 1, 5, none⟩ (.slice a' zs.length cap')).setCell ⟨w.heap.size + 1, 0, none⟩ (.int .i64 k)).setCell ⟨w.heap.size + 1, 1, none⟩ (.int .i64 t)).setCell ⟨w.heap.size + 1, 2, none⟩ (.int .i64 n)).setCell ⟨w.heap.size + 1, 3, none⟩ (.int .i64 s)).setCell ⟨w.heap.size + 1, 4, none⟩ (.int .i64 l)).heap[w.heap.size + 1]? = some (.cells #[.int .i64 k, .int .i64 t, .int .i64 n, .int .i64 s, .int .i64 l, .slice none 0 0] 26 (0, 0)) := heap_setCell_same _ _ 4 _ _ _ k4
  have k6 : (((((((w1.setCell ⟨w.heap.size + 1 + 1, 5, none⟩ (.slice a' zs.length cap')).setCell ⟨w.heap.size + 1, 0, none⟩ (.int .i64 k)).setCell ⟨w.heap.size + 1, 1, none⟩ (.int .i64 t)).setCell ⟨w.heap.size + 1, 2, none⟩ (.int .i64 n)).setCell ⟨w.heap.size + 1, 3, none⟩ (.int .i64 s)).setCell ⟨w.heap.size + 1, 4, none⟩ (.int .i64 l)).setCell ⟨w.heap.size + 1, 5, none⟩ (.slice a' zs.length cap')).heap[w.heap.size + 1]? = some (.cells #[.int .i64 k, .int .i64 t, .int .i64 n, .int .i64 s, .int .i64 l, .slice a' zs.length cap'] 26 (0, 0)) := heap_setCell_same _ _ 5 _ _ _ k5
  have bf : Below w.heap.size w (((((((w1.setCell ⟨w.heap.size + 1 + 1, 5, none⟩ (.slice a' zs.length cap')).setCell ⟨w.heap.size + 1, 0, none⟩ (.int .i64 k)).setCell ⟨w.heap.size + 1, 1, none⟩ (.int .i64 t)).setCell ⟨w.heap.size + 1, 2, none⟩ (.int .i64 n)).setCell ⟨w.heap.size + 1, 3, none⟩ (.int .i64 s)).setCell ⟨w.heap.size + 1, 4, none⟩ (.int .i64 l)).setCell ⟨w.heap.size + 1, 5, none⟩ (.slice a' zs.length cap')) := ((((((hbb).setCell (by simp) _).setCell (by simp) _).setCell (by simp) _).setCell (by simp) _).setCell (by simp) _).setCell (by simp) _
  have of := ownsRow_setCell_below (a := ⟨w.heap.size + 1, 5, none⟩) (ownsRow_setCell_below (a := ⟨w.heap.size + 1, 4, none⟩) (ownsRow_setCell_below (a := ⟨w.heap.size + 1, 3, none⟩) (ownsRow_setCell_below (a := ⟨w.heap.size + 1, 2, none⟩) (ownsRow_setCell_below (a := ⟨w.heap.size + 1, 1, none⟩) (ownsRow_setCell_below (a := ⟨w.heap.size + 1, 0, none⟩) (hoo) (by have := HSZ.out; simp; omega) (.int .i64 k)) (by have := HSZ.out; simp; omega) (.int .i64 t)) (by have := HSZ.out; simp; omega) (.int .i64 n)) (by have := HSZ.out; simp; omega) (.int .i64 s)) (by have := HSZ.out; simp; omega) (.int .i64 l)) (by have := HSZ.out; simp; omega) (.slice a' zs.length cap')
  obtain ⟨wf, hwf⟩ : ∃ wf, wf = (((((((w1.setCell ⟨w.heap.size + 1 + 1, 5, none⟩ (.slice a' zs.length cap')).setCell ⟨w.heap.size + 1, 0, none⟩ (.int .i64 k)).setCell ⟨w.heap.size + 1, 1, none⟩ (.int .i64 t)).setCell ⟨w.heap.size + 1, 2, none⟩ (.int .i64 n)).setCell ⟨w.heap.size + 1, 3, none⟩ (.int .i64 s)).setCell ⟨w.heap.size + 1, 4, none⟩ (.int .i64 l)).setCell ⟨w.heap.size + 1, 5, none⟩ (.slice a' zs.length cap')) := ⟨_, rfl⟩
  rw [← hwf] at k6 bf of ⊢
  clear hwf k1 k2 k3 k4 k5
  have f0 := (cells_of_heap k6 0 (by simp)).1
  have f1 := (cells_of_heap k6 1 (by simp)).1
  have f2 := (cells_of_heap k6 2 (by simp)).1
  have f3 := (cells_of_heap k6 3 (by simp)).1
  have f4 := (cells_of_heap k6 4 (by simp)).1
  have f5 := (cells_of_heap k6 5 (by simp)).1
  clear o0 o1 o2 o3 o4 o5 p5 t0 t1 t2 t3 t4 t5 q0 q1 q2 q3 q4 q5
  refine bodyPost_ret (v := dbv k t n s l (.slice a' zs.length cap')) (by simp [results, Try.results24, go_sem, f0, f1, f2, f3, f4, f5]) rfl ⟨_, rfl, owns_base of HB0.out.size, bf⟩

set_option maxHeartbeats 400000 in
theorem eqDebouncer_same (k t n s l : Int) (ua ub : Value) (zs : List Int) (w : World) (hl : zs.length ≤ 1000000000000) (ha : Rd w ua (zs.map (.int .i64))) (hb : Rd w ub (zs.map (.int .i64))) :
    Calls Try.prog 25 #[dbv k t n s l ua, dbv k t n s l ub] w fun e w' => e = .returned (.bool true) ∧ Below w.heap.size w w' := by
  obtain ⟨W, hW⟩ : ∃ W, W = (w.alloc (.cells #[.int .i64 k, .int .i64 t, .int .i64 n, .int .i64 s, .int .i64 l, ua] 26)).alloc (.cells #[.int .i64 k, .int .i64 t, .int .i64 n, .int .i64 s, .int .i64 l, ub] 26) := ⟨_, rfl⟩
  have hB0 : Below w.heap.size w W := by rw [hW]; exact ((Below.refl _ _).alloc (Nat.le_refl _) _).alloc (by simp) _
  have HA := Lib.hid (ha.below hB0)
  have HB := Lib.hid (hb.below hB0)
  have HB0 := Lib.hid hB0
  have HW := Lib.hid hW
  clear hW hB0 ha hb
  go_enter Try.func25, Try.ntmps25
  go_wp2_with fail
  rw [← HW.out]
  refine (eqIntS_same ua ub zs W hl HA.out HB.out).mono ?_
  rintro e w1 ⟨rfl, n1, rfl⟩
  go_wp2
  go_ret
  exact ⟨rfl, below_drewN HB0.out _⟩

theorem markDebouncer_own (B : Nat) (k t n s l : Int) (u : Value) (zs : List Int) (fp : List Nat) (q : Int) (w : World) (hn : zs.length ≤ 1099511627776) (hk : 0 ≤ q) (hk' : q ≤ 1099511627776) (h : OwC w B (.row [.int .i64]) u (.row (ones zs)) fp) :
    Calls Try.prog 28 #[dbv k t n s l u, .int .i64 q] w fun e w' => e = .returned (.int .i64 (q + zs.length)) ∧ OwC w' B (.row [.int .i64]) u (.row (ones (marksZ q zs.length))) fp ∧ Turn w w' fp := by
  have HO := Lib.hid h
  clear h
  obtain ⟨W, hW⟩ : ∃ W, W = w.alloc (.cells #[.int .i64 k, .int .i64 t, .int .i64 n, .int .i64 s, .int .i64 l, u] 26) := ⟨_, rfl⟩
  have HX0 := Lib.hid (show Bxd W w.heap.size [.int .i64 k, .int .i64 t, .int .i64 n, .int .i64 s, .int .i64 l, u] by rw [hW]; exact Bxd.new _ _ _)
  have HB0 := Lib.hid (show Below w.heap.size w W by rw [hW]; exact (Below.refl _ _).alloc (Nat.le_refl _) _)
  have HS0 := Lib.hid (show w.heap.size < W.heap.size by rw [hW]; simp)
  have HW := Lib.hid hW
  clear hW
  go_enter Try.func28, Try.ntmps28
  go_wp2_with fail
  rw [← HW.out]
  refine (markIntS_own B u zs fp q W hn hk hk' (HO.out.below (HB0.out.mono (Nat.le_refl _)))).mono ?_
  rintro e w1 ⟨rfl, h1, h2⟩
  have H1 := Lib.hid h1
  have H2 := Lib.hid ((Turn.of_below HB0.out fp).trans h2)
  clear h1 h2
  go_wp2
  go_ret
  exact ⟨rfl, H1.out, H2.out⟩

theorem heldDebouncer_any (k t n s l : Int) (u : Value) (m : Nat) (q : Int) (w : World) (hn : m ≤ 1048576) (hk : 0 ≤ q) (hk' : q ≤ 1099511627776) (h : Rd w u (marks64 q m)) :
    Calls Try.prog 29 #[dbv k t n s l u, .int .i64 q] w fun e w' => e = .returned (.int .i64 (q + m)) ∧ Below w.heap.size w w' := by
  have HR := Lib.hid h
  clear h
  obtain ⟨W, hW⟩ : ∃ W, W = w.alloc (.cells #[.int .i64 k, .int .i64 t, .int .i64 n, .int .i64 s, .int .i64 l, u] 26) := ⟨_, rfl⟩
  have HX0 := Lib.hid (show Bxd W w.heap.size [.int .i64 k, .int .i64 t, .int .i64 n, .int .i64 s, .int .i64 l, u] by rw [hW]; exact Bxd.new _ _ _)
  have HB0 := Lib.hid (show Below w.heap.size w W by rw [hW]; exact (Below.refl _ _).alloc (Nat.le_refl _) _)
  have HS0 := Lib.hid (show w.heap.size < W.heap.size by rw [hW]; simp)
  have HW := Lib.hid hW
  clear hW
  go_enter Try.func29, Try.ntmps29
  go_wp2_with fail
  rw [← HW.out]
  refine (heldIntS_any u m q W hn hk hk' (HR.out.below HB0.out)).mono ?_
  rintro e w1 ⟨rfl, rfl⟩
  go_wp2
  go_ret
  exact ⟨rfl, HB0.out⟩

end Go.Proofs.Ytdlcpijiekhafaa
