/- DERIVED. The laws' own functions on reports: the size of one, a copy of it, two that are alike, its marks. Called with a report whose keys read as known numbers. -/
import Derived.Test.YteljmfdlegohbaaInts
import Derived.Test.YteljmfdlegohbaaDeb
import Derived.Test.YteljmfdlegohbaaLawBits
import Derived.WalkSmall
namespace Go.Proofs.Yteljmfdlegohbaa
open Go.RowKit

abbrev rpv (r : Int) (u : Value) : Value := .agg #[.int .i64 r, u]
def rpS : List Sh := [.int .i64, .row [.int .i64]]
def rpC (r : Int) (zs : List Int) : List Ce := [.int r, .row (ones zs)]

theorem szReport_any (r : Int) (a : Option Addr) (m cap : Nat) (left : Int) (w : World) (hl : 0 ≤ left) (hl' : left ≤ 1099511627776) (hn : m ≤ maxLen) : Calls Try.prog 63 #[rpv r (.slice a m cap), .int .i64 left] w fun e w' => e = .returned (.int .i64 (if left < m then -1 else left - m)) ∧ Below w.heap.size w w' := by
  by_cases h : left < (m : Int)
  · rw [if_pos h]
    obtain ⟨W, hW⟩ : ∃ W, W = w.alloc (.cells #[.int .i64 r, .slice a m cap] 93) := ⟨_, rfl⟩
    have HX0 := Lib.hid (show Bxd W w.heap.size [.int .i64 r, .slice a m cap] by rw [hW]; exact Bxd.new _ _ _)
    have HB0 := Lib.hid (show Below w.heap.size w W by rw [hW]; exact (Below.refl _ _).alloc (Nat.le_refl _) _)
    have HS0 := Lib.hid (show w.heap.size < W.heap.size by rw [hW]; simp)
    have HW := Lib.hid hW
    clear hW
    go_enter Try.func63, Try.ntmps63
    go_wp2_with fail
    refine (szIntS_any a m cap left _ hl hl' hn).mono ?_
    rw [if_pos h]
    rintro e w0 ⟨rfl, rfl⟩
    go_wp2
    go_ret
    rw [← HW.out]
    exact ⟨rfl, HB0.out⟩
  · rw [if_neg h]
    obtain ⟨W, hW⟩ : ∃ W, W = w.alloc (.cells #[.int .i64 r, .slice a m cap] 93) := ⟨_, rfl⟩
    have HX0 := Lib.hid (show Bxd W w.heap.size [.int .i64 r, .slice a m cap] by rw [hW]; exact Bxd.new _ _ _)
    have HB0 := Lib.hid (show Below w.heap.size w W by rw [hW]; exact (Below.refl _ _).alloc (Nat.le_refl _) _)
    have HS0 := Lib.hid (show w.heap.size < W.heap.size by rw [hW]; simp)
    have HW := Lib.hid hW
    clear hW
    go_enter Try.func63, Try.ntmps63
    go_wp2_with fail
    refine (szIntS_any a m cap left _ hl hl' hn).mono ?_
    rw [if_neg (show ¬ left < (m : Int) by omega)]
    rintro e w0 ⟨rfl, rfl⟩
    go_wp2
    go_ret
    rw [← HW.out]
    exact ⟨rfl, HB0.out⟩

set_option maxHeartbeats 400000 in
theorem toReport_any (r : Int) (u : Value) (zs : List Int) (w : World) (hl : zs.length ≤ 1048576) (h : Rd w u (zs.map (.int .i64))) :
    Calls Try.prog 65 #[rpv r u] w fun e w' => ∃ u', e = .returned (rpv r u') ∧ w'.ownsRow w.heap.size 3 1 u' zs.length (zs.map (.int .i64)) ∧ Below w.heap.size w w' := by
  have HR := Lib.hid h
  clear h
  obtain ⟨W, hW⟩ : ∃ W, W = ((w.alloc (.cells #[.int .i64 r, u] 93)).alloc (.cells #[.int .i64 0, .slice none 0 0] 62)).alloc (.cells #[.int .i64 r, .slice none 0 0] 62) := ⟨_, rfl⟩
  have HO := Lib.hid (show W.heap[w.heap.size + 1 + 1]? = some (.cells #[.int .i64 r, .slice none 0 0] 62 (0, 0)) by rw [hW]; simpa using heap_alloc_new ((w.alloc (.cells #[.int .i64 r, u] 93)).alloc (.cells #[.int .i64 0, .slice none 0 0] 62)) _)
  have HT := Lib.hid (show W.heap[w.heap.size + 1]? = some (.cells #[.int .i64 0, .slice none 0 0] 62 (0, 0)) by
    rw [hW, Below.heap_alloc _ _ _ (by simp)]; simpa using heap_alloc_new (w.alloc (.cells #[.int .i64 r, u] 93)) _)
  have HB0 := Lib.hid (show Below w.heap.size w W by rw [hW]; exact (((Below.refl _ _).alloc (Nat.le_refl _) _).alloc (by simp) _).alloc (by simp; omega) _)
  have HSZ := Lib.hid (show W.heap.size = w.heap.size + 1 + 1 + 1 by rw [hW]; simp)
  have HW := Lib.hid hW
  clear hW
  go_enter Try.func65, Try.ntmps65
  go_wp2_with fail
  rw [← HW.out]
  refine (toIntS_any u zs _ hl (HR.out.below HB0.out)).mono ?_
  rintro e w1 ⟨u', rfl, hown, hb⟩
  obtain ⟨a', cap', rfl⟩ := owns_shape hown
  have ho := (hb.block (w.heap.size + 1 + 1) (by rw [HSZ.out]; omega)).trans HO.out
  have ht := (hb.block (w.heap.size + 1) (by rw [HSZ.out]; omega)).trans HT.out
  have HB1 := Lib.hid (HB0.out.trans (hb.mono HB0.out.size))
  have HOW := Lib.hid hown
  have hlt : w.heap.size + 1 + 1 < w1.heap.size := (Array.getElem?_eq_some_iff.mp ho).1
  have o1 := cells_of_heap ho 1 (by simp)
  have o0 := (cells_of_heap ho 0 (by simp)).1
  obtain ⟨o1, p1⟩ := o1
  obtain ⟨t0, q0⟩ := cells_of_heap ht 0 (by simp)
  obtain ⟨t1, q1⟩ := cells_of_heap ht 1 (by simp)
  have HTT := Lib.hid ht
  clear hb hown ho ht
  go_wp2
  have htt : (w1.setCell ⟨w.heap.size + 1 + 1, 1, none⟩ (.slice a' zs.length cap')).heap[w.heap.size + 1]? = some (.cells #[.int .i64 0, .slice none 0 0] 62 (0, 0)) := (Below.heap_setCell _ _ _ _ (by simp)).trans HTT.out
  have hbb : Below w.heap.size w (w1.setCell ⟨w.heap.size + 1 + 1, 1, none⟩ (.slice a' zs.length cap')) := HB1.out.setCell (by simp; omega) _
  have hoo := ownsRow_setCell_below HOW.out (show (⟨w.heap.size + 1 + 1, 1, none⟩ : Addr).block < W.heap.size by rw [HSZ.out]; simp) (.slice a' zs.length cap')
  have k1 : ((w1.setCell ⟨w.heap.size + 1 + 1, 1, none⟩ (.slice a' zs.length cap')).setCell ⟨w.heap.size + 1, 0, none⟩ (.int .i64 r)).heap[w.heap.size + 1]? = some (.cells #[.int .i64 r, .slice none 0 0] 62 (0, 0)) := heap_setCell_same _ _ 0 _ _ _ htt
  have k2 : (((w1.setCell ⟨w.heap.size + 1 + 1, 1, none⟩ (.slice a' zs.length cap')).setCell ⟨w.heap.size + 1, 0, none⟩ (.int .i64 r)).setCell ⟨w.heap.size + 1, 1, none⟩ (.slice a' zs.length cap')).heap[w.heap.size + 1]? = some (.cells #[.int .i64 r, .slice a' zs.length cap'] 62 (0, 0)) := heap_setCell_same _ _ 1 _ _ _ k1
  have bf : Below w.heap.size w (((w1.setCell ⟨w.heap.size + 1 + 1, 1, none⟩ (.slice a' zs.length cap')).setCell ⟨w.heap.size + 1, 0, none⟩ (.int .i64 r)).setCell ⟨w.heap.size + 1, 1, none⟩ (.slice a' zs.length cap')) := ((hbb).setCell (by simp) _).setCell (by simp) _
  have of := ownsRow_setCell_below (a := ⟨w.heap.size + 1, 1, none⟩) (ownsRow_setCell_below (a := ⟨w.heap.size + 1, 0, none⟩) (hoo) (by have := HSZ.out; simp <;> omega) (.int .i64 r)) (by have := HSZ.out; simp <;> omega) (.slice a' zs.length cap')
  obtain ⟨wf, hwf⟩ : ∃ wf, wf = (((w1.setCell ⟨w.heap.size + 1 + 1, 1, none⟩ (.slice a' zs.length cap')).setCell ⟨w.heap.size + 1, 0, none⟩ (.int .i64 r)).setCell ⟨w.heap.size + 1, 1, none⟩ (.slice a' zs.length cap')) := ⟨_, rfl⟩
  rw [← hwf] at k2 bf of ⊢
  clear hwf k1
  have f0 := (cells_of_heap k2 0 (by simp)).1
  have f1 := (cells_of_heap k2 1 (by simp)).1
  clear o0 o1 p1 t0 t1 q0 q1
  refine bodyPost_ret (v := rpv r (.slice a' zs.length cap')) (by simp [results, Try.results65, go_sem, f0, f1]) rfl ⟨_, rfl, owns_base of HB0.out.size, bf⟩

set_option maxHeartbeats 400000 in
theorem eqReport_same (r : Int) (ua ub : Value) (zs : List Int) (w : World) (hl : zs.length ≤ 1000000000000) (ha : Rd w ua (zs.map (.int .i64))) (hb : Rd w ub (zs.map (.int .i64))) :
    Calls Try.prog 68 #[rpv r ua, rpv r ub] w fun e w' => e = .returned (.bool true) ∧ Below w.heap.size w w' := by
  obtain ⟨W, hW⟩ : ∃ W, W = (w.alloc (.cells #[.int .i64 r, ua] 62)).alloc (.cells #[.int .i64 r, ub] 62) := ⟨_, rfl⟩
  have hB0 : Below w.heap.size w W := by rw [hW]; exact ((Below.refl _ _).alloc (Nat.le_refl _) _).alloc (by simp) _
  have HA := Lib.hid (ha.below hB0)
  have HB := Lib.hid (hb.below hB0)
  have HB0 := Lib.hid hB0
  have HW := Lib.hid hW
  clear hW hB0 ha hb
  go_enter Try.func68, Try.ntmps68
  go_wp2_with fail
  rw [← HW.out]
  refine (eqIntS_same ua ub zs W hl HA.out HB.out).mono ?_
  rintro e w1 ⟨rfl, n1, rfl⟩
  go_wp2
  go_ret
  exact ⟨rfl, below_drewN HB0.out _⟩

theorem markReport_own (B : Nat) (r : Int) (u : Value) (zs : List Int) (fp : List Nat) (q : Int) (w : World) (hn : zs.length ≤ 1099511627776) (hk : 0 ≤ q) (hk' : q ≤ 1099511627776) (h : OwC w B (.row [.int .i64]) u (.row (ones zs)) fp) :
    Calls Try.prog 69 #[rpv r u, .int .i64 q] w fun e w' => e = .returned (.int .i64 (q + zs.length)) ∧ OwC w' B (.row [.int .i64]) u (.row (ones (marksZ q zs.length))) fp ∧ Turn w w' fp := by
  have HO := Lib.hid h
  clear h
  obtain ⟨W, hW⟩ : ∃ W, W = w.alloc (.cells #[.int .i64 r, u] 62) := ⟨_, rfl⟩
  have HX0 := Lib.hid (show Bxd W w.heap.size [.int .i64 r, u] by rw [hW]; exact Bxd.new _ _ _)
  have HB0 := Lib.hid (show Below w.heap.size w W by rw [hW]; exact (Below.refl _ _).alloc (Nat.le_refl _) _)
  have HS0 := Lib.hid (show w.heap.size < W.heap.size by rw [hW]; simp)
  have HW := Lib.hid hW
  clear hW
  go_enter Try.func69, Try.ntmps69
  go_wp2_with fail
  rw [← HW.out]
  refine (markIntS_own B u zs fp q W hn hk hk' (HO.out.below (HB0.out.mono (Nat.le_refl _)))).mono ?_
  rintro e w1 ⟨rfl, h1, h2⟩
  have H1 := Lib.hid h1
  have H2 := Lib.hid ((Turn.of_below HB0.out fp).trans h2)
  clear h1 h2
  go_wp2
  go_ret
  exact ⟨rfl, H1.out, H2.out⟩

theorem toReport_law (r : Int) (u : Value) (zs : List Int) (w : World) (hl : zs.length ≤ 1048576) (h : Rd w u (zs.map (.int .i64))) :
    Calls Try.prog 65 #[rpv r u] w fun e w' => ∃ a c fp, e = .returned (rpv r (.slice a zs.length c)) ∧ OwC w' w.heap.size (.row [.int .i64]) (.slice a zs.length c) (.row (ones zs)) fp ∧ Below w.heap.size w w' :=
  (toReport_any r u zs w hl h).mono fun e w' ⟨u, he, ho, hb⟩ => by
    obtain ⟨a, c, fp, rfl, h⟩ := owC_len ho hl
    exact ⟨a, c, fp, he, h, hb⟩

end Go.Proofs.Yteljmfdlegohbaa
