/- DERIVED. The reference's l4Parse and ParseEvents: the event, the events that a text names. -/
import Derived.Test.YtkhakelhfnoeoaaDoorEvText
import Derived.BigRegion
namespace Go.Proofs.YtkhakelhfnoeoaaDoor
open Go.RowKit

def isSg (s : ByteArray) (j : Nat) : Bool := bt s j == 43 || bt s j == 45
/-- The first sign among a text's first n bytes. -/
def evScan (s : ByteArray) : Nat → Option Nat
  | 0 => none
  | n + 1 => match evScan s n with
    | some k => some k
    | none => if isSg s n = true then some n else none
def evCut (s : ByteArray) (k : Nat) : Ev × Bool :=
  (⟨pval (s.extract 0 k), pval (s.extract (k + 1) s.size), bt s k == 43⟩,
    okI (s.extract 0 k) && (okI (s.extract (k + 1) s.size) && okEv ⟨pval (s.extract 0 k), pval (s.extract (k + 1) s.size), bt s k == 43⟩))
def evPv (s : ByteArray) : Ev × Bool := match evScan s s.size with
  | none => (⟨0, 0, false⟩, false)
  | some k => evCut s k
theorem evScan_hit {s : ByteArray} {n : Nat} (h : evScan s n = none) (h1 : isSg s n = true) : ∀ m, n < m → evScan s m = some n
  | 0, hm => absurd hm (Nat.not_lt_zero _)
  | m + 1, hm => by
    rcases Nat.lt_or_ge n m with h2 | h2
    · rw [evScan, evScan_hit h h1 m h2]
    · obtain rfl : n = m := by omega
      rw [evScan, h, if_pos h1]
theorem evScan_miss {s : ByteArray} {n : Nat} (h : evScan s n = none) (h1 : isSg s n = false) : evScan s (n + 1) = none := by
  rw [evScan, h]; simp [h1]
set_option maxHeartbeats 1000000 in
theorem specParse_any (s : ByteArray) (w : World) (hl : s.size ≤ 1048576) :
    Calls Tryd.prog 39 #[.string s] w fun e w' => e = .returned (.tuple #[evv (evPv s).1.t (evPv s).1.k (evPv s).1.d, .bool (evPv s).2]) ∧ Below w.heap.size w w' := by
  obtain ⟨r, hr⟩ : ∃ r, r = evPv s := ⟨_, rfl⟩
  rw [← hr]
  have HR := Lib.hid hr
  clear hr
  obtain ⟨W, hW⟩ : ∃ W, W = w.alloc (.cells #[.int .i64 0, .int .i64 0, .bool false] 30) := ⟨_, rfl⟩
  have hx0 : W.heap[w.heap.size]? = some (.cells #[.int .i64 0, .int .i64 0, .bool false] 30 (0, 0)) := by rw [hW]; exact heap_alloc_new w _
  have hb0 : Below w.heap.size w W := by rw [hW]; exact (Below.refl _ _).alloc (Nat.le_refl _) _
  have hs0 : w.heap.size < W.heap.size := by rw [hW]; simp
  have HX0 := Lib.hid hx0
  have HB0 := Lib.hid hb0
  have HS0 := Lib.hid hs0
  have HW := Lib.hid hW
  clear hW hx0 hb0 hs0
  go_enter Tryd.func39, Tryd.ntmps39
  go_wp2
  go_loopw [4] (fun i wr => ∃ j : Nat, j ≤ s.size ∧ i = .int .i64 j ∧ evScan s j = none ∧ wr = W) (fun i _ => s.size - (intOf i).toNat)
  case atStart => exact ⟨0, Nat.zero_le _, rfl, rfl, HW.out.symm⟩
  case round =>
    obtain ⟨j, hj, rfl, hscan, rfl⟩ := hrel
    by_cases hlt : j < s.size
    · have e1 := bt_eq s j hlt
      obtain ⟨x, hx⟩ : ∃ x, x = bt s j := ⟨_, rfl⟩
      rw [← hx] at e1
      have HX := Lib.hid hx
      have HSC := Lib.hid hscan
      clear hx hscan
      by_cases hx43 : x = 43
      · subst hx43
        have hsg : isSg s j = true := by unfold isSg; rw [← HX.out]; rfl
        have hcut : evPv s = evCut s j := by unfold evPv; rw [evScan_hit HSC.out hsg s.size hlt]
        have hq : evCut s j = (⟨pval (s.extract 0 j), pval (s.extract (j + 1) s.size), true⟩, okI (s.extract 0 j) && (okI (s.extract (j + 1) s.size) && okEv ⟨pval (s.extract 0 j), pval (s.extract (j + 1) s.size), true⟩)) := by unfold evCut; rw [← HX.out]; rfl
        rw [hq] at hcut
        have sz1 : (s.extract 0 j).size ≤ 1048576 := by rw [ByteArray.size_extract]; omega
        have sz2 : (s.extract (j + 1) s.size).size ≤ 1048576 := by rw [ByteArray.size_extract]; omega
        have p1 := fun w => specParseInt_any (s.extract 0 j) w sz1
        have p2 := fun w => specParseInt_any (s.extract (j + 1) s.size) w sz2
        have HRC := Lib.hid (HR.out.trans hcut)
        obtain ⟨t1, ht1⟩ : ∃ t, t = pval (s.extract 0 j) := ⟨_, rfl⟩
        obtain ⟨t2, ht2⟩ : ∃ t, t = pval (s.extract (j + 1) s.size) := ⟨_, rfl⟩
        obtain ⟨o1, ho1⟩ : ∃ t, t = okI (s.extract 0 j) := ⟨_, rfl⟩
        obtain ⟨o2, ho2⟩ : ∃ t, t = okI (s.extract (j + 1) s.size) := ⟨_, rfl⟩
        unfold ParsedInt at p1 p2
        have hrc := HRC.out
        rw [← ht1, ← ht2, ← ho1, ← ho2] at hrc
        rw [← ht1, ← ho1] at p1
        rw [← ht2, ← ho2] at p2
        clear HRC
        have HRC := Lib.hid hrc
        have P1 := Lib.hid p1
        have P2 := Lib.hid p2
        clear p1 p2 sz1 sz2 hcut hq hsg hrc ht1 ht2 ho1 ho2
        have f1 : IntKind.i64.wrap ((j : Int) + 1) = ((j + 1 : Nat) : Int) := by rw [IntWalk.i64_in _ ⟨by omega, by omega⟩]; omega
        go_wp2_with fail
        refine (P1.out _).mono ?_
        rintro e w1 ⟨rfl, hb1⟩
        have HB1 := Lib.hid hb1
        clear hb1
        go_wp2_with fail
        refine (P2.out _).mono ?_
        rintro e w2 ⟨rfl, hb2⟩
        have HB2 := Lib.hid (HB1.out.trans (hb2.mono HB1.out.size))
        clear hb2
        have hy := (HB2.out.block w.heap.size HS0.out).trans HX0.out
        have HY := Lib.hid hy
        clear hy
        go_upto_region 8 with (fail)
        have HE2 := Lib.hid (HB0.out.trans (HB2.out.mono HB0.out.size))
        have hgs : w.heap.size < w2.heap.size := Nat.lt_of_lt_of_le HS0.out HB2.out.size
        obtain ⟨g, hg⟩ : ∃ g, g = w2.heap.size := ⟨_, rfl⟩
        obtain ⟨w3, hw3⟩ : ∃ w3, w3 = w2.alloc (.cells #[.int .i64 t1, .int .i64 t2, .bool true] 30) := ⟨_, rfl⟩
        have he3 : w3.heap[g]? = some (.cells #[.int .i64 t1, .int .i64 t2, .bool true] 30 (0, 0)) := by rw [hw3, hg]; exact heap_alloc_new w2 _
        have hb3 : Below w.heap.size w w3 := by rw [hw3]; exact HE2.out.alloc HE2.out.size _
        have hy3 : w3.heap[w.heap.size]? = some (.cells #[.int .i64 0, .int .i64 0, .bool false] 30 (0, 0)) := by rw [hw3]; exact (((Below.refl w2.heap.size w2).alloc (Nat.le_refl _) _).block w.heap.size hgs).trans HY.out
        have hg3 : g < w3.heap.size := by rw [hw3, hg]; simp
        rw [← hw3, ← hg]
        rw [← hg] at hgs
        have hgne : ¬ g = w.heap.size := by omega
        have hgne' : ¬ w.heap.size = g := by omega
        have HB3 := Lib.hid hb3
        have HE3 := Lib.hid he3
        have HY3 := Lib.hid hy3
        clear hw3 hg hb3
        obtain ⟨e0, p0⟩ := cells_of_heap he3 0 (by simp)
        obtain ⟨e1, p1⟩ := cells_of_heap he3 1 (by simp)
        obtain ⟨e2, p2⟩ := cells_of_heap he3 2 (by simp)
        obtain ⟨y0, q0⟩ := cells_of_heap hy3 0 (by simp)
        obtain ⟨y1, q1⟩ := cells_of_heap hy3 1 (by simp)
        obtain ⟨y2, q2⟩ := cells_of_heap hy3 2 (by simp)
        clear he3 hy3 f1
        cases o1
        · go_region
          all_goals
            go_wp2
            have k1 : (w3.setCell ⟨w.heap.size, 0, none⟩ (.int .i64 t1)).heap[w.heap.size]? = some (.cells #[.int .i64 t1, .int .i64 0, .bool false] 30 (0, 0)) := heap_setCell_same _ _ 0 _ _ _ HY3.out
            have k2 : ((w3.setCell ⟨w.heap.size, 0, none⟩ (.int .i64 t1)).setCell ⟨w.heap.size, 1, none⟩ (.int .i64 t2)).heap[w.heap.size]? = some (.cells #[.int .i64 t1, .int .i64 t2, .bool false] 30 (0, 0)) := heap_setCell_same _ _ 1 _ _ _ k1
            have k3 : (((w3.setCell ⟨w.heap.size, 0, none⟩ (.int .i64 t1)).setCell ⟨w.heap.size, 1, none⟩ (.int .i64 t2)).setCell ⟨w.heap.size, 2, none⟩ (.bool true)).heap[w.heap.size]? = some (.cells #[.int .i64 t1, .int .i64 t2, .bool true] 30 (0, 0)) := heap_setCell_same _ _ 2 _ _ _ k2
            have bf : Below w.heap.size w (((w3.setCell ⟨w.heap.size, 0, none⟩ (.int .i64 t1)).setCell ⟨w.heap.size, 1, none⟩ (.int .i64 t2)).setCell ⟨w.heap.size, 2, none⟩ (.bool true)) := (((HB3.out).setCell (by simp) _).setCell (by simp) _).setCell (by simp) _
            obtain ⟨wf, hwf⟩ : ∃ wf, wf = (((w3.setCell ⟨w.heap.size, 0, none⟩ (.int .i64 t1)).setCell ⟨w.heap.size, 1, none⟩ (.int .i64 t2)).setCell ⟨w.heap.size, 2, none⟩ (.bool true)) := ⟨_, rfl⟩
            rw [← hwf] at k3 bf ⊢
            clear hwf k1 k2
            have f0 := (cells_of_heap k3 0 (by simp)).1
            have f1 := (cells_of_heap k3 1 (by simp)).1
            have f2 := (cells_of_heap k3 2 (by simp)).1
            clear y0 y1 y2 q0 q1 q2 e0 e1 e2 p0 p1 p2
            refine bodyPost_ret (v := .tuple #[evv t1 t2 true, .bool false]) (by simp [results, Tryd.results39, go_sem, f0, f1, f2]) rfl ⟨by rw [HRC.out]; rfl, bf.drew⟩
        · cases o2
          · go_region
            all_goals
              go_wp2
              have k1 : (w3.setCell ⟨w.heap.size, 0, none⟩ (.int .i64 t1)).heap[w.heap.size]? = some (.cells #[.int .i64 t1, .int .i64 0, .bool false] 30 (0, 0)) := heap_setCell_same _ _ 0 _ _ _ HY3.out
              have k2 : ((w3.setCell ⟨w.heap.size, 0, none⟩ (.int .i64 t1)).setCell ⟨w.heap.size, 1, none⟩ (.int .i64 t2)).heap[w.heap.size]? = some (.cells #[.int .i64 t1, .int .i64 t2, .bool false] 30 (0, 0)) := heap_setCell_same _ _ 1 _ _ _ k1
              have k3 : (((w3.setCell ⟨w.heap.size, 0, none⟩ (.int .i64 t1)).setCell ⟨w.heap.size, 1, none⟩ (.int .i64 t2)).setCell ⟨w.heap.size, 2, none⟩ (.bool true)).heap[w.heap.size]? = some (.cells #[.int .i64 t1, .int .i64 t2, .bool true] 30 (0, 0)) := heap_setCell_same _ _ 2 _ _ _ k2
              have bf : Below w.heap.size w (((w3.setCell ⟨w.heap.size, 0, none⟩ (.int .i64 t1)).setCell ⟨w.heap.size, 1, none⟩ (.int .i64 t2)).setCell ⟨w.heap.size, 2, none⟩ (.bool true)) := (((HB3.out).setCell (by simp) _).setCell (by simp) _).setCell (by simp) _
              obtain ⟨wf, hwf⟩ : ∃ wf, wf = (((w3.setCell ⟨w.heap.size, 0, none⟩ (.int .i64 t1)).setCell ⟨w.heap.size, 1, none⟩ (.int .i64 t2)).setCell ⟨w.heap.size, 2, none⟩ (.bool true)) := ⟨_, rfl⟩
              rw [← hwf] at k3 bf ⊢
              clear hwf k1 k2
              have f0 := (cells_of_heap k3 0 (by simp)).1
              have f1 := (cells_of_heap k3 1 (by simp)).1
              have f2 := (cells_of_heap k3 2 (by simp)).1
              clear y0 y1 y2 q0 q1 q2 e0 e1 e2 p0 p1 p2
              refine bodyPost_ret (v := .tuple #[evv t1 t2 true, .bool false]) (by simp [results, Tryd.results39, go_sem, f0, f1, f2]) rfl ⟨by rw [HRC.out]; rfl, bf.drew⟩
          · obtain ⟨ok, hok⟩ : ∃ ok, ok = okEv ⟨t1, t2, true⟩ := ⟨_, rfl⟩
            have HOK := Lib.hid hok
            clear hok
            go_region_held3 (fun w' => w'.cell? ⟨g, 0, none⟩ = some (.int .i64 t1) ∧ w'.cell? ⟨g, 1, none⟩ = some (.int .i64 t2) ∧ w'.cell? ⟨g, 2, none⟩ = some (.bool true)) (first | go_keep)
              (first | (go_at_call 50; refine (specIsEvent_q t1 t2 true ok HOK.out _).mono ?_; rintro e w4 ⟨rfl, hb4⟩; have hc4 : Below w3.heap.size w3 w4 := ((Below.refl _ _).drew).trans hb4; have hf4 : Below w.heap.size w w4 := HB3.out.trans (hc4.mono HB3.out.size); have he4 := (hc4.block g hg3).trans HE3.out; have hy4 := (hc4.block w.heap.size (Nat.lt_trans hgs hg3)).trans HY3.out; obtain ⟨i0, j0⟩ := cells_of_heap he4 0 (by simp); obtain ⟨i1, j1⟩ := cells_of_heap he4 1 (by simp); obtain ⟨i2, j2⟩ := cells_of_heap he4 2 (by simp); obtain ⟨k0, l0⟩ := cells_of_heap hy4 0 (by simp); obtain ⟨k1, l1⟩ := cells_of_heap hy4 1 (by simp); obtain ⟨k2, l2⟩ := cells_of_heap hy4 2 (by simp); have HY4 := Lib.hid hy4; have HF4 := Lib.hid hf4; clear hb4 hc4 he4 hy4 hf4))
            all_goals
              go_wp2
              clear e0 e1 e2 p0 p1 p2 y0 y1 y2 q0 q1 q2 k0 k1 k2 l0 l1 l2 i0 i1 i2 j0 j1 j2
              have k1 : (w4.setCell ⟨w.heap.size, 0, none⟩ (.int .i64 t1)).heap[w.heap.size]? = some (.cells #[.int .i64 t1, .int .i64 0, .bool false] 30 (0, 0)) := heap_setCell_same _ _ 0 _ _ _ HY4.out
              have k2 : ((w4.setCell ⟨w.heap.size, 0, none⟩ (.int .i64 t1)).setCell ⟨w.heap.size, 1, none⟩ (.int .i64 t2)).heap[w.heap.size]? = some (.cells #[.int .i64 t1, .int .i64 t2, .bool false] 30 (0, 0)) := heap_setCell_same _ _ 1 _ _ _ k1
              have k3 : (((w4.setCell ⟨w.heap.size, 0, none⟩ (.int .i64 t1)).setCell ⟨w.heap.size, 1, none⟩ (.int .i64 t2)).setCell ⟨w.heap.size, 2, none⟩ (.bool true)).heap[w.heap.size]? = some (.cells #[.int .i64 t1, .int .i64 t2, .bool true] 30 (0, 0)) := heap_setCell_same _ _ 2 _ _ _ k2
              have bf : Below w.heap.size w (((w4.setCell ⟨w.heap.size, 0, none⟩ (.int .i64 t1)).setCell ⟨w.heap.size, 1, none⟩ (.int .i64 t2)).setCell ⟨w.heap.size, 2, none⟩ (.bool true)) := (((HF4.out).setCell (by simp) _).setCell (by simp) _).setCell (by simp) _
              obtain ⟨wf, hwf⟩ : ∃ wf, wf = (((w4.setCell ⟨w.heap.size, 0, none⟩ (.int .i64 t1)).setCell ⟨w.heap.size, 1, none⟩ (.int .i64 t2)).setCell ⟨w.heap.size, 2, none⟩ (.bool true)) := ⟨_, rfl⟩
              rw [← hwf] at k3 bf ⊢
              clear hwf k1 k2
              have f0 := (cells_of_heap k3 0 (by simp)).1
              have f1 := (cells_of_heap k3 1 (by simp)).1
              have f2 := (cells_of_heap k3 2 (by simp)).1
              refine bodyPost_ret (v := .tuple #[evv t1 t2 true, .bool ok]) (by simp [results, Tryd.results39, go_sem, f0, f1, f2]) rfl ⟨by rw [HRC.out, HOK.out]; rfl, bf⟩
      · by_cases hx45 : x = 45
        · subst hx45
          have hsg : isSg s j = true := by unfold isSg; rw [← HX.out]; rfl
          have hcut : evPv s = evCut s j := by unfold evPv; rw [evScan_hit HSC.out hsg s.size hlt]
          have hq : evCut s j = (⟨pval (s.extract 0 j), pval (s.extract (j + 1) s.size), false⟩, okI (s.extract 0 j) && (okI (s.extract (j + 1) s.size) && okEv ⟨pval (s.extract 0 j), pval (s.extract (j + 1) s.size), false⟩)) := by unfold evCut; rw [← HX.out]; rfl
          rw [hq] at hcut
          have sz1 : (s.extract 0 j).size ≤ 1048576 := by rw [ByteArray.size_extract]; omega
          have sz2 : (s.extract (j + 1) s.size).size ≤ 1048576 := by rw [ByteArray.size_extract]; omega
          have p1 := fun w => specParseInt_any (s.extract 0 j) w sz1
          have p2 := fun w => specParseInt_any (s.extract (j + 1) s.size) w sz2
          have HRC := Lib.hid (HR.out.trans hcut)
          obtain ⟨t1, ht1⟩ : ∃ t, t = pval (s.extract 0 j) := ⟨_, rfl⟩
          obtain ⟨t2, ht2⟩ : ∃ t, t = pval (s.extract (j + 1) s.size) := ⟨_, rfl⟩
          obtain ⟨o1, ho1⟩ : ∃ t, t = okI (s.extract 0 j) := ⟨_, rfl⟩
          obtain ⟨o2, ho2⟩ : ∃ t, t = okI (s.extract (j + 1) s.size) := ⟨_, rfl⟩
          unfold ParsedInt at p1 p2
          have hrc := HRC.out
          rw [← ht1, ← ht2, ← ho1, ← ho2] at hrc
          rw [← ht1, ← ho1] at p1
          rw [← ht2, ← ho2] at p2
          clear HRC
          have HRC := Lib.hid hrc
          have P1 := Lib.hid p1
          have P2 := Lib.hid p2
          clear p1 p2 sz1 sz2 hcut hq hsg hrc ht1 ht2 ho1 ho2
          have f1 : IntKind.i64.wrap ((j : Int) + 1) = ((j + 1 : Nat) : Int) := by rw [IntWalk.i64_in _ ⟨by omega, by omega⟩]; omega
          go_wp2_with fail
          refine (P1.out _).mono ?_
          rintro e w1 ⟨rfl, hb1⟩
          have HB1 := Lib.hid hb1
          clear hb1
          go_wp2_with fail
          refine (P2.out _).mono ?_
          rintro e w2 ⟨rfl, hb2⟩
          have HB2 := Lib.hid (HB1.out.trans (hb2.mono HB1.out.size))
          clear hb2
          have hy := (HB2.out.block w.heap.size HS0.out).trans HX0.out
          have HY := Lib.hid hy
          clear hy
          go_upto_region 8 with (fail)
          have HE2 := Lib.hid (HB0.out.trans (HB2.out.mono HB0.out.size))
          have hgs : w.heap.size < w2.heap.size := Nat.lt_of_lt_of_le HS0.out HB2.out.size
          obtain ⟨g, hg⟩ : ∃ g, g = w2.heap.size := ⟨_, rfl⟩
          obtain ⟨w3, hw3⟩ : ∃ w3, w3 = w2.alloc (.cells #[.int .i64 t1, .int .i64 t2, .bool false] 30) := ⟨_, rfl⟩
          have he3 : w3.heap[g]? = some (.cells #[.int .i64 t1, .int .i64 t2, .bool false] 30 (0, 0)) := by rw [hw3, hg]; exact heap_alloc_new w2 _
          have hb3 : Below w.heap.size w w3 := by rw [hw3]; exact HE2.out.alloc HE2.out.size _
          have hy3 : w3.heap[w.heap.size]? = some (.cells #[.int .i64 0, .int .i64 0, .bool false] 30 (0, 0)) := by rw [hw3]; exact (((Below.refl w2.heap.size w2).alloc (Nat.le_refl _) _).block w.heap.size hgs).trans HY.out
          have hg3 : g < w3.heap.size := by rw [hw3, hg]; simp
          rw [← hw3, ← hg]
          rw [← hg] at hgs
          have hgne : ¬ g = w.heap.size := by omega
          have hgne' : ¬ w.heap.size = g := by omega
          have HB3 := Lib.hid hb3
          have HE3 := Lib.hid he3
          have HY3 := Lib.hid hy3
          clear hw3 hg hb3
          obtain ⟨e0, p0⟩ := cells_of_heap he3 0 (by simp)
          obtain ⟨e1, p1⟩ := cells_of_heap he3 1 (by simp)
          obtain ⟨e2, p2⟩ := cells_of_heap he3 2 (by simp)
          obtain ⟨y0, q0⟩ := cells_of_heap hy3 0 (by simp)
          obtain ⟨y1, q1⟩ := cells_of_heap hy3 1 (by simp)
          obtain ⟨y2, q2⟩ := cells_of_heap hy3 2 (by simp)
          clear he3 hy3 f1
          cases o1
          · go_region
            all_goals
              go_wp2
              have k1 : (w3.setCell ⟨w.heap.size, 0, none⟩ (.int .i64 t1)).heap[w.heap.size]? = some (.cells #[.int .i64 t1, .int .i64 0, .bool false] 30 (0, 0)) := heap_setCell_same _ _ 0 _ _ _ HY3.out
              have k2 : ((w3.setCell ⟨w.heap.size, 0, none⟩ (.int .i64 t1)).setCell ⟨w.heap.size, 1, none⟩ (.int .i64 t2)).heap[w.heap.size]? = some (.cells #[.int .i64 t1, .int .i64 t2, .bool false] 30 (0, 0)) := heap_setCell_same _ _ 1 _ _ _ k1
              have k3 : (((w3.setCell ⟨w.heap.size, 0, none⟩ (.int .i64 t1)).setCell ⟨w.heap.size, 1, none⟩ (.int .i64 t2)).setCell ⟨w.heap.size, 2, none⟩ (.bool false)).heap[w.heap.size]? = some (.cells #[.int .i64 t1, .int .i64 t2, .bool false] 30 (0, 0)) := heap_setCell_same _ _ 2 _ _ _ k2
              have bf : Below w.heap.size w (((w3.setCell ⟨w.heap.size, 0, none⟩ (.int .i64 t1)).setCell ⟨w.heap.size, 1, none⟩ (.int .i64 t2)).setCell ⟨w.heap.size, 2, none⟩ (.bool false)) := (((HB3.out).setCell (by simp) _).setCell (by simp) _).setCell (by simp) _
              obtain ⟨wf, hwf⟩ : ∃ wf, wf = (((w3.setCell ⟨w.heap.size, 0, none⟩ (.int .i64 t1)).setCell ⟨w.heap.size, 1, none⟩ (.int .i64 t2)).setCell ⟨w.heap.size, 2, none⟩ (.bool false)) := ⟨_, rfl⟩
              rw [← hwf] at k3 bf ⊢
              clear hwf k1 k2
              have f0 := (cells_of_heap k3 0 (by simp)).1
              have f1 := (cells_of_heap k3 1 (by simp)).1
              have f2 := (cells_of_heap k3 2 (by simp)).1
              clear y0 y1 y2 q0 q1 q2 e0 e1 e2 p0 p1 p2
              refine bodyPost_ret (v := .tuple #[evv t1 t2 false, .bool false]) (by simp [results, Tryd.results39, go_sem, f0, f1, f2]) rfl ⟨by rw [HRC.out]; rfl, bf.drew⟩
          · cases o2
            · go_region
              all_goals
                go_wp2
                have k1 : (w3.setCell ⟨w.heap.size, 0, none⟩ (.int .i64 t1)).heap[w.heap.size]? = some (.cells #[.int .i64 t1, .int .i64 0, .bool false] 30 (0, 0)) := heap_setCell_same _ _ 0 _ _ _ HY3.out
                have k2 : ((w3.setCell ⟨w.heap.size, 0, none⟩ (.int .i64 t1)).setCell ⟨w.heap.size, 1, none⟩ (.int .i64 t2)).heap[w.heap.size]? = some (.cells #[.int .i64 t1, .int .i64 t2, .bool false] 30 (0, 0)) := heap_setCell_same _ _ 1 _ _ _ k1
                have k3 : (((w3.setCell ⟨w.heap.size, 0, none⟩ (.int .i64 t1)).setCell ⟨w.heap.size, 1, none⟩ (.int .i64 t2)).setCell ⟨w.heap.size, 2, none⟩ (.bool false)).heap[w.heap.size]? = some (.cells #[.int .i64 t1, .int .i64 t2, .bool false] 30 (0, 0)) := heap_setCell_same _ _ 2 _ _ _ k2
                have bf : Below w.heap.size w (((w3.setCell ⟨w.heap.size, 0, none⟩ (.int .i64 t1)).setCell ⟨w.heap.size, 1, none⟩ (.int .i64 t2)).setCell ⟨w.heap.size, 2, none⟩ (.bool false)) := (((HB3.out).setCell (by simp) _).setCell (by simp) _).setCell (by simp) _
                obtain ⟨wf, hwf⟩ : ∃ wf, wf = (((w3.setCell ⟨w.heap.size, 0, none⟩ (.int .i64 t1)).setCell ⟨w.heap.size, 1, none⟩ (.int .i64 t2)).setCell ⟨w.heap.size, 2, none⟩ (.bool false)) := ⟨_, rfl⟩
                rw [← hwf] at k3 bf ⊢
                clear hwf k1 k2
                have f0 := (cells_of_heap k3 0 (by simp)).1
                have f1 := (cells_of_heap k3 1 (by simp)).1
                have f2 := (cells_of_heap k3 2 (by simp)).1
                clear y0 y1 y2 q0 q1 q2 e0 e1 e2 p0 p1 p2
                refine bodyPost_ret (v := .tuple #[evv t1 t2 false, .bool false]) (by simp [results, Tryd.results39, go_sem, f0, f1, f2]) rfl ⟨by rw [HRC.out]; rfl, bf.drew⟩
            · obtain ⟨ok, hok⟩ : ∃ ok, ok = okEv ⟨t1, t2, false⟩ := ⟨_, rfl⟩
              have HOK := Lib.hid hok
              clear hok
              go_region_held3 (fun w' => w'.cell? ⟨g, 0, none⟩ = some (.int .i64 t1) ∧ w'.cell? ⟨g, 1, none⟩ = some (.int .i64 t2) ∧ w'.cell? ⟨g, 2, none⟩ = some (.bool false)) (first | go_keep)
                (first | (go_at_call 50; refine (specIsEvent_q t1 t2 false ok HOK.out _).mono ?_; rintro e w4 ⟨rfl, hb4⟩; have hc4 : Below w3.heap.size w3 w4 := ((Below.refl _ _).drew).trans hb4; have hf4 : Below w.heap.size w w4 := HB3.out.trans (hc4.mono HB3.out.size); have he4 := (hc4.block g hg3).trans HE3.out; have hy4 := (hc4.block w.heap.size (Nat.lt_trans hgs hg3)).trans HY3.out; obtain ⟨i0, j0⟩ := cells_of_heap he4 0 (by simp); obtain ⟨i1, j1⟩ := cells_of_heap he4 1 (by simp); obtain ⟨i2, j2⟩ := cells_of_heap he4 2 (by simp); obtain ⟨k0, l0⟩ := cells_of_heap hy4 0 (by simp); obtain ⟨k1, l1⟩ := cells_of_heap hy4 1 (by simp); obtain ⟨k2, l2⟩ := cells_of_heap hy4 2 (by simp); have HY4 := Lib.hid hy4; have HF4 := Lib.hid hf4; clear hb4 hc4 he4 hy4 hf4))
              all_goals
                go_wp2
                clear e0 e1 e2 p0 p1 p2 y0 y1 y2 q0 q1 q2 k0 k1 k2 l0 l1 l2 i0 i1 i2 j0 j1 j2
                have k1 : (w4.setCell ⟨w.heap.size, 0, none⟩ (.int .i64 t1)).heap[w.heap.size]? = some (.cells #[.int .i64 t1, .int .i64 0, .bool false] 30 (0, 0)) := heap_setCell_same _ _ 0 _ _ _ HY4.out
                have k2 : ((w4.setCell ⟨w.heap.size, 0, none⟩ (.int .i64 t1)).setCell ⟨w.heap.size, 1, none⟩ (.int .i64 t2)).heap[w.heap.size]? = some (.cells #[.int .i64 t1, .int .i64 t2, .bool false] 30 (0, 0)) := heap_setCell_same _ _ 1 _ _ _ k1
                have k3 : (((w4.setCell ⟨w.heap.size, 0, none⟩ (.int .i64 t1)).setCell ⟨w.heap.size, 1, none⟩ (.int .i64 t2)).setCell ⟨w.heap.size, 2, none⟩ (.bool false)).heap[w.heap.size]? = some (.cells #[.int .i64 t1, .int .i64 t2, .bool false] 30 (0, 0)) := heap_setCell_same _ _ 2 _ _ _ k2
                have bf : Below w.heap.size w (((w4.setCell ⟨w.heap.size, 0, none⟩ (.int .i64 t1)).setCell ⟨w.heap.size, 1, none⟩ (.int .i64 t2)).setCell ⟨w.heap.size, 2, none⟩ (.bool false)) := (((HF4.out).setCell (by simp) _).setCell (by simp) _).setCell (by simp) _
                obtain ⟨wf, hwf⟩ : ∃ wf, wf = (((w4.setCell ⟨w.heap.size, 0, none⟩ (.int .i64 t1)).setCell ⟨w.heap.size, 1, none⟩ (.int .i64 t2)).setCell ⟨w.heap.size, 2, none⟩ (.bool false)) := ⟨_, rfl⟩
                rw [← hwf] at k3 bf ⊢
                clear hwf k1 k2
                have f0 := (cells_of_heap k3 0 (by simp)).1
                have f1 := (cells_of_heap k3 1 (by simp)).1
                have f2 := (cells_of_heap k3 2 (by simp)).1
                refine bodyPost_ret (v := .tuple #[evv t1 t2 false, .bool ok]) (by simp [results, Tryd.results39, go_sem, f0, f1, f2]) rfl ⟨by rw [HRC.out, HOK.out]; rfl, bf⟩
        · have hsg : isSg s j = false := by unfold isSg; rw [← HX.out]; simp [hx43, hx45]
          have h43 : (x == 43) = false := by simp [hx43]
          have h45 : (x == 45) = false := by simp [hx45]
          have HS := Lib.hid hsg
          clear hsg
          go_wp2
          go_roundw
          case rel => exact ⟨j + 1, by omega, by go_num, evScan_miss HSC.out HS.out, trivial⟩
          case measure => simp [intOf]; omega
    · obtain rfl : j = s.size := by omega
      have hno : evPv s = (⟨0, 0, false⟩, false) := by unfold evPv; rw [hscan]
      have HRC := Lib.hid (HR.out.trans hno)
      clear hno hscan
      have hx := HX0.out
      obtain ⟨t0, q0⟩ := cells_of_heap hx 0 (by simp)
      obtain ⟨t1, q1⟩ := cells_of_heap hx 1 (by simp)
      obtain ⟨t2, q2⟩ := cells_of_heap hx 2 (by simp)
      clear hx
      go_wp2
      have k1 : (wr.setCell ⟨w.heap.size, 0, none⟩ (.int .i64 0)).heap[w.heap.size]? = some (.cells #[.int .i64 0, .int .i64 0, .bool false] 30 (0, 0)) := heap_setCell_same _ _ 0 _ _ _ HX0.out
      have k2 : ((wr.setCell ⟨w.heap.size, 0, none⟩ (.int .i64 0)).setCell ⟨w.heap.size, 1, none⟩ (.int .i64 0)).heap[w.heap.size]? = some (.cells #[.int .i64 0, .int .i64 0, .bool false] 30 (0, 0)) := heap_setCell_same _ _ 1 _ _ _ k1
      have k3 : (((wr.setCell ⟨w.heap.size, 0, none⟩ (.int .i64 0)).setCell ⟨w.heap.size, 1, none⟩ (.int .i64 0)).setCell ⟨w.heap.size, 2, none⟩ (.bool false)).heap[w.heap.size]? = some (.cells #[.int .i64 0, .int .i64 0, .bool false] 30 (0, 0)) := heap_setCell_same _ _ 2 _ _ _ k2
      have bf : Below w.heap.size w (((wr.setCell ⟨w.heap.size, 0, none⟩ (.int .i64 0)).setCell ⟨w.heap.size, 1, none⟩ (.int .i64 0)).setCell ⟨w.heap.size, 2, none⟩ (.bool false)) := (((HB0.out).setCell (by simp) _).setCell (by simp) _).setCell (by simp) _
      obtain ⟨wf, hwf⟩ : ∃ wf, wf = (((wr.setCell ⟨w.heap.size, 0, none⟩ (.int .i64 0)).setCell ⟨w.heap.size, 1, none⟩ (.int .i64 0)).setCell ⟨w.heap.size, 2, none⟩ (.bool false)) := ⟨_, rfl⟩
      rw [← hwf] at k3 bf ⊢
      clear hwf k1 k2
      have f0 := (cells_of_heap k3 0 (by simp)).1
      have f1 := (cells_of_heap k3 1 (by simp)).1
      have f2 := (cells_of_heap k3 2 (by simp)).1
      clear t0 t1 t2 q0 q1 q2
      refine bodyPost_ret (v := .tuple #[evv 0 0 false, .bool false]) (by simp [results, Tryd.results39, go_sem, f0, f1, f2]) rfl ⟨by rw [HRC.out], bf⟩

end Go.Proofs.YtkhakelhfnoeoaaDoor
