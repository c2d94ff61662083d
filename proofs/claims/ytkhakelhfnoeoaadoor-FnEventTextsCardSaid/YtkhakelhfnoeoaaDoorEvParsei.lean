/- DERIVED. The program's parseEvent, where the library's table of powers of ten is as its text lays it: the event that a text names, or none. · The program's ParseEvents, where the library's table of powers of ten is as its text lays it: the events that a text names. -/
import Derived.Test.YtkhakelhfnoeoaaDoorEvParse2
import Derived.Test.YtkhakelhfnoeoaaDoorParseInti
import Derived.Test.YtkhakelhfnoeoaaDoorIxAny
import Derived.Test.YtkhakelhfnoeoaaDoorEvImpl2
import Derived.Test.YtkhakelhfnoeoaaDoorCore
import Derived.Test.YtkhakelhfnoeoaaDoorTextMath
namespace Go.Proofs.YtkhakelhfnoeoaaDoor
open Go.RowKit

theorem isPm_sg (s : ByteArray) (j : Nat) : isPm (bt s j) = isSg s j := by
  unfold isPm isSg
  by_cases h1 : bt s j = 43
  · rw [h1]; rfl
  · by_cases h2 : bt s j = 45
    · rw [h2]; rfl
    · rw [decide_eq_false (by omega)]; simp [h1, h2]
theorem scan_none {s : ByteArray} : ∀ n, evScan s n = none → noPm s n
  | 0, _ => fun j hj => by omega
  | n + 1, h => by
    rw [evScan] at h
    cases hn : evScan s n with
    | some k => rw [hn] at h; cases h
    | none =>
      rw [hn] at h
      simp only at h
      have ih := scan_none n hn
      intro j hj
      by_cases hjn : j = n
      · subst hjn
        rw [isPm_sg]
        cases hs : isSg s j
        · rfl
        · rw [if_pos hs] at h; cases h
      · exact ih j (by omega)
theorem scan_some {s : ByteArray} {k : Nat} : ∀ n, evScan s n = some k → k < n ∧ noPm s k ∧ isPm (bt s k) = true
  | 0, h => by cases h
  | n + 1, h => by
    rw [evScan] at h
    cases hn : evScan s n with
    | some q =>
      rw [hn] at h
      simp only [Option.some.injEq] at h
      subst h
      have ih := scan_some n hn
      exact ⟨by omega, ih.2⟩
    | none =>
      rw [hn] at h
      simp only at h
      cases hs : isSg s n
      · rw [hs] at h; simp at h
      · rw [if_pos hs, Option.some.injEq] at h
        subst h
        exact ⟨by omega, scan_none _ hn, by rw [isPm_sg]; exact hs⟩
/-- The place of the first sign, -1 if there is none. -/
def scanV (s : ByteArray) : Int := match evScan s s.size with
  | none => -1
  | some k => k
theorem indexAny_scan (s : ByteArray) (hs : s.size ≤ 1048576) (w : World) : Calls Tryd.prog 43 #[.string s, .string pm] w fun e w' => e = .returned (.int .i64 (scanV s)) ∧ Below w.heap.size w w' := by
  refine (indexAny_pm s hs w).mono fun e w' ⟨he, hb⟩ => ⟨?_, hb⟩
  rw [he]
  unfold scanV
  cases h : evScan s s.size with
  | none => rw [Lib.indexAny_none (by rw [← Lib.size_eq]; exact noPm_lib (scan_none _ h))]
  | some k =>
    obtain ⟨hk, hno, hp⟩ := scan_some _ h
    obtain ⟨x, hx⟩ : ∃ x : UInt8, s[k]'hk = x := ⟨_, rfl⟩
    have hxl : s.data.toList[k]? = some x := by rw [← hx]; exact Lib.data_getElem? s k hk
    have hxb : (x.toNat : Int) = bt s k := by rw [← hx]; exact bt_eq s k hk
    have hpm := of_decide_eq_true (show decide (bt s k = 43 ∨ bt s k = 45) = true from hp)
    rw [Lib.indexAny_hit (noPm_lib hno) hxl (by
      have : x = 43 ∨ x = 45 := by
        rcases hpm with h | h
        · left; apply UInt8.toNat_inj.mp; show x.toNat = 43; omega
        · right; apply UInt8.toNat_inj.mp; show x.toNat = 45; omega
      rcases this with rfl | rfl <;> decide)]

/-- What parseEvent answers. -/
def evI (s : ByteArray) : Ev × Bool := match evScan s s.size with
  | none => (⟨0, 0, false⟩, false)
  | some k => if (okI (s.extract 0 k) && okI (s.extract (k + 1) s.size)) = true then (⟨pval (s.extract 0 k), pval (s.extract (k + 1) s.size), bt s k == 43⟩, true) else (⟨0, 0, false⟩, false)
theorem evI_pv (s : ByteArray) : ((evI s).2 = true → (evPv s).1 = (evI s).1 ∧ (evPv s).2 = okEv (evI s).1) ∧ ((evI s).2 = false → (evPv s).2 = false) := by
  unfold evI evPv
  cases h : evScan s s.size with
  | none => simp
  | some k =>
    simp only [evCut]
    cases h1 : okI (s.extract 0 k) <;> cases h2 : okI (s.extract (k + 1) s.size) <;> simp

set_option maxHeartbeats 2000000 in
theorem parseEvent_any (s : ByteArray) (w : World) (hl : s.size ≤ 1048576) (htab : Lib.TabIs Tryd.prog w "internal/strconv.uint64pow10" .u64 Lib.pow10Tab) :
    Calls Tryd.prog 26 #[.string s] w fun e w' => e = .returned (.tuple #[evv (evI s).1.t (evI s).1.k (evI s).1.d, .bool (evI s).2]) ∧ Below w.heap.size w w' := by
  obtain ⟨r, hr⟩ : ∃ r, r = evI s := ⟨_, rfl⟩
  rw [← hr]
  obtain ⟨W, hW⟩ : ∃ W, W = w.alloc (.cells #[.int .i64 0, .int .i64 0, .bool false] 30) := ⟨_, rfl⟩
  have hx0 : W.heap[w.heap.size]? = some (.cells #[.int .i64 0, .int .i64 0, .bool false] 30 (0, 0)) := by rw [hW]; exact heap_alloc_new w _
  have hb0 : Below w.heap.size w W := by rw [hW]; exact (Below.refl _ _).alloc (Nat.le_refl _) _
  have hs0 : w.heap.size < W.heap.size := by rw [hW]; simp
  have HX0 := Lib.hid hx0
  have HB0 := Lib.hid hb0
  have HS0 := Lib.hid hs0
  have HW := Lib.hid hW
  have HT := Lib.hid htab
  clear hW hx0 hb0 hs0 htab
  cases hsc : evScan s s.size with
  | none =>
    have hv : scanV s = -1 := by unfold scanV; rw [hsc]
    have hr0 : r = (⟨0, 0, false⟩, false) := by rw [hr]; unfold evI; rw [hsc]
    have HV := Lib.hid hv
    have HR := Lib.hid hr0
    clear hv hr0 hr hsc
    go_enter Tryd.func26, Tryd.ntmps26
    go_wp2_with fail
    rw [← HW.out]
    refine (indexAny_scan s hl _).mono ?_
    rw [HV.out]
    rintro e w1 ⟨rfl, hb1⟩
    have HB1 := Lib.hid (HB0.out.trans (hb1.mono HB0.out.size))
    have HX1 := Lib.hid ((hb1.block w.heap.size HS0.out).trans HX0.out)
    clear hb1
    have hy := HX1.out
    obtain ⟨y0, q0⟩ := cells_of_heap hy 0 (by simp)
    obtain ⟨y1, q1⟩ := cells_of_heap hy 1 (by simp)
    obtain ⟨y2, q2⟩ := cells_of_heap hy 2 (by simp)
    clear hy
    go_wp2
    have k1 : (w1.setCell ⟨w.heap.size, 0, none⟩ (.int .i64 0)).heap[w.heap.size]? = some (.cells #[.int .i64 0, .int .i64 0, .bool false] 30 (0, 0)) := heap_setCell_same _ _ 0 _ _ _ HX1.out
    have k2 : ((w1.setCell ⟨w.heap.size, 0, none⟩ (.int .i64 0)).setCell ⟨w.heap.size, 1, none⟩ (.int .i64 0)).heap[w.heap.size]? = some (.cells #[.int .i64 0, .int .i64 0, .bool false] 30 (0, 0)) := heap_setCell_same _ _ 1 _ _ _ k1
    have k3 : (((w1.setCell ⟨w.heap.size, 0, none⟩ (.int .i64 0)).setCell ⟨w.heap.size, 1, none⟩ (.int .i64 0)).setCell ⟨w.heap.size, 2, none⟩ (.bool false)).heap[w.heap.size]? = some (.cells #[.int .i64 0, .int .i64 0, .bool false] 30 (0, 0)) := heap_setCell_same _ _ 2 _ _ _ k2
    have bf : Below w.heap.size w (((w1.setCell ⟨w.heap.size, 0, none⟩ (.int .i64 0)).setCell ⟨w.heap.size, 1, none⟩ (.int .i64 0)).setCell ⟨w.heap.size, 2, none⟩ (.bool false)) := (((HB1.out).setCell (by simp) _).setCell (by simp) _).setCell (by simp) _
    obtain ⟨wf, hwf⟩ : ∃ wf, wf = (((w1.setCell ⟨w.heap.size, 0, none⟩ (.int .i64 0)).setCell ⟨w.heap.size, 1, none⟩ (.int .i64 0)).setCell ⟨w.heap.size, 2, none⟩ (.bool false)) := ⟨_, rfl⟩
    rw [← hwf] at k3 bf ⊢
    clear hwf k1 k2
    have f0 := (cells_of_heap k3 0 (by simp)).1
    have f1 := (cells_of_heap k3 1 (by simp)).1
    have f2 := (cells_of_heap k3 2 (by simp)).1
    clear y0 y1 y2 q0 q1 q2
    refine bodyPost_ret (v := .tuple #[evv 0 0 false, .bool false]) (by simp [results, Tryd.results26, go_sem, f0, f1, f2]) rfl ⟨by rw [HR.out], bf⟩
  | some k =>
    obtain ⟨hk, _, _⟩ := scan_some _ hsc
    have hv : scanV s = k := by unfold scanV; rw [hsc]
    have hr0 : r = if (okI (s.extract 0 k) && okI (s.extract (k + 1) s.size)) = true then (⟨pval (s.extract 0 k), pval (s.extract (k + 1) s.size), bt s k == 43⟩, true) else (⟨0, 0, false⟩, false) := by rw [hr]; unfold evI; rw [hsc]
    have sz1 : (s.extract 0 k).size ≤ 1048576 := by rw [ByteArray.size_extract]; omega
    have sz2 : (s.extract (k + 1) s.size).size ≤ 1048576 := by rw [ByteArray.size_extract]; omega
    have p1 := fun w ht => implParseInt_any (s.extract 0 k) w ht
    have p2 := fun w ht => implParseInt_any (s.extract (k + 1) s.size) w ht
    obtain ⟨t1, ht1⟩ : ∃ t, t = pval (s.extract 0 k) := ⟨_, rfl⟩
    obtain ⟨t2, ht2⟩ : ∃ t, t = pval (s.extract (k + 1) s.size) := ⟨_, rfl⟩
    obtain ⟨o1, ho1⟩ : ∃ t, t = okI (s.extract 0 k) := ⟨_, rfl⟩
    obtain ⟨o2, ho2⟩ : ∃ t, t = okI (s.extract (k + 1) s.size) := ⟨_, rfl⟩
    unfold ParsedInt at p1 p2
    rw [← ht1, ← ht2, ← ho1, ← ho2] at hr0
    rw [← ht1, ← ho1] at p1
    rw [← ht2, ← ho2] at p2
    have HV := Lib.hid hv
    have HR := Lib.hid hr0
    have P1 := Lib.hid p1
    have P2 := Lib.hid p2
    have hkz : (k : Int) < (s.size : Int) := by omega
    have e1 := bt_eq s k hk
    obtain ⟨x, hx⟩ : ∃ x, x = bt s k := ⟨_, rfl⟩
    rw [← hx] at e1
    have HX := Lib.hid hx
    clear hv hr0 hr hsc p1 p2 sz1 sz2 ht1 ht2 ho1 ho2 hx
    go_enter Tryd.func26, Tryd.ntmps26
    go_wp2_with fail
    rw [← HW.out]
    refine (indexAny_scan s hl _).mono ?_
    rw [HV.out]
    rintro e w1 ⟨rfl, hb1⟩
    have HB1 := Lib.hid (HB0.out.trans (hb1.mono HB0.out.size))
    have HX1 := Lib.hid ((hb1.block w.heap.size HS0.out).trans HX0.out)
    have HS1 := Lib.hid (Nat.lt_of_lt_of_le HS0.out hb1.size)
    clear hb1
    go_wp2_with fail
    refine (P1.out _ (tab_below HT.out HB1.out)).mono ?_
    rintro e w2 ⟨rfl, hb2⟩
    have HB2 := Lib.hid (HB1.out.trans (hb2.mono HB1.out.size))
    have HX2 := Lib.hid ((hb2.block w.heap.size HS1.out).trans HX1.out)
    have HS2 := Lib.hid (Nat.lt_of_lt_of_le HS1.out hb2.size)
    clear hb2
    go_wp2_with fail
    refine (P2.out _ (tab_below HT.out HB2.out)).mono ?_
    rintro e w3 ⟨rfl, hb3⟩
    have HB3 := Lib.hid (HB2.out.trans (hb3.mono HB2.out.size))
    have HX3 := Lib.hid ((hb3.block w.heap.size HS2.out).trans HX2.out)
    have HS3 := Lib.hid (Nat.lt_of_lt_of_le HS2.out hb3.size)
    clear hb3
    cases o1
    · skip
      have hy := HX3.out
      obtain ⟨y0, q0⟩ := cells_of_heap hy 0 (by simp)
      obtain ⟨y1, q1⟩ := cells_of_heap hy 1 (by simp)
      obtain ⟨y2, q2⟩ := cells_of_heap hy 2 (by simp)
      clear hy
      go_wp2
      have k1 : (w3.setCell ⟨w.heap.size, 0, none⟩ (.int .i64 0)).heap[w.heap.size]? = some (.cells #[.int .i64 0, .int .i64 0, .bool false] 30 (0, 0)) := heap_setCell_same _ _ 0 _ _ _ HX3.out
      have k2 : ((w3.setCell ⟨w.heap.size, 0, none⟩ (.int .i64 0)).setCell ⟨w.heap.size, 1, none⟩ (.int .i64 0)).heap[w.heap.size]? = some (.cells #[.int .i64 0, .int .i64 0, .bool false] 30 (0, 0)) := heap_setCell_same _ _ 1 _ _ _ k1
      have k3 : (((w3.setCell ⟨w.heap.size, 0, none⟩ (.int .i64 0)).setCell ⟨w.heap.size, 1, none⟩ (.int .i64 0)).setCell ⟨w.heap.size, 2, none⟩ (.bool false)).heap[w.heap.size]? = some (.cells #[.int .i64 0, .int .i64 0, .bool false] 30 (0, 0)) := heap_setCell_same _ _ 2 _ _ _ k2
      have bf : Below w.heap.size w (((w3.setCell ⟨w.heap.size, 0, none⟩ (.int .i64 0)).setCell ⟨w.heap.size, 1, none⟩ (.int .i64 0)).setCell ⟨w.heap.size, 2, none⟩ (.bool false)) := (((HB3.out).setCell (by simp) _).setCell (by simp) _).setCell (by simp) _
      obtain ⟨wf, hwf⟩ : ∃ wf, wf = (((w3.setCell ⟨w.heap.size, 0, none⟩ (.int .i64 0)).setCell ⟨w.heap.size, 1, none⟩ (.int .i64 0)).setCell ⟨w.heap.size, 2, none⟩ (.bool false)) := ⟨_, rfl⟩
      rw [← hwf] at k3 bf ⊢
      clear hwf k1 k2
      have f0 := (cells_of_heap k3 0 (by simp)).1
      have f1 := (cells_of_heap k3 1 (by simp)).1
      have f2 := (cells_of_heap k3 2 (by simp)).1
      clear y0 y1 y2 q0 q1 q2
      refine bodyPost_ret (v := .tuple #[evv 0 0 false, .bool false]) (by simp [results, Tryd.results26, go_sem, f0, f1, f2]) rfl ⟨by rw [HR.out]; rfl, bf⟩
    · cases o2
      · skip
        have hy := HX3.out
        obtain ⟨y0, q0⟩ := cells_of_heap hy 0 (by simp)
        obtain ⟨y1, q1⟩ := cells_of_heap hy 1 (by simp)
        obtain ⟨y2, q2⟩ := cells_of_heap hy 2 (by simp)
        clear hy
        go_wp2
        have k1 : (w3.setCell ⟨w.heap.size, 0, none⟩ (.int .i64 0)).heap[w.heap.size]? = some (.cells #[.int .i64 0, .int .i64 0, .bool false] 30 (0, 0)) := heap_setCell_same _ _ 0 _ _ _ HX3.out
        have k2 : ((w3.setCell ⟨w.heap.size, 0, none⟩ (.int .i64 0)).setCell ⟨w.heap.size, 1, none⟩ (.int .i64 0)).heap[w.heap.size]? = some (.cells #[.int .i64 0, .int .i64 0, .bool false] 30 (0, 0)) := heap_setCell_same _ _ 1 _ _ _ k1
        have k3 : (((w3.setCell ⟨w.heap.size, 0, none⟩ (.int .i64 0)).setCell ⟨w.heap.size, 1, none⟩ (.int .i64 0)).setCell ⟨w.heap.size, 2, none⟩ (.bool false)).heap[w.heap.size]? = some (.cells #[.int .i64 0, .int .i64 0, .bool false] 30 (0, 0)) := heap_setCell_same _ _ 2 _ _ _ k2
        have bf : Below w.heap.size w (((w3.setCell ⟨w.heap.size, 0, none⟩ (.int .i64 0)).setCell ⟨w.heap.size, 1, none⟩ (.int .i64 0)).setCell ⟨w.heap.size, 2, none⟩ (.bool false)) := (((HB3.out).setCell (by simp) _).setCell (by simp) _).setCell (by simp) _
        obtain ⟨wf, hwf⟩ : ∃ wf, wf = (((w3.setCell ⟨w.heap.size, 0, none⟩ (.int .i64 0)).setCell ⟨w.heap.size, 1, none⟩ (.int .i64 0)).setCell ⟨w.heap.size, 2, none⟩ (.bool false)) := ⟨_, rfl⟩
        rw [← hwf] at k3 bf ⊢
        clear hwf k1 k2
        have f0 := (cells_of_heap k3 0 (by simp)).1
        have f1 := (cells_of_heap k3 1 (by simp)).1
        have f2 := (cells_of_heap k3 2 (by simp)).1
        clear y0 y1 y2 q0 q1 q2
        refine bodyPost_ret (v := .tuple #[evv 0 0 false, .bool false]) (by simp [results, Tryd.results26, go_sem, f0, f1, f2]) rfl ⟨by rw [HR.out]; rfl, bf⟩
      · skip
        have hy := HX3.out
        obtain ⟨y0, q0⟩ := cells_of_heap hy 0 (by simp)
        obtain ⟨y1, q1⟩ := cells_of_heap hy 1 (by simp)
        obtain ⟨y2, q2⟩ := cells_of_heap hy 2 (by simp)
        clear hy
        go_wp2
        have k1 : (w3.setCell ⟨w.heap.size, 0, none⟩ (.int .i64 t1)).heap[w.heap.size]? = some (.cells #[.int .i64 t1, .int .i64 0, .bool false] 30 (0, 0)) := heap_setCell_same _ _ 0 _ _ _ HX3.out
        have k2 : ((w3.setCell ⟨w.heap.size, 0, none⟩ (.int .i64 t1)).setCell ⟨w.heap.size, 1, none⟩ (.int .i64 t2)).heap[w.heap.size]? = some (.cells #[.int .i64 t1, .int .i64 t2, .bool false] 30 (0, 0)) := heap_setCell_same _ _ 1 _ _ _ k1
        have k3 : (((w3.setCell ⟨w.heap.size, 0, none⟩ (.int .i64 t1)).setCell ⟨w.heap.size, 1, none⟩ (.int .i64 t2)).setCell ⟨w.heap.size, 2, none⟩ (.bool (x == 43))).heap[w.heap.size]? = some (.cells #[.int .i64 t1, .int .i64 t2, .bool (x == 43)] 30 (0, 0)) := heap_setCell_same _ _ 2 _ _ _ k2
        have bf : Below w.heap.size w (((w3.setCell ⟨w.heap.size, 0, none⟩ (.int .i64 t1)).setCell ⟨w.heap.size, 1, none⟩ (.int .i64 t2)).setCell ⟨w.heap.size, 2, none⟩ (.bool (x == 43))) := (((HB3.out).setCell (by simp) _).setCell (by simp) _).setCell (by simp) _
        obtain ⟨wf, hwf⟩ : ∃ wf, wf = (((w3.setCell ⟨w.heap.size, 0, none⟩ (.int .i64 t1)).setCell ⟨w.heap.size, 1, none⟩ (.int .i64 t2)).setCell ⟨w.heap.size, 2, none⟩ (.bool (x == 43))) := ⟨_, rfl⟩
        rw [← hwf] at k3 bf ⊢
        clear hwf k1 k2
        have f0 := (cells_of_heap k3 0 (by simp)).1
        have f1 := (cells_of_heap k3 1 (by simp)).1
        have f2 := (cells_of_heap k3 2 (by simp)).1
        clear y0 y1 y2 q0 q1 q2
        refine bodyPost_ret (v := .tuple #[evv t1 t2 (x == 43), .bool true]) (by simp [results, Tryd.results26, go_sem, f0, f1, f2]) rfl ⟨by rw [HR.out, ← HX.out]; rfl, bf⟩
end Go.Proofs.YtkhakelhfnoeoaaDoor

namespace Go.Proofs.YtkhakelhfnoeoaaDoor
open Go.RowKit

def evsI (ps : List ByteArray) : List Ev := ps.map fun p => (evI p).1
theorem evsI_bad {ps : List ByteArray} {p : ByteArray} (hp : p ∈ ps) (h : (evI p).2 = false) : evsT ps = ([], false) := by
  have h2 : evsAll ps = false := by
    unfold evsAll
    rw [List.all_eq_false]
    exact ⟨p, hp, by rw [(evI_pv p).2 h]; simp⟩
  rw [evsT, if_neg (by rw [h2]; simp)]
theorem evsI_all {ps : List ByteArray} (h : ∀ p ∈ ps, (evI p).2 = true) : evsOf ps = evsI ps ∧ (evsAll ps = (evsI ps).all okEv) := by
  induction ps with
  | nil => exact ⟨by simp [evsOf, evsI], by simp [evsAll, evsI]⟩
  | cons p ps ih =>
    obtain ⟨h1, h2⟩ := (evI_pv p).1 (h p List.mem_cons_self)
    obtain ⟨h3, h4⟩ := ih fun q hq => h q (List.mem_cons_of_mem _ hq)
    unfold evsOf evsI at h3
    unfold evsAll evsI at h4
    unfold evsOf evsI evsAll
    rw [List.map_cons, List.map_cons, List.all_cons, List.all_cons, h1, h2, h3, h4]
    exact ⟨rfl, rfl⟩
theorem evsI_good {ps : List ByteArray} (h : ∀ p ∈ ps, (evI p).2 = true) : evsT ps = if okEvs (evsI ps) = true then (evsI ps, true) else ([], false) := by
  obtain ⟨h1, h2⟩ := evsI_all h
  rw [evsT, h1, h2]
  by_cases hok : okEvs (evsI ps) = true
  · obtain ⟨h3, h4⟩ := okEvs_each hok
    rw [if_pos ⟨by simpa [evsI] using h3, by rw [List.all_eq_true]; exact h4, hok⟩, if_pos hok]
  · rw [if_neg (fun h => hok h.2.2), if_neg hok]
theorem own_base {w : World} {B B' c n : Nat} {e : TypeId} {u : Value} {xs : List Value} (h : w.ownsRow B' e c u n xs) (hB : B ≤ B') : w.ownsRow B e c u n xs := by
  refine ⟨h.1, ?_⟩
  rcases h.2 with h2 | ⟨g, cap, cur, hu, hg, r⟩
  · exact .inl h2
  · exact .inr ⟨g, cap, cur, hu, Nat.le_trans hB hg, r⟩

set_option maxHeartbeats 4000000 in
set_option maxRecDepth 100000 in
theorem implParseEvents_any (s : ByteArray) (w : World) (hl : s.size ≤ 1048576) (htab : Lib.TabIs Tryd.prog w "internal/strconv.uint64pow10" .u64 Lib.pow10Tab) :
    Calls Tryd.prog 8 #[.string s] w (EvOut (evsP s).1 (evsP s).2 w) := by
  obtain ⟨i0, hi, hy0, hy1, hy2⟩ := info_parts info_ev
  by_cases hs : s.size = 0
  · obtain rfl : s = ByteArray.empty := by
      obtain ⟨⟨l⟩⟩ := s
      have : l = [] := List.eq_nil_of_length_eq_zero hs
      subst this; rfl
    go_enter Tryd.func8, Tryd.ntmps8
    go_wp2
    go_ret2
    exact ⟨_, rfl, World.ownsRow_nil _ _ _ _, Below.refl _ _⟩
  · have hne : (s.toList == []) = false := by
      have h1 := toList_ne (x := s) (y := ByteArray.empty) (fun e => hs (by rw [e]; rfl))
      simpa using h1
    obtain ⟨R, hR⟩ : ∃ R, R = evsP s := ⟨_, rfl⟩
    have hRT : R = evsT (parts s 32) := by rw [hR, evsP, if_neg hs]
    rw [← hR]
    have hpl := parts_len s 32
    obtain ⟨ps, hps⟩ : ∃ ps, ps = parts s 32 := ⟨_, rfl⟩
    have hpz : ∀ k, (ps.getD k ByteArray.empty).size ≤ 1048576 := fun k => by rw [hps]; exact Nat.le_trans (parts_sizes s 32 k) hl
    rw [← hps] at hRT hpl
    have HPS := Lib.hid hps
    have HPZ := Lib.hid hpz
    have HRT := Lib.hid hRT
    have HT := Lib.hid htab
    clear hR hRT hps hpz htab
    go_enter Tryd.func8, Tryd.ntmps8
    go_wp2_with fail
    refine (implSplit_any s 32 w hl).mono ?_
    rintro e w1 ⟨v, rfl, hown, hb⟩
    rw [← HPS.out] at hown
    have hps0 : 0 < ps.length := by rw [HPS.out]; simp [parts]
    obtain ⟨b, cap, rfl, hbW, hlt⟩ := hown.form hps0
    have hc' : ∀ j, j < ps.length → w1.cell? ⟨b, j, none⟩ = some (.string (ps.getD j ByteArray.empty)) := fun j hj => by
      rw [hown.cellAt j (by omega), List.getElem?_eq_getElem (by simpa using hj), getD_map_str]
    have HB1 := Lib.hid hb
    have HC := Lib.hid hc'
    clear hown hb hc'
    go_wp2
    go_loopw [4, 14] (fun o i wr => ∃ (j : Nat) (a : Option Addr) (c : Nat), j ≤ ps.length ∧ i = .int .i64 j ∧ o = .slice a (evsI (ps.take j)).length c ∧ wr.ownsRow w1.heap.size 30 3 (.slice a (evsI (ps.take j)).length c) (evsI (ps.take j)).length (flatEv (evsI (ps.take j))) ∧ (∀ p ∈ ps.take j, (evI p).2 = true) ∧ Below w1.heap.size w1 wr) (fun _ i _ => ps.length - (intOf i).toNat)
    case atStart => exact ⟨0, _, _, Nat.zero_le _, rfl, rfl, World.ownsRow_nil _ _ _ _, by simp, Below.refl _ _⟩
    case round =>
      obtain ⟨j, a, c, hj, rfl, rfl, hown, hall, hb⟩ := hrel
      have hel : (evsI (ps.take j)).length = j := by simp [evsI]; omega
      by_cases hlt' : j < ps.length
      · have hcell := (hb.cell (p := ⟨b, j, none⟩) hlt).trans (HC.out j hlt')
        have hq := fun w ht => parseEvent_any (ps.getD j ByteArray.empty) w (HPZ.out j) ht
        have hgd : ps[j]? = some (ps.getD j ByteArray.empty) := by rw [List.getD_eq_getElem?_getD, List.getElem?_eq_getElem hlt']; rfl
        have hsn : evsI (ps.take (j + 1)) = evsI (ps.take j) ++ [(evI (ps.getD j ByteArray.empty)).1] := by
          unfold evsI
          rw [List.take_add_one, List.map_append, hgd]
          rfl
        have hmem : ps.getD j ByteArray.empty ∈ ps := List.mem_of_getElem? hgd
        have hbad : (evI (ps.getD j ByteArray.empty)).2 = false → R = ([], false) := fun h => by rw [HRT.out, evsI_bad hmem h]
        have hall2 : (evI (ps.getD j ByteArray.empty)).2 = true → ∀ p ∈ ps.take (j + 1), (evI p).2 = true := fun h p hp => by
          rw [List.take_add_one, hgd] at hp
          rcases List.mem_append.1 hp with h1 | h1
          · exact hall p h1
          · have h2 : p = ps.getD j ByteArray.empty := by simpa using h1
            rw [h2]; exact h
        obtain ⟨p, hp⟩ : ∃ p, p = ps.getD j ByteArray.empty := ⟨_, rfl⟩
        rw [← hp] at hcell hq hsn hbad hall2
        obtain ⟨pv, hpv⟩ : ∃ pv, pv = evI p := ⟨_, rfl⟩
        rw [← hpv] at hq hsn hbad hall2
        obtain ⟨⟨t, k, d⟩, o⟩ := pv
        obtain ⟨A, hA⟩ : ∃ A, A = evsI (ps.take j) := ⟨_, rfl⟩
        rw [← hA] at hsn hown hel ⊢
        have HQ := Lib.hid hq
        have HSN := Lib.hid hsn
        have HBAD := Lib.hid hbad
        have HALL := Lib.hid hall2
        have HO := Lib.hid hown
        have HB := Lib.hid hb
        have hwr : w1.heap.size ≤ wr.heap.size := HB.out.size
        have b63 : A.length + 1 ≤ maxLen := by unfold maxLen; omega
        have b47 : (A.length + 1) * 24 ≤ 140737488355328 := by omega
        have HEL := Lib.hid hel
        clear hq hsn hbad hall2 hall hp hpv hA hown hb hel hgd hmem
        go_wp2_with fail
        refine (HQ.out _ (tab_below HT.out (HB1.out.trans (HB.out.mono HB1.out.size)))).mono ?_
        rintro e w2 ⟨rfl, hb2⟩
        have HB2 := Lib.hid (HB.out.trans (hb2.mono HB.out.size))
        have HO2 := Lib.hid (owns_below HO.out hb2)
        have hz2 : w1.heap.size ≤ w2.heap.size := HB2.out.size
        clear hb2 hcell
        cases o
        · go_wp2
          go_ret2
          rw [HBAD.out (by trivial)]
          exact ⟨_, rfl, World.ownsRow_nil _ _ _ _, (HB1.out.trans (HB2.out.mono HB1.out.size)).alloc (Nat.le_trans HB1.out.size hz2) _⟩
        · go_wp2_with (at_builtin; refine wpList_append_own _ rfl _ _ 24 rfl w1.heap.size 30 i0 (.agg #[.int .i64 0, .int .i64 0, .bool false]) 3 24 Tryd.underlying24 hi hy0 hy1 hy2 rfl (by decide) _ _ _ rfl ((HO2.out.alloc _).alloc _) ⟨w2.heap.size + 1, 0, none⟩ 1 1 [.int .i64 t, .int .i64 k, .bool d] rfl rfl ?c1 ?c2 b63 b47 ?c5 ?_)
          case c1 =>
            have := news_of_new (w := w2.alloc (.cells #[Value.int .i64 t, Value.int .i64 k, Value.bool d] 30)) (cs := [Value.int .i64 t, Value.int .i64 k, Value.bool d]) (t := 30)
            simpa using this
          case c2 => intro u hu; simp at hu; rcases hu with rfl | rfl | rfl <;> rfl
          case c5 => simp; omega
          · intro v' w6 hown1 hgrow _
            obtain ⟨a', c', rfl⟩ := owns_shape hown1
            have hal : Below w2.heap.size w2 ((w2.alloc (.cells #[Value.int .i64 t, Value.int .i64 k, Value.bool d] 30)).alloc (.cells #[Value.int .i64 t, Value.int .i64 k, Value.bool d] 30)) := ((Below.refl _ _).alloc (Nat.le_refl _) _).alloc (by simp) _
            have HB6 := Lib.hid ((HB2.out.trans (hal.mono hz2)).grown hgrow (by simp; omega) (fun q hq => by have := (HO2.out.lt q hq).1; omega))
            have HO6 := Lib.hid hown1
            clear hown1 hgrow hal
            go_wp2
            go_roundw
            case rel =>
              refine ⟨j + 1, a', c', by omega, by go_num, by rw [HSN.out]; simp, ?_, HALL.out (by trivial), HB6.out⟩
              rw [HSN.out, flatEv_snoc]
              simpa using HO6.out
            case measure => simp [intOf]; omega
      · obtain rfl : j = ps.length := by omega
        rw [List.take_length] at hown hall hel ⊢
        have HO := Lib.hid hown
        have HB := Lib.hid hb
        have HGD := Lib.hid (evsI_good hall)
        clear hown hb hall
        obtain ⟨A, hA⟩ : ∃ A, A = evsI ps := ⟨_, rfl⟩
        have HA := Lib.hid hA
        obtain ⟨ok, hok⟩ : ∃ ok, ok = okEvs A := ⟨_, rfl⟩
        have HOK := Lib.hid hok
        rw [← hA] at HO hel ⊢
        clear hA hok
        have hAm : A.length ≤ maxLen := by unfold maxLen; omega
        have HAM := Lib.hid hAm
        clear hAm hel
        have hwr : w1.heap.size ≤ wr.heap.size := HB.out.size
        go_wp2_with fail
        refine (implIsEvents_any _ A _ HAM.out (RdN.of_owns HO.out)).mono ?_
        rw [← HOK.out]
        rintro e w2 ⟨rfl, hb2⟩
        have HB2 := Lib.hid (HB.out.trans (hb2.mono hwr))
        have HO2 := Lib.hid (owns_below HO.out hb2)
        clear hb2
        cases ok
        · have hRF : R = ([], false) := by rw [HRT.out, HGD.out, if_neg (by rw [← HA.out, ← HOK.out]; simp)]
          have HRF := Lib.hid hRF
          clear hRF
          go_wp2
          go_ret2
          rw [HRF.out]
          exact ⟨_, rfl, World.ownsRow_nil _ _ _ _, HB1.out.trans (HB2.out.mono HB1.out.size)⟩
        · have hRF : R = (A, true) := by rw [HRT.out, HGD.out, if_pos (by rw [← HA.out, ← HOK.out]), HA.out]
          have HRF := Lib.hid hRF
          clear hRF
          go_wp2
          go_ret2
          rw [HRF.out]
          exact ⟨_, rfl, own_base HO2.out HB1.out.size, HB1.out.trans (HB2.out.mono HB1.out.size)⟩

end Go.Proofs.YtkhakelhfnoeoaaDoor
