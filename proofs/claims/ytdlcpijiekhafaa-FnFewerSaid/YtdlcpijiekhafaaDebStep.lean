/- DERIVED. The reference's DebounceStep, called with any debouncer whose ages read as known numbers, and any samples: it returns what a plain function says. -/
import Derived.Test.YtdlcpijiekhafaaDebNew
import Derived.Test.YtdlcpijiekhafaaSeqSpec
import Derived.StillTailTactics
import Derived.Deep.DeepCutAuto
namespace Go.Proofs.Ytdlcpijiekhafaa
open Go.RowKit

/-- One step of one key: is its age begun anew, its age, is it shown otherwise, its age behind that. -/
def anew (kind : Int) (raw last : Nat) (k : Nat) : Bool := (kind == 0 && (raw ^^^ last).testBit k) || (kind == 1 && !(raw == last))
def aged (kind : Int) (raw last : Nat) (a : Int) (k : Nat) : Int := if anew kind raw last k = true then 1 else min 99 (a + 1)
def flips (kind time : Int) (raw last shown : Nat) (a : Int) (k : Nat) : Bool := decide (time ≤ aged kind raw last a k) && (raw ^^^ shown).testBit k
def ageTo (kind time : Int) (raw last shown : Nat) (a : Int) (k : Nat) : Int := if (flips kind time raw last shown a k && kind == 2) = true then 0 else aged kind raw last a k
def shownTo (kind time : Int) (raw last shown : Nat) (zs : List Int) : Nat → Nat
  | 0 => shown
  | k + 1 => if flips kind time raw last shown (zs.getD k 0) k = true then shownTo kind time raw last shown zs k ^^^ 2 ^ k else shownTo kind time raw last shown zs k
def agesTo (kind time : Int) (raw last shown : Nat) (zs : List Int) (n : Nat) : List Int := (List.range n).map fun k => ageTo kind time raw last shown (zs.getD k 0) k
theorem agesTo_snoc (kind time : Int) (raw last shown : Nat) (zs : List Int) (n : Nat) : agesTo kind time raw last shown zs (n + 1) = agesTo kind time raw last shown zs n ++ [ageTo kind time raw last shown (zs.getD n 0) n] := by
  simp [agesTo, List.range_succ]
theorem shownTo_lt {kind time : Int} {raw last shown : Nat} {zs : List Int} {N : Nat} (h : shown < 2 ^ N) : ∀ k, k ≤ N → shownTo kind time raw last shown zs k < 2 ^ N
  | 0, _ => h
  | k + 1, hk => by
    rw [shownTo]
    split
    · exact Nat.xor_lt_two_pow (shownTo_lt h k (by omega)) (Nat.pow_lt_pow_right (by decide) (by omega))
    · exact shownTo_lt h k (by omega)

/-- Does a step go through? -/
def okStep (k t n s l : Int) (zs : List Int) (raw : Int) : Bool := okDeb k t n s l zs && inB raw 0 (2 ^ n.toNat - 1)
/-- What DebounceStep returns. -/
def StepDeb (k t n s l : Int) (zs : List Int) (raw : Int) (w : World) (e : Ending) (w' : World) : Prop :=
  if okStep k t n s l zs raw = true then ∃ u, e = .returned (.tuple #[dbv k t n (shownTo k t raw.toNat l.toNat s.toNat zs n.toNat : Nat) raw u, .bool true]) ∧ w'.ownsRow w.heap.size 3 1 u n.toNat ((agesTo k t raw.toNat l.toNat s.toNat zs n.toNat).map (.int .i64)) ∧ Below w.heap.size w w'
  else e = .returned (.tuple #[zeroDb, .bool false]) ∧ Below w.heap.size w w'

theorem okDeb_nat {k t n s l : Int} {zs : List Int} (h : okDeb k t n s l zs = true) : ∃ N S L : Nat, n = N ∧ s = S ∧ l = L ∧ 0 ≤ k ∧ k ≤ 2 ∧ 1 ≤ t ∧ t ≤ 20 ∧ 1 ≤ N ∧ N ≤ 24 ∧ zs.length = N ∧ S < 2 ^ N ∧ L < 2 ^ N ∧ ∀ j, j < N → 0 ≤ zs.getD j 0 ∧ zs.getD j 0 ≤ 99 := by
  unfold okDeb at h
  simp only [Bool.and_eq_true] at h
  obtain ⟨⟨⟨⟨⟨⟨h1, h2⟩, h3⟩, h4⟩, h5⟩, h6⟩, h7⟩ := h
  have h1 := of_decide_eq_true (show decide (0 ≤ k ∧ k ≤ 2) = true from h1)
  have h2 := of_decide_eq_true (show decide (1 ≤ t ∧ t ≤ 20) = true from h2)
  have h3 := of_decide_eq_true (show decide (1 ≤ n ∧ n ≤ 24) = true from h3)
  have h4 := of_decide_eq_true h4
  have h6 := of_decide_eq_true (show decide (0 ≤ s ∧ s ≤ 2 ^ n.toNat - 1) = true from h6)
  have h7 := of_decide_eq_true (show decide (0 ≤ l ∧ l ≤ 2 ^ n.toNat - 1) = true from h7)
  obtain ⟨N, rfl⟩ := Int.eq_ofNat_of_zero_le (show 0 ≤ n by omega)
  obtain ⟨S, rfl⟩ := Int.eq_ofNat_of_zero_le h6.1
  obtain ⟨L, rfl⟩ := Int.eq_ofNat_of_zero_le h7.1
  have hp := pow_nat N
  simp only [Int.toNat_natCast] at h6 h7
  refine ⟨N, S, L, rfl, rfl, rfl, h1.1, h1.2, h2.1, h2.2, by omega, by omega, by omega, by omega, by omega, fun j hj => ?_⟩
  have hj' : j < zs.length := by omega
  unfold allIn at h5
  rw [List.all_eq_true] at h5
  have := h5 zs[j] (List.getElem_mem hj')
  have e : zs.getD j 0 = zs[j] := by simp [List.getElem?_eq_getElem hj']
  rw [e]
  exact of_decide_eq_true (show decide (0 ≤ zs[j] ∧ zs[j] ≤ 99) = true from this)
set_option maxHeartbeats 4000000 in
set_option maxRecDepth 100000 in
theorem specDebounceStep_any (k t n s l : Int) (u : Value) (zs : List Int) (raw : Int) (w : World) (hl : zs.length ≤ maxLen) (h : Rd w u (zs.map (.int .i64))) :
    Calls Try.prog 30 #[dbv k t n s l u, .int .i64 raw] w (StepDeb k t n s l zs raw w) := by
  obtain ⟨i0, hi, hy0, hy1, hy2⟩ := info_parts info_int
  obtain ⟨a0, cap0, rfl⟩ : ∃ a cap, u = .slice a zs.length cap := by obtain ⟨a, cap, hu, _⟩ := h; exact ⟨a, cap, by simpa using hu⟩
  obtain ⟨W, hW⟩ : ∃ W, W = (w.alloc (.cells #[.int .i64 k, .int .i64 t, .int .i64 n, .int .i64 s, .int .i64 l, .slice a0 zs.length cap0] 26)).alloc (.cells #[.int .i64 0, .int .i64 0, .int .i64 0, .int .i64 0, .int .i64 0, .slice none 0 0] 26) := ⟨_, rfl⟩
  have HT := Lib.hid (show W.heap[w.heap.size + 1]? = some (.cells #[.int .i64 0, .int .i64 0, .int .i64 0, .int .i64 0, .int .i64 0, .slice none 0 0] 26 (0, 0)) by rw [hW]; simpa using heap_alloc_new (w.alloc (.cells #[.int .i64 k, .int .i64 t, .int .i64 n, .int .i64 s, .int .i64 l, .slice a0 zs.length cap0] 26)) _)
  have HX := Lib.hid (show W.heap[w.heap.size]? = some (.cells #[.int .i64 k, .int .i64 t, .int .i64 n, .int .i64 s, .int .i64 l, .slice a0 zs.length cap0] 26 (0, 0)) by
    rw [hW, Below.heap_alloc _ _ _ (by simp)]; exact heap_alloc_new w _)
  have HB0 := Lib.hid (show Below w.heap.size w W by rw [hW]; exact ((Below.refl _ _).alloc (Nat.le_refl _) _).alloc (by simp) _)
  have HSZ := Lib.hid (show W.heap.size = w.heap.size + 1 + 1 by rw [hW]; simp)
  have HR := Lib.hid (h.below HB0.out)
  have HW := Lib.hid hW
  have HRW := Lib.hid h
  clear hW h
  obtain ⟨ok, hok⟩ : ∃ ok, ok = okDeb k t n s l zs := ⟨_, rfl⟩
  cases ok
  · have hns : okStep k t n s l zs raw = false := by rw [okStep, ← hok]; rfl
    have HO := Lib.hid hok
    have HNS := Lib.hid hns
    clear hok hns
    go_enter Try.func30, Try.ntmps30
    go_wp2_with fail
    rw [← HW.out]
    refine (specIsDebouncer_any k t n s l _ zs _ hl HR.out).mono ?_
    rw [← HO.out]
    rintro e w1 ⟨rfl, hb⟩
    have ht1 := (hb.block (w.heap.size + 1) (by rw [HSZ.out]; omega)).trans HT.out
    have hbb := HB0.out.trans (hb.mono HB0.out.size)
    clear hb
    obtain ⟨t0, q0⟩ := cells_of_heap ht1 0 (by simp)
    obtain ⟨t1, q1⟩ := cells_of_heap ht1 1 (by simp)
    obtain ⟨t2, q2⟩ := cells_of_heap ht1 2 (by simp)
    obtain ⟨t3, q3⟩ := cells_of_heap ht1 3 (by simp)
    obtain ⟨t4, q4⟩ := cells_of_heap ht1 4 (by simp)
    obtain ⟨t5, q5⟩ := cells_of_heap ht1 5 (by simp)
    have HTT := Lib.hid ht1
    have HBB := Lib.hid hbb
    clear ht1 hbb
    go_wp2
    have k1 : (w1.setCell ⟨w.heap.size + 1, 0, none⟩ (.int .i64 0)).heap[w.heap.size + 1]? = some (.cells #[.int .i64 0, .int .i64 0, .int .i64 0, .int .i64 0, .int .i64 0, .slice none 0 0] 26 (0, 0)) := heap_setCell_same _ _ 0 _ _ _ HTT.out
    have k2 : ((w1.setCell ⟨w.heap.size + 1, 0, none⟩ (.int .i64 0)).setCell ⟨w.heap.size + 1, 1, none⟩ (.int .i64 0)).heap[w.heap.size + 1]? = some (.cells #[.int .i64 0, .int .i64 0, .int .i64 0, .int .i64 0, .int .i64 0, .slice none 0 0] 26 (0, 0)) := heap_setCell_same _ _ 1 _ _ _ k1
    have k3 : (((w1.setCell ⟨w.heap.size + 1, 0, none⟩ (.int .i64 0)).setCell ⟨w.heap.size + 1, 1, none⟩ (.int .i64 0)).setCell ⟨w.heap.size + 1, 2, none⟩ (.int .i64 0)).heap[w.heap.size + 1]? = some (.cells #[.int .i64 0, .int .i64 0, .int .i64 0, .int .i64 0, .int .i64 0, .slice none 0 0] 26 (0, 0)) := heap_setCell_same _ _ 2 _ _ _ k2
    have k4 : ((((w1.setCell ⟨w.heap.size + 1, 0, none⟩ (.int .i64 0)).setCell ⟨w.heap.size + 1, 1, none⟩ (.int .i64 0)).setCell ⟨w.heap.size + 1, 2, none⟩ (.int .i64 0)).setCell ⟨w.heap.size + 1, 3, none⟩ (.int .i64 0)).heap[w.heap.size + 1]? = some (.cells #[.int .i64 0, .int .i64 0, .int .i64 0, .int .i64 0, .int .i64 0, .slice none 0 0] 26 (0, 0)) := heap_setCell_same _ _ 3 _ _ _ k3
    have k5 : (((((w1.setCell ⟨w.heap.size + 1, 0, none⟩ (.int .i64 0)).setCell ⟨w.heap.size + 1, 1, none⟩ (.int .i64 0)).setCell ⟨w.heap.size + 1, 2, none⟩ (.int .i64 0)).setCell ⟨w.heap.size + 1, 3, none⟩ (.int .i64 0)).setCell ⟨w.heap.size + 1, 4, none⟩ (.int .i64 0)).heap[w.heap.size + 1]? = some (.cells #[.int .i64 0, .int .i64 0, .int .i64 0, .int .i64 0, .int .i64 0, .slice none 0 0] 26 (0, 0)) := heap_setCell_same _ _ 4 _ _ _ k4
    have k6 : ((((((w1.setCell ⟨w.heap.size + 1, 0, none⟩ (.int .i64 0)).setCell ⟨w.heap.size + 1, 1, none⟩ (.int .i64 0)).setCell ⟨w.heap.size + 1, 2, none⟩ (.int .i64 0)).setCell ⟨w.heap.size + 1, 3, none⟩ (.int .i64 0)).setCell ⟨w.heap.size + 1, 4, none⟩ (.int .i64 0)).setCell ⟨w.heap.size + 1, 5, none⟩ (.slice none 0 0)).heap[w.heap.size + 1]? = some (.cells #[.int .i64 0, .int .i64 0, .int .i64 0, .int .i64 0, .int .i64 0, .slice none 0 0] 26 (0, 0)) := heap_setCell_same _ _ 5 _ _ _ k5
    have bf : Below w.heap.size w ((((((w1.setCell ⟨w.heap.size + 1, 0, none⟩ (.int .i64 0)).setCell ⟨w.heap.size + 1, 1, none⟩ (.int .i64 0)).setCell ⟨w.heap.size + 1, 2, none⟩ (.int .i64 0)).setCell ⟨w.heap.size + 1, 3, none⟩ (.int .i64 0)).setCell ⟨w.heap.size + 1, 4, none⟩ (.int .i64 0)).setCell ⟨w.heap.size + 1, 5, none⟩ (.slice none 0 0)) := ((((((HBB.out).setCell (by simp) _).setCell (by simp) _).setCell (by simp) _).setCell (by simp) _).setCell (by simp) _).setCell (by simp) _
    obtain ⟨wf, hwf⟩ : ∃ wf, wf = ((((((w1.setCell ⟨w.heap.size + 1, 0, none⟩ (.int .i64 0)).setCell ⟨w.heap.size + 1, 1, none⟩ (.int .i64 0)).setCell ⟨w.heap.size + 1, 2, none⟩ (.int .i64 0)).setCell ⟨w.heap.size + 1, 3, none⟩ (.int .i64 0)).setCell ⟨w.heap.size + 1, 4, none⟩ (.int .i64 0)).setCell ⟨w.heap.size + 1, 5, none⟩ (.slice none 0 0)) := ⟨_, rfl⟩
    rw [← hwf] at k6 bf ⊢
    clear hwf k1 k2 k3 k4 k5
    have f0 := (cells_of_heap k6 0 (by simp)).1
    have f1 := (cells_of_heap k6 1 (by simp)).1
    have f2 := (cells_of_heap k6 2 (by simp)).1
    have f3 := (cells_of_heap k6 3 (by simp)).1
    have f4 := (cells_of_heap k6 4 (by simp)).1
    have f5 := (cells_of_heap k6 5 (by simp)).1
    clear t0 t1 t2 t3 t4 t5 q0 q1 q2 q3 q4 q5
    refine bodyPost_ret (v := .tuple #[zeroDb, .bool false]) (by simp [results, Try.results30, go_sem, f0, f1, f2, f3, f4, f5]) rfl ?_
    have hfin : StepDeb k t n s l zs raw w (.returned (.tuple #[zeroDb, .bool false])) wf := by rw [StepDeb, HNS.out, if_neg (by simp)]; exact ⟨rfl, bf⟩
    exact hfin
  · obtain ⟨N, S, L, rfl, rfl, rfl, hk0, hk2, ht1, ht20, hN1, hN24, hlen, hS, hL, hages⟩ := okDeb_nat hok.symm
    obtain rfl : N = zs.length := hlen.symm
    clear hlen
    have hpw := wrap64_pow62 (k := zs.length) (by omega)
    have hpi := pow_nat zs.length
    have hp62 := pow62 (k := zs.length) (by omega)
    obtain ⟨p, hpd⟩ : ∃ p, p = 2 ^ zs.length := ⟨_, rfl⟩
    rw [← hpd] at hpw hpi hp62
    obtain ⟨rb, hrb⟩ : ∃ rb, rb = inB raw 0 ((p : Int) - 1) := ⟨_, rfl⟩
    have hst : okStep k t zs.length S L zs raw = rb := by rw [okStep, ← hok, hrb]; simp [hpi]
    have HO := Lib.hid hok
    have HST := Lib.hid hst
    have HRB := Lib.hid hrb
    have HPD := Lib.hid hpd
    have HS := Lib.hid hS
    have HL := Lib.hid hL
    have HA := Lib.hid hages
    have HPI := Lib.hid hpi
    clear hok hst hrb hpd hS hL hages hpi
    cases rb
    · have HNS := HST
      go_enter Try.func30, Try.ntmps30
      go_wp2_with fail
      rw [← HW.out]
      refine (specIsDebouncer_any k t zs.length S L _ zs _ hl HR.out).mono ?_
      rw [← HO.out]
      rintro e w1 ⟨rfl, hb⟩
      have ht1 := (hb.block (w.heap.size + 1) (by rw [HSZ.out]; omega)).trans HT.out
      have hbb := HB0.out.trans (hb.mono HB0.out.size)
      have hx1 := (hb.block w.heap.size (by rw [HSZ.out]; omega)).trans HX.out
      have x0 := (cells_of_heap hx1 0 (by simp)).1
      have x1 := (cells_of_heap hx1 1 (by simp)).1
      have x2 := (cells_of_heap hx1 2 (by simp)).1
      have x3 := (cells_of_heap hx1 3 (by simp)).1
      have x4 := (cells_of_heap hx1 4 (by simp)).1
      have x5 := (cells_of_heap hx1 5 (by simp)).1
      clear hx1
      clear hb
      obtain ⟨t0, q0⟩ := cells_of_heap ht1 0 (by simp)
      obtain ⟨t1, q1⟩ := cells_of_heap ht1 1 (by simp)
      obtain ⟨t2, q2⟩ := cells_of_heap ht1 2 (by simp)
      obtain ⟨t3, q3⟩ := cells_of_heap ht1 3 (by simp)
      obtain ⟨t4, q4⟩ := cells_of_heap ht1 4 (by simp)
      obtain ⟨t5, q5⟩ := cells_of_heap ht1 5 (by simp)
      have HTT := Lib.hid ht1
      have HBB := Lib.hid hbb
      clear ht1 hbb
      go_wp2_with fail
      refine (inB_any raw 0 ((p : Int) - 1) _).mono ?_
      rw [← HRB.out]
      rintro e w0 ⟨rfl, rfl⟩
      go_wp2
      have k1 : (w1.setCell ⟨w.heap.size + 1, 0, none⟩ (.int .i64 0)).heap[w.heap.size + 1]? = some (.cells #[.int .i64 0, .int .i64 0, .int .i64 0, .int .i64 0, .int .i64 0, .slice none 0 0] 26 (0, 0)) := heap_setCell_same _ _ 0 _ _ _ HTT.out
      have k2 : ((w1.setCell ⟨w.heap.size + 1, 0, none⟩ (.int .i64 0)).setCell ⟨w.heap.size + 1, 1, none⟩ (.int .i64 0)).heap[w.heap.size + 1]? = some (.cells #[.int .i64 0, .int .i64 0, .int .i64 0, .int .i64 0, .int .i64 0, .slice none 0 0] 26 (0, 0)) := heap_setCell_same _ _ 1 _ _ _ k1
      have k3 : (((w1.setCell ⟨w.heap.size + 1, 0, none⟩ (.int .i64 0)).setCell ⟨w.heap.size + 1, 1, none⟩ (.int .i64 0)).setCell ⟨w.heap.size + 1, 2, none⟩ (.int .i64 0)).heap[w.heap.size + 1]? = some (.cells #[.int .i64 0, .int .i64 0, .int .i64 0, .int .i64 0, .int .i64 0, .slice none 0 0] 26 (0, 0)) := heap_setCell_same _ _ 2 _ _ _ k2
      have k4 : ((((w1.setCell ⟨w.heap.size + 1, 0, none⟩ (.int .i64 0)).setCell ⟨w.heap.size + 1, 1, none⟩ (.int .i64 0)).setCell ⟨w.heap.size + 1, 2, none⟩ (.int .i64 0)).setCell ⟨w.heap.size + 1, 3, none⟩ (.int .i64 0)).heap[w.heap.size + 1]? = some (.cells #[.int .i64 0, .int .i64 0, .int .i64 0, .int .i64 0, .int .i64 0, .slice none 0 0] 26 (0, 0)) := heap_setCell_same _ _ 3 _ _ _ k3
      have k5 : (((((w1.setCell ⟨w.heap.size + 1, 0, none⟩ (.int .i64 0)).setCell ⟨w.heap.size + 1, 1, none⟩ (.int .i64 0)).setCell ⟨w.heap.size + 1, 2, none⟩ (.int .i64 0)).setCell ⟨w.heap.size + 1, 3, none⟩ (.int .i64 0)).setCell ⟨w.heap.size + 1, 4, none⟩ (.int .i64 0)).heap[w.heap.size + 1]? = some (.cells #[.int .i64 0, .int .i64 0, .int .i64 0, .int .i64 0, .int .i64 0, .slice none 0 0] 26 (0, 0)) := heap_setCell_same _ _ 4 _ _ _ k4
      have k6 : ((((((w1.setCell ⟨w.heap.size + 1, 0, none⟩ (.int .i64 0)).setCell ⟨w.heap.size + 1, 1, none⟩ (.int .i64 0)).setCell ⟨w.heap.size + 1, 2, none⟩ (.int .i64 0)).setCell ⟨w.heap.size + 1, 3, none⟩ (.int .i64 0)).setCell ⟨w.heap.size + 1, 4, none⟩ (.int .i64 0)).setCell ⟨w.heap.size + 1, 5, none⟩ (.slice none 0 0)).heap[w.heap.size + 1]? = some (.cells #[.int .i64 0, .int .i64 0, .int .i64 0, .int .i64 0, .int .i64 0, .slice none 0 0] 26 (0, 0)) := heap_setCell_same _ _ 5 _ _ _ k5
      have bf : Below w.heap.size w ((((((w1.setCell ⟨w.heap.size + 1, 0, none⟩ (.int .i64 0)).setCell ⟨w.heap.size + 1, 1, none⟩ (.int .i64 0)).setCell ⟨w.heap.size + 1, 2, none⟩ (.int .i64 0)).setCell ⟨w.heap.size + 1, 3, none⟩ (.int .i64 0)).setCell ⟨w.heap.size + 1, 4, none⟩ (.int .i64 0)).setCell ⟨w.heap.size + 1, 5, none⟩ (.slice none 0 0)) := ((((((HBB.out).setCell (by simp) _).setCell (by simp) _).setCell (by simp) _).setCell (by simp) _).setCell (by simp) _).setCell (by simp) _
      obtain ⟨wf, hwf⟩ : ∃ wf, wf = ((((((w1.setCell ⟨w.heap.size + 1, 0, none⟩ (.int .i64 0)).setCell ⟨w.heap.size + 1, 1, none⟩ (.int .i64 0)).setCell ⟨w.heap.size + 1, 2, none⟩ (.int .i64 0)).setCell ⟨w.heap.size + 1, 3, none⟩ (.int .i64 0)).setCell ⟨w.heap.size + 1, 4, none⟩ (.int .i64 0)).setCell ⟨w.heap.size + 1, 5, none⟩ (.slice none 0 0)) := ⟨_, rfl⟩
      rw [← hwf] at k6 bf ⊢
      clear hwf k1 k2 k3 k4 k5
      have f0 := (cells_of_heap k6 0 (by simp)).1
      have f1 := (cells_of_heap k6 1 (by simp)).1
      have f2 := (cells_of_heap k6 2 (by simp)).1
      have f3 := (cells_of_heap k6 3 (by simp)).1
      have f4 := (cells_of_heap k6 4 (by simp)).1
      have f5 := (cells_of_heap k6 5 (by simp)).1
      clear t0 t1 t2 t3 t4 t5 q0 q1 q2 q3 q4 q5
      refine bodyPost_ret (v := .tuple #[zeroDb, .bool false]) (by simp [results, Try.results30, go_sem, f0, f1, f2, f3, f4, f5]) rfl ?_
      have hfin : StepDeb k t zs.length S L zs raw w (.returned (.tuple #[zeroDb, .bool false])) wf := by rw [StepDeb, HNS.out, if_neg (by simp)]; exact ⟨rfl, bf⟩
      exact hfin
    · have hrw := of_decide_eq_true (show decide (0 ≤ raw ∧ raw ≤ (p : Int) - 1) = true from HRB.out.symm)
      obtain ⟨Q, rfl⟩ := Int.eq_ofNat_of_zero_le hrw.1
      have HQ := Lib.hid (show Q < 2 ^ zs.length by have := HPD.out; omega)
      clear hrw
      go_enter Try.func30, Try.ntmps30
      go_wp2_with fail
      rw [← HW.out]
      refine (specIsDebouncer_any k t zs.length S L _ zs _ hl HR.out).mono ?_
      rw [← HO.out]
      rintro e w1 ⟨rfl, hb⟩
      have hx1 := (hb.block w.heap.size (by rw [HSZ.out]; omega)).trans HX.out
      have htt1 := (hb.block (w.heap.size + 1) (by rw [HSZ.out]; omega)).trans HT.out
      have hb1 := HB0.out.trans (hb.mono HB0.out.size)
      have hsz1 : w.heap.size + 1 + 1 ≤ w1.heap.size := by have := hb.size; have := HSZ.out; omega
      have x0 := (cells_of_heap hx1 0 (by simp)).1
      have x1 := (cells_of_heap hx1 1 (by simp)).1
      have x2 := (cells_of_heap hx1 2 (by simp)).1
      have x3 := (cells_of_heap hx1 3 (by simp)).1
      have x4 := (cells_of_heap hx1 4 (by simp)).1
      have x5 := (cells_of_heap hx1 5 (by simp)).1
      have HX1 := Lib.hid hx1
      have HT1 := Lib.hid htt1
      have HB1 := Lib.hid hb1
      clear hb hx1 htt1 hb1
      go_wp2_with fail
      refine (inB_any Q 0 ((p : Int) - 1) _).mono ?_
      rw [← HRB.out]
      rintro e w0 ⟨rfl, rfl⟩
      go_wp2
      obtain ⟨g, hg⟩ : ∃ g, g = w1.heap.size := ⟨_, rfl⟩
      obtain ⟨W3, hW3⟩ : ∃ W3, W3 = (w1.alloc (.cells #[.int .i64 k, .int .i64 t, .int .i64 zs.length, .int .i64 S, .int .i64 L, .slice (some ⟨w1.heap.size + 1, 0, none⟩) 0 0] 26)).alloc (.cells #[] 3) := ⟨_, rfl⟩
      have hg3 : W3.heap[g]? = some (.cells #[.int .i64 k, .int .i64 t, .int .i64 zs.length, .int .i64 S, .int .i64 L, .slice (some ⟨g + 1, 0, none⟩) 0 0] 26 (0, 0)) := by
        rw [hW3, hg, Below.heap_alloc _ _ _ (by simp)]; exact heap_alloc_new w1 _
      have hbw3 : Below w1.heap.size w1 W3 := by rw [hW3]; exact ((Below.refl _ _).alloc (Nat.le_refl _) _).alloc (by simp) _
      have ho3 : W3.ownsRow (g + 1) 3 1 (.slice (some ⟨g + 1, 0, none⟩) 0 0) 0 [] := by
        rw [hW3, hg]
        simpa using owns_none (w := w1.alloc (.cells #[.int .i64 k, .int .i64 t, .int .i64 zs.length, .int .i64 S, .int .i64 L, .slice (some ⟨w1.heap.size + 1, 0, none⟩) 0 0] 26)) (B := w1.heap.size + 1) 3 (by simp)
      have hx3 := (hbw3.block w.heap.size (by omega)).trans HX1.out
      have ht3 := (hbw3.block (w.heap.size + 1) (by omega)).trans HT1.out
      have hb3 := HB1.out.trans (hbw3.mono HB1.out.size)
      have hs3 : g + 1 ≤ W3.heap.size := by rw [hW3, hg]; simp
      rw [← hW3, ← hg]
      have hgs : w.heap.size + 1 < g := by omega
      have HG3 := Lib.hid hg3
      have HO3 := Lib.hid ho3
      have HX3 := Lib.hid hx3
      have HT3 := Lib.hid ht3
      have HB3 := Lib.hid hb3
      have HS3 := Lib.hid hs3
      clear x0 x1 x2 x3 x4 x5 hg3 hbw3 ho3 hx3 ht3 hb3 hs3 hW3 hg hsz1
      go_loopw [7, 8] (fun i _ wr => ∃ (j : Nat) (a : Option Addr) (cap : Nat), j ≤ zs.length ∧ i = .int .i64 j ∧ wr.heap[g]? = some (.cells #[.int .i64 k, .int .i64 t, .int .i64 zs.length, .int .i64 (shownTo k t Q L S zs j : Nat), .int .i64 L, .slice a j cap] 26 (0, 0)) ∧
          wr.heap[w.heap.size]? = some (.cells #[.int .i64 k, .int .i64 t, .int .i64 zs.length, .int .i64 S, .int .i64 L, .slice a0 zs.length cap0] 26 (0, 0)) ∧
          wr.heap[w.heap.size + 1]? = some (.cells #[.int .i64 0, .int .i64 0, .int .i64 0, .int .i64 0, .int .i64 0, .slice none 0 0] 26 (0, 0)) ∧
          wr.ownsRow (g + 1) 3 1 (.slice a j cap) j ((agesTo k t Q L S zs j).map (.int .i64)) ∧ Below w.heap.size w wr ∧ g + 1 ≤ wr.heap.size) (fun i _ _ => zs.length - (intOf i).toNat)
      case atStart => exact ⟨0, _, _, Nat.zero_le _, rfl, HG3.out, HX3.out, HT3.out, HO3.out, HB3.out, HS3.out⟩
      case round =>
        obtain ⟨j, a, cap, hj, rfl, hg, hx, ht, hown, hb, hsg⟩ := hrel
        have x0 := (cells_of_heap hx 0 (by simp)).1
        have x1 := (cells_of_heap hx 1 (by simp)).1
        have x2 := (cells_of_heap hx 2 (by simp)).1
        have x3 := (cells_of_heap hx 3 (by simp)).1
        have x4 := (cells_of_heap hx 4 (by simp)).1
        have x5 := (cells_of_heap hx 5 (by simp)).1
        by_cases hlt : j < zs.length
        · rcases rd_ints HRW.out with ⟨hnil, _⟩ | ⟨b0, off, cap1, _, hu, hbl, hc⟩
          · exfalso; rw [hnil] at hlt; simp at hlt
          · simp only [Value.slice.injEq] at hu
            obtain ⟨rfl, _, rfl⟩ := hu
            have hcell : wr.cell? ⟨b0, off + j, none⟩ = some (.int .i64 (zs.getD j 0)) := (hb.cell (p := ⟨b0, off + j, none⟩) hbl).trans (hc j hlt)
            obtain ⟨hz0, hz99⟩ := HA.out j hlt
            obtain ⟨z, hz⟩ : ∃ z, z = zs.getD j 0 := ⟨_, rfl⟩
            rw [← hz] at hcell hz0 hz99
            have HC := Lib.hid hc
            have HZ := Lib.hid hz
            have HGr := Lib.hid hg
            have HXr := Lib.hid hx
            have HTr := Lib.hid ht
            have HOr := Lib.hid hown
            have HBr := Lib.hid hb
            clear hc hz hg hx ht hown hb
            have ex1 : bits .xor .i64 (Q : Int) (L : Int) = ((Q ^^^ L : Nat) : Int) := xor_nat Q L (by have := HQ.out; have := HPD.out; omega) (by have := HL.out; have := HPD.out; omega)
            have ex2 : bits .xor .i64 (Q : Int) (S : Int) = ((Q ^^^ S : Nat) : Int) := xor_nat Q S (by have := HQ.out; have := HPD.out; omega) (by have := HS.out; have := HPD.out; omega)
            have hbl := bit_nat (Q ^^^ L) j (Nat.xor_lt_two_pow (by have := HQ.out; have := HPD.out; omega) (by have := HL.out; have := HPD.out; omega))
            have hbs := bit_nat (Q ^^^ S) j (Nat.xor_lt_two_pow (by have := HQ.out; have := HPD.out; omega) (by have := HS.out; have := HPD.out; omega))
            obtain ⟨xl, hxl⟩ : ∃ xl, xl = Q ^^^ L := ⟨_, rfl⟩
            obtain ⟨xs, hxs⟩ : ∃ xs, xs = Q ^^^ S := ⟨_, rfl⟩
            rw [← hxl] at ex1 hbl
            rw [← hxs] at ex2 hbs
            obtain ⟨bl, hbl2⟩ : ∃ bl, bl = xl.testBit j := ⟨_, rfl⟩
            obtain ⟨bs, hbs2⟩ : ∃ bs, bs = xs.testBit j := ⟨_, rfl⟩
            rw [← hbl2] at hbl
            rw [← hbs2] at hbs
            obtain ⟨an, han⟩ : ∃ an, an = anew k Q L j := ⟨_, rfl⟩
            have han2 : an = ((k == 0 && bl) || (k == 1 && !(Q == L))) := by rw [han, anew, hbl2, hxl]
            obtain ⟨ag, hag⟩ : ∃ ag, ag = aged k Q L z j := ⟨_, rfl⟩
            have hag2 : ag = if an = true then 1 else min 99 (z + 1) := by rw [hag, aged, han]
            obtain ⟨fl, hfl⟩ : ∃ fl, fl = flips k t Q L S z j := ⟨_, rfl⟩
            have hfl2 : fl = (decide (t ≤ ag) && bs) := by rw [hfl, flips, hag, hbs2, hxs]
            have hag01 : 0 ≤ ag ∧ ag ≤ 99 := by rw [hag2]; split <;> omega
            have hto : ageTo k t Q L S z j = if (fl && k == 2) = true then 0 else ag := by rw [ageTo, ← hfl, ← hag]
            have hsh : shownTo k t Q L S zs (j + 1) = if fl = true then shownTo k t Q L S zs j ^^^ 2 ^ j else shownTo k t Q L S zs j := by rw [shownTo, ← HZ.out, ← hfl]
            have HAN := Lib.hid han2
            have HAG := Lib.hid hag2
            have HFL := Lib.hid hfl2
            have HTO := Lib.hid hto
            have HSH := Lib.hid hsh
            obtain ⟨hag0, hag1⟩ := hag01
            clear hxl hxs hbl2 hbs2 han han2 hag hag2 hfl hfl2 hto hsh
            obtain ⟨mn, hmn⟩ : ∃ mn, mn = min 99 (z + 1) := ⟨_, rfl⟩
            have HMN := Lib.hid hmn
            clear hmn
            go_upto_region 8 with (fail)
            go_cut [8] (fun s8 wx => s8 = .int .i64 mn ∧ wr = wx)
            case first =>
              by_cases hmin : z + 1 < 99
              · have hm : mn = z + 1 := by rw [HMN.out]; omega
                go_wp2
                go_meet
                exact ⟨by rw [hm], rfl⟩
              · have hm : mn = 99 := by rw [HMN.out]; omega
                go_wp2
                go_meet
                exact ⟨by rw [hm], rfl⟩
            case rest =>
              obtain ⟨rfl, rfl⟩ := hcut
              go_upto_region 9 with (fail)
              go_cut [61] (fun s61 wx => s61 = .bool an ∧ wr = wx)
              case first =>
                have hkc : k = 0 ∨ k = 1 ∨ k = 2 := by omega
                rcases hkc with hk | hk | hk
                · have g0 : (k == 0) = true := by rw [hk]; rfl
                  have g1 : (k == 1) = false := by rw [hk]; rfl
                  have han : an = bl := by rw [HAN.out, g0, g1]; simp
                  have HK := Lib.hid han
                  clear hk han
                  cases bl
                  · have hb0 : bits .and .i64 ((xl : Int) / 2 ^ j) 1 = 0 := by rw [hbl]; rfl
                    clear hbl
                    go_wp2
                    go_meet
                    exact ⟨by rw [HK.out], rfl⟩
                  · have hb0 : bits .and .i64 ((xl : Int) / 2 ^ j) 1 = 1 := by rw [hbl]; rfl
                    clear hbl
                    go_wp2
                    go_meet
                    exact ⟨by rw [HK.out], rfl⟩
                · have g0 : (k == 0) = false := by rw [hk]; rfl
                  have g1 : (k == 1) = true := by rw [hk]; rfl
                  have han : an = !(Q == L) := by rw [HAN.out, g0, g1]; simp
                  have HK := Lib.hid han
                  clear hk han hbl
                  by_cases hql : Q = L
                  · have hq1 : ((Q : Int) == (L : Int)) = true := by rw [hql]; simp
                    have hq2 : ((Q : Int) != (L : Int)) = false := by rw [bne, hq1]; rfl
                    have han : an = false := by rw [HK.out, hql]; simp
                    have HK2 := Lib.hid han
                    clear han hql
                    go_wp2
                    go_meet
                    exact ⟨by rw [HK2.out], rfl⟩
                  · have hq1 : ((Q : Int) == (L : Int)) = false := beq_false_of_ne (by omega)
                    have hq2 : ((Q : Int) != (L : Int)) = true := by rw [bne, hq1]; rfl
                    have han : an = true := by rw [HK.out]; simp [hql]
                    have HK2 := Lib.hid han
                    clear han hql
                    go_wp2
                    go_meet
                    exact ⟨by rw [HK2.out], rfl⟩
                · have g0 : (k == 0) = false := by rw [hk]; rfl
                  have g1 : (k == 1) = false := by rw [hk]; rfl
                  have han : an = false := by rw [HAN.out, g0, g1]; simp
                  have HK := Lib.hid han
                  clear hk han hbl
                  go_wp2
                  go_meet
                  exact ⟨by rw [HK.out], rfl⟩
              case rest =>
                obtain ⟨rfl, rfl⟩ := hcut
                clear hbl
                go_upto_if 61 with (fail)
                go_cut [8] (fun s8 wx => s8 = .int .i64 ag ∧ wr = wx)
                case first =>
                  cases an
                  · have hag : ag = mn := by rw [HAG.out, HMN.out]; rfl
                    have HK := Lib.hid hag
                    clear hag
                    go_wp2
                    go_meet
                    exact ⟨by rw [HK.out], rfl⟩
                  · have hag : ag = 1 := by rw [HAG.out]; rfl
                    have HK := Lib.hid hag
                    clear hag
                    go_wp2
                    go_meet
                    exact ⟨by rw [HK.out], rfl⟩
                case rest =>
                  obtain ⟨rfl, rfl⟩ := hcut
                  go_upto_region 11 with (fail)
                  go_cut [75] (fun s75 wx => s75 = .bool fl ∧ wr = wx)
                  case first =>
                    by_cases htg : t ≤ ag
                    · have hfl : fl = bs := by rw [HFL.out, decide_eq_true htg, Bool.true_and]
                      have HK := Lib.hid hfl
                      clear hfl
                      cases bs
                      · have hb0 : bits .and .i64 ((xs : Int) / 2 ^ j) 1 = 0 := by rw [hbs]; rfl
                        clear hbs
                        go_wp2
                        go_meet
                        exact ⟨by rw [HK.out], rfl⟩
                      · have hb0 : bits .and .i64 ((xs : Int) / 2 ^ j) 1 = 1 := by rw [hbs]; rfl
                        clear hbs
                        go_wp2
                        go_meet
                        exact ⟨by rw [HK.out], rfl⟩
                    · have hfl : fl = false := by rw [HFL.out, decide_eq_false htg]; rfl
                      have HK := Lib.hid hfl
                      clear hfl
                      go_wp2
                      go_meet
                      exact ⟨by rw [HK.out], rfl⟩
                  case rest =>
                    obtain ⟨rfl, rfl⟩ := hcut
                    obtain ⟨agN, hagN⟩ : ∃ agN, agN = ageTo k t Q L S z j := ⟨_, rfl⟩
                    have htoN : agN = if (fl && k == 2) = true then 0 else ag := by rw [hagN, HTO.out]
                    have HTN := Lib.hid htoN
                    have HAGN := Lib.hid hagN
                    clear hagN htoN hbs ex1 ex2
                    obtain ⟨sh, hsh⟩ : ∃ sh, sh = shownTo k t Q L S zs j := ⟨_, rfl⟩
                    obtain ⟨shN, hshN⟩ : ∃ shN, shN = shownTo k t Q L S zs (j + 1) := ⟨_, rfl⟩
                    have hnx : shN = if fl = true then sh ^^^ 2 ^ j else sh := by rw [hshN, HSH.out, hsh]
                    have hsh62 : sh < 2 ^ 62 := by rw [hsh]; have := shownTo_lt (kind := k) (time := t) (raw := Q) (last := L) (zs := zs) HS.out j (by omega); have := HPD.out; omega
                    have hg := HGr.out
                    rw [← hsh] at hg
                    have HG2 := Lib.hid hg
                    have HNX := Lib.hid hnx
                    have HSHN := Lib.hid hshN
                    obtain ⟨y3, v3⟩ := cells_of_heap hg 3 (by simp)
                    clear hg hnx hsh hshN
                    go_upto_if 75 with (fail)
                    go_cut [8] (fun s8 wx => s8 = .int .i64 agN ∧ wx.heap[g]? = some (.cells #[.int .i64 k, .int .i64 t, .int .i64 zs.length, .int .i64 (shN : Nat), .int .i64 L, .slice a j cap] 26 (0, 0)) ∧ wr.grownBy wx (some g))
                    case first =>
                      cases fl
                      · have e1 : agN = ag := by rw [HTN.out]; rfl
                        have e2 : shN = sh := by rw [HNX.out]; rfl
                        have E1 := Lib.hid e1
                        have E2 := Lib.hid e2
                        clear e1 e2
                        go_wp2
                        go_meet
                        exact ⟨by rw [E1.out], by rw [E2.out]; exact HG2.out, grown_refl _ _⟩
                      · have e2 : shN = sh ^^^ 2 ^ j := by rw [HNX.out]; rfl
                        have hw := wrap_pow62 (k := j) (by omega)
                        have hxo := xor_nat sh (2 ^ j) hsh62 (pow62 (by omega))
                        obtain ⟨p2, hp2⟩ : ∃ p2, p2 = 2 ^ j := ⟨_, rfl⟩
                        rw [← hp2] at e2 hw hxo
                        have E2 := Lib.hid e2
                        clear e2 hp2
                        have hk2 : k = 2 ∨ ¬ k = 2 := by omega
                        rcases hk2 with hk2' | hk2'
                        · have g2 : (k == 2) = true := by rw [hk2']; rfl
                          have e1 : agN = 0 := by rw [HTN.out, g2]; rfl
                          have E1 := Lib.hid e1
                          clear e1 hk2'
                          go_wp2
                          go_still_tail 6, (by kernel_rfl)
                          go_wp2
                          go_meet
                          exact ⟨by rw [E1.out], by rw [E2.out]; exact heap_setCell_same wr g 3 _ _ _ HG2.out, grown_trans (grown_set wr g 3 _) (grown_drewN _ 1 _)⟩
                        · have g2 : (k == 2) = false := beq_false_of_ne hk2'
                          have e1 : agN = ag := by rw [HTN.out, g2]; rfl
                          have E1 := Lib.hid e1
                          clear e1 hk2'
                          go_wp2
                          go_still_tail 6, (by kernel_rfl)
                          go_wp2
                          go_meet
                          exact ⟨by rw [E1.out], by rw [E2.out]; exact heap_setCell_same wr g 3 _ _ _ HG2.out, grown_trans (grown_set wr g 3 _) (grown_drewN _ 1 _)⟩
                    case rest =>
                      obtain ⟨rfl, hgx, hgr⟩ := hcut
                      have hxx := (hgr.block w.heap.size (by omega) (by simp; omega)).trans HXr.out
                      have htx := (hgr.block (w.heap.size + 1) (by omega) (by simp; omega)).trans HTr.out
                      have hbx : Below w.heap.size w wc := HBr.out.grown hgr HBr.out.size (fun q hq => by cases hq; omega)
                      have hox := owns_grown HOr.out hgr (Nat.lt_succ_self g)
                      have hgsz : g < wc.heap.size := (Array.getElem?_eq_some_iff.mp hgx).1
                      obtain ⟨z5, t5⟩ := cells_of_heap hgx 5 (by simp)
                      have HGX := Lib.hid hgx
                      have HXX := Lib.hid hxx
                      have HTX := Lib.hid htx
                      have HBX := Lib.hid hbx
                      have HOX := Lib.hid hox
                      have b63 : j + 1 ≤ maxLen := by unfold maxLen; omega
                      have b47 : (j + 1) * 8 ≤ 140737488355328 := by omega
                      clear hgx hgr hxx htx hbx hox x0 x1 x2 x3 x4 x5 y3 v3 hcell
                      go_wp2_with (at_builtin; refine wpList_append_own _ rfl _ _ 24 rfl (g + 1) 3 i0 (.int .i64 0) 1 8 Try.underlying24 hi hy0 hy1 hy2 rfl (by decide) _ _ _ rfl (HOX.out.alloc _) ⟨wc.heap.size, 0, none⟩ 1 1 [.int .i64 agN] rfl rfl ?c1 ?c2 b63 b47 ?c5 ?_)
                      case c1 => exact cell_one_new _ _ _
                      case c2 => intro u hu; simp at hu; subst hu; rfl
                      case c5 => simp; omega
                      · intro v' w2 hown1 hgrow _
                        obtain ⟨a', cap', rfl⟩ := owns_shape hown1
                        have hne : ∀ q, q < g + 1 → some q ≠ (Value.slice a j cap).ownBlock := fun q hq e => by have := (HOX.out.lt q e.symm).1; omega
                        have hg2 := (hgrow.block g (by simp; omega) (hne _ (by omega))).trans ((Below.heap_alloc _ _ _ hgsz).trans HGX.out)
                        have hx2 := (hgrow.block w.heap.size (by simp; omega) (hne _ (by omega))).trans ((Below.heap_alloc _ _ _ (by omega)).trans HXX.out)
                        have ht2 := (hgrow.block (w.heap.size + 1) (by simp; omega) (hne _ (by omega))).trans ((Below.heap_alloc _ _ _ (by omega)).trans HTX.out)
                        obtain ⟨e5, g5⟩ := cells_of_heap hg2 5 (by simp)
                        have HB1 := Lib.hid ((HBX.out.alloc (by omega) _).grown hgrow (by simp; omega) (fun q hq => by have := (HOX.out.lt q hq).1; omega))
                        have HG1 := Lib.hid (heap_setCell_same w2 g 5 _ _ (.slice a' (j + 1) cap') hg2)
                        have HX1 := Lib.hid ((Below.heap_setCell w2 ⟨g, 5, none⟩ (.slice a' (j + 1) cap') w.heap.size (by simp; omega)).trans hx2)
                        have HT1 := Lib.hid ((Below.heap_setCell w2 ⟨g, 5, none⟩ (.slice a' (j + 1) cap') (w.heap.size + 1) (by simp; omega)).trans ht2)
                        have HO1 := Lib.hid (ownsRow_setCell_below hown1 (show (⟨g, 5, none⟩ : Addr).block < g + 1 from Nat.lt_succ_self g) (.slice a' (j + 1) cap'))
                        have HSZ2 := Lib.hid (show g + 1 ≤ w2.heap.size from (Array.getElem?_eq_some_iff.mp hg2).1)
                        clear hown1 hgrow hg2 hx2 ht2 hne z5 t5
                        go_wp2
                        go_roundw
                        case rel =>
                          refine ⟨j + 1, a', cap', by omega, by go_num, by rw [← HSHN.out]; exact HG1.out, HX1.out, HT1.out, ?_, HB1.out.setCell (by simp; omega) _, by have := HSZ2.out; simp; omega⟩
                          have := HO1.out
                          rw [agesTo_snoc, List.map_append, ← HZ.out, ← HAGN.out]
                          exact this
                        case measure => simp [intOf]; omega
        · obtain rfl : j = zs.length := by omega
          have y := HPD.out
          obtain ⟨y4, v4⟩ := cells_of_heap hg 4 (by simp)
          have y0 := (cells_of_heap hg 0 (by simp)).1
          have y1 := (cells_of_heap hg 1 (by simp)).1
          have y2 := (cells_of_heap hg 2 (by simp)).1
          have y3 := (cells_of_heap hg 3 (by simp)).1
          have y5 := (cells_of_heap hg 5 (by simp)).1
          obtain ⟨t0, q0⟩ := cells_of_heap ht 0 (by simp)
          obtain ⟨t1, q1⟩ := cells_of_heap ht 1 (by simp)
          obtain ⟨t2, q2⟩ := cells_of_heap ht 2 (by simp)
          obtain ⟨t3, q3⟩ := cells_of_heap ht 3 (by simp)
          obtain ⟨t4, q4⟩ := cells_of_heap ht 4 (by simp)
          obtain ⟨t5, q5⟩ := cells_of_heap ht 5 (by simp)
          have HTT := Lib.hid ((Below.heap_setCell wr ⟨g, 4, none⟩ (.int .i64 (Q : Int)) (w.heap.size + 1) (by simp; omega)).trans ht)
          have HBB := Lib.hid (show Below w.heap.size w (wr.setCell ⟨g, 4, none⟩ (.int .i64 (Q : Int))) from hb.setCell (by simp; omega) _)
          have HSZ4 := Lib.hid (show w.heap.size + 1 < g from hgs)
          have HOO := Lib.hid (ownsRow_setCell_below hown (show (⟨g, 4, none⟩ : Addr).block < g + 1 from Nat.lt_succ_self g) (.int .i64 (Q : Int)))
          clear hg hx ht hown hb y
          obtain ⟨sh, hsh⟩ : ∃ sh, sh = shownTo k t Q L S zs zs.length := ⟨_, rfl⟩
          rw [← hsh] at y3
          have HSH := Lib.hid hsh
          clear hsh
          go_wp2
          have HSZ := HSZ4
          have k1 : ((wr.setCell ⟨g, 4, none⟩ (.int .i64 (Q : Int))).setCell ⟨w.heap.size + 1, 0, none⟩ (.int .i64 k)).heap[w.heap.size + 1]? = some (.cells #[.int .i64 k, .int .i64 0, .int .i64 0, .int .i64 0, .int .i64 0, .slice none 0 0] 26 (0, 0)) := heap_setCell_same _ _ 0 _ _ _ HTT.out
          have k2 : (((wr.setCell ⟨g, 4, none⟩ (.int .i64 (Q : Int))).setCell ⟨w.heap.size + 1, 0, none⟩ (.int .i64 k)).setCell ⟨w.heap.size + 1, 1, none⟩ (.int .i64 t)).heap[w.heap.size + 1]? = some (.cells #[.int .i64 k, .int .i64 t, .int .i64 0, .int .i64 0, .int .i64 0, .slice none 0 0] 26 (0, 0)) := heap_setCell_same _ _ 1 _ _ _ k1
          have k3 : ((((wr.setCell ⟨g, 4, none⟩ (.int .i64 (Q : Int))).setCell ⟨w.heap.size + 1, 0, none⟩ (.int .i64 k)).setCell ⟨w.heap.size + 1, 1, none⟩ (.int .i64 t)).setCell ⟨w.heap.size + 1, 2, none⟩ (.int .i64 zs.length)).heap[w.heap.size + 1]? = some (.cells #[.int .i64 k, .int .i64 t, .int .i64 zs.length, .int .i64 0, .int .i64 0, .slice none 0 0] 26 (0, 0)) := heap_setCell_same _ _ 2 _ _ _ k2
          have k4 : (((((wr.setCell ⟨g, 4, none⟩ (.int .i64 (Q : Int))).setCell ⟨w.heap.size + 1, 0, none⟩ (.int .i64 k)).setCell ⟨w.heap.size + 1, 1, none⟩ (.int .i64 t)).setCell ⟨w.heap.size + 1, 2, none⟩ (.int .i64 zs.length)).setCell ⟨w.heap.size + 1, 3, none⟩ (.int .i64 (sh : Nat))).heap[w.heap.size + 1]? = some (.cells #[.int .i64 k, .int .i64 t, .int .i64 zs.length, .int .i64 (sh : Nat), .int .i64 0, .slice none 0 0] 26 (0, 0)) := heap_setCell_same _ _ 3 _ _ _ k3
          have k5 : ((((((wr.setCell ⟨g, 4, none⟩ (.int .i64 (Q : Int))).setCell ⟨w.heap.size + 1, 0, none⟩ (.int .i64 k)).setCell ⟨w.heap.size + 1, 1, none⟩ (.int .i64 t)).setCell ⟨w.heap.size + 1, 2, none⟩ (.int .i64 zs.length)).setCell ⟨w.heap.size + 1, 3, none⟩ (.int .i64 (sh : Nat))).setCell ⟨w.heap.size + 1, 4, none⟩ (.int .i64 (Q : Int))).heap[w.heap.size + 1]? = some (.cells #[.int .i64 k, .int .i64 t, .int .i64 zs.length, .int .i64 (sh : Nat), .int .i64 (Q : Int), .slice none 0 0] 26 (0, 0)) := heap_setCell_same _ _ 4 _ _ _ k4
          have k6 : (((((((wr.setCell ⟨g, 4, none⟩ (.int .i64 (Q : Int))).setCell ⟨w.heap.size + 1, 0, none⟩ (.int .i64 k)).setCell ⟨w.heap.size + 1, 1, none⟩ (.int .i64 t)).setCell ⟨w.heap.size + 1, 2, none⟩ (.int .i64 zs.length)).setCell ⟨w.heap.size + 1, 3, none⟩ (.int .i64 (sh : Nat))).setCell ⟨w.heap.size + 1, 4, none⟩ (.int .i64 (Q : Int))).setCell ⟨w.heap.size + 1, 5, none⟩ (.slice a zs.length cap)).heap[w.heap.size + 1]? = some (.cells #[.int .i64 k, .int .i64 t, .int .i64 zs.length, .int .i64 (sh : Nat), .int .i64 (Q : Int), .slice a zs.length cap] 26 (0, 0)) := heap_setCell_same _ _ 5 _ _ _ k5
          have bf : Below w.heap.size w (((((((wr.setCell ⟨g, 4, none⟩ (.int .i64 (Q : Int))).setCell ⟨w.heap.size + 1, 0, none⟩ (.int .i64 k)).setCell ⟨w.heap.size + 1, 1, none⟩ (.int .i64 t)).setCell ⟨w.heap.size + 1, 2, none⟩ (.int .i64 zs.length)).setCell ⟨w.heap.size + 1, 3, none⟩ (.int .i64 (sh : Nat))).setCell ⟨w.heap.size + 1, 4, none⟩ (.int .i64 (Q : Int))).setCell ⟨w.heap.size + 1, 5, none⟩ (.slice a zs.length cap)) := ((((((HBB.out).setCell (by simp) _).setCell (by simp) _).setCell (by simp) _).setCell (by simp) _).setCell (by simp) _).setCell (by simp) _
          have of := ownsRow_setCell_below (a := ⟨w.heap.size + 1, 5, none⟩) (ownsRow_setCell_below (a := ⟨w.heap.size + 1, 4, none⟩) (ownsRow_setCell_below (a := ⟨w.heap.size + 1, 3, none⟩) (ownsRow_setCell_below (a := ⟨w.heap.size + 1, 2, none⟩) (ownsRow_setCell_below (a := ⟨w.heap.size + 1, 1, none⟩) (ownsRow_setCell_below (a := ⟨w.heap.size + 1, 0, none⟩) (HOO.out) (by have := HSZ.out; simp; omega) (.int .i64 k)) (by have := HSZ.out; simp; omega) (.int .i64 t)) (by have := HSZ.out; simp; omega) (.int .i64 zs.length)) (by have := HSZ.out; simp; omega) (.int .i64 (sh : Nat))) (by have := HSZ.out; simp; omega) (.int .i64 (Q : Int))) (by have := HSZ.out; simp; omega) (.slice a zs.length cap)
          obtain ⟨wf, hwf⟩ : ∃ wf, wf = (((((((wr.setCell ⟨g, 4, none⟩ (.int .i64 (Q : Int))).setCell ⟨w.heap.size + 1, 0, none⟩ (.int .i64 k)).setCell ⟨w.heap.size + 1, 1, none⟩ (.int .i64 t)).setCell ⟨w.heap.size + 1, 2, none⟩ (.int .i64 zs.length)).setCell ⟨w.heap.size + 1, 3, none⟩ (.int .i64 (sh : Nat))).setCell ⟨w.heap.size + 1, 4, none⟩ (.int .i64 (Q : Int))).setCell ⟨w.heap.size + 1, 5, none⟩ (.slice a zs.length cap)) := ⟨_, rfl⟩
          rw [← hwf] at k6 bf of ⊢
          clear hwf k1 k2 k3 k4 k5
          have f0 := (cells_of_heap k6 0 (by simp)).1
          have f1 := (cells_of_heap k6 1 (by simp)).1
          have f2 := (cells_of_heap k6 2 (by simp)).1
          have f3 := (cells_of_heap k6 3 (by simp)).1
          have f4 := (cells_of_heap k6 4 (by simp)).1
          have f5 := (cells_of_heap k6 5 (by simp)).1
          clear t0 t1 t2 t3 t4 t5 q0 q1 q2 q3 q4 q5 y0 y1 y2 y3 y4 y5 v4 x0 x1 x2 x3 x4 x5
          refine bodyPost_ret (v := .tuple #[dbv k t zs.length (sh : Nat) (Q : Int) (.slice a zs.length cap), .bool true]) (by simp [results, Try.results30, go_sem, f0, f1, f2, f3, f4, f5]) rfl ?_
          have hfin : StepDeb k t zs.length S L zs Q w (.returned (.tuple #[dbv k t zs.length (sh : Nat) (Q : Int) (.slice a zs.length cap), .bool true])) wf := by
            rw [StepDeb, HST.out, if_pos rfl]
            refine ⟨.slice a zs.length cap, ?_, ?_, bf⟩
            · rw [HSH.out]; simp
            · have := owns_base of (show w.heap.size ≤ g + 1 by omega)
              simpa using this
          exact hfin

end Go.Proofs.Ytdlcpijiekhafaa
