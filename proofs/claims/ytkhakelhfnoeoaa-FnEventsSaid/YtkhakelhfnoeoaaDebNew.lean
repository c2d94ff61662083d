/- DERIVED. The reference's NewDebouncer, called with any numbers: a debouncer that shows no key, or none. -/
import Derived.Test.YtkhakelhfnoeoaaDebSpec
import Derived.Laws.AppendOwn
namespace Go.Proofs.Ytkhakelhfnoeoaa
open Go.RowKit

def okNew (k t n : Int) : Bool := inB k 0 2 && inB t 1 20 && inB n 1 24
theorem allIn_rep (j : Nat) : allIn 0 99 (List.replicate j 99) = true := by
  unfold allIn
  rw [List.all_replicate]
  simp [inB]
theorem okDeb_new (k t n : Int) (j : Nat) (h : 1 ≤ n → n ≤ 24 → (j : Int) = n) : okDeb k t n 0 0 (List.replicate j 99) = okNew k t n := by
  unfold okDeb okNew
  rw [allIn_rep, List.length_replicate]
  cases hn : inB n 1 24
  · simp
  · have hn' := of_decide_eq_true (show decide (1 ≤ n ∧ n ≤ 24) = true from hn)
    have e1 : decide ((j : Int) = n) = true := decide_eq_true (h hn'.1 hn'.2)
    have e2 : inB 0 0 (2 ^ n.toNat - 1) = true := by
      unfold inB
      have h1 := pow_nat n.toNat
      have h2 : 0 < 2 ^ n.toNat := Nat.two_pow_pos _
      exact decide_eq_true (by rw [h1]; omega)
    rw [e1, e2]
    simp

abbrev zeroDb : Value := dbv 0 0 0 0 0 (.slice none 0 0)
theorem replicate_snoc (j : Nat) (x : Int) : List.replicate (j + 1) x = List.replicate j x ++ [x] := by
  rw [List.replicate_succ']

/-- What NewDebouncer returns. -/
def NewDeb (k t n : Int) (w : World) (e : Ending) (w' : World) : Prop :=
  if okNew k t n = true then ∃ u, e = .returned (.tuple #[dbv k t n 0 0 u, .bool true]) ∧ w'.ownsRow w.heap.size 3 1 u n.toNat ((List.replicate n.toNat (99 : Int)).map (.int .i64)) ∧ Below w.heap.size w w'
  else e = .returned (.tuple #[zeroDb, .bool false]) ∧ Below w.heap.size w w'

set_option maxHeartbeats 2000000 in
set_option maxRecDepth 100000 in
theorem specNewDebouncer_any (k t n : Int) (w : World) : Calls Try.prog 37 #[.int .i64 k, .int .i64 t, .int .i64 n] w (NewDeb k t n w) := by
  obtain ⟨i0, hi, hz0, hz1, hz2⟩ := info_parts info_int
  obtain ⟨W, hW⟩ : ∃ W, W = (w.alloc (.cells #[.int .i64 0, .int .i64 0, .int .i64 0, .int .i64 0, .int .i64 0, .slice none 0 0] 26)).alloc (.cells #[.int .i64 k, .int .i64 t, .int .i64 n, .int .i64 0, .int .i64 0, .slice none 0 0] 26) := ⟨_, rfl⟩
  have HD := Lib.hid (show W.heap[w.heap.size + 1]? = some (.cells #[.int .i64 k, .int .i64 t, .int .i64 n, .int .i64 0, .int .i64 0, .slice none 0 0] 26 (0, 0)) by rw [hW]; simpa using heap_alloc_new (w.alloc (.cells #[.int .i64 0, .int .i64 0, .int .i64 0, .int .i64 0, .int .i64 0, .slice none 0 0] 26)) _)
  have HT := Lib.hid (show W.heap[w.heap.size]? = some (.cells #[.int .i64 0, .int .i64 0, .int .i64 0, .int .i64 0, .int .i64 0, .slice none 0 0] 26 (0, 0)) by
    rw [hW, Below.heap_alloc _ _ _ (by simp)]; exact heap_alloc_new w _)
  have HB0 := Lib.hid (show Below w.heap.size w W by rw [hW]; exact ((Below.refl _ _).alloc (Nat.le_refl _) _).alloc (by simp) _)
  have HSZ := Lib.hid (show W.heap.size = w.heap.size + 1 + 1 by rw [hW]; simp)
  have HW := Lib.hid hW
  clear hW
  go_enter Try.func37, Try.ntmps37
  go_wp2
  rw [← HW.out]
  go_loopw [9] (fun i wr => ∃ (j : Nat) (a : Option Addr) (cap : Nat), j ≤ 24 ∧ (1 ≤ n → n ≤ 24 → (j : Int) ≤ n) ∧ (¬ (1 ≤ n ∧ n ≤ 24) → j = 0) ∧ i = .int .i64 j ∧ wr.heap[w.heap.size + 1]? = some (.cells #[.int .i64 k, .int .i64 t, .int .i64 n, .int .i64 0, .int .i64 0, .slice a j cap] 26 (0, 0)) ∧ wr.heap[w.heap.size]? = some (.cells #[.int .i64 0, .int .i64 0, .int .i64 0, .int .i64 0, .int .i64 0, .slice none 0 0] 26 (0, 0)) ∧ wr.ownsRow W.heap.size 3 1 (.slice a j cap) j ((List.replicate j (99 : Int)).map (.int .i64)) ∧ Below w.heap.size w wr) (fun i _ => n.toNat - (intOf i).toNat)
  case atStart => exact ⟨0, none, 0, by omega, fun h _ => by simp; omega, fun _ => rfl, rfl, HD.out, HT.out, World.ownsRow_nil _ _ _ _, HB0.out⟩
  case round =>
    obtain ⟨j, a, cap, hj24, hjn, hj0, rfl, hd, ht, hown, hb⟩ := hrel
    obtain ⟨d5, f5⟩ := cells_of_heap hd 5 (by simp)
    have d0 := (cells_of_heap hd 0 (by simp)).1
    have d1 := (cells_of_heap hd 1 (by simp)).1
    have d2 := (cells_of_heap hd 2 (by simp)).1
    have d3 := (cells_of_heap hd 3 (by simp)).1
    have d4 := (cells_of_heap hd 4 (by simp)).1
    have hszr : w.heap.size + 1 < wr.heap.size := (Array.getElem?_eq_some_iff.mp hd).1
    have HDr := Lib.hid hd
    have HTr := Lib.hid ht
    have HO := Lib.hid hown
    have HB := Lib.hid hb
    have HJN := Lib.hid hjn
    have HJ0 := Lib.hid hj0
    clear hd ht hown hb hjn hj0
    by_cases hlt : (j : Int) < n ∧ n ≤ 24
    · obtain ⟨hlt1, hlt2⟩ := hlt
      have b63 : j + 1 ≤ maxLen := by unfold maxLen; omega
      have b47 : (j + 1) * 8 ≤ 140737488355328 := by omega
      go_wp2_with (at_builtin; refine wpList_append_own _ rfl _ _ 24 rfl W.heap.size 3 i0 (.int .i64 0) 1 8 Try.underlying24 hi hz0 hz1 hz2 rfl (by decide) _ _ _ rfl (HO.out.alloc _) ⟨wr.heap.size, 0, none⟩ 1 1 [.int .i64 99] rfl rfl ?c1 ?c2 b63 b47 ?c5 ?_)
      case c1 => exact cell_one_new _ _ _
      case c2 => intro u hu; simp at hu; subst hu; rfl
      case c5 => simp; have := HSZ.out; omega
      · intro v' w1 hown1 hgrow _
        obtain ⟨a', cap', rfl⟩ := owns_shape hown1
        have hne : ∀ g, g < W.heap.size → some g ≠ (Value.slice a j cap).ownBlock := fun g hg e => by have := (HO.out.lt g e.symm).1; omega
        have hd1 := (hgrow.block (w.heap.size + 1) (by simp; omega) (hne _ (by rw [HSZ.out]; omega))).trans ((Below.heap_alloc _ _ _ hszr).trans HDr.out)
        have ht1 := (hgrow.block w.heap.size (by simp; omega) (hne _ (by rw [HSZ.out]; omega))).trans ((Below.heap_alloc _ _ _ (by omega)).trans HTr.out)
        obtain ⟨e5, g5⟩ := cells_of_heap hd1 5 (by simp)
        have HB1 := Lib.hid ((HB.out.alloc (by omega) _).grown hgrow (by simp; omega) (fun q hq => by have := (HO.out.lt q hq).1; have := HSZ.out; omega))
        have HD1 := Lib.hid (heap_setCell_same w1 (w.heap.size + 1) 5 _ _ (.slice a' (j + 1) cap') hd1)
        have HT1 := Lib.hid ((Below.heap_setCell w1 ⟨w.heap.size + 1, 5, none⟩ (.slice a' (j + 1) cap') w.heap.size (by simp)).trans ht1)
        have HO1 := Lib.hid (ownsRow_setCell_below hown1 (show (⟨w.heap.size + 1, 5, none⟩ : Addr).block < W.heap.size by rw [HSZ.out]; simp) (.slice a' (j + 1) cap'))
        clear hown1 hgrow hd1 ht1 hne d0 d1 d2 d3 d4 d5 f5
        go_wp2
        go_roundw
        case rel =>
          refine ⟨j + 1, a', cap', by omega, fun _ _ => by omega, fun h => absurd ⟨by omega, hlt2⟩ h, by go_num, HD1.out, HT1.out, ?_, HB1.out.setCell (by simp) _⟩
          have := HO1.out
          rw [replicate_snoc, List.map_append]
          simpa [List.map_replicate] using this
        case measure => simp [intOf]; omega
    · have hjfin : 1 ≤ n → n ≤ 24 → (j : Int) = n := fun h1 h2 => by have := HJN.out h1 h2; omega
      have hok := okDeb_new k t n j hjfin
      have hnl : ¬ ((j : Int) < n) ∨ ¬ n ≤ 24 := by omega
      obtain ⟨ok, hokd⟩ : ∃ ok, ok = okNew k t n := ⟨_, rfl⟩
      rw [← hokd] at hok
      have HOK := Lib.hid hok
      have HKD := Lib.hid hokd
      have HJF := Lib.hid hjfin
      have hrd : Rd wr (.slice a j cap) ((List.replicate j (99 : Int)).map (.int .i64)) := by
        exact Rd.of_owns HO.out
      have HRD := Lib.hid hrd
      clear hok hokd hjfin hrd
      cases ok
      · rcases hnl with hnl | hnl
        · have hnl' : decide ((j : Int) < n) = false := decide_eq_false hnl
          go_wp2_with fail
          refine (specIsDebouncer_any k t n 0 0 (.slice a j cap) (List.replicate j 99) _ (by unfold maxLen; simp; omega) HRD.out).mono ?_
          rw [HOK.out]
          rintro e w1 ⟨rfl, hb⟩
          have ht1 := (hb.block w.heap.size (by omega)).trans HTr.out
          have hbb := HB.out.trans (hb.mono HB.out.size)
          clear d0 d1 d2 d3 d4 d5 f5 hb
          obtain ⟨t0, q0⟩ := cells_of_heap ht1 0 (by simp)
          obtain ⟨t1, q1⟩ := cells_of_heap ht1 1 (by simp)
          obtain ⟨t2, q2⟩ := cells_of_heap ht1 2 (by simp)
          obtain ⟨t3, q3⟩ := cells_of_heap ht1 3 (by simp)
          obtain ⟨t4, q4⟩ := cells_of_heap ht1 4 (by simp)
          obtain ⟨t5, q5⟩ := cells_of_heap ht1 5 (by simp)
          have HTT := Lib.hid ht1
          have HBB := Lib.hid hbb
          clear ht1 hbb
          go_wp2
          have k1 : (w1.setCell ⟨w.heap.size, 0, none⟩ (.int .i64 0)).heap[w.heap.size]? = some (.cells #[.int .i64 0, .int .i64 0, .int .i64 0, .int .i64 0, .int .i64 0, .slice none 0 0] 26 (0, 0)) := heap_setCell_same _ _ 0 _ _ _ HTT.out
          have k2 : ((w1.setCell ⟨w.heap.size, 0, none⟩ (.int .i64 0)).setCell ⟨w.heap.size, 1, none⟩ (.int .i64 0)).heap[w.heap.size]? = some (.cells #[.int .i64 0, .int .i64 0, .int .i64 0, .int .i64 0, .int .i64 0, .slice none 0 0] 26 (0, 0)) := heap_setCell_same _ _ 1 _ _ _ k1
          have k3 : (((w1.setCell ⟨w.heap.size, 0, none⟩ (.int .i64 0)).setCell ⟨w.heap.size, 1, none⟩ (.int .i64 0)).setCell ⟨w.heap.size, 2, none⟩ (.int .i64 0)).heap[w.heap.size]? = some (.cells #[.int .i64 0, .int .i64 0, .int .i64 0, .int .i64 0, .int .i64 0, .slice none 0 0] 26 (0, 0)) := heap_setCell_same _ _ 2 _ _ _ k2
          have k4 : ((((w1.setCell ⟨w.heap.size, 0, none⟩ (.int .i64 0)).setCell ⟨w.heap.size, 1, none⟩ (.int .i64 0)).setCell ⟨w.heap.size, 2, none⟩ (.int .i64 0)).setCell ⟨w.heap.size, 3, none⟩ (.int .i64 0)).heap[w.heap.size]? = some (.cells #[.int .i64 0, .int .i64 0, .int .i64 0, .int .i64 0, .int .i64 0, .slice none 0 0] 26 (0, 0)) := heap_setCell_same _ _ 3 _ _ _ k3
          have k5 : (((((w1.setCell ⟨w.heap.size, 0, none⟩ (.int .i64 0)).setCell ⟨w.heap.size, 1, none⟩ (.int .i64 0)).setCell ⟨w.heap.size, 2, none⟩ (.int .i64 0)).setCell ⟨w.heap.size, 3, none⟩ (.int .i64 0)).setCell ⟨w.heap.size, 4, none⟩ (.int .i64 0)).heap[w.heap.size]? = some (.cells #[.int .i64 0, .int .i64 0, .int .i64 0, .int .i64 0, .int .i64 0, .slice none 0 0] 26 (0, 0)) := heap_setCell_same _ _ 4 _ _ _ k4
          have k6 : ((((((w1.setCell ⟨w.heap.size, 0, none⟩ (.int .i64 0)).setCell ⟨w.heap.size, 1, none⟩ (.int .i64 0)).setCell ⟨w.heap.size, 2, none⟩ (.int .i64 0)).setCell ⟨w.heap.size, 3, none⟩ (.int .i64 0)).setCell ⟨w.heap.size, 4, none⟩ (.int .i64 0)).setCell ⟨w.heap.size, 5, none⟩ (.slice none 0 0)).heap[w.heap.size]? = some (.cells #[.int .i64 0, .int .i64 0, .int .i64 0, .int .i64 0, .int .i64 0, .slice none 0 0] 26 (0, 0)) := heap_setCell_same _ _ 5 _ _ _ k5
          have bf : Below w.heap.size w ((((((w1.setCell ⟨w.heap.size, 0, none⟩ (.int .i64 0)).setCell ⟨w.heap.size, 1, none⟩ (.int .i64 0)).setCell ⟨w.heap.size, 2, none⟩ (.int .i64 0)).setCell ⟨w.heap.size, 3, none⟩ (.int .i64 0)).setCell ⟨w.heap.size, 4, none⟩ (.int .i64 0)).setCell ⟨w.heap.size, 5, none⟩ (.slice none 0 0)) := ((((((HBB.out).setCell (by simp) _).setCell (by simp) _).setCell (by simp) _).setCell (by simp) _).setCell (by simp) _).setCell (by simp) _
          obtain ⟨wf, hwf⟩ : ∃ wf, wf = ((((((w1.setCell ⟨w.heap.size, 0, none⟩ (.int .i64 0)).setCell ⟨w.heap.size, 1, none⟩ (.int .i64 0)).setCell ⟨w.heap.size, 2, none⟩ (.int .i64 0)).setCell ⟨w.heap.size, 3, none⟩ (.int .i64 0)).setCell ⟨w.heap.size, 4, none⟩ (.int .i64 0)).setCell ⟨w.heap.size, 5, none⟩ (.slice none 0 0)) := ⟨_, rfl⟩
          rw [← hwf] at k6 bf ⊢
          clear hwf k1 k2 k3 k4 k5
          have f0 := (cells_of_heap k6 0 (by simp)).1
          have f1 := (cells_of_heap k6 1 (by simp)).1
          have f2 := (cells_of_heap k6 2 (by simp)).1
          have f3 := (cells_of_heap k6 3 (by simp)).1
          have f4 := (cells_of_heap k6 4 (by simp)).1
          have f5 := (cells_of_heap k6 5 (by simp)).1
          clear t0 t1 t2 t3 t4 t5 q0 q1 q2 q3 q4 q5
          refine bodyPost_ret (v := .tuple #[zeroDb, .bool false]) (by simp [results, Try.results37, go_sem, f0, f1, f2, f3, f4, f5]) rfl ?_
          have hfin : NewDeb k t n w (.returned (.tuple #[zeroDb, .bool false])) wf := by rw [NewDeb, ← HKD.out, if_neg (by simp)]; exact ⟨rfl, bf⟩
          exact hfin
        · have hnl' : decide (n ≤ 24) = false := decide_eq_false hnl
          by_cases hjl : (j : Int) < n
          · have hjl' : decide ((j : Int) < n) = true := decide_eq_true hjl
            go_wp2_with fail
            refine (specIsDebouncer_any k t n 0 0 (.slice a j cap) (List.replicate j 99) _ (by unfold maxLen; simp; omega) HRD.out).mono ?_
            rw [HOK.out]
            rintro e w1 ⟨rfl, hb⟩
            have ht1 := (hb.block w.heap.size (by omega)).trans HTr.out
            have hbb := HB.out.trans (hb.mono HB.out.size)
            clear d0 d1 d2 d3 d4 d5 f5 hb
            obtain ⟨t0, q0⟩ := cells_of_heap ht1 0 (by simp)
            obtain ⟨t1, q1⟩ := cells_of_heap ht1 1 (by simp)
            obtain ⟨t2, q2⟩ := cells_of_heap ht1 2 (by simp)
            obtain ⟨t3, q3⟩ := cells_of_heap ht1 3 (by simp)
            obtain ⟨t4, q4⟩ := cells_of_heap ht1 4 (by simp)
            obtain ⟨t5, q5⟩ := cells_of_heap ht1 5 (by simp)
            have HTT := Lib.hid ht1
            have HBB := Lib.hid hbb
            clear ht1 hbb
            go_wp2
            have k1 : (w1.setCell ⟨w.heap.size, 0, none⟩ (.int .i64 0)).heap[w.heap.size]? = some (.cells #[.int .i64 0, .int .i64 0, .int .i64 0, .int .i64 0, .int .i64 0, .slice none 0 0] 26 (0, 0)) := heap_setCell_same _ _ 0 _ _ _ HTT.out
            have k2 : ((w1.setCell ⟨w.heap.size, 0, none⟩ (.int .i64 0)).setCell ⟨w.heap.size, 1, none⟩ (.int .i64 0)).heap[w.heap.size]? = some (.cells #[.int .i64 0, .int .i64 0, .int .i64 0, .int .i64 0, .int .i64 0, .slice none 0 0] 26 (0, 0)) := heap_setCell_same _ _ 1 _ _ _ k1
            have k3 : (((w1.setCell ⟨w.heap.size, 0, none⟩ (.int .i64 0)).setCell ⟨w.heap.size, 1, none⟩ (.int .i64 0)).setCell ⟨w.heap.size, 2, none⟩ (.int .i64 0)).heap[w.heap.size]? = some (.cells #[.int .i64 0, .int .i64 0, .int .i64 0, .int .i64 0, .int .i64 0, .slice none 0 0] 26 (0, 0)) := heap_setCell_same _ _ 2 _ _ _ k2
            have k4 : ((((w1.setCell ⟨w.heap.size, 0, none⟩ (.int .i64 0)).setCell ⟨w.heap.size, 1, none⟩ (.int .i64 0)).setCell ⟨w.heap.size, 2, none⟩ (.int .i64 0)).setCell ⟨w.heap.size, 3, none⟩ (.int .i64 0)).heap[w.heap.size]? = some (.cells #[.int .i64 0, .int .i64 0, .int .i64 0, .int .i64 0, .int .i64 0, .slice none 0 0] 26 (0, 0)) := heap_setCell_same _ _ 3 _ _ _ k3
            have k5 : (((((w1.setCell ⟨w.heap.size, 0, none⟩ (.int .i64 0)).setCell ⟨w.heap.size, 1, none⟩ (.int .i64 0)).setCell ⟨w.heap.size, 2, none⟩ (.int .i64 0)).setCell ⟨w.heap.size, 3, none⟩ (.int .i64 0)).setCell ⟨w.heap.size, 4, none⟩ (.int .i64 0)).heap[w.heap.size]? = some (.cells #[.int .i64 0, .int .i64 0, .int .i64 0, .int .i64 0, .int .i64 0, .slice none 0 0] 26 (0, 0)) := heap_setCell_same _ _ 4 _ _ _ k4
            have k6 : ((((((w1.setCell ⟨w.heap.size, 0, none⟩ (.int .i64 0)).setCell ⟨w.heap.size, 1, none⟩ (.int .i64 0)).setCell ⟨w.heap.size, 2, none⟩ (.int .i64 0)).setCell ⟨w.heap.size, 3, none⟩ (.int .i64 0)).setCell ⟨w.heap.size, 4, none⟩ (.int .i64 0)).setCell ⟨w.heap.size, 5, none⟩ (.slice none 0 0)).heap[w.heap.size]? = some (.cells #[.int .i64 0, .int .i64 0, .int .i64 0, .int .i64 0, .int .i64 0, .slice none 0 0] 26 (0, 0)) := heap_setCell_same _ _ 5 _ _ _ k5
            have bf : Below w.heap.size w ((((((w1.setCell ⟨w.heap.size, 0, none⟩ (.int .i64 0)).setCell ⟨w.heap.size, 1, none⟩ (.int .i64 0)).setCell ⟨w.heap.size, 2, none⟩ (.int .i64 0)).setCell ⟨w.heap.size, 3, none⟩ (.int .i64 0)).setCell ⟨w.heap.size, 4, none⟩ (.int .i64 0)).setCell ⟨w.heap.size, 5, none⟩ (.slice none 0 0)) := ((((((HBB.out).setCell (by simp) _).setCell (by simp) _).setCell (by simp) _).setCell (by simp) _).setCell (by simp) _).setCell (by simp) _
            obtain ⟨wf, hwf⟩ : ∃ wf, wf = ((((((w1.setCell ⟨w.heap.size, 0, none⟩ (.int .i64 0)).setCell ⟨w.heap.size, 1, none⟩ (.int .i64 0)).setCell ⟨w.heap.size, 2, none⟩ (.int .i64 0)).setCell ⟨w.heap.size, 3, none⟩ (.int .i64 0)).setCell ⟨w.heap.size, 4, none⟩ (.int .i64 0)).setCell ⟨w.heap.size, 5, none⟩ (.slice none 0 0)) := ⟨_, rfl⟩
            rw [← hwf] at k6 bf ⊢
            clear hwf k1 k2 k3 k4 k5
            have f0 := (cells_of_heap k6 0 (by simp)).1
            have f1 := (cells_of_heap k6 1 (by simp)).1
            have f2 := (cells_of_heap k6 2 (by simp)).1
            have f3 := (cells_of_heap k6 3 (by simp)).1
            have f4 := (cells_of_heap k6 4 (by simp)).1
            have f5 := (cells_of_heap k6 5 (by simp)).1
            clear t0 t1 t2 t3 t4 t5 q0 q1 q2 q3 q4 q5
            refine bodyPost_ret (v := .tuple #[zeroDb, .bool false]) (by simp [results, Try.results37, go_sem, f0, f1, f2, f3, f4, f5]) rfl ?_
            have hfin : NewDeb k t n w (.returned (.tuple #[zeroDb, .bool false])) wf := by rw [NewDeb, ← HKD.out, if_neg (by simp)]; exact ⟨rfl, bf⟩
            exact hfin
          · exfalso; have := HJ0.out (by omega); omega
      · rcases hnl with hnl | hnl
        · have hnl' : decide ((j : Int) < n) = false := decide_eq_false hnl
          have hrng : 1 ≤ n ∧ n ≤ 24 := by
            have h := HKD.out
            unfold okNew at h
            cases h3 : inB n 1 24
            · rw [h3] at h; simp at h
            · exact of_decide_eq_true (show decide (1 ≤ n ∧ n ≤ 24) = true from h3)
          obtain ⟨hr1, hr2⟩ := hrng
          have hjn : (j : Int) = n := HJF.out hr1 hr2
          obtain rfl : n = (j : Int) := hjn.symm
          go_wp2_with fail
          refine (specIsDebouncer_any k t j 0 0 (.slice a j cap) (List.replicate j 99) _ (by unfold maxLen; simp; omega) HRD.out).mono ?_
          rw [HOK.out]
          rintro e w1 ⟨rfl, hb⟩
          have ht1 := (hb.block w.heap.size (by omega)).trans HTr.out
          have hd1 := (hb.block (w.heap.size + 1) hszr).trans HDr.out
          have hbb := HB.out.trans (hb.mono HB.out.size)
          have hoo := owns_below HO.out hb
          clear d0 d1 d2 d3 d4 d5 f5 hb
          obtain ⟨t0, q0⟩ := cells_of_heap ht1 0 (by simp)
          obtain ⟨t1, q1⟩ := cells_of_heap ht1 1 (by simp)
          obtain ⟨t2, q2⟩ := cells_of_heap ht1 2 (by simp)
          obtain ⟨t3, q3⟩ := cells_of_heap ht1 3 (by simp)
          obtain ⟨t4, q4⟩ := cells_of_heap ht1 4 (by simp)
          obtain ⟨t5, q5⟩ := cells_of_heap ht1 5 (by simp)
          have d0 := (cells_of_heap hd1 0 (by simp)).1
          have d1 := (cells_of_heap hd1 1 (by simp)).1
          have d2 := (cells_of_heap hd1 2 (by simp)).1
          have d3 := (cells_of_heap hd1 3 (by simp)).1
          have d4 := (cells_of_heap hd1 4 (by simp)).1
          have d5 := (cells_of_heap hd1 5 (by simp)).1
          have HTT := Lib.hid ht1
          have HBB := Lib.hid hbb
          have HOO := Lib.hid hoo
          clear ht1 hbb hoo hd1 hjn
          go_wp2
          have k1 : (w1.setCell ⟨w.heap.size, 0, none⟩ (.int .i64 k)).heap[w.heap.size]? = some (.cells #[.int .i64 k, .int .i64 0, .int .i64 0, .int .i64 0, .int .i64 0, .slice none 0 0] 26 (0, 0)) := heap_setCell_same _ _ 0 _ _ _ HTT.out
          have k2 : ((w1.setCell ⟨w.heap.size, 0, none⟩ (.int .i64 k)).setCell ⟨w.heap.size, 1, none⟩ (.int .i64 t)).heap[w.heap.size]? = some (.cells #[.int .i64 k, .int .i64 t, .int .i64 0, .int .i64 0, .int .i64 0, .slice none 0 0] 26 (0, 0)) := heap_setCell_same _ _ 1 _ _ _ k1
          have k3 : (((w1.setCell ⟨w.heap.size, 0, none⟩ (.int .i64 k)).setCell ⟨w.heap.size, 1, none⟩ (.int .i64 t)).setCell ⟨w.heap.size, 2, none⟩ (.int .i64 j)).heap[w.heap.size]? = some (.cells #[.int .i64 k, .int .i64 t, .int .i64 j, .int .i64 0, .int .i64 0, .slice none 0 0] 26 (0, 0)) := heap_setCell_same _ _ 2 _ _ _ k2
          have k4 : ((((w1.setCell ⟨w.heap.size, 0, none⟩ (.int .i64 k)).setCell ⟨w.heap.size, 1, none⟩ (.int .i64 t)).setCell ⟨w.heap.size, 2, none⟩ (.int .i64 j)).setCell ⟨w.heap.size, 3, none⟩ (.int .i64 0)).heap[w.heap.size]? = some (.cells #[.int .i64 k, .int .i64 t, .int .i64 j, .int .i64 0, .int .i64 0, .slice none 0 0] 26 (0, 0)) := heap_setCell_same _ _ 3 _ _ _ k3
          have k5 : (((((w1.setCell ⟨w.heap.size, 0, none⟩ (.int .i64 k)).setCell ⟨w.heap.size, 1, none⟩ (.int .i64 t)).setCell ⟨w.heap.size, 2, none⟩ (.int .i64 j)).setCell ⟨w.heap.size, 3, none⟩ (.int .i64 0)).setCell ⟨w.heap.size, 4, none⟩ (.int .i64 0)).heap[w.heap.size]? = some (.cells #[.int .i64 k, .int .i64 t, .int .i64 j, .int .i64 0, .int .i64 0, .slice none 0 0] 26 (0, 0)) := heap_setCell_same _ _ 4 _ _ _ k4
          have k6 : ((((((w1.setCell ⟨w.heap.size, 0, none⟩ (.int .i64 k)).setCell ⟨w.heap.size, 1, none⟩ (.int .i64 t)).setCell ⟨w.heap.size, 2, none⟩ (.int .i64 j)).setCell ⟨w.heap.size, 3, none⟩ (.int .i64 0)).setCell ⟨w.heap.size, 4, none⟩ (.int .i64 0)).setCell ⟨w.heap.size, 5, none⟩ (.slice a j cap)).heap[w.heap.size]? = some (.cells #[.int .i64 k, .int .i64 t, .int .i64 j, .int .i64 0, .int .i64 0, .slice a j cap] 26 (0, 0)) := heap_setCell_same _ _ 5 _ _ _ k5
          have bf : Below w.heap.size w ((((((w1.setCell ⟨w.heap.size, 0, none⟩ (.int .i64 k)).setCell ⟨w.heap.size, 1, none⟩ (.int .i64 t)).setCell ⟨w.heap.size, 2, none⟩ (.int .i64 j)).setCell ⟨w.heap.size, 3, none⟩ (.int .i64 0)).setCell ⟨w.heap.size, 4, none⟩ (.int .i64 0)).setCell ⟨w.heap.size, 5, none⟩ (.slice a j cap)) := ((((((HBB.out).setCell (by simp) _).setCell (by simp) _).setCell (by simp) _).setCell (by simp) _).setCell (by simp) _).setCell (by simp) _
          have of := ownsRow_setCell_below (a := ⟨w.heap.size, 5, none⟩) (ownsRow_setCell_below (a := ⟨w.heap.size, 4, none⟩) (ownsRow_setCell_below (a := ⟨w.heap.size, 3, none⟩) (ownsRow_setCell_below (a := ⟨w.heap.size, 2, none⟩) (ownsRow_setCell_below (a := ⟨w.heap.size, 1, none⟩) (ownsRow_setCell_below (a := ⟨w.heap.size, 0, none⟩) (HOO.out) (by have := HSZ.out; simp <;> omega) (.int .i64 k)) (by have := HSZ.out; simp <;> omega) (.int .i64 t)) (by have := HSZ.out; simp <;> omega) (.int .i64 j)) (by have := HSZ.out; simp <;> omega) (.int .i64 0)) (by have := HSZ.out; simp <;> omega) (.int .i64 0)) (by have := HSZ.out; simp <;> omega) (.slice a j cap)
          obtain ⟨wf, hwf⟩ : ∃ wf, wf = ((((((w1.setCell ⟨w.heap.size, 0, none⟩ (.int .i64 k)).setCell ⟨w.heap.size, 1, none⟩ (.int .i64 t)).setCell ⟨w.heap.size, 2, none⟩ (.int .i64 j)).setCell ⟨w.heap.size, 3, none⟩ (.int .i64 0)).setCell ⟨w.heap.size, 4, none⟩ (.int .i64 0)).setCell ⟨w.heap.size, 5, none⟩ (.slice a j cap)) := ⟨_, rfl⟩
          rw [← hwf] at k6 bf of ⊢
          clear hwf k1 k2 k3 k4 k5
          have f0 := (cells_of_heap k6 0 (by simp)).1
          have f1 := (cells_of_heap k6 1 (by simp)).1
          have f2 := (cells_of_heap k6 2 (by simp)).1
          have f3 := (cells_of_heap k6 3 (by simp)).1
          have f4 := (cells_of_heap k6 4 (by simp)).1
          have f5 := (cells_of_heap k6 5 (by simp)).1
          clear t0 t1 t2 t3 t4 t5 q0 q1 q2 q3 q4 q5 d0 d1 d2 d3 d4 d5
          refine bodyPost_ret (v := .tuple #[dbv k t j 0 0 (.slice a j cap), .bool true]) (by simp [results, Try.results37, go_sem, f0, f1, f2, f3, f4, f5]) rfl ?_
          have hfin : NewDeb k t j w (.returned (.tuple #[dbv k t j 0 0 (.slice a j cap), .bool true])) wf := by
            rw [NewDeb, ← HKD.out, if_pos rfl]
            exact ⟨_, rfl, by simpa using owns_base of HB0.out.size, bf⟩
          exact hfin
        · exfalso
          have h := HKD.out
          unfold okNew at h
          have h3 : inB n 1 24 = false := decide_eq_false (by omega)
          rw [h3] at h; simp at h

end Go.Proofs.Ytkhakelhfnoeoaa
