/- DERIVED. The program's IsWordCode and HeldAt, with slices.IndexFunc at held keys. Called with any arguments (at most so many held keys as a slice can have), each returns what a plain function says. -/
import Derived.Test.YtbpopgplpipfeaaEnDef
import Derived.Test.YtbpopgplpipfeaaAcOk
import Derived.Test.YtbpopgplpipfeaaRpSpec5
namespace Go.Proofs.Ytbpopgplpipfeaa
open Go.RowKit

theorem isBetween_q (c a b : Int) (o : Bool) (ho : o = inB c a b) (w : World) : Calls Try.prog 55 #[.int .i64 c, .int .i64 a, .int .i64 b] w fun e w' => e = .returned (.bool o) ∧ w = w' := by
  rw [ho]; exact isBetween_any c a b w
set_option maxRecDepth 100000 in
theorem implIsWordCode_q (c : Int) (o : Bool) (ho : o = wordC c) (w : World) : Calls Try.prog 33 #[.int .i64 c] w fun e w' => e = .returned (.bool o) ∧ w = w' := by
  obtain ⟨q, hq⟩ : ∃ q, q = inB c 1 36 := ⟨_, rfl⟩
  rw [wordC, ← hq] at ho
  have HQ := Lib.hid hq
  have HO := Lib.hid ho
  clear hq ho
  go_enter Try.func33, Try.ntmps33
  go_wp2_with fail
  refine (isBetween_q c 1 36 q HQ.out _).mono ?_
  rintro e w0 ⟨rfl, rfl⟩
  cases q
  · by_cases h39 : c = 39
    · obtain rfl : o = true := by rw [HO.out]; simp [h39]
      go_wp2
      go_ret
      exact ⟨rfl, rfl⟩
    · by_cases h42 : c = 42
      · obtain rfl : o = true := by rw [HO.out]; simp [h42]
        go_wp2
        go_ret
        exact ⟨rfl, rfl⟩
      · obtain rfl : o = false := by rw [HO.out]; simp [h39, h42]
        go_wp2
        go_ret
        exact ⟨by simp [h39, h42], rfl⟩
  · obtain rfl : o = true := by rw [HO.out]; rfl
    go_wp2
    go_ret
    exact ⟨rfl, rfl⟩

set_option maxRecDepth 100000 in
/-- What HeldAt looks for. -/
theorem heldLit_any (h k c m n : Int) (y : Nat) (key : Int) (o : Bool) (ho : o = (h == key)) (w : World) (hy : w.heap[y]? = some (.cells #[.int .i64 key] 3 (0, 0))) :
    Calls Try.prog 71 #[hdv h k c m n, .pointer (some ⟨y, 0, none⟩)] w fun e w' => e = .returned (.bool o) ∧ Below w.heap.size w w' := by
  have HY := Lib.hid hy
  have HO := Lib.hid ho
  have hlt : y < w.heap.size := (Array.getElem?_eq_some_iff.mp hy).1
  clear hy ho
  obtain ⟨W, hW⟩ : ∃ W, W = w.alloc (.cells #[.int .i64 h, .int .i64 k, .int .i64 c, .int .i64 m, .int .i64 n] 43) := ⟨_, rfl⟩
  have HX0 := Lib.hid (show Bxd W w.heap.size [.int .i64 h, .int .i64 k, .int .i64 c, .int .i64 m, .int .i64 n] by rw [hW]; exact Bxd.new _ _ _)
  have HB0 := Lib.hid (show Below w.heap.size w W by rw [hW]; exact (Below.refl _ _).alloc (Nat.le_refl _) _)
  have HS0 := Lib.hid (show w.heap.size < W.heap.size by rw [hW]; simp)
  have HW := Lib.hid hW
  clear hW
  go_enter Try.func71, Try.ntmps71
  go_upto_region 1 with (fail)
  rw [← HW.out]
  have c0 := HX0.out.at 0 _ rfl
  have c1 := HX0.out.at 1 _ rfl
  have c2 := HX0.out.at 2 _ rfl
  have c3 := HX0.out.at 3 _ rfl
  have c4 := HX0.out.at 4 _ rfl
  obtain ⟨y0, -⟩ := cells_of_heap (blk_below HY.out HB0.out) 0 (by simp)
  simp only [List.getElem_toArray, List.getElem_cons_zero] at y0
  go_wp2
  go_ret
  exact ⟨by rw [HO.out]; rfl, HB0.out⟩

set_option maxRecDepth 100000 in
set_option maxHeartbeats 4000000 in
theorem ixHeld_any (u3 : Value) (H : List Hd) (y : Nat) (key : Int) (w : World) (hn : H.length ≤ maxLen) (h : RdN w u3 H.length (flatHd H)) (hy : w.heap[y]? = some (.cells #[.int .i64 key] 3 (0, 0))) :
    Calls Try.prog 70 #[u3, .func (.func 71) #[] #[.pointer (some ⟨y, 0, none⟩)]] w fun e w' => e = .returned (.int .i64 (haI H key)) ∧ Below w.heap.size w w' := by
  obtain ⟨a, cap, rfl⟩ := RdN.shape h
  obtain ⟨r, hr⟩ : ∃ r, r = haI H key := ⟨_, rfl⟩
  rw [← hr]
  have HR := Lib.hid hr
  obtain ⟨n, hnl⟩ : ∃ n, n = H.length := ⟨_, rfl⟩
  have HNL := Lib.hid hnl
  have HH := Lib.hid (show RdN w (.slice a n cap) H.length (flatHd H) from by rw [hnl]; exact h)
  have hnm : n ≤ maxLen := by rw [hnl]; exact hn
  unfold maxLen at hnm
  have HY := Lib.hid hy
  rw [← hnl]
  clear hr hn h hnl hy
  go_enter Try.func70, Try.ntmps70
  go_wp2
  go_loopw [5, 8] (fun _ i wr => ∃ j : Nat, j ≤ n ∧ i = .int .i64 j ∧ (∀ q, q < j → (hdD H q).h ≠ key) ∧ Below w.heap.size w wr) (fun _ i _ => n - (intOf i).toNat)
  case atStart => exact ⟨0, Nat.zero_le _, rfl, fun q hq => absurd hq (Nat.not_lt_zero _), Below.refl _ _⟩
  case round =>
    obtain ⟨j, hj, rfl, hno, hb⟩ := hrel
    have HNo := Lib.hid hno
    have HB := Lib.hid hb
    by_cases hlt' : j < n
    · have hjz : j < H.length := by rw [← HNL.out]; exact hlt'
      obtain ⟨b, off, rfl, hlt, c0, c1, c2, c3, c4⟩ := hd_at HH.out hjz
      have e0 := (hb.cell (p := ⟨b, off + j * 5, none⟩) hlt).trans c0
      have e1 := (hb.cell (p := ⟨b, off + j * 5 + 1, none⟩) hlt).trans c1
      have e2 := (hb.cell (p := ⟨b, off + j * 5 + 2, none⟩) hlt).trans c2
      have e3 := (hb.cell (p := ⟨b, off + j * 5 + 3, none⟩) hlt).trans c3
      have e4 := (hb.cell (p := ⟨b, off + j * 5 + 4, none⟩) hlt).trans c4
      have hat : (hdD H j).h = key → r = (j : Int) := fun hm => by rw [HR.out]; exact haI_at hjz HNo.out hm
      have hnx : (hdD H j).h ≠ key → ∀ q, q < j + 1 → (hdD H q).h ≠ key := fun hm q hq => by
        rcases Nat.lt_or_ge q j with h3 | h3
        · exact HNo.out q h3
        · obtain rfl : q = j := by omega
          exact hm
      obtain ⟨z, hz⟩ : ∃ z, z = hdD H j := ⟨_, rfl⟩
      rw [← hz] at e0 e1 e2 e3 e4 hat hnx
      obtain ⟨zh, zk, zc, zm, zn⟩ := z
      simp only at e0 e1 e2 e3 e4 hat hnx
      have HAt := Lib.hid hat
      have HNx := Lib.hid hnx
      clear c0 c1 c2 c3 c4 hat hnx hz hb hno
      obtain ⟨o, ho⟩ : ∃ o, o = (zh == key) := ⟨_, rfl⟩
      have HO := Lib.hid ho
      clear ho
      go_wp2_with fail
      refine (heldLit_any zh zk zc zm zn y key o HO.out _ (blk_below HY.out HB.out)).mono ?_
      rintro e w1 ⟨rfl, hb1⟩
      have HB1 := Lib.hid (HB.out.trans (hb1.mono HB.out.size))
      clear hb1 e0 e1 e2 e3 e4
      cases o
      · have hq := Lib.hid (HNx.out (by have := HO.out; simpa using this.symm))
        go_wp2
        go_roundw
        case rel => exact ⟨j + 1, by omega, by go_num, hq.out, HB1.out⟩
        case measure => simp [intOf]; omega
      · have hr := HAt.out (by have := HO.out; simpa using this.symm)
        go_wp2
        go_ret
        exact ⟨by first | rfl | exact ret_int hr.symm, HB1.out⟩
    · obtain rfl : j = n := by omega
      have hr : r = -1 := by rw [HR.out]; exact haI_no (fun q hq => HNo.out q (by rw [HNL.out]; exact hq))
      clear hno hb
      go_wp2
      go_ret
      exact ⟨by first | rfl | exact ret_int hr.symm, HB.out⟩

set_option maxRecDepth 100000 in
set_option maxHeartbeats 4000000 in
theorem implHeldAt_any (k : Int) (u1 u2 : Value) (x : Int) (u3 : Value) (o : Int) (p : Bool) (H : List Hd) (key : Int) (w : World) (hn : H.length ≤ maxLen) (h : RdN w u3 H.length (flatHd H)) :
    Calls Try.prog 35 #[env k u1 u2 x u3 o p, .int .i64 key] w fun e w' => e = .returned (.int .i64 (haI H key)) ∧ Below w.heap.size w w' := by
  have hmf : ∀ (fn : Fn) (first cap : Array Value) (w : World), (Instr.makeFunc fn first cap).run Try.prog w = .ok (.func fn first cap) w := fun _ _ _ _ => rfl
  obtain ⟨r, hr⟩ : ∃ r, r = haI H key := ⟨_, rfl⟩
  rw [← hr]
  have HR := Lib.hid hr
  obtain ⟨W, hW⟩ : ∃ W, W = (w.alloc (.cells #[.int .i64 k, u1, u2, .int .i64 x, u3, .int .i64 o, .bool p] 30)).alloc (.cells #[.int .i64 key] 3) := ⟨_, rfl⟩
  have HB0 := Lib.hid (show Below w.heap.size w W by rw [hW]; exact ((Below.refl _ _).alloc (Nat.le_refl _) _).alloc (by simp) _)
  have HX0 := Lib.hid (show W.heap[w.heap.size]? = some (.cells #[.int .i64 k, u1, u2, .int .i64 x, u3, .int .i64 o, .bool p] 30 (0, 0)) by rw [hW, Below.heap_alloc _ _ _ (by simp)]; exact heap_alloc_new w _)
  have HY0 := Lib.hid (show W.heap[w.heap.size + 1]? = some (.cells #[.int .i64 key] 3 (0, 0)) by rw [hW]; simpa using heap_alloc_new (w.alloc (.cells #[.int .i64 k, u1, u2, .int .i64 x, u3, .int .i64 o, .bool p] 30)) _)
  have HW := Lib.hid hW
  have HRd := Lib.hid h
  have HN := Lib.hid hn
  clear hW hr h hn
  go_enter Try.func35, Try.ntmps35
  go_upto_region 1 with (fail)
  rw [← HW.out]
  obtain ⟨x4, -⟩ := cells_of_heap HX0.out 4 (by simp)
  simp only [List.getElem_toArray, List.getElem_cons_zero, List.getElem_cons_succ] at x4
  go_wp2_with fail
  refine (ixHeld_any u3 H (w.heap.size + 1) key _ HN.out (HRd.out.below HB0.out) HY0.out).mono ?_
  rw [← HR.out]
  rintro e w1 ⟨rfl, hb1⟩
  have HB1 := Lib.hid (HB0.out.trans (hb1.mono HB0.out.size))
  clear hb1 x4
  go_wp2
  go_ret
  exact ⟨rfl, HB1.out⟩

end Go.Proofs.Ytbpopgplpipfeaa
