/- DERIVED. What a macro has down as the program keeps it: a list of actions, the place of a press in it, and the lists behind each report; the program's slices.Index and slices.Contains on such a list return what plain functions say. No condition. -/
import Derived.Test.YtnfnhbldphiohaaMcMath
import Derived.Test.YtnfnhbldphiohaaAcOk
import Derived.Deep.DeepCutAuto
import Derived.Laws.StructEq
namespace Go.Proofs.Ytnfnhbldphiohaa
open Go.RowKit

def pA (x : St) : Ac := ⟨2, x.c, x.m, 0⟩
def hA (h : Hd) : Ac := ⟨2, h.c, h.m, 0⟩
def dA (d : List Hd) : List Ac := d.map hA
def eqA (a b : Ac) : Bool := a.k == b.k && (a.c == b.c && (a.m == b.m && a.n == b.n))
/-- The first place of an action; the length if there is none. -/
def fiA (l : List Ac) (a : Ac) : Nat := l.findIdx (eqA a)
def fiAI (l : List Ac) (a : Ac) : Int := if fiA l a < l.length then (fiA l a : Int) else -1
theorem fiA_le (l : List Ac) (a : Ac) : fiA l a ≤ l.length := List.findIdx_le_length
theorem fiAI_no {l : List Ac} {a : Ac} (h : ∀ q, q < l.length → eqA a (acD l q) = false) : fiAI l a = -1 := by
  have e : fiA l a = l.length := List.findIdx_eq_length.mpr fun y hy => by
    obtain ⟨q, hq, rfl⟩ := List.getElem_of_mem hy
    have := h q hq
    rw [acD, List.getD_eq_getElem?_getD, List.getElem?_eq_getElem hq] at this
    exact this
  rw [fiAI, e, if_neg (Nat.lt_irrefl _)]
theorem fiAI_at {l : List Ac} {a : Ac} {j : Nat} (hj : j < l.length) (h : ∀ q, q < j → eqA a (acD l q) = false) (hm : eqA a (acD l j) = true) : fiAI l a = (j : Int) := by
  have e : fiA l a = j := (List.findIdx_eq hj).mpr ⟨by rw [acD, List.getD_eq_getElem?_getD, List.getElem?_eq_getElem hj] at hm; exact hm, fun q hq => by
    have := h q hq
    rw [acD, List.getD_eq_getElem?_getD, List.getElem?_eq_getElem (by omega)] at this
    exact this⟩
  rw [fiAI, e, if_pos hj]
theorem fiAI_cases (l : List Ac) (a : Ac) : (fiAI l a = -1 ∧ fiA l a = l.length) ∨ (fiAI l a = (fiA l a : Int) ∧ fiA l a < l.length) := by
  rw [fiAI]
  split
  · rename_i h; exact .inr ⟨rfl, h⟩
  · rename_i h; exact .inl ⟨rfl, by have := fiA_le l a; omega⟩
theorem eqA_mt (x : St) (h : Hd) : eqA (pA x) (hA h) = mtS x h := by
  unfold eqA mtS pA hA
  rw [Bool.eq_iff_iff]
  simp only [beq_self_eq_true, Bool.true_and, Bool.and_true, Bool.and_eq_true, beq_iff_eq, decide_eq_true_eq]
  constructor
  · rintro ⟨h1, h2⟩; exact ⟨h1.symm, h2.symm⟩
  · rintro ⟨h1, h2⟩; exact ⟨h1.symm, h2.symm⟩
theorem dA_len (d : List Hd) : (dA d).length = d.length := by simp [dA]
theorem fiA_dA (d : List Hd) (x : St) : fiA (dA d) (pA x) = fiH d x := by
  unfold fiA fiH dA
  rw [List.findIdx_map]
  congr 1
  funext h
  exact eqA_mt x h
theorem fiAI_dA (d : List Hd) (x : St) : fiAI (dA d) (pA x) = fiI d x := by
  rw [fiAI, fiI, fiA_dA, dA_len]
theorem dA_snoc (d : List Hd) (x : St) : dA (d ++ [stA x]) = dA d ++ [pA x] := by simp [dA, hA, stA, pA]
theorem dA_erase (d : List Hd) (k : Nat) : dA (d.eraseIdx k) = (dA d).eraseIdx k := by
  induction d generalizing k with
  | nil => rfl
  | cons a d ih =>
    cases k with
    | zero => rfl
    | succ k => simp only [List.eraseIdx_cons_succ, dA, List.map_cons]; rw [← dA, ← dA, ih]
/-- What is down behind each report of step x, when d is down ahead of it. -/
def skX (d : List Hd) (x : St) : List (List Ac) :=
  if x.k = 0 then [dA (d ++ [stA x]), dA d] else if x.k = 1 then [dA (d ++ [stA x])] else [dA (d.eraseIdx (fiH d x))]
def skN (s : List St) : Nat → List (List Ac)
  | 0 => []
  | j + 1 => skN s j ++ skX (dwN s j) (stD s j)
theorem skX_len (d : List Hd) (x : St) : (skX d x).length ≤ 2 := by
  unfold skX; split
  · simp
  · split <;> simp
theorem skN_len (s : List St) : ∀ j, (skN s j).length ≤ 2 * j
  | 0 => Nat.le_refl _
  | j + 1 => by rw [skN, List.length_append]; have := skN_len s j; have := skX_len (dwN s j) (stD s j); omega
/-- The modifiers of a report with those of a list of actions; the codes of z and of the list. -/
def arM (r : Nat) (d : List Ac) : Nat → Nat
  | 0 => r
  | j + 1 => arM r d j ||| (acD d j).m.toNat
theorem acD_dA (d : List Hd) (j : Nat) (h : j < d.length) : acD (dA d) j = hA (hdD d j) := by
  rw [acD, hdD, dA, List.getD_eq_getElem?_getD, List.getD_eq_getElem?_getD, List.getElem?_map, List.getElem?_eq_getElem h]
  rfl
theorem arM_dA (r : Nat) (d : List Hd) : ∀ j, j ≤ d.length → arM r (dA d) j = mrM r d j
  | 0, _ => rfl
  | j + 1, h => by rw [arM, mrM, arM_dA r d j (by omega), acD_dA d j (by omega)]; rfl
def hasA (d : List Ac) (c : Int) : Bool := d.any fun a => decide (a.c = c)

set_option maxRecDepth 100000 in
set_option maxHeartbeats 4000000 in
theorem ixStack_any (v : Value) (l : List Ac) (k c m n : Int) (w : World) (hl : l.length ≤ maxLen) (h : RdN w v l.length (flatAc l)) :
    Calls Try.prog 55 #[v, acv k c m n] w fun e w' => e = .returned (.int .i64 (fiAI l ⟨k, c, m, n⟩)) ∧ Below w.heap.size w w' := by
  unfold maxLen at hl
  obtain ⟨r, hr⟩ : ∃ r, r = fiAI l ⟨k, c, m, n⟩ := ⟨_, rfl⟩
  rw [← hr]
  have HR := Lib.hid hr
  clear hr
  rcases rd_acs h with ⟨rfl, a, cap, rfl⟩ | ⟨b, off, cap, hpos, rfl, hlt, hc⟩
  · obtain rfl : r = -1 := HR.out
    clear h
    obtain ⟨W, hW⟩ : ∃ W, W = w.alloc (.cells #[.int .i64 k, .int .i64 c, .int .i64 m, .int .i64 n] 47) := ⟨_, rfl⟩
    have HX0 := Lib.hid (show Bxd W w.heap.size [.int .i64 k, .int .i64 c, .int .i64 m, .int .i64 n] by rw [hW]; exact Bxd.new _ _ _)
    have HB0 := Lib.hid (show Below w.heap.size w W by rw [hW]; exact (Below.refl _ _).alloc (Nat.le_refl _) _)
    have HS0 := Lib.hid (show w.heap.size < W.heap.size by rw [hW]; simp)
    have HW := Lib.hid hW
    clear hW
    go_enter Try.func55, Try.ntmps55
    go_wp2
    rw [← HW.out]
    refine wp_loop_rounds 1 ?_
    rw [rounds_succ]
    go_wp2
    go_ret
    exact ⟨rfl, HB0.out⟩
  · have HC := Lib.hid hc
    obtain ⟨N, hN⟩ : ∃ N, N = l.length := ⟨_, rfl⟩
    rw [← hN] at hl hpos ⊢
    have HNN := Lib.hid hN
    clear h hc hN
    obtain ⟨W, hW⟩ : ∃ W, W = w.alloc (.cells #[.int .i64 k, .int .i64 c, .int .i64 m, .int .i64 n] 47) := ⟨_, rfl⟩
    have HX0 := Lib.hid (show Bxd W w.heap.size [.int .i64 k, .int .i64 c, .int .i64 m, .int .i64 n] by rw [hW]; exact Bxd.new _ _ _)
    have HB0 := Lib.hid (show Below w.heap.size w W by rw [hW]; exact (Below.refl _ _).alloc (Nat.le_refl _) _)
    have HS0 := Lib.hid (show w.heap.size < W.heap.size by rw [hW]; simp)
    have HW := Lib.hid hW
    clear hW
    go_enter Try.func55, Try.ntmps55
    go_wp2
    rw [← HW.out]
    go_loopw [5, 8] (fun _ i wr => ∃ (j : Nat), j ≤ N ∧ i = .int .i64 j ∧ (∀ q, q < j → eqA ⟨k, c, m, n⟩ (acD l q) = false) ∧ Below W.heap.size W wr) (fun _ i _ => N - (intOf i).toNat)
    case atStart => exact ⟨0, Nat.zero_le _, rfl, fun q hq => absurd hq (Nat.not_lt_zero _), Below.refl _ _⟩
    case round =>
      obtain ⟨j, hj, rfl, hp, hb⟩ := hrel
      by_cases hlt' : j < N
      · have HX1 := Lib.hid (HX0.out.below hb HS0.out)
        have hbw := HB0.out.trans (hb.mono HB0.out.size)
        obtain ⟨e0, e1, e2, e3⟩ := HC.out j (by rw [← HNN.out]; exact hlt')
        have d0 := (hbw.cell (p := ⟨b, off + j * 4, none⟩) hlt).trans e0
        have d1 := (hbw.cell (p := ⟨b, off + j * 4 + 1, none⟩) hlt).trans e1
        have d2 := (hbw.cell (p := ⟨b, off + j * 4 + 2, none⟩) hlt).trans e2
        have d3 := (hbw.cell (p := ⟨b, off + j * 4 + 3, none⟩) hlt).trans e3
        clear e0 e1 e2 e3
        have hat : eqA ⟨k, c, m, n⟩ (acD l j) = true → r = (j : Int) := fun h0 => by rw [HR.out]; exact fiAI_at (by rw [← HNN.out]; exact hlt') hp h0
        have hnx : eqA ⟨k, c, m, n⟩ (acD l j) = false → ∀ q, q < j + 1 → eqA ⟨k, c, m, n⟩ (acD l q) = false := fun h0 q hq => by
          rcases Nat.lt_or_ge q j with h2 | h2
          · exact hp q h2
          · obtain rfl : q = j := by omega
            exact h0
        have HAt := Lib.hid hat
        have HNx := Lib.hid hnx
        have HB := Lib.hid hb
        clear hat hnx hb hbw hp
        obtain ⟨z, hz⟩ : ∃ z, z = acD l j := ⟨_, rfl⟩
        rw [← hz] at d0 d1 d2 d3 HAt HNx
        clear hz
        obtain ⟨zk, zc, zm, zn⟩ := z
        simp only [] at d0 d1 d2 d3
        obtain ⟨E, hE⟩ : ∃ E, E = (k == zk && (c == zc && (m == zm && n == zn))) := ⟨_, rfl⟩
        have hrun : ∀ v, (Go.binOp .eql 47 (acv k c m n) (acv zk zc zm zn)).run Try.prog v = .ok (.bool E) v := fun v => by rw [hE]; exact eqAc_run _ _ _ _ _ _ _ _ v
        have HE := Lib.hid (show eqA ⟨k, c, m, n⟩ ⟨zk, zc, zm, zn⟩ = E from hE.symm)
        clear hE
        have c0 := HX1.out.at 0 _ rfl
        have c1 := HX1.out.at 1 _ rfl
        have c2 := HX1.out.at 2 _ rfl
        have c3 := HX1.out.at 3 _ rfl
        go_upto_region 4 with (fail)
        cases E
        · have hq := Lib.hid (HNx.out HE.out)
          go_quiet (fail)
          go_wp2
          go_roundw
          case rel => exact ⟨j + 1, by omega, by go_num, hq.out, below_drewN HB.out _⟩
          case measure => simp [intOf]; omega
        · have hr := HAt.out HE.out
          go_quiet (fail)
          go_wp2
          go_ret
          exact ⟨by first | rfl | exact ret_int hr.symm, below_drewN (HB0.out.trans (HB.out.mono HB0.out.size)) _⟩
      · obtain rfl : j = N := by omega
        have hr : r = -1 := by rw [HR.out]; exact fiAI_no (fun q hq => hp q (by rw [HNN.out]; exact hq))
        go_wp2
        go_ret
        exact ⟨by first | rfl | exact ret_int hr.symm, HB0.out.trans (hb.mono HB0.out.size)⟩
theorem ixStack_q (v : Value) (l : List Ac) (k c m n i : Int) (hi : i = fiAI l ⟨k, c, m, n⟩) (w : World) (hl : l.length ≤ maxLen) (h : RdN w v l.length (flatAc l)) :
    Calls Try.prog 55 #[v, acv k c m n] w fun e w' => e = .returned (.int .i64 i) ∧ Below w.heap.size w w' := by
  rw [hi]; exact ixStack_any v l k c m n w hl h

set_option maxRecDepth 100000 in
set_option maxHeartbeats 4000000 in
theorem hasStack_q (v : Value) (l : List Ac) (k c m n : Int) (o : Bool) (ho : o = decide (0 ≤ fiAI l ⟨k, c, m, n⟩)) (w : World) (hl : l.length ≤ maxLen) (h : RdN w v l.length (flatAc l)) :
    Calls Try.prog 53 #[v, acv k c m n] w fun e w' => e = .returned (.bool o) ∧ Below w.heap.size w w' := by
  obtain ⟨i, hi⟩ : ∃ i, i = fiAI l ⟨k, c, m, n⟩ := ⟨_, rfl⟩
  rw [← hi] at ho
  have HI := Lib.hid hi
  have HL := Lib.hid hl
  have H := Lib.hid h
  clear hi hl h
  obtain ⟨W, hW⟩ : ∃ W, W = w.alloc (.cells #[.int .i64 k, .int .i64 c, .int .i64 m, .int .i64 n] 47) := ⟨_, rfl⟩
  have HX0 := Lib.hid (show Bxd W w.heap.size [.int .i64 k, .int .i64 c, .int .i64 m, .int .i64 n] by rw [hW]; exact Bxd.new _ _ _)
  have HB0 := Lib.hid (show Below w.heap.size w W by rw [hW]; exact (Below.refl _ _).alloc (Nat.le_refl _) _)
  have HS0 := Lib.hid (show w.heap.size < W.heap.size by rw [hW]; simp)
  have HW := Lib.hid hW
  clear hW
  go_enter Try.func53, Try.ntmps53
  go_wp2_with fail
  rw [← HW.out]
  have c0 := HX0.out.at 0 _ rfl
  have c1 := HX0.out.at 1 _ rfl
  have c2 := HX0.out.at 2 _ rfl
  have c3 := HX0.out.at 3 _ rfl
  refine (ixStack_q v l k c m n i HI.out _ HL.out (H.out.below HB0.out)).mono ?_
  rintro e w1 ⟨rfl, hb⟩
  have HB1 := Lib.hid (HB0.out.trans (hb.mono HB0.out.size))
  clear hb c0 c1 c2 c3
  by_cases h0 : 0 ≤ i
  · obtain rfl : o = true := by rw [ho]; exact decide_eq_true h0
    clear ho
    go_wp2
    go_ret
    exact ⟨by first | rfl | simp [h0], HB1.out⟩
  · obtain rfl : o = false := by rw [ho]; exact decide_eq_false h0
    clear ho
    go_wp2
    go_ret
    exact ⟨by first | rfl | simp [h0], HB1.out⟩

end Go.Proofs.Ytnfnhbldphiohaa
