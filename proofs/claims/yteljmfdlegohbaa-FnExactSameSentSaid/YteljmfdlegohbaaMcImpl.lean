/- DERIVED. What a macro has down as the program keeps it: a list of actions, the place of a press in it, and the lists behind each report; the program's slices.Index and slices.Contains on such a list return what plain functions say. No condition. · The program's slices.Clone and slices.Delete on what a macro has down, its pressOf and movesOf: each returns what a plain function says, in memory of its own. No condition. · The program's pressOf, movesOf, putPress and takePress: each returns what a plain function says, what it makes in memory of its own. No condition. · The moves of a macro's steps as the program makes them, as plain functions, and what its memory holds on the way: what is down and the stacks behind each report. No condition. · The program's followMacro: it tells whether a macro is valid and returns what is down behind each of its moves. Called with any steps. -/
import Derived.Test.YteljmfdlegohbaaMcMath
import Derived.Test.YteljmfdlegohbaaAcOk
import Derived.Deep.DeepCutAuto
import Derived.Laws.StructEq
import Derived.Test.YteljmfdlegohbaaMcSpec
import Derived.Deep.DeepAppendRoom
import Derived.Laws.IdiomCopy
import Derived.Lib.SliceRun
import Derived.Deep.RegionLawGrows
import Derived.WalkSmall
import Derived.Test.YteljmfdlegohbaaLawBits
import Derived.Test.YteljmfdlegohbaaKm
import Derived.Deep.RegionHeld3
namespace Go.Proofs.Yteljmfdlegohbaa
open Go.RowKit

def pA (x : St) : Ac := ⟨2, x.c, x.m, 0⟩
def hA (h : Hd) : Ac := ⟨2, h.c, h.m, 0⟩
def dA (d : List Hd) : List Ac := d.map hA
def eqA (a b : Ac) : Bool := a.k == b.k && (a.c == b.c && (a.m == b.m && a.n == b.n))
/-- The first place of an action; the length if there is none. -/
def fiA (l : List Ac) (a : Ac) : Nat := l.findIdx (eqA a)
def fiAI (l : List Ac) (a : Ac) : Int := if fiA l a < l.length then (fiA l a : Int) else -1
theorem fiA_le (l : List Ac) (a : Ac) : fiA l a ≤ l.length := List.findIdx_le_length
theorem fiAI_no {l : List Ac} {a : Ac} (h : ∀ q, q < l.length → eqA a (acD l q) = false) : fiAI l a = -1 := by
  have e : fiA l a = l.length := List.findIdx_eq_length.mpr fun y hy => by
    obtain ⟨q, hq, rfl⟩ := List.getElem_of_mem hy
    have := h q hq
    rw [acD, List.getD_eq_getElem?_getD, List.getElem?_eq_getElem hq] at this
    exact this
  rw [fiAI, e, if_neg (Nat.lt_irrefl _)]
theorem fiAI_at {l : List Ac} {a : Ac} {j : Nat} (hj : j < l.length) (h : ∀ q, q < j → eqA a (acD l q) = false) (hm : eqA a (acD l j) = true) : fiAI l a = (j : Int) := by
  have e : fiA l a = j := (List.findIdx_eq hj).mpr ⟨by rw [acD, List.getD_eq_getElem?_getD, List.getElem?_eq_getElem hj] at hm; exact hm, fun q hq => by
    have := h q hq
    rw [acD, List.getD_eq_getElem?_getD, List.getElem?_eq_getElem (by omega)] at this
    exact this⟩
  rw [fiAI, e, if_pos hj]
theorem fiAI_cases (l : List Ac) (a : Ac) : (fiAI l a = -1 ∧ fiA l a = l.length) ∨ (fiAI l a = (fiA l a : Int) ∧ fiA l a < l.length) := by
  rw [fiAI]
  split
  · rename_i h; exact .inr ⟨rfl, h⟩
  · rename_i h; exact .inl ⟨rfl, by have := fiA_le l a; omega⟩
theorem eqA_mt (x : St) (h : Hd) : eqA (pA x) (hA h) = mtS x h := by
  unfold eqA mtS pA hA
  rw [Bool.eq_iff_iff]
  simp only [beq_self_eq_true, Bool.true_and, Bool.and_true, Bool.and_eq_true, beq_iff_eq, decide_eq_true_eq]
  constructor
  · rintro ⟨h1, h2⟩; exact ⟨h1.symm, h2.symm⟩
  · rintro ⟨h1, h2⟩; exact ⟨h1.symm, h2.symm⟩
theorem dA_len (d : List Hd) : (dA d).length = d.length := by simp [dA]
theorem fiA_dA (d : List Hd) (x : St) : fiA (dA d) (pA x) = fiH d x := by
  unfold fiA fiH dA
  rw [List.findIdx_map]
  congr 1
  funext h
  exact eqA_mt x h
theorem fiAI_dA (d : List Hd) (x : St) : fiAI (dA d) (pA x) = fiI d x := by
  rw [fiAI, fiI, fiA_dA, dA_len]
theorem dA_snoc (d : List Hd) (x : St) : dA (d ++ [stA x]) = dA d ++ [pA x] := by simp [dA, hA, stA, pA]
theorem dA_erase (d : List Hd) (k : Nat) : dA (d.eraseIdx k) = (dA d).eraseIdx k := by
  induction d generalizing k with
  | nil => rfl
  | cons a d ih =>
    cases k with
    | zero => rfl
    | succ k => simp only [List.eraseIdx_cons_succ, dA, List.map_cons]; rw [← dA, ← dA, ih]
/-- What is down behind each report of step x, when d is down ahead of it. -/
def skX (d : List Hd) (x : St) : List (List Ac) :=
  if x.k = 0 then [dA (d ++ [stA x]), dA d] else if x.k = 1 then [dA (d ++ [stA x])] else [dA (d.eraseIdx (fiH d x))]
def skN (s : List St) : Nat → List (List Ac)
  | 0 => []
  | j + 1 => skN s j ++ skX (dwN s j) (stD s j)
theorem skX_len (d : List Hd) (x : St) : (skX d x).length ≤ 2 := by
  unfold skX; split
  · simp
  · split <;> simp
theorem skN_len (s : List St) : ∀ j, (skN s j).length ≤ 2 * j
  | 0 => Nat.le_refl _
  | j + 1 => by rw [skN, List.length_append]; have := skN_len s j; have := skX_len (dwN s j) (stD s j); omega
/-- The modifiers of a report with those of a list of actions; the codes of z and of the list. -/
def arM (r : Nat) (d : List Ac) : Nat → Nat
  | 0 => r
  | j + 1 => arM r d j ||| (acD d j).m.toNat
theorem acD_dA (d : List Hd) (j : Nat) (h : j < d.length) : acD (dA d) j = hA (hdD d j) := by
  rw [acD, hdD, dA, List.getD_eq_getElem?_getD, List.getD_eq_getElem?_getD, List.getElem?_map, List.getElem?_eq_getElem h]
  rfl
theorem arM_dA (r : Nat) (d : List Hd) : ∀ j, j ≤ d.length → arM r (dA d) j = mrM r d j
  | 0, _ => rfl
  | j + 1, h => by rw [arM, mrM, arM_dA r d j (by omega), acD_dA d j (by omega)]; rfl
def hasA (d : List Ac) (c : Int) : Bool := d.any fun a => decide (a.c = c)

set_option maxRecDepth 100000 in
set_option maxHeartbeats 4000000 in
theorem ixStack_any (v : Value) (l : List Ac) (k c m n : Int) (w : World) (hl : l.length ≤ maxLen) (h : RdN w v l.length (flatAc l)) :
    Calls Try.prog 205 #[v, acv k c m n] w fun e w' => e = .returned (.int .i64 (fiAI l ⟨k, c, m, n⟩)) ∧ Below w.heap.size w w' := by
  unfold maxLen at hl
  obtain ⟨r, hr⟩ : ∃ r, r = fiAI l ⟨k, c, m, n⟩ := ⟨_, rfl⟩
  rw [← hr]
  have HR := Lib.hid hr
  clear hr
  rcases rd_acs h with ⟨rfl, a, cap, rfl⟩ | ⟨b, off, cap, hpos, rfl, hlt, hc⟩
  · obtain rfl : r = -1 := HR.out
    clear h
    obtain ⟨W, hW⟩ : ∃ W, W = w.alloc (.cells #[.int .i64 k, .int .i64 c, .int .i64 m, .int .i64 n] 203) := ⟨_, rfl⟩
    have HX0 := Lib.hid (show Bxd W w.heap.size [.int .i64 k, .int .i64 c, .int .i64 m, .int .i64 n] by rw [hW]; exact Bxd.new _ _ _)
    have HB0 := Lib.hid (show Below w.heap.size w W by rw [hW]; exact (Below.refl _ _).alloc (Nat.le_refl _) _)
    have HS0 := Lib.hid (show w.heap.size < W.heap.size by rw [hW]; simp)
    have HW := Lib.hid hW
    clear hW
    go_enter Try.func205, Try.ntmps205
    go_wp2
    rw [← HW.out]
    refine wp_loop_rounds 1 ?_
    rw [rounds_succ]
    go_wp2
    go_ret
    exact ⟨rfl, HB0.out⟩
  · have HC := Lib.hid hc
    obtain ⟨N, hN⟩ : ∃ N, N = l.length := ⟨_, rfl⟩
    rw [← hN] at hl hpos ⊢
    have HNN := Lib.hid hN
    clear h hc hN
    obtain ⟨W, hW⟩ : ∃ W, W = w.alloc (.cells #[.int .i64 k, .int .i64 c, .int .i64 m, .int .i64 n] 203) := ⟨_, rfl⟩
    have HX0 := Lib.hid (show Bxd W w.heap.size [.int .i64 k, .int .i64 c, .int .i64 m, .int .i64 n] by rw [hW]; exact Bxd.new _ _ _)
    have HB0 := Lib.hid (show Below w.heap.size w W by rw [hW]; exact (Below.refl _ _).alloc (Nat.le_refl _) _)
    have HS0 := Lib.hid (show w.heap.size < W.heap.size by rw [hW]; simp)
    have HW := Lib.hid hW
    clear hW
    go_enter Try.func205, Try.ntmps205
    go_wp2
    rw [← HW.out]
    go_loopw [5, 8] (fun _ i wr => ∃ (j : Nat), j ≤ N ∧ i = .int .i64 j ∧ (∀ q, q < j → eqA ⟨k, c, m, n⟩ (acD l q) = false) ∧ Below W.heap.size W wr) (fun _ i _ => N - (intOf i).toNat)
    case atStart => exact ⟨0, Nat.zero_le _, rfl, fun q hq => absurd hq (Nat.not_lt_zero _), Below.refl _ _⟩
    case round =>
      obtain ⟨j, hj, rfl, hp, hb⟩ := hrel
      by_cases hlt' : j < N
      · have HX1 := Lib.hid (HX0.out.below hb HS0.out)
        have hbw := HB0.out.trans (hb.mono HB0.out.size)
        obtain ⟨e0, e1, e2, e3⟩ := HC.out j (by rw [← HNN.out]; exact hlt')
        have d0 := (hbw.cell (p := ⟨b, off + j * 4, none⟩) hlt).trans e0
        have d1 := (hbw.cell (p := ⟨b, off + j * 4 + 1, none⟩) hlt).trans e1
        have d2 := (hbw.cell (p := ⟨b, off + j * 4 + 2, none⟩) hlt).trans e2
        have d3 := (hbw.cell (p := ⟨b, off + j * 4 + 3, none⟩) hlt).trans e3
        clear e0 e1 e2 e3
        have hat : eqA ⟨k, c, m, n⟩ (acD l j) = true → r = (j : Int) := fun h0 => by rw [HR.out]; exact fiAI_at (by rw [← HNN.out]; exact hlt') hp h0
        have hnx : eqA ⟨k, c, m, n⟩ (acD l j) = false → ∀ q, q < j + 1 → eqA ⟨k, c, m, n⟩ (acD l q) = false := fun h0 q hq => by
          rcases Nat.lt_or_ge q j with h2 | h2
          · exact hp q h2
          · obtain rfl : q = j := by omega
            exact h0
        have HAt := Lib.hid hat
        have HNx := Lib.hid hnx
        have HB := Lib.hid hb
        clear hat hnx hb hbw hp
        obtain ⟨z, hz⟩ : ∃ z, z = acD l j := ⟨_, rfl⟩
        rw [← hz] at d0 d1 d2 d3 HAt HNx
        clear hz
        obtain ⟨zk, zc, zm, zn⟩ := z
        simp only [] at d0 d1 d2 d3
        obtain ⟨E, hE⟩ : ∃ E, E = (k == zk && (c == zc && (m == zm && n == zn))) := ⟨_, rfl⟩
        have hrun : ∀ v, (Go.binOp .eql 203 (acv k c m n) (acv zk zc zm zn)).run Try.prog v = .ok (.bool E) v := fun v => by rw [hE]; exact eqAc_run _ _ _ _ _ _ _ _ v
        have HE := Lib.hid (show eqA ⟨k, c, m, n⟩ ⟨zk, zc, zm, zn⟩ = E from hE.symm)
        clear hE
        have c0 := HX1.out.at 0 _ rfl
        have c1 := HX1.out.at 1 _ rfl
        have c2 := HX1.out.at 2 _ rfl
        have c3 := HX1.out.at 3 _ rfl
        go_upto_region 4 with (fail)
        cases E
        · have hq := Lib.hid (HNx.out HE.out)
          go_quiet (fail)
          go_wp2
          go_roundw
          case rel => exact ⟨j + 1, by omega, by go_num, hq.out, below_drewN HB.out _⟩
          case measure => simp [intOf]; omega
        · have hr := HAt.out HE.out
          go_quiet (fail)
          go_wp2
          go_ret
          exact ⟨by first | rfl | exact ret_int hr.symm, below_drewN (HB0.out.trans (HB.out.mono HB0.out.size)) _⟩
      · obtain rfl : j = N := by omega
        have hr : r = -1 := by rw [HR.out]; exact fiAI_no (fun q hq => hp q (by rw [HNN.out]; exact hq))
        go_wp2
        go_ret
        exact ⟨by first | rfl | exact ret_int hr.symm, HB0.out.trans (hb.mono HB0.out.size)⟩
theorem ixStack_q (v : Value) (l : List Ac) (k c m n i : Int) (hi : i = fiAI l ⟨k, c, m, n⟩) (w : World) (hl : l.length ≤ maxLen) (h : RdN w v l.length (flatAc l)) :
    Calls Try.prog 205 #[v, acv k c m n] w fun e w' => e = .returned (.int .i64 i) ∧ Below w.heap.size w w' := by
  rw [hi]; exact ixStack_any v l k c m n w hl h

set_option maxRecDepth 100000 in
set_option maxHeartbeats 4000000 in
theorem hasStack_q (v : Value) (l : List Ac) (k c m n : Int) (o : Bool) (ho : o = decide (0 ≤ fiAI l ⟨k, c, m, n⟩)) (w : World) (hl : l.length ≤ maxLen) (h : RdN w v l.length (flatAc l)) :
    Calls Try.prog 203 #[v, acv k c m n] w fun e w' => e = .returned (.bool o) ∧ Below w.heap.size w w' := by
  obtain ⟨i, hi⟩ : ∃ i, i = fiAI l ⟨k, c, m, n⟩ := ⟨_, rfl⟩
  rw [← hi] at ho
  have HI := Lib.hid hi
  have HL := Lib.hid hl
  have H := Lib.hid h
  clear hi hl h
  obtain ⟨W, hW⟩ : ∃ W, W = w.alloc (.cells #[.int .i64 k, .int .i64 c, .int .i64 m, .int .i64 n] 203) := ⟨_, rfl⟩
  have HX0 := Lib.hid (show Bxd W w.heap.size [.int .i64 k, .int .i64 c, .int .i64 m, .int .i64 n] by rw [hW]; exact Bxd.new _ _ _)
  have HB0 := Lib.hid (show Below w.heap.size w W by rw [hW]; exact (Below.refl _ _).alloc (Nat.le_refl _) _)
  have HS0 := Lib.hid (show w.heap.size < W.heap.size by rw [hW]; simp)
  have HW := Lib.hid hW
  clear hW
  go_enter Try.func203, Try.ntmps203
  go_wp2_with fail
  rw [← HW.out]
  have c0 := HX0.out.at 0 _ rfl
  have c1 := HX0.out.at 1 _ rfl
  have c2 := HX0.out.at 2 _ rfl
  have c3 := HX0.out.at 3 _ rfl
  refine (ixStack_q v l k c m n i HI.out _ HL.out (H.out.below HB0.out)).mono ?_
  rintro e w1 ⟨rfl, hb⟩
  have HB1 := Lib.hid (HB0.out.trans (hb.mono HB0.out.size))
  clear hb c0 c1 c2 c3
  by_cases h0 : 0 ≤ i
  · obtain rfl : o = true := by rw [ho]; exact decide_eq_true h0
    clear ho
    go_wp2
    go_ret
    exact ⟨by first | rfl | simp [h0], HB1.out⟩
  · obtain rfl : o = false := by rw [ho]; exact decide_eq_false h0
    clear ho
    go_wp2
    go_ret
    exact ⟨by first | rfl | simp [h0], HB1.out⟩
end Go.Proofs.Yteljmfdlegohbaa

namespace Go.Proofs.Yteljmfdlegohbaa
open Go.RowKit

theorem flatAc_take (d : List Ac) (k : Nat) (hk : k ≤ d.length) : flatAc (d.take k) = (flatAc d).take (k * 4) := by
  have h1 : flatAc d = flatAc (d.take k) ++ flatAc (d.drop k) := by
    unfold flatAc; rw [← List.flatMap_append, List.take_append_drop]
  have h2 : (flatAc (d.take k)).length = k * 4 := by rw [flatAc_len, List.length_take]; omega
  rw [h1, ← h2, List.take_left]
theorem flatAc_drop (d : List Ac) (k : Nat) (hk : k ≤ d.length) : flatAc (d.drop k) = (flatAc d).drop (k * 4) := by
  have h1 : flatAc d = flatAc (d.take k) ++ flatAc (d.drop k) := by
    unfold flatAc; rw [← List.flatMap_append, List.take_append_drop]
  have h2 : (flatAc (d.take k)).length = k * 4 := by rw [flatAc_len, List.length_take]; omega
  rw [h1, ← h2, List.drop_left]
theorem eraseA_flat (d : List Ac) (k : Nat) : flatAc (d.take k) ++ flatAc (d.drop (k + 1)) = flatAc (d.eraseIdx k) := by
  unfold flatAc; rw [← List.flatMap_append, List.eraseIdx_eq_take_drop_succ]
/-- Cells that a slice reads as. -/
theorem rdN_news {w : World} {g o cap n : Nat} {xs : List Value} (hn : xs.length = n * 4) (h : RdN w (.slice (some ⟨g, o, none⟩) n cap) n xs) : ∀ w', Below w.heap.size w w' → ∀ q u, xs[q]? = some u → w'.cell? ((⟨g, o, none⟩ : Addr).add q) = some u := by
  intro w' hb q u hu
  obtain ⟨hq, rfl⟩ := List.getElem?_eq_some_iff.mp hu
  obtain ⟨a, c, hv, h⟩ := h
  have hadd : (⟨g, o, none⟩ : Addr).add q = ⟨g, o + q, none⟩ := by unfold Addr.add; split <;> simp_all
  rcases h with rfl | ⟨b, off, ha, hlt, hc⟩
  · omega
  · simp only [Value.slice.injEq] at hv
    obtain ⟨hv, _, _⟩ := hv
    rw [← hv] at ha
    obtain ⟨rfl, rfl⟩ : g = b ∧ o = off := by simpa using ha
    rw [hadd, hb.cell (p := ⟨g, o + q, none⟩) hlt, hc q hq]
/-- Cells behind an owned row's elements may be changed. -/
theorem owns_beyond {w : World} {B T c g n cap o : Nat} {xs : List Value} (z : Value) (h : w.ownsRow B T c (.slice (some ⟨g, 0, none⟩) n cap) n xs) (ho : n * c ≤ o) : (w.setCell ⟨g, o, none⟩ z).ownsRow B T c (.slice (some ⟨g, 0, none⟩) n cap) n xs := by
  refine ⟨h.1, ?_⟩
  rcases h.2 with h2 | ⟨g', cap', cur, hv, hg, hh, hn, hm, hs, ht⟩
  · exact .inl h2
  · simp only [Value.slice.injEq, Option.some.injEq, Addr.mk.injEq] at hv
    obtain ⟨⟨rfl, _⟩, _, rfl⟩ := hv
    refine .inr ⟨g, cap, _, rfl, hg, heap_setCell_same w g o _ _ z hh, hn, hm, by simpa using hs, ?_⟩
    rw [Array.toList_setIfInBounds, List.take_set_of_le ho, ht]
/-- An owned row's block, and a place in it. -/
theorem owns_place {w : World} {B T c g n cap : Nat} {xs : List Value} (h : w.ownsRow B T c (.slice (some ⟨g, 0, none⟩) n cap) n xs) (j : Nat) (hj : j < cap * c) : (w.cell? ⟨g, j, none⟩).isSome = true ∧ w.frozen? ⟨g, j, none⟩ = false := by
  rcases h.2 with ⟨h2, _⟩ | ⟨g', cap', cur, hv, hg, hh, hn, hm, hs, ht⟩
  · simp at h2
  · simp only [Value.slice.injEq, Option.some.injEq, Addr.mk.injEq] at hv
    obtain ⟨⟨rfl, _⟩, _, rfl⟩ := hv
    have := cells_of_heap hh j (by omega)
    exact ⟨by rw [this.1]; rfl, this.2⟩
theorem run_clear_one (P : Program) (w : World) (t e ty : TypeId) (z : Value) (vs : List Value) (ht : P.underlying t = some (.slice e)) (hv : ∀ w, (zeroValue e).run P w = .ok z w) (hz : (Builtin.zeroCells z.cells 1).toList = vs) (h1 : ∀ v ∈ vs, v.oneCell' = true) (b o c : Nat)
    (hc : ∀ j, j < vs.length → (w.cell? ⟨b, o + j, none⟩).isSome = true) (hf : ∀ j, j < vs.length → w.frozen? ⟨b, o + j, none⟩ = false) :
    (Builtin.clear_ #[t] ty #[.slice (some ⟨b, o, none⟩) 1 c]).run P w = .ok (.tuple #[]) (w.setCells b o vs) := by
  have hst := run_storeCells_cells (P := P) b o vs 0 w (by simpa using hc) (by simpa using hf) h1
  simp only [Nat.add_zero] at hst
  simp [Builtin.clear_, run_underlying ht, hv, hz, hst]
theorem step_append_in {P : Program} {w : World} {ops : Array Oper} {o : Oper} {a : Act} {K : Act → World → Prop} {Q : Exit → Act → World → Prop} {E : Prop} (hgd : o.guard = none) (s x : Operand) (t : TypeId)
    (ho : o.op = .call { callee := .builtin .append, args := #[s, x], argTypes := #[t, t] })
    (base : Nat) (e : TypeId) (i : TypeInfo) (size : Nat) (ht : P.underlying t = some (.slice e)) (hi : P.info? e = some i) (hsize : i.size = size)
    (g n cap : Nat) (xs : List Value) (hs : a.eval s = .slice (some ⟨g, 0, none⟩) n cap) (hown : w.ownsRow base e size (.slice (some ⟨g, 0, none⟩) n cap) n xs)
    (ad : Addr) (m c : Nat) (news : List Value) (hx : a.eval x = .slice (some ad) m c) (hl : news.length = m * size) (hnews : ∀ j u, news[j]? = some u → w.cell? (ad.add j) = some u) (h1 : ∀ u ∈ news, u.oneCell' = true)
    (hroom : n + m ≤ cap)
    (h : ∀ w', w'.ownsRow base e size (.slice (some ⟨g, 0, none⟩) (n + m) cap) (n + m) (xs ++ news) → w.grownBy w' (some g) → K (a.put o.dst (.slice (some ⟨g, 0, none⟩) (n + m) cap)) w') :
    if Region.wanted o (yielded ops a.tmps) = true then Oper.wp P o a w K Q else E := by
  have hw : Region.wanted o (yielded ops a.tmps) = true := by simp [Region.wanted, hgd]
  rw [if_pos hw]
  exact wp_append_own_spare w s x t ho base e i size ht hi hsize g n cap xs hs hown ad m c news hx hl hnews h1 hroom h

/-- nil, or in some block. -/
def NilOr (v : Value) (n : Nat) : Prop := v = .slice none 0 0 ∨ ∃ g o cap, v = .slice (some ⟨g, o, none⟩) n cap
theorem NilOr.of_owns {w : World} {B T c n : Nat} {v : Value} {xs : List Value} (h : w.ownsRow B T c v n xs) : NilOr v n := by
  rcases h.2 with ⟨rfl, _⟩ | ⟨g, cap, cur, rfl, _⟩
  · exact .inl rfl
  · exact .inr ⟨g, 0, cap, rfl⟩
theorem zeros4 : (Builtin.zeroCells (Value.agg #[.int .i64 0, .int .i64 0, .int .i64 0, .int .i64 0]).cells 1).toList = [.int .i64 0, .int .i64 0, .int .i64 0, .int .i64 0] := by simp [Builtin.zeroCells, Value.cells, Array.range, Array.ofFn, go_sem]; rfl
theorem one4 : ∀ u ∈ [Value.int IntKind.i64 0, .int .i64 0, .int .i64 0, .int .i64 0], u.oneCell' = true := by
  intro u hu
  rcases List.mem_cons.1 hu with rfl | hu
  · rfl
  · rcases List.mem_cons.1 hu with rfl | hu
    · rfl
    · rcases List.mem_cons.1 hu with rfl | hu
      · rfl
      · rw [List.mem_singleton.1 hu]; rfl
theorem zeroAc (v : World) : (zeroValue 203).run Try.prog v = .ok (.agg #[.int .i64 0, .int .i64 0, .int .i64 0, .int .i64 0]) v := by simp [go_sem]
theorem undStk : Try.prog.underlying 143 = some (.slice 203) := Try.underlying143

set_option maxRecDepth 100000 in
set_option maxHeartbeats 4000000 in
theorem cloneStack_any (v : Value) (l : List Ac) (w : World) (hl : l.length ≤ 1048576) (hv : NilOr v l.length) (h : RdN w v l.length (flatAc l)) :
    Calls Try.prog 204 #[v] w fun e w' => ∃ a c, e = .returned (.slice a l.length c) ∧ w'.ownsRow w.heap.size 203 4 (.slice a l.length c) l.length (flatAc l) ∧ Below w.heap.size w w' := by
  obtain ⟨i0, hi, hz0, hz1, hz2⟩ := info_parts info_ac
  rcases hv with rfl | ⟨g, o, cap, rfl⟩
  · have h0 : l.length = 0 := by
      obtain ⟨a, c, hv, _⟩ := h
      simp only [Value.slice.injEq] at hv
      exact hv.2.1.symm
    obtain rfl := List.eq_nil_of_length_eq_zero h0
    clear h hl h0 hi hz0 hz1 hz2
    have hnil : ∀ v, (Go.binOp .eql 143 (.slice none 0 0) (.slice none 0 0)).run Try.prog v = .ok (.bool true) v := fun v => Lib.run_eql_slice_nil v _ _ none 0 0 0 0 undStk
    go_enter Try.func204, Try.ntmps204
    go_wp2
    go_ret
    exact ⟨none, 0, rfl, ⟨rfl, .inl ⟨rfl, rfl⟩⟩, Below.refl _ _⟩
  · have HN := Lib.hid (rdN_news (flatAc_len l) h _ (below_alloc1 w (.cells #[] 203)))
    have HL := Lib.hid (flatAc_len l)
    have HLit := Lib.hid (World.ownsRow_lit (e := 203) (size := 4) w #[] 0 (Nat.le_refl _) (by simp [maxLen]) rfl)
    have HA := Lib.hid (below_alloc1 w (.cells #[] 203))
    obtain ⟨n, hn⟩ : ∃ n, n = l.length := ⟨_, rfl⟩
    rw [← hn] at hl HL ⊢
    have b63 : 0 + n ≤ maxLen := by unfold maxLen; omega
    have b47 : (0 + n) * 32 ≤ 140737488355328 := by omega
    clear h hn
    have hnil : ∀ v, (Go.binOp .eql 143 (.slice (some ⟨g, o, none⟩) n cap) (.slice none 0 0)).run Try.prog v = .ok (.bool false) v := fun v => Lib.run_eql_slice_nil v _ _ (some ⟨g, o, none⟩) n cap 0 0 undStk
    go_enter Try.func204, Try.ntmps204
    go_wp2_with (at_builtin; refine wpList_append_own _ rfl _ _ 143 rfl w.heap.size 203 i0 (.agg #[.int .i64 0, .int .i64 0, .int .i64 0, .int .i64 0]) 4 32 undStk hi hz0 hz1 hz2 rfl (by decide) _ _ _ rfl HLit.out ⟨g, o, none⟩ n cap (flatAc l) rfl HL.out HN.out (flatAc_one _) b63 b47 (by simp) ?_)
    intro v' w1 hown hgrow _
    try simp only [Nat.zero_add, List.nil_append] at hown
    obtain ⟨a1, c1, rfl⟩ := owns_shape hown
    have HB1 := Lib.hid (show Below w.heap.size w w1 from Below.grown HA.out hgrow (by simp) (fun q hq => by simp [Value.ownBlock] at hq; omega))
    have HO1 := Lib.hid hown
    clear hown hgrow b63 b47
    go_wp2
    go_ret
    exact ⟨a1, c1, rfl, HO1.out, HB1.out⟩

set_option maxRecDepth 100000 in
set_option maxHeartbeats 8000000 in
theorem delStack_any (B g cap : Nat) (l : List Ac) (i : Nat) (p q : Int) (w : World) (hp : p = i) (hq : q = (i : Int) + 1) (hi : i < l.length) (hl : l.length ≤ 1048576) (h : w.ownsRow B 203 4 (.slice (some ⟨g, 0, none⟩) l.length cap) l.length (flatAc l)) :
    Calls Try.prog 206 #[.slice (some ⟨g, 0, none⟩) l.length cap, .int .i64 p, .int .i64 q] w fun e w' => e = .returned (.slice (some ⟨g, 0, none⟩) (l.length - 1) cap) ∧
      w'.ownsRow B 203 4 (.slice (some ⟨g, 0, none⟩) (l.length - 1) cap) (l.length - 1) (flatAc (l.eraseIdx i)) ∧ w.grownBy w' (some g) := by
  subst hp hq
  obtain ⟨i0, hi0, hz0, hz1, hz2⟩ := info_parts info_ac
  have hcap : l.length ≤ cap ∧ cap ≤ maxLen := by
    rcases h.2 with ⟨e, _⟩ | ⟨g, cap', cur, e, _, _, h2, h3, _⟩
    · simp at e
    · simp only [Value.slice.injEq] at e
      obtain ⟨_, _, rfl⟩ := e
      exact ⟨h2, h3⟩
  have hO0 : w.ownsRow B 203 4 (.slice (some ⟨g, 0, none⟩) i cap) i (flatAc (l.take i)) := by
    refine ⟨by rw [flatAc_len, List.length_take]; omega, ?_⟩
    rcases h.2 with ⟨e, _⟩ | ⟨g, cap', cur, e, h1, h2, h3, h4, h5, h6⟩
    · simp at e
    · simp only [Value.slice.injEq, Option.some.injEq, Addr.mk.injEq] at e
      obtain ⟨⟨rfl, _⟩, _, rfl⟩ := e
      refine .inr ⟨_, cap, cur, rfl, h1, h2, by omega, h4, h5, ?_⟩
      rw [flatAc_take l i (by omega), ← h6, List.take_take, Nat.min_eq_left (by omega)]
  have hn2 := owned_news h ((i + 1) * 4) (flatAc (l.drop (i + 1))) (fun q u hq => by
    rw [flatAc_drop l (i + 1) (by omega), List.getElem?_drop] at hq; exact hq)
  have hl2 : (flatAc (l.drop (i + 1))).length = (l.length - (i + 1)) * 4 := by rw [flatAc_len, List.length_drop]
  obtain ⟨n, hnl⟩ : ∃ n, n = l.length := ⟨_, rfl⟩
  have HN2 := Lib.hid hn2
  have HL2 := Lib.hid hl2
  have HER := Lib.hid (eraseA_flat l i)
  have HO := Lib.hid hO0
  rw [← hnl] at HL2 hi hl hcap h ⊢
  obtain ⟨hc1, hc2⟩ := hcap
  unfold maxLen at hc2
  clear hn2 hl2 hnl h hO0
  obtain ⟨m, hm⟩ : ∃ m, m = n - (i + 1) := ⟨_, rfl⟩
  rw [← hm] at HL2
  have hm1 : n - (i + 1) = m := hm.symm
  have hm2 : n - (i + m) = 1 := by omega
  have hroom : i + m ≤ cap := by omega
  have hlast : (i + m) * 4 + 4 ≤ cap * 4 := by omega
  have HNM := Lib.hid (show i + m = n - 1 by omega)
  have HROOM := Lib.hid hroom
  have HLAST := Lib.hid hlast
  have hkk : (i : Int) + 1 ≤ (n : Int) := by omega
  have hkc : (i : Int) ≤ (cap : Int) := by omega
  have hkn2 : (i : Int) ≤ (n : Int) := by omega
  have hkc3 : (n : Int) ≤ (cap : Int) := by omega
  have hkc2 : (i : Int) ≤ (i : Int) + 1 := by omega
  have hk02 : (0 : Int) ≤ (i : Int) + 1 := by omega
  have hne : ¬ (i : Int) = (i : Int) + 1 := by omega
  have him1 : (i : Int) + (m : Int) ≤ (n : Int) := by omega
  have him0 : (0 : Int) ≤ (i : Int) + (m : Int) := by omega
  have HB := Lib.hid (Below.refl w.heap.size w)
  clear hm hlast hroom
  go_enter Try.func206, Try.ntmps206
  go_upto_region 5 with (fail)
  by_cases hcl : cap = i + 1
  · subst hcl
    obtain rfl : m = 0 := by omega
    obtain rfl : n = i + 1 := by omega
    have hii : ¬ i + 1 = i := by omega
    have hsub : i + 1 - i = 1 := by omega
    have HN3 := Lib.hid (show ∀ w', Below w.heap.size w w' → ∀ q u, (flatAc (l.drop (i + 1)))[q]? = some u → w'.cell? ((⟨g, 0, none⟩ : Addr).add q) = some u from fun _ _ q u hq => by have h0 := (List.getElem?_eq_some_iff.mp hq).1; rw [HL2.out] at h0; omega)
    go_region_law ((refine step_append_in (by rfl) (.tmp 22) (.tmp 25) 143 (by rfl) B 203 i0 4 undStk hi0 hz1 g i (i + 1) (flatAc (l.take i)) (by rfl) (owns_below HO.out (by first | exact (Below.refl _ _) | exact (Below.refl _ _).drew | exact (Below.refl _ _).drew.drew)) ⟨g, 0, none⟩ 0 _ (flatAc (l.drop (i + 1))) (by rfl) HL2.out (HN3.out _ (by first | exact HB.out | exact HB.out.drew | exact HB.out.drew.drew)) (flatAc_one _) HROOM.out ?_; intro w1 hown1 hgrow1; have hg1 : w.grownBy w1 (some g) := (by first | exact hgrow1 | exact grown_trans (grown_drewN w 1 _) hgrow1); rw [HER.out] at hown1; have HO1 := Lib.hid hown1; have HG1 := Lib.hid hg1; clear hown1 hgrow1 hg1))
    all_goals
      have hcl1 : ∀ ty c, (Builtin.clear_ #[143] ty #[.slice (some ⟨g, i * 4, none⟩) 1 c]).run Try.prog w1 = .ok (.tuple #[]) (w1.setCells g (i * 4) [.int .i64 0, .int .i64 0, .int .i64 0, .int .i64 0]) := fun ty c => run_clear_one _ w1 _ _ ty _ [.int .i64 0, .int .i64 0, .int .i64 0, .int .i64 0] undStk zeroAc zeros4 one4 g (i * 4) _ (fun j hj => (owns_place HO1.out _ (by simp at hj; have := HLAST.out; omega)).1) (fun j hj => (owns_place HO1.out _ (by simp at hj; have := HLAST.out; omega)).2)
      have hcl2 : ∀ ty c, (Builtin.clear_ #[143] ty #[.slice (some ⟨g, i * 4, none⟩) 1 c]).run Try.prog w1.drew = .ok (.tuple #[]) (w1.drew.setCells g (i * 4) [.int .i64 0, .int .i64 0, .int .i64 0, .int .i64 0]) := fun ty c => run_clear_one _ w1.drew _ _ ty _ [.int .i64 0, .int .i64 0, .int .i64 0, .int .i64 0] undStk zeroAc zeros4 one4 g (i * 4) _ (fun j hj => (owns_place (owns_below HO1.out (Below.refl _ _).drew) _ (by simp at hj; have := HLAST.out; omega)).1) (fun j hj => (owns_place (owns_below HO1.out (Below.refl _ _).drew) _ (by simp at hj; have := HLAST.out; omega)).2)
      go_wp2
      go_ret
      rw [← HNM.out]
      first
        | exact ⟨rfl, owns_beyond _ (owns_beyond _ (owns_beyond _ (owns_beyond _ HO1.out (by omega)) (by omega)) (by omega)) (by omega), grown_trans (grown_trans (grown_trans (grown_trans HG1.out (grown_set _ _ _ _)) (grown_set _ _ _ _)) (grown_set _ _ _ _)) (grown_set _ _ _ _)⟩
        | exact ⟨rfl, owns_beyond _ (owns_beyond _ (owns_beyond _ (owns_beyond _ (owns_below HO1.out (Below.refl _ _).drew) (by omega)) (by omega)) (by omega)) (by omega), grown_trans (grown_trans (grown_trans (grown_trans (grown_trans HG1.out (grown_drewN w1 1 _)) (grown_set _ _ _ _)) (grown_set _ _ _ _)) (grown_set _ _ _ _)) (grown_set _ _ _ _)⟩
  · go_region_law ((refine step_append_in (by rfl) (.tmp 22) (.tmp 25) 143 (by rfl) B 203 i0 4 undStk hi0 hz1 g i cap (flatAc (l.take i)) (by rfl) (owns_below HO.out (by first | exact (Below.refl _ _) | exact (Below.refl _ _).drew | exact (Below.refl _ _).drew.drew)) ⟨g, (i + 1) * 4, none⟩ m _ (flatAc (l.drop (i + 1))) (by rfl) HL2.out (HN2.out _ (by first | exact HB.out | exact HB.out.drew | exact HB.out.drew.drew)) (flatAc_one _) HROOM.out ?_; intro w1 hown1 hgrow1; have hg1 : w.grownBy w1 (some g) := (by first | exact hgrow1 | exact grown_trans (grown_drewN w 1 _) hgrow1); rw [HER.out] at hown1; have HO1 := Lib.hid hown1; have HG1 := Lib.hid hg1; clear hown1 hgrow1 hg1))
    all_goals
      have hcl1 : ∀ ty c, (Builtin.clear_ #[143] ty #[.slice (some ⟨g, (i + m) * 4, none⟩) 1 c]).run Try.prog w1 = .ok (.tuple #[]) (w1.setCells g ((i + m) * 4) [.int .i64 0, .int .i64 0, .int .i64 0, .int .i64 0]) := fun ty c => run_clear_one _ w1 _ _ ty _ [.int .i64 0, .int .i64 0, .int .i64 0, .int .i64 0] undStk zeroAc zeros4 one4 g ((i + m) * 4) _ (fun j hj => (owns_place HO1.out _ (by simp at hj; have := HLAST.out; omega)).1) (fun j hj => (owns_place HO1.out _ (by simp at hj; have := HLAST.out; omega)).2)
      have hcl2 : ∀ ty c, (Builtin.clear_ #[143] ty #[.slice (some ⟨g, (i + m) * 4, none⟩) 1 c]).run Try.prog w1.drew = .ok (.tuple #[]) (w1.drew.setCells g ((i + m) * 4) [.int .i64 0, .int .i64 0, .int .i64 0, .int .i64 0]) := fun ty c => run_clear_one _ w1.drew _ _ ty _ [.int .i64 0, .int .i64 0, .int .i64 0, .int .i64 0] undStk zeroAc zeros4 one4 g ((i + m) * 4) _ (fun j hj => (owns_place (owns_below HO1.out (Below.refl _ _).drew) _ (by simp at hj; have := HLAST.out; omega)).1) (fun j hj => (owns_place (owns_below HO1.out (Below.refl _ _).drew) _ (by simp at hj; have := HLAST.out; omega)).2)
      go_wp2
      go_ret
      rw [← HNM.out]
      first
        | exact ⟨rfl, owns_beyond _ (owns_beyond _ (owns_beyond _ (owns_beyond _ HO1.out (by omega)) (by omega)) (by omega)) (by omega), grown_trans (grown_trans (grown_trans (grown_trans HG1.out (grown_set _ _ _ _)) (grown_set _ _ _ _)) (grown_set _ _ _ _)) (grown_set _ _ _ _)⟩
        | exact ⟨rfl, owns_beyond _ (owns_beyond _ (owns_beyond _ (owns_beyond _ (owns_below HO1.out (Below.refl _ _).drew) (by omega)) (by omega)) (by omega)) (by omega), grown_trans (grown_trans (grown_trans (grown_trans (grown_trans HG1.out (grown_drewN w1 1 _)) (grown_set _ _ _ _)) (grown_set _ _ _ _)) (grown_set _ _ _ _)) (grown_set _ _ _ _)⟩
end Go.Proofs.Yteljmfdlegohbaa

namespace Go.Proofs.Yteljmfdlegohbaa
open Go.RowKit

/-- The moves of a kind, as numbers of functions. -/
def mvF (k : Int) : List FuncId := if k = 0 then [187, 188] else if k = 1 then [187] else if k = 2 then [188] else []
def mvV (f : FuncId) : Value := .func (.func f) #[] #[]

set_option maxRecDepth 100000 in
theorem pressOf_any (k c m : Int) (w : World) : Calls Try.prog 163 #[stv k c m] w fun e w' => e = .returned (acv 2 c m 0) ∧ Below w.heap.size w w' := by
  obtain ⟨V, hV⟩ : ∃ V, V = (w.alloc (.cells #[.int .i64 k, .int .i64 c, .int .i64 m] 136)).alloc (.cells #[.int .i64 0, .int .i64 0, .int .i64 0, .int .i64 0] 203) := ⟨_, rfl⟩
  have hX : Bxd V w.heap.size [.int .i64 k, .int .i64 c, .int .i64 m] := by rw [hV]; exact (Bxd.new _ _ _).below ((Below.refl _ _).alloc (Nat.le_refl _) _) (by simp)
  have hG : V.heap[w.heap.size + 1]? = some (.cells #[.int .i64 0, .int .i64 0, .int .i64 0, .int .i64 0] 203 (0, 0)) := by rw [hV]; have := heap_alloc_new (w.alloc (.cells #[.int .i64 k, .int .i64 c, .int .i64 m] 136)) (.cells #[.int .i64 0, .int .i64 0, .int .i64 0, .int .i64 0] 203); simpa using this
  have hB : Below w.heap.size w V := by rw [hV]; exact ((Below.refl _ _).alloc (Nat.le_refl _) _).alloc (by simp) _
  have hS : w.heap.size + 1 < V.heap.size := by rw [hV]; simp
  have HV2 := Lib.hid hV
  have HX0 := Lib.hid hX
  have HG0 := Lib.hid hG
  have HB0 := Lib.hid hB
  have HS0 := Lib.hid hS
  clear hV hX hG hB hS
  go_enter Try.func163, Try.ntmps163
  go_upto_region 1 with (fail)
  rw [← HV2.out]
  have c0 := HX0.out.at 0 _ rfl
  have c1 := HX0.out.at 1 _ rfl
  have c2 := HX0.out.at 2 _ rfl
  obtain ⟨y0, q0⟩ := cells_of_heap HG0.out 0 (by simp)
  obtain ⟨y1, q1⟩ := cells_of_heap HG0.out 1 (by simp)
  obtain ⟨y2, q2⟩ := cells_of_heap HG0.out 2 (by simp)
  obtain ⟨y3, q3⟩ := cells_of_heap HG0.out 3 (by simp)
  go_wp2
  clear c0 c1 c2 y0 y1 y2 y3 q0 q1 q2 q3
  obtain ⟨wf, hwf⟩ : ∃ x, x = putW (V) (w.heap.size + 1) 0 [.int .i64 2, .int .i64 c, .int .i64 m, .int .i64 0] := ⟨_, rfl⟩
  have kf := putW_all [.int .i64 2, .int .i64 c, .int .i64 m, .int .i64 0] HG0.out rfl
  have bf := putW_below (b := w.heap.size + 1) (by first | omega | simp) [.int .i64 2, .int .i64 c, .int .i64 m, .int .i64 0] 0 _ HB0.out
  rw [← hwf] at kf bf
  have cf := hwf.symm
  simp only [putW, Nat.reduceAdd] at cf
  rw [cf]
  clear cf hwf
  have f0 := (cells_of_heap kf 0 (by simp)).1
  have f1 := (cells_of_heap kf 1 (by simp)).1
  have f2 := (cells_of_heap kf 2 (by simp)).1
  have f3 := (cells_of_heap kf 3 (by simp)).1
  simp only [List.getElem_toArray, List.getElem_cons_zero, List.getElem_cons_succ] at f0 f1 f2 f3
  refine bodyPost_ret (v := acv 2 c m 0) (by simp [results, Try.results163, go_sem, f0, f1, f2, f3]) rfl ⟨rfl, bf⟩

/-- What movesOf returns: a row of functions. -/
def MvO (l : List FuncId) (w : World) (u : Value) (w' : World) : Prop := ∃ a c, u = .slice a l.length c ∧ (∀ w'', (∀ i, w.heap.size ≤ i → w''.heap[i]? = w'.heap[i]?) → Rd w'' (.slice a l.length c) (l.map mvV)) ∧ (∀ p, a = some p → w.heap.size ≤ p.block) ∧ Below w.heap.size w w'
theorem rd_lit (w : World) (vs : List Value) (t : TypeId) (n : Nat) (hn : n = vs.length) : ∀ w'' : World, (∀ i, w.heap.size ≤ i → w''.heap[i]? = (w.alloc (.cells vs.toArray t)).heap[i]?) → Rd w'' (.slice (some ⟨w.heap.size, 0, none⟩) n n) vs := by
  subst hn
  intro w'' h
  have hh : w''.heap[w.heap.size]? = some (.cells vs.toArray t (0, 0)) := (h _ (Nat.le_refl _)).trans (heap_alloc_new w _)
  refine ⟨_, vs.length, rfl, .inr ⟨w.heap.size, 0, rfl, (Array.getElem?_eq_some_iff.mp hh).1, fun j hj => ?_⟩⟩
  rw [Nat.zero_add]
  have := (cells_of_heap hh j (by simpa using hj)).1
  simpa using this
set_option maxRecDepth 100000 in
theorem movesOf_any (k : Int) (w : World) : Calls Try.prog 164 #[.int .i64 k] w fun e w' => ∃ u, e = .returned u ∧ MvO (mvF k) w u w' := by
  by_cases h0 : k = 0
  · subst h0
    go_enter Try.func164, Try.ntmps164
    go_wp2
    go_ret
    exact ⟨_, rfl, _, _, rfl, rd_lit w [mvV 187, mvV 188] _ 2 rfl, fun p hp => by rw [← Option.some.inj hp]; exact Nat.le_refl _, below_alloc1 _ _⟩
  · by_cases h1 : k = 1
    · subst h1
      go_enter Try.func164, Try.ntmps164
      go_wp2
      go_ret
      exact ⟨_, rfl, _, _, rfl, rd_lit w [mvV 187] _ 1 rfl, fun p hp => by rw [← Option.some.inj hp]; exact Nat.le_refl _, below_alloc1 _ _⟩
    · by_cases h2 : k = 2
      · subst h2
        go_enter Try.func164, Try.ntmps164
        go_wp2
        go_ret
        exact ⟨_, rfl, _, _, rfl, rd_lit w [mvV 188] _ 1 rfl, fun p hp => by rw [← Option.some.inj hp]; exact Nat.le_refl _, below_alloc1 _ _⟩
      · have e : mvF k = [] := by rw [mvF, if_neg h0, if_neg h1, if_neg h2]
        rw [e]
        clear e
        go_enter Try.func164, Try.ntmps164
        go_wp2
        go_ret
        exact ⟨_, rfl, _, _, rfl, fun _ _ => ⟨none, 0, rfl, .inl rfl⟩, fun p hp => by simp at hp, Below.refl _ _⟩

/-- What a move returns: nil and false, or the list in memory of its own and true. -/
def MoveO (o : Option (List Ac)) (w : World) (e : Ending) (w' : World) : Prop :=
  (match o with
   | none => e = .returned (.tuple #[.slice none 0 0, .bool false])
   | some l => ∃ g c, e = .returned (.tuple #[.slice (some ⟨g, 0, none⟩) l.length c, .bool true]) ∧ w'.ownsRow w.heap.size 203 4 (.slice (some ⟨g, 0, none⟩) l.length c) l.length (flatAc l)) ∧ Below w.heap.size w w'
def putV (l : List Ac) (a : Ac) : Option (List Ac) := if 0 ≤ fiAI l a then none else some (l ++ [a])
def takeV (l : List Ac) (a : Ac) : Option (List Ac) := if 0 ≤ fiAI l a then some (l.eraseIdx (fiA l a)) else none

theorem cloneStack_n (v : Value) (l : List Ac) (n : Nat) (w : World) (hn : n = l.length) (hl : l.length ≤ 1048576) (hv : NilOr v l.length) (h : RdN w v l.length (flatAc l)) :
    Calls Try.prog 204 #[v] w fun e w' => ∃ a c, e = .returned (.slice a n c) ∧ w'.ownsRow w.heap.size 203 4 (.slice a n c) n (flatAc l) ∧ Below w.heap.size w w' := by
  subst hn; exact cloneStack_any v l w hl hv h

set_option maxRecDepth 100000 in
set_option maxHeartbeats 8000000 in
theorem putPress_any (v : Value) (l : List Ac) (k c m n : Int) (w : World) (hl : l.length ≤ 1000000) (hv : NilOr v l.length) (h : RdN w v l.length (flatAc l)) :
    Calls Try.prog 187 #[v, acv k c m n] w (MoveO (putV l ⟨k, c, m, n⟩) w) := by
  obtain ⟨i0, hi, hz0, hz1, hz2⟩ := info_parts info_ac
  obtain ⟨o, ho⟩ : ∃ o, o = decide (0 ≤ fiAI l ⟨k, c, m, n⟩) := ⟨_, rfl⟩
  obtain ⟨R, hR⟩ : ∃ R, R = putV l ⟨k, c, m, n⟩ := ⟨_, rfl⟩
  rw [← hR]
  have HO := Lib.hid ho
  have HR := Lib.hid hR
  have HL := Lib.hid hl
  have HV := Lib.hid hv
  have H := Lib.hid h
  clear ho hR hl hv h
  obtain ⟨W, hW⟩ : ∃ W, W = w.alloc (.cells #[.int .i64 k, .int .i64 c, .int .i64 m, .int .i64 n] 203) := ⟨_, rfl⟩
  have HX0 := Lib.hid (show Bxd W w.heap.size [.int .i64 k, .int .i64 c, .int .i64 m, .int .i64 n] by rw [hW]; exact Bxd.new _ _ _)
  have HB0 := Lib.hid (show Below w.heap.size w W by rw [hW]; exact (Below.refl _ _).alloc (Nat.le_refl _) _)
  have HS0 := Lib.hid (show w.heap.size < W.heap.size by rw [hW]; simp)
  have HW := Lib.hid hW
  clear hW
  go_enter Try.func187, Try.ntmps187
  go_wp2_with fail
  rw [← HW.out]
  have c0 := HX0.out.at 0 _ rfl
  have c1 := HX0.out.at 1 _ rfl
  have c2 := HX0.out.at 2 _ rfl
  have c3 := HX0.out.at 3 _ rfl
  refine (hasStack_q v l k c m n o HO.out _ (by have := HL.out; unfold maxLen; omega) (H.out.below HB0.out)).mono ?_
  rintro e w1 ⟨rfl, hb⟩
  have HB1 := Lib.hid (HB0.out.trans (hb.mono HB0.out.size))
  have HX1 := Lib.hid (HX0.out.below hb HS0.out)
  have HS1 := Lib.hid (Nat.lt_of_lt_of_le HS0.out hb.size)
  clear hb c0 c1 c2 c3
  cases o
  · have h0 : ¬ 0 ≤ fiAI l ⟨k, c, m, n⟩ := of_decide_eq_false HO.out.symm
    have hr : R = some (l ++ [⟨k, c, m, n⟩]) := by rw [HR.out, putV, if_neg h0]
    subst hr
    obtain ⟨N, hN⟩ : ∃ N, N = l.length := ⟨_, rfl⟩
    have HN := Lib.hid hN
    have hl := HL.out
    rw [← hN] at hl
    have hn1 : (l ++ [(⟨k, c, m, n⟩ : Ac)]).length = N + 1 := by simp [hN]
    have HN1 := Lib.hid hn1
    have b63 : N + 1 ≤ maxLen := by unfold maxLen; omega
    have b47 : (N + 1) * 32 ≤ 140737488355328 := by omega
    have B63 := Lib.hid b63
    have B47 := Lib.hid b47
    clear hN h0 b63 b47 hn1
    go_upto_region 3 with (fail)
    obtain ⟨W1, hW1⟩ : ∃ x, x = w1 := ⟨_, rfl⟩
    subst hW1
    have c0 := HX1.out.at 0 _ rfl
    have c1 := HX1.out.at 1 _ rfl
    have c2 := HX1.out.at 2 _ rfl
    have c3 := HX1.out.at 3 _ rfl
    have X0 := Lib.hid (Below.refl W1.heap.size W1)
    have hS1 := HS1.out
    have HRD := Lib.hid (show RdN W1 v l.length (flatAc l) from H.out.below HB1.out)
    go_region_law (first
      | (go_simp; go_at_call 204; refine (cloneStack_n v l N _ HN.out (by have := HL.out; omega) HV.out (HRD.out.below (by first | exact X0.out | exact X0.out.drew | exact X0.out.drew.drew | exact X0.out.drew.drew.drew | exact X0.out.alloc X0.out.size _ | exact (X0.out.alloc X0.out.size _).drew | exact (X0.out.drew.alloc X0.out.size _) | exact (X0.out.drew.alloc X0.out.size _).drew | exact (X0.out.drew.alloc X0.out.size _).drew.drew | exact (X0.out.drew.drew.alloc X0.out.size _) | exact (X0.out.drew.drew.alloc X0.out.size _).drew))).mono ?_; rintro e v1 ⟨a1, q1, rfl, ho1, hb⟩; have hbr : Below W1.heap.size W1 v1 := below_via (by first | exact X0.out | exact X0.out.drew | exact X0.out.drew.drew | exact X0.out.drew.drew.drew | exact X0.out.alloc X0.out.size _ | exact (X0.out.alloc X0.out.size _).drew | exact (X0.out.drew.alloc X0.out.size _) | exact (X0.out.drew.alloc X0.out.size _).drew | exact (X0.out.drew.alloc X0.out.size _).drew.drew | exact (X0.out.drew.drew.alloc X0.out.size _) | exact (X0.out.drew.drew.alloc X0.out.size _).drew) hb; have k0 := (hbr.cell (p := ⟨w.heap.size, 0, none⟩) hS1).trans c0; have k1 := (hbr.cell (p := ⟨w.heap.size, 1, none⟩) hS1).trans c1; have k2 := (hbr.cell (p := ⟨w.heap.size, 2, none⟩) hS1).trans c2; have k3 := (hbr.cell (p := ⟨w.heap.size, 3, none⟩) hS1).trans c3; have HO1 := Lib.hid (owns_base (B' := W1.heap.size) ho1 (Below.size (by first | exact X0.out | exact X0.out.drew | exact X0.out.drew.drew | exact X0.out.drew.drew.drew | exact X0.out.alloc X0.out.size _ | exact (X0.out.alloc X0.out.size _).drew | exact (X0.out.drew.alloc X0.out.size _) | exact (X0.out.drew.alloc X0.out.size _).drew | exact (X0.out.drew.alloc X0.out.size _).drew.drew | exact (X0.out.drew.drew.alloc X0.out.size _) | exact (X0.out.drew.drew.alloc X0.out.size _).drew))); (first | (have KY := Lib.hid (ky_new X0.out.size hb)) | (have KY := Lib.hid (ky_drew X0.out.size hb)) | skip); have X1 := Lib.hid hbr; clear hbr hb ho1)
      | (refine step_append_any8 (by rfl) (.tmp 10) (.tmp 12) 143 (by rfl) W1.heap.size 203 i0 (.agg #[.int .i64 0, .int .i64 0, .int .i64 0, .int .i64 0]) 4 32 undStk hi hz0 hz1 hz2 rfl (by decide) (.slice a1 N q1) N (flatAc l) (by rfl) (owns_below HO1.out (by first | exact (Below.refl _ _) | exact (Below.refl _ _).drew | exact (Below.refl _ _).drew.drew | exact (Below.refl _ _).drew.drew.drew | exact (Below.refl _ _).alloc (Nat.le_refl _) _ | exact ((Below.refl _ _).alloc (Nat.le_refl _) _).drew | exact ((Below.refl _ _).drew.alloc (Nat.le_refl _) _) | exact ((Below.refl _ _).drew.alloc (Nat.le_refl _) _).drew | exact ((Below.refl _ _).drew.alloc (Nat.le_refl _) _).drew.drew | exact ((Below.refl _ _).drew.drew.alloc (Nat.le_refl _) _) | exact ((Below.refl _ _).drew.drew.alloc (Nat.le_refl _) _).drew)) _ 1 _ [.int .i64 k, .int .i64 c, .int .i64 m, .int .i64 n] (by rfl) rfl (by first | exact World.news_of_block (cs := #[.int .i64 k, .int .i64 c, .int .i64 m, .int .i64 n]) (t := 203) (fr := (0, 0)) (heap_alloc_new _ _) | exact World.news_of_block (cs := #[.int .i64 k, .int .i64 c, .int .i64 m, .int .i64 n]) (t := 203) (fr := (0, 0)) KY.out.1) (by intro u hu; simp at hu; rcases hu with rfl | rfl | rfl | rfl <;> rfl) B63.out B47.out (Below.size (by first | exact X1.out | exact X1.out.drew | exact X1.out.drew.drew | exact X1.out.drew.drew.drew | exact X1.out.alloc X1.out.size _ | exact (X1.out.alloc X1.out.size _).drew | exact (X1.out.drew.alloc X1.out.size _) | exact (X1.out.drew.alloc X1.out.size _).drew | exact (X1.out.drew.alloc X1.out.size _).drew.drew | exact (X1.out.drew.drew.alloc X1.out.size _) | exact (X1.out.drew.drew.alloc X1.out.size _).drew)) ?_; intro v2 w2 hown2 hgrow2; have hb2 : Below W1.heap.size W1 w2 := Below.grown (by first | exact X1.out | exact X1.out.drew | exact X1.out.drew.drew | exact X1.out.drew.drew.drew | exact X1.out.alloc X1.out.size _ | exact (X1.out.alloc X1.out.size _).drew | exact (X1.out.drew.alloc X1.out.size _) | exact (X1.out.drew.alloc X1.out.size _).drew | exact (X1.out.drew.alloc X1.out.size _).drew.drew | exact (X1.out.drew.drew.alloc X1.out.size _) | exact (X1.out.drew.drew.alloc X1.out.size _).drew) hgrow2 (Below.size (by first | exact X1.out | exact X1.out.drew | exact X1.out.drew.drew | exact X1.out.drew.drew.drew | exact X1.out.alloc X1.out.size _ | exact (X1.out.alloc X1.out.size _).drew | exact (X1.out.drew.alloc X1.out.size _) | exact (X1.out.drew.alloc X1.out.size _).drew | exact (X1.out.drew.alloc X1.out.size _).drew.drew | exact (X1.out.drew.drew.alloc X1.out.size _) | exact (X1.out.drew.drew.alloc X1.out.size _).drew)) (fun q hq => (HO1.out.lt q hq).1); have HB2 := Lib.hid hb2; have HO2 := Lib.hid hown2; clear hown2 hgrow2 hb2))
    all_goals
      rcases HO2.out.2 with ⟨_, hz⟩ | ⟨g2, c2, cur, rfl, _⟩
      · exact absurd hz (Nat.succ_ne_zero _)
      · go_wp2
        go_ret2
        refine ⟨⟨g2, c2, by rw [HN1.out]; rfl, ?_⟩, by first | exact HB1.out.trans (HB2.out.mono HB1.out.size) | exact (HB1.out.trans (HB2.out.mono HB1.out.size)).drew⟩
        rw [HN1.out, flatAc_snoc]
        first | exact owns_base HO2.out HB1.out.size | exact owns_below (owns_base HO2.out HB1.out.size) (Below.refl _ _).drew
  · have h0 : 0 ≤ fiAI l ⟨k, c, m, n⟩ := of_decide_eq_true HO.out.symm
    have hr : R = none := by rw [HR.out, putV, if_pos h0]
    subst hr
    clear h0
    go_wp2
    go_ret2
    exact ⟨rfl, HB1.out⟩
theorem delStack_n (B g cap n : Nat) (l : List Ac) (i : Nat) (p q : Int) (w : World) (hn : n = l.length) (hp : p = i) (hq : q = (i : Int) + 1) (hi : i < l.length) (hl : l.length ≤ 1048576) (h : w.ownsRow B 203 4 (.slice (some ⟨g, 0, none⟩) n cap) n (flatAc l)) :
    Calls Try.prog 206 #[.slice (some ⟨g, 0, none⟩) n cap, .int .i64 p, .int .i64 q] w fun e w' => e = .returned (.slice (some ⟨g, 0, none⟩) (n - 1) cap) ∧
      w'.ownsRow B 203 4 (.slice (some ⟨g, 0, none⟩) (n - 1) cap) (n - 1) (flatAc (l.eraseIdx i)) ∧ w.grownBy w' (some g) := by
  subst hn; exact delStack_any B g cap l i p q w hp hq hi hl h

set_option maxRecDepth 100000 in
set_option maxHeartbeats 8000000 in
theorem takePress_any (v : Value) (l : List Ac) (k c m n : Int) (w : World) (hl : l.length ≤ 1000000) (hv : NilOr v l.length) (h : RdN w v l.length (flatAc l)) :
    Calls Try.prog 188 #[v, acv k c m n] w (MoveO (takeV l ⟨k, c, m, n⟩) w) := by
  obtain ⟨i, hi⟩ : ∃ i, i = fiAI l ⟨k, c, m, n⟩ := ⟨_, rfl⟩
  obtain ⟨R, hR⟩ : ∃ R, R = takeV l ⟨k, c, m, n⟩ := ⟨_, rfl⟩
  rw [← hR]
  have hfc := fiAI_cases l ⟨k, c, m, n⟩
  rw [← hi] at hfc
  have hr : R = if 0 ≤ i then some (l.eraseIdx (fiA l ⟨k, c, m, n⟩)) else none := by rw [hR, takeV, ← hi]
  have HI := Lib.hid hi
  have HR := Lib.hid hr
  have HL := Lib.hid hl
  have HV := Lib.hid hv
  have H := Lib.hid h
  have HFC := Lib.hid hfc
  clear hi hR hl hv h hr hfc
  obtain ⟨W, hW⟩ : ∃ W, W = w.alloc (.cells #[.int .i64 k, .int .i64 c, .int .i64 m, .int .i64 n] 203) := ⟨_, rfl⟩
  have HX0 := Lib.hid (show Bxd W w.heap.size [.int .i64 k, .int .i64 c, .int .i64 m, .int .i64 n] by rw [hW]; exact Bxd.new _ _ _)
  have HB0 := Lib.hid (show Below w.heap.size w W by rw [hW]; exact (Below.refl _ _).alloc (Nat.le_refl _) _)
  have HS0 := Lib.hid (show w.heap.size < W.heap.size by rw [hW]; simp)
  have HW := Lib.hid hW
  clear hW
  go_enter Try.func188, Try.ntmps188
  go_wp2_with fail
  rw [← HW.out]
  have c0 := HX0.out.at 0 _ rfl
  have c1 := HX0.out.at 1 _ rfl
  have c2 := HX0.out.at 2 _ rfl
  have c3 := HX0.out.at 3 _ rfl
  refine (ixStack_q v l k c m n i HI.out _ (by have := HL.out; unfold maxLen; omega) (H.out.below HB0.out)).mono ?_
  rintro e w1 ⟨rfl, hb⟩
  have HB1 := Lib.hid (HB0.out.trans (hb.mono HB0.out.size))
  clear hb c0 c1 c2 c3
  obtain ⟨p, hp⟩ : ∃ p, p = fiA l ⟨k, c, m, n⟩ := ⟨_, rfl⟩
  rw [← hp] at HR HFC
  clear hp
  rcases HFC.out with ⟨h0, _⟩ | ⟨h0, hpl⟩
  · subst h0
    obtain rfl : R = none := HR.out
    go_wp2
    go_ret2
    exact ⟨rfl, HB1.out⟩
  · subst h0
    obtain rfl : R = some (l.eraseIdx p) := by rw [HR.out, if_pos (by omega)]
    obtain ⟨N, hN⟩ : ∃ N, N = l.length := ⟨_, rfl⟩
    have HN := Lib.hid hN
    have hl := HL.out
    rw [← hN] at hl hpl
    have hp2 : (p : Int) < (N : Int) := by omega
    have hN2 : (N : Int) ≤ 1000000 := by omega
    have HEL := Lib.hid (show (l.eraseIdx p).length = N - 1 by rw [List.length_eraseIdx_of_lt (by omega)]; omega)
    have HPL := Lib.hid hpl
    clear hN
    go_wp2_with fail
    refine (cloneStack_n v l N _ HN.out (by have := HL.out; omega) HV.out (H.out.below HB1.out)).mono ?_
    rintro e w2 ⟨a2, c2, rfl, ho, hb⟩
    have HB2 := Lib.hid (HB1.out.trans (hb.mono HB1.out.size))
    have HO2 := Lib.hid (owns_base ho HB1.out.size)
    clear ho hb
    rcases HO2.out.2 with ⟨_, hz⟩ | ⟨g2, c3, cur, hs, hge, _⟩
    · omega
    · simp only [Value.slice.injEq] at hs
      obtain ⟨rfl, _, rfl⟩ := hs
      go_wp2_with fail
      refine (delStack_n w.heap.size g2 c2 N l p _ _ _ HN.out rfl (by first | rfl | go_num) (by rw [← HN.out]; exact HPL.out) (by have := HL.out; omega) HO2.out).mono ?_
      rintro e w3 ⟨rfl, ho, hg⟩
      have HB3 := Lib.hid (show Below w.heap.size w w3 from Below.grown HB2.out hg HB2.out.size (fun q hq => by simp at hq; omega))
      have HO3 := Lib.hid ho
      clear ho hg hge
      go_wp2
      go_ret2
      exact ⟨⟨g2, c2, by rw [HEL.out]; rfl, by rw [HEL.out]; exact HO3.out⟩, HB3.out⟩

end Go.Proofs.Yteljmfdlegohbaa

namespace Go.Proofs.Yteljmfdlegohbaa
open Go.RowKit

def mvOne (f : FuncId) (l : List Ac) (a : Ac) : Option (List Ac) := if f = 187 then putV l a else takeV l a
/-- What is down behind the first i moves; none if one of them fails. -/
def mvN (a : Ac) (fs : List FuncId) (D : List Ac) : Nat → Option (List Ac)
  | 0 => some D
  | i + 1 => (mvN a fs D i).bind fun l => mvOne (fs.getD i 0) l a
/-- The lists behind the first i moves. -/
def mvT (a : Ac) (fs : List FuncId) (D : List Ac) : Nat → List (List Ac)
  | 0 => []
  | i + 1 => mvT a fs D i ++ [(mvN a fs D (i + 1)).getD []]
theorem mvT_len (a : Ac) (fs : List FuncId) (D : List Ac) : ∀ i, (mvT a fs D i).length = i
  | 0 => rfl
  | i + 1 => by rw [mvT, List.length_append, mvT_len]; rfl
theorem mvN_no {a : Ac} {fs : List FuncId} {D : List Ac} {i : Nat} (h : mvN a fs D i = none) : ∀ m, i ≤ m → mvN a fs D m = none
  | 0, hm => by have : i = 0 := by omega
                subst this; exact h
  | m + 1, hm => by
    rcases Nat.lt_or_ge i (m + 1) with h2 | h2
    · rw [mvN, mvN_no h m (by omega)]; rfl
    · obtain rfl : i = m + 1 := by omega
      exact h
theorem mvOne_len {f : FuncId} {l : List Ac} {a : Ac} {r : List Ac} (h : mvOne f l a = some r) : r.length ≤ l.length + 1 := by
  unfold mvOne putV takeV at h
  split at h
  · split at h
    · exact absurd h (by simp)
    · rw [← Option.some.inj h]; simp
  · split at h
    · rw [← Option.some.inj h]; have := List.length_eraseIdx_le l (fiA l a); omega
    · exact absurd h (by simp)
theorem fiA_snoc {D : List Ac} {a : Ac} (h : ¬ 0 ≤ fiAI D a) : fiA (D ++ [a]) a = D.length := by
  rcases fiAI_cases D a with ⟨_, h2⟩ | ⟨h1, _⟩
  · unfold fiA at h2 ⊢
    rw [List.findIdx_append, h2, if_neg (Nat.lt_irrefl _)]
    have : List.findIdx (eqA a) [a] = 0 := by simp [List.findIdx_cons, eqA]
    rw [this]; simp
  · rw [h1] at h; exact absurd (Int.natCast_nonneg _) h
theorem put_ne_take : ¬ (188 : FuncId) = 187 := by decide
theorem mv_put (l : List Ac) (a : Ac) : mvOne 187 l a = putV l a := if_pos rfl
theorem mv_take (l : List Ac) (a : Ac) : mvOne 188 l a = takeV l a := if_neg put_ne_take
/-- All moves of a step: they fail just where the step may not come; else they lead to what is down behind it. -/
theorem mv_all (d : List Hd) (x : St) (hk : mvF x.k ≠ []) (ha : okAc 2 x.c x.m 0 = true) :
    (okX d x = false → mvN (pA x) (mvF x.k) (dA d) (mvF x.k).length = none) ∧
    (okX d x = true → mvN (pA x) (mvF x.k) (dA d) (mvF x.k).length = some (dA (nxS d x)) ∧ mvT (pA x) (mvF x.k) (dA d) (mvF x.k).length = skX d x) := by
  have hI := fiAI_dA d x
  have hok : okX d x = (inB x.k 0 2 && (true && (decide (x.k = 2) == decide (0 ≤ fiI d x)))) := by rw [okX, ha]
  by_cases h0 : x.k = 0
  · have e : mvF x.k = [187, 188] := by rw [mvF, if_pos h0]
    rw [e]
    have hV : inB x.k 0 2 = true := by rw [h0]; rfl
    have h2 : decide (x.k = 2) = false := by rw [h0]; rfl
    rw [hV, h2] at hok
    by_cases hf : 0 ≤ fiI d x
    · rw [decide_eq_true hf] at hok
      refine ⟨fun _ => mvN_no (i := 1) ?_ 2 (by decide), fun h => by rw [hok] at h; exact absurd h (by decide)⟩
      show mvOne 187 (dA d) (pA x) = none
      rw [mv_put, putV, if_pos (by rw [hI]; exact hf)]
    · rw [decide_eq_false hf] at hok
      have hn : ¬ 0 ≤ fiAI (dA d) (pA x) := by rw [hI]; exact hf
      have e1 : mvN (pA x) [187, 188] (dA d) 1 = some (dA d ++ [pA x]) := by
        show mvOne 187 (dA d) (pA x) = _
        rw [mv_put, putV, if_neg hn]
      have e2 : mvN (pA x) [187, 188] (dA d) 2 = some (dA d) := by
        rw [mvN, e1]
        show mvOne 188 (dA d ++ [pA x]) (pA x) = _
        have h3 := fiA_snoc hn
        rw [mv_take, takeV, fiAI, h3, if_pos (by rw [if_pos (by simp)]; exact Int.natCast_nonneg _)]
        simp [List.eraseIdx_append_of_length_le]
      refine ⟨fun h => by rw [hok] at h; exact absurd h (by decide), fun _ => ⟨?_, ?_⟩⟩
      · show mvN _ _ _ 2 = _
        rw [e2, nxS_zero h0]
      · show mvT _ _ _ 2 = _
        rw [mvT, mvT, mvT, e1, e2, skX, if_pos h0, dA_snoc]
        rfl
  · by_cases h1 : x.k = 1
    · have e : mvF x.k = [187] := by rw [mvF, if_neg h0, if_pos h1]
      rw [e]
      have hV : inB x.k 0 2 = true := by rw [h1]; rfl
      have h2 : decide (x.k = 2) = false := by rw [h1]; rfl
      rw [hV, h2] at hok
      by_cases hf : 0 ≤ fiI d x
      · rw [decide_eq_true hf] at hok
        refine ⟨fun _ => ?_, fun h => by rw [hok] at h; exact absurd h (by decide)⟩
        show mvOne 187 (dA d) (pA x) = none
        rw [mv_put, putV, if_pos (by rw [hI]; exact hf)]
      · rw [decide_eq_false hf] at hok
        have hn : ¬ 0 ≤ fiAI (dA d) (pA x) := by rw [hI]; exact hf
        have e1 : mvN (pA x) [187] (dA d) 1 = some (dA d ++ [pA x]) := by
          show mvOne 187 (dA d) (pA x) = _
          rw [mv_put, putV, if_neg hn]
        refine ⟨fun h => by rw [hok] at h; exact absurd h (by decide), fun _ => ⟨?_, ?_⟩⟩
        · show mvN _ _ _ 1 = _
          rw [e1, nxS_one h1, dA_snoc]
        · show mvT _ _ _ 1 = _
          rw [mvT, mvT, e1, skX, if_neg h0, if_pos h1, dA_snoc]
          rfl
    · by_cases h2 : x.k = 2
      · have e : mvF x.k = [188] := by rw [mvF, if_neg h0, if_neg h1, if_pos h2]
        rw [e]
        have hV : inB x.k 0 2 = true := by rw [h2]; rfl
        have h3 : decide (x.k = 2) = true := by rw [h2]; rfl
        rw [hV, h3] at hok
        by_cases hf : 0 ≤ fiI d x
        · rw [decide_eq_true hf] at hok
          have hn : 0 ≤ fiAI (dA d) (pA x) := by rw [hI]; exact hf
          have e1 : mvN (pA x) [188] (dA d) 1 = some ((dA d).eraseIdx (fiH d x)) := by
            show mvOne 188 (dA d) (pA x) = _
            rw [mv_take, takeV, if_pos hn, fiA_dA]
          refine ⟨fun h => by rw [hok] at h; exact absurd h (by decide), fun _ => ⟨?_, ?_⟩⟩
          · show mvN _ _ _ 1 = _
            rw [e1, nxS_two h2, dA_erase]
          · show mvT _ _ _ 1 = _
            rw [mvT, mvT, e1, skX, if_neg h0, if_neg h1, dA_erase]
            rfl
        · rw [decide_eq_false hf] at hok
          refine ⟨fun _ => ?_, fun h => by rw [hok] at h; exact absurd h (by decide)⟩
          show mvOne 188 (dA d) (pA x) = none
          rw [mv_take, takeV, if_neg (by rw [hI]; exact hf)]
      · exact absurd (by rw [mvF, if_neg h0, if_neg h1, if_neg h2]) hk
theorem mvF_no {d : List Hd} {x : St} (h : mvF x.k = []) : okX d x = false := by
  have : inB x.k 0 2 = false := by
    unfold mvF at h
    by_cases h0 : x.k = 0
    · rw [if_pos h0] at h; exact absurd h (by simp)
    · rw [if_neg h0] at h
      by_cases h1 : x.k = 1
      · rw [if_pos h1] at h; exact absurd h (by simp)
      · rw [if_neg h1] at h
        by_cases h2 : x.k = 2
        · rw [if_pos h2] at h; exact absurd h (by simp)
        · exact decide_eq_false (by omega)
  rw [okX, this, Bool.false_and]
theorem mvF_len (k : Int) : (mvF k).length ≤ 2 := by
  unfold mvF
  split
  · simp
  · split
    · simp
    · split <;> simp
theorem mvF_mem (k : Int) {q : Nat} (h : q < (mvF k).length) : (mvF k).getD q 0 = 187 ∨ (mvF k).getD q 0 = 188 := by
  unfold mvF at h ⊢
  split at h
  · rename_i h0; rw [if_pos h0]
    rcases q with _ | _ | q
    · exact .inl rfl
    · exact .inr rfl
    · simp only [List.length_cons, List.length_nil] at h; omega
  · rename_i h0; rw [if_neg h0]
    split at h
    · rename_i h1; rw [if_pos h1]
      rcases q with _ | q
      · exact .inl rfl
      · simp only [List.length_cons, List.length_nil] at h; omega
    · rename_i h1; rw [if_neg h1]
      split at h
      · rename_i h2; rw [if_pos h2]
        rcases q with _ | q
        · exact .inr rfl
        · simp only [List.length_cons, List.length_nil] at h; omega
      · simp at h

theorem info_stk : (Try.prog.info? 143).map (fun i => (i.zero, i.size, i.bytes)) = some (some (.slice none 0 0), 1, 24) := by kernel_rfl
/-- What memory holds while the steps are followed: what is down, and the stacks so far. -/
structure FoW (w : World) (B : Nat) (vd vs : Value) (D : List Ac) (S : List (List Ac)) : Prop where
  nil : NilOr vd D.length
  dn : RdN w vd D.length (flatAc D)
  st : ∃ us fps, OwB Ac.cells w B 143 203 4 vs S.length us S fps
theorem FoW.below {w w' : World} {B : Nat} {vd vs : Value} {D : List Ac} {S : List (List Ac)} (h : FoW w B vd vs D S) (hb : Below w.heap.size w w') : FoW w' B vd vs D S :=
  ⟨h.nil, h.dn.below hb, by obtain ⟨us, fps, h⟩ := h.st; exact ⟨us, fps, h.below hb⟩⟩
theorem FoW.start (w : World) (B : Nat) : FoW w B (.slice none 0 0) (.slice none 0 0) [] [] :=
  ⟨.inl rfl, ⟨none, 0, rfl, .inl rfl⟩, [], [], OwB.start ⟨rfl, .inl ⟨rfl, rfl⟩⟩⟩
/-- The next list is laid and appended to the stacks. -/
theorem FoW.push {w w1 w2 : World} {B g c g2 c2 : Nat} {vs : Value} {l : List Ac} {S : List (List Ac)} {us : List Value} {fps : List (List Nat)} (h : OwB Ac.cells w B 143 203 4 vs S.length us S fps) (hB : B ≤ w.heap.size) (hb : Below w.heap.size w w1)
    (ho : w1.ownsRow w.heap.size 203 4 (.slice (some ⟨g, 0, none⟩) l.length c) l.length (flatAc l))
    (h' : w2.ownsRow B 143 1 (.slice (some ⟨g2, 0, none⟩) (S.length + 1) c2) (S.length + 1) (us ++ [.slice (some ⟨g, 0, none⟩) l.length c])) (hg : w1.grownBy w2 vs.ownBlock) (hat : vs.ownBlock = some g2 ∨ g2 = w1.heap.size) :
    FoW w2 B (.slice (some ⟨g, 0, none⟩) l.length c) (.slice (some ⟨g2, 0, none⟩) (S.length + 1) c2) l (S ++ [l]) := by
  have h1 := h.below hb
  have hf := OwF.mk' ho
  have hd : ∀ b ∈ ownFp (.slice (some ⟨g, 0, none⟩) l.length c), b ∉ ownFp vs ++ fps.flatten := fun b hb1 hb2 => by
    have := (hf.rng b hb1).1
    have := (h.rng b hb2).2
    omega
  have hp := h1.push rfl (owF_base hf hB) hd h' hg hat
  refine ⟨.inr ⟨g, 0, c, rfl⟩, ?_, _, _, by rw [List.length_append]; exact hp⟩
  have ht : Turn w1 w2 (ownFp vs) := by
    unfold ownFp
    rcases hv : vs.ownBlock with _ | q
    · rw [hv] at hg
      exact ⟨hg.os, hg.tape, hg.output, hg.size, fun k hk _ => hg.block k hk (by simp)⟩
    · rw [hv] at hg
      exact Turn.of_grown hg
  exact (hf.turn ht (fun b hb1 hb2 => hd b hb1 (List.mem_append_left _ hb2))).rd
end Go.Proofs.Yteljmfdlegohbaa

namespace Go.Proofs.Yteljmfdlegohbaa
open Go.RowKit

theorem movesOf_n (k : Int) (F : List FuncId) (hF : F = mvF k) (w : World) : Calls Try.prog 164 #[.int .i64 k] w fun e w' => ∃ a c, e = .returned (.slice a F.length c) ∧ (∀ w'', (∀ i, w.heap.size ≤ i → w''.heap[i]? = w'.heap[i]?) → Rd w'' (.slice a F.length c) (F.map mvV)) ∧ (∀ p, a = some p → w.heap.size ≤ p.block) ∧ Below w.heap.size w w' := by
  subst hF
  exact (movesOf_any k w).mono fun e w' ⟨u, he, a, c, hu, hr, hp, hb⟩ => ⟨a, c, by rw [he, hu], hr, hp, hb⟩
/-- The row of moves in memory. -/
def MvW (w : World) (b o : Nat) (F : List FuncId) : Prop := b < w.heap.size ∧ ∀ i, i < F.length → w.cell? ⟨b, o + i, none⟩ = some (mvV (F.getD i 0))
theorem MvW.keep {w w' : World} {b o : Nat} {F : List FuncId} (h : MvW w b o F) (hh : w'.heap[b]? = w.heap[b]?) : MvW w' b o F := by
  have h0 : w.heap[b]? = some (w.heap[b]'h.1) := Array.getElem?_eq_getElem h.1
  refine ⟨(Array.getElem?_eq_some_iff.mp (hh.trans h0)).1, fun i hi => ?_⟩
  have := h.2 i hi
  simp only [World.cell?, hh] at this ⊢
  exact this
theorem MvW.below {w w' : World} {b o : Nat} {F : List FuncId} (h : MvW w b o F) (hb : Below w.heap.size w w') : MvW w' b o F := h.keep (hb.block b h.1)
theorem MvW.of_rd {w : World} {n c B : Nat} {a : Option Addr} {F : List FuncId} (h : Rd w (.slice a n c) (F.map mvV)) (hF : F ≠ []) (hp : ∀ p, a = some p → B ≤ p.block) : ∃ b o, a = some ⟨b, o, none⟩ ∧ B ≤ b ∧ MvW w b o F := by
  rcases h.cases with ⟨h0, _⟩ | ⟨_, b, off, cap, hv, hlt, hc⟩
  · exact absurd (List.map_eq_nil_iff.1 h0) hF
  · simp only [Value.slice.injEq] at hv
    refine ⟨b, off, hv.1, hp _ hv.1, hlt, fun i hi => ?_⟩
    rw [hc i (by simpa using hi)]
    simp [List.getD_eq_getElem?_getD, List.getElem?_eq_getElem hi]
/-- What followMacro returns. -/
def FoO (s : List St) (w : World) (e : Ending) (w' : World) : Prop := ∃ u, e = .returned (.tuple #[u, .bool (okMc s)]) ∧ (okMc s = true → RdS Ac.cells w' u (skN s s.length)) ∧ Below w.heap.size w w'

set_option maxRecDepth 100000 in
set_option maxHeartbeats 16000000 in
theorem followMacro_any (v : Value) (s : List St) (w : World) (hs : s.length ≤ maxLen) (h : RdN w v s.length (flatSt s)) :
    Calls Try.prog 103 #[v] w (FoO s w) := by
  obtain ⟨iS, hi, hz0, hz1, hz2⟩ := info_parts info_stk
  obtain ⟨a, cap, rfl⟩ := RdN.shape h
  obtain ⟨n, hnl⟩ : ∃ n, n = s.length := ⟨_, rfl⟩
  have HNL := Lib.hid hnl
  have H := Lib.hid h
  obtain ⟨R, hR⟩ : ∃ R, R = okMc s := ⟨_, rfl⟩
  have HR := Lib.hid hR
  unfold maxLen at hs
  rw [← hnl] at hs ⊢
  by_cases hn8 : n ≤ 8
  · have hno : ∀ w', Below w.heap.size w w' → R = false → FoO s w (.returned (.tuple #[.slice none 0 0, .bool false])) w' := fun w' hb hr => ⟨_, by rw [← HR.out, hr], fun h => (by rw [← HR.out, hr] at h; exact absurd h (by decide)), hb⟩
    have HNO := Lib.hid hno
    have hn8' : ¬ (8 : Int) < (n : Int) := by omega
    clear h hnl hR hno
    go_enter Try.func103, Try.ntmps103
    go_wp2
    go_loopw [4, 5, 19] (fun dn st i wr => ∃ (j : Nat), j ≤ n ∧ i = .int .i64 j ∧ mcN s j = true ∧ FoW wr w.heap.size dn st (dA (dwN s j)) (skN s j) ∧ Below w.heap.size w wr) (fun _ _ i _ => n - (intOf i).toNat)
    case atStart => exact ⟨0, Nat.zero_le _, rfl, rfl, FoW.start _ _, Below.refl _ _⟩
    case round =>
      obtain ⟨j, hj, rfl, hmc, hf, hb⟩ := hrel
      have HMC := Lib.hid hmc
      clear hmc
      by_cases hlt' : j < n
      · have hjz : j < s.length := by rw [← HNL.out]; exact hlt'
        obtain ⟨b, off, rfl, hlt, s0, s1, s2⟩ := st_at H.out hjz
        have e0 := (hb.cell (p := ⟨b, off + j * 3, none⟩) hlt).trans s0
        have e1 := (hb.cell (p := ⟨b, off + j * 3 + 1, none⟩) hlt).trans s1
        have e2 := (hb.cell (p := ⟨b, off + j * 3 + 2, none⟩) hlt).trans s2
        have hdl := dwN_len s j
        have hsl := skN_len s j
        have hbad : okX (dwN s j) (stD s j) = false → R = false := fun h0 => by rw [HR.out, okMc, mcN_no h0 _ hjz]; rfl
        have hnx : okX (dwN s j) (stD s j) = true → mcN s (j + 1) = true := fun h0 => by rw [mcN, HMC.out, h0]; rfl
        have hdw : dwN s (j + 1) = nxS (dwN s j) (stD s j) := rfl
        have hsk : skN s (j + 1) = skN s j ++ skX (dwN s j) (stD s j) := rfl
        obtain ⟨d, hd⟩ : ∃ d, d = dwN s j := ⟨_, rfl⟩
        obtain ⟨x, hx⟩ : ∃ x, x = stD s j := ⟨_, rfl⟩
        obtain ⟨S, hS⟩ : ∃ S, S = skN s j := ⟨_, rfl⟩
        rw [← hd, ← hx] at hbad hnx hdw hsk
        rw [← hS] at hsk hsl hf
        rw [← hd] at hdl hf
        rw [← hx] at e0 e1 e2
        have hall := fun (hk : mvF x.k ≠ []) (ha : okAc 2 x.c x.m 0 = true) => mv_all d x hk ha
        have hno2 : mvF x.k = [] → R = false := fun hk => hbad (mvF_no hk)
        have hml := mvF_len x.k
        have hmm := fun q (hq : q < (mvF x.k).length) => mvF_mem x.k hq
        obtain ⟨k, c, m⟩ := x
        simp only at e0 e1 e2 hall hno2 hml hmm
        obtain ⟨vo, hvo⟩ : ∃ vo, vo = okAc 2 c m 0 := ⟨_, rfl⟩
        have hacb : vo = false → R = false := fun h0 => hbad (by rw [okX]; show (inB k 0 2 && (okAc 2 c m 0 && _)) = false; rw [← hvo, h0, Bool.false_and, Bool.and_false])
        obtain ⟨D, hD⟩ : ∃ D, D = dA d := ⟨_, rfl⟩
        have hDl : D.length ≤ j := by rw [hD, dA_len]; exact hdl
        obtain ⟨F, hF⟩ : ∃ F, F = mvF k := ⟨_, rfl⟩
        rw [← hD] at hf
        rw [← hF] at hml hmm hno2
        have HVO := Lib.hid hvo
        have HACB := Lib.hid hacb
        have HBad := Lib.hid hbad
        have HNX := Lib.hid hnx
        have HDW := Lib.hid hdw
        have HSK := Lib.hid hsk
        have HALL := Lib.hid hall
        have HNO2 := Lib.hid hno2
        have HML := Lib.hid hml
        have HMM := Lib.hid hmm
        have HD := Lib.hid hD
        have HF := Lib.hid hF
        have HDL := Lib.hid hDl
        have HSL := Lib.hid hsl
        clear s0 s1 s2 hd hx hS hvo hacb hbad hnx hdw hsk hall hno2 hml hmm hD hF hDl hsl hdl
        go_upto_region 8 with (fail)
        obtain ⟨U, hU⟩ : ∃ U, U = wr.alloc (.cells #[.int .i64 k, .int .i64 c, .int .i64 m] 136) := ⟨_, rfl⟩
        obtain ⟨g, hg⟩ : ∃ g, g = wr.heap.size := ⟨_, rfl⟩
        have hu : Below wr.heap.size wr U := by rw [hU]; exact below_alloc1 _ _
        have hgu : U.heap[g]? = some (.cells #[.int .i64 k, .int .i64 c, .int .i64 m] 136 (0, 0)) := by rw [hU, hg]; exact heap_alloc_new _ _
        rw [← hU, ← hg]
        have FU := Lib.hid (hf.below hu)
        have HBU := Lib.hid (hb.trans (hu.mono hb.size))
        have hgs : g < U.heap.size := (Array.getElem?_eq_some_iff.mp hgu).1
        have HGU := Lib.hid hgu
        have HVS := Lib.hid (show ∀ t, u5.ownBlock = some t → t < U.heap.size from fun t ht => by
          obtain ⟨us, fps, hst⟩ := hf.st
          have h1 := (hst.rng t (List.mem_append_left _ (by simp [ownFp, ht]))).2
          have h2 := hu.size
          omega)
        clear hU hg hu hgu hf hb e0 e1 e2
        go_cut [8, 9] (fun sp sm wx => ∃ (y9 : Nat) (a9 : Option Addr) (c9 : Nat), sp = .pointer (some ⟨y9, 0, none⟩) ∧ sm = .slice a9 F.length c9 ∧ wx.heap[y9]? = some (.cells #[.int .i64 2, .int .i64 c, .int .i64 m, .int .i64 0] 203 (0, 0)) ∧ Rd wx (.slice a9 F.length c9) (F.map mvV) ∧ (U.heap.size ≤ y9 ∧ ∀ p, a9 = some p → U.heap.size ≤ p.block) ∧ Below U.heap.size U wx)
        case first =>
          have c0 := (cells_of_heap HGU.out 0 (by simp)).1
          have c1 := (cells_of_heap HGU.out 1 (by simp)).1
          have c2 := (cells_of_heap HGU.out 2 (by simp)).1
          simp only [List.getElem_toArray, List.getElem_cons_zero, List.getElem_cons_succ] at c0 c1 c2
          have n0 : ¬ g = U.heap.size := by omega
          have m0 : ¬ U.heap.size = g := by omega
          have X0 := Lib.hid (Below.refl U.heap.size U)
          go_region_held3 (fun w' => w'.cell? ⟨g, 0, none⟩ = some (.int .i64 k) ∧ w'.cell? ⟨g, 1, none⟩ = some (.int .i64 c) ∧ w'.cell? ⟨g, 2, none⟩ = some (.int .i64 m)) (first | go_keep | simp [go_sem, *])
            (first
              | (go_at_call 163; refine (pressOf_any k c m _).mono ?_; rintro e v1 ⟨rfl, hb⟩; have hbr : Below U.heap.size U v1 := below_via (by first | exact X0.out | exact X0.out.drew | exact X0.out.drew.drew | exact X0.out.alloc X0.out.size _ | exact (X0.out.alloc X0.out.size _).drew | exact (X0.out.alloc X0.out.size _).drew.drew) hb; have kc0 := (hbr.cell (p := ⟨g, 0, none⟩) hgs).trans c0; have kc1 := (hbr.cell (p := ⟨g, 1, none⟩) hgs).trans c1; have kc2 := (hbr.cell (p := ⟨g, 2, none⟩) hgs).trans c2; have n1 : ¬ g = v1.heap.size := (by have := hbr.size; omega); have m1 : ¬ v1.heap.size = g := (by have := hbr.size; omega); (first | (have KY := Lib.hid (ky_new X0.out.size hb)) | (have KY := Lib.hid (ky_drew X0.out.size hb)) | (have KY := Lib.hid (ky_old KY.out hb rfl)) | skip); have X1 := Lib.hid hbr; clear hbr hb)
              | (go_at_call 164; refine (movesOf_n k F HF.out _).mono ?_; rintro e v2 ⟨a9, c9, rfl, hr, hp9, hb⟩; have hbr : Below U.heap.size U v2 := below_via (by first | exact X1.out | exact X1.out.drew | exact X1.out.drew.drew | exact X1.out.alloc X1.out.size _ | exact (X1.out.alloc X1.out.size _).drew | exact (X1.out.alloc X1.out.size _).drew.drew) hb; have kc0 := (hbr.cell (p := ⟨g, 0, none⟩) hgs).trans c0; have kc1 := (hbr.cell (p := ⟨g, 1, none⟩) hgs).trans c1; have kc2 := (hbr.cell (p := ⟨g, 2, none⟩) hgs).trans c2; have n2 : ¬ g = v2.heap.size := (by have := hbr.size; omega); have m2 : ¬ v2.heap.size = g := (by have := hbr.size; omega); (first | (have KY := Lib.hid (ky_new X1.out.size hb)) | (have KY := Lib.hid (ky_drew X1.out.size hb)) | (have KY := Lib.hid (ky_old KY.out hb rfl)) | skip); have HRD := Lib.hid hr; have HP9 := Lib.hid (show ∀ p, a9 = some p → U.heap.size ≤ p.block from fun p h9 => Nat.le_trans (Below.size (B := U.heap.size) (w := U) (by first | exact X1.out | exact X1.out.drew | exact X1.out.drew.drew | exact X1.out.alloc X1.out.size _ | exact (X1.out.alloc X1.out.size _).drew | exact (X1.out.alloc X1.out.size _).drew.drew)) (hp9 p h9)); clear hr hp9; (try (have e0 := cells_of_heap KY.out.1 0 (by simp); have g0 := e0.2; replace e0 := e0.1; have e1 := cells_of_heap KY.out.1 1 (by simp); have g1 := e1.2; replace e1 := e1.1; have e2 := cells_of_heap KY.out.1 2 (by simp); have g2 := e2.2; replace e2 := e2.1; have e3 := cells_of_heap KY.out.1 3 (by simp); have g3 := e3.2; replace e3 := e3.1)); have X2 := Lib.hid hbr; clear hbr hb))
          all_goals
            go_wp2
            go_meet
            have hd1 := (HRD.out v2 (fun _ _ => rfl)).below (below_alloc1 v2 (.cells #[.int .i64 2, .int .i64 c, .int .i64 m, .int .i64 0] 203))
            have hx1 := X2.out.alloc X2.out.size (.cells #[.int .i64 2, .int .i64 c, .int .i64 m, .int .i64 0] 203)
            first
              | with_reducible exact ⟨_, a9, c9, rfl, rfl, heap_alloc_new _ _, hd1, ⟨X2.out.size, HP9.out⟩, hx1⟩
              | with_reducible exact ⟨_, a9, c9, rfl, rfl, heap_alloc_new _ _, hd1.below (Below.refl _ _).drew, ⟨X2.out.size, HP9.out⟩, hx1.drew⟩
              | (have hpa := putW_all [.int .i64 2, .int .i64 c, .int .i64 m, .int .i64 0] KY.out.1 rfl
                 have hpb := putW_below KY.out.2.2 [.int .i64 2, .int .i64 c, .int .i64 m, .int .i64 0] 0 _ X2.out
                 have hpr := HRD.out _ (fun q hq => putW_other (Nat.ne_of_gt (Nat.lt_of_lt_of_le KY.out.2.1 hq)) [.int .i64 2, .int .i64 c, .int .i64 m, .int .i64 0] 0 v2)
                 simp only [putW, Nat.reduceAdd] at hpa hpb hpr
                 first
                   | with_reducible exact ⟨_, a9, c9, rfl, rfl, hpa, hpr, ⟨KY.out.2.2, HP9.out⟩, hpb⟩
                   | with_reducible exact ⟨_, a9, c9, rfl, rfl, hpa, hpr.below (Below.refl _ _).drew, ⟨KY.out.2.2, HP9.out⟩, hpb.drew⟩)
        case rest =>
          obtain ⟨y9, a9, c9, rfl, rfl, hy, hr, ⟨hy9, hp9⟩, hb⟩ := hcut
          have HY9 := Lib.hid hy9
          have HP9 := Lib.hid hp9
          clear hy9 hp9
          obtain ⟨W4, hEq⟩ : ∃ x, x = wc := ⟨_, rfl⟩
          rw [← hEq] at hy hr hb ⊢
          clear hEq
          have F4 := Lib.hid (FU.out.below hb)
          have HB4 := Lib.hid (HBU.out.trans (hb.mono HBU.out.size))
          have HY4 := Lib.hid hy
          have HR4 := Lib.hid hr
          have HL4 := Lib.hid (show y9 < W4.heap.size from (Array.getElem?_eq_some_iff.mp hy).1)
          clear hy hr hb FU HBU HGU
          have c0 := (cells_of_heap HY4.out 0 (by simp)).1
          have c1 := (cells_of_heap HY4.out 1 (by simp)).1
          have c2 := (cells_of_heap HY4.out 2 (by simp)).1
          have c3 := (cells_of_heap HY4.out 3 (by simp)).1
          simp only [List.getElem_toArray, List.getElem_cons_zero, List.getElem_cons_succ] at c0 c1 c2 c3
          go_wp2_with fail
          refine (implIsAction_q 2 c m 0 vo HVO.out _).mono ?_
          rintro e w5 ⟨rfl, hb⟩
          have F5 := Lib.hid (F4.out.below hb)
          have HB5 := Lib.hid (HB4.out.trans (hb.mono HB4.out.size))
          have HY5 := Lib.hid ((hb.block y9 HL4.out).trans HY4.out)
          have HR5 := Lib.hid (HR4.out.below hb)
          have HL5 := Lib.hid (Nat.lt_of_lt_of_le HL4.out hb.size)
          clear hb F4 HB4 HY4 HR4 HL4 c0 c1 c2 c3
          cases vo
          · have hr := HACB.out rfl
            go_wp2
            go_ret2
            exact HNO.out _ HB5.out hr
          · rcases hF0 : F with _ | ⟨f1, F1⟩
            · have hr := HNO2.out hF0
              subst hF0
              go_wp2
              go_ret2
              exact HNO.out _ HB5.out hr
            · rw [← hF0]
              have hlp : ¬ F.length = 0 := by rw [hF0]; simp
              have HNE := Lib.hid (show mvF k ≠ [] by rw [← HF.out, hF0]; simp)
              obtain ⟨b9, o9, rfl, hb9, hmw⟩ := MvW.of_rd HR5.out (by rw [hF0]; simp) HP9.out
              obtain ⟨nf, hnf⟩ : ∃ x, x = F.length := ⟨_, rfl⟩
              have HNF := Lib.hid hnf
              rw [← hnf] at hlp HML ⊢
              have hlp2 : ¬ (nf : Int) = 0 := by omega
              have hnb : ((nf : Int) == 0) = false := by rw [beq_eq_false_iff_ne]; exact hlp2
              have HM5 := Lib.hid hmw
              have HB9 := Lib.hid hb9
              have HML2 := HML.out
              have hvs0 : ∀ t, u5.ownBlock = some t → t ≠ y9 ∧ t ≠ b9 := fun t ht => by
                have := HVS.out t ht
                have := HY9.out
                exact ⟨by omega, by omega⟩
              have HVS0 := Lib.hid hvs0
              clear hF0 hnf f1 F1 hmw hb9 hvs0
              go_wp2
              go_loopw [4, 5, 38] (fun dn st i wr => ∃ (q : Nat) (Dq : List Ac), q ≤ nf ∧ i = .int .i64 q ∧ mvN ⟨2, c, m, 0⟩ F D q = some Dq ∧ Dq.length ≤ j + q ∧ FoW wr w.heap.size dn st Dq (S ++ mvT ⟨2, c, m, 0⟩ F D q) ∧ (∀ t, st.ownBlock = some t → t ≠ y9 ∧ t ≠ b9) ∧ wr.heap[y9]? = some (.cells #[.int .i64 2, .int .i64 c, .int .i64 m, .int .i64 0] 203 (0, 0)) ∧ MvW wr b9 o9 F ∧ Below w.heap.size w wr) (fun _ _ i _ => nf - (intOf i).toNat)
              case atStart => exact ⟨0, D, Nat.zero_le _, rfl, rfl, HDL.out, by rw [mvT, List.append_nil]; exact F5.out, HVS0.out, HY5.out, HM5.out, HB5.out⟩
              case round =>
                obtain ⟨q, Dq, hq, rfl, hmq, hdq, hf, hvs, hy, hmw, hb⟩ := hrel
                by_cases hqlt : q < nf
                · have hfq := HMM.out q (by rw [← HNF.out]; exact hqlt)
                  have hmc := hmw.2 q (by rw [← HNF.out]; exact hqlt)
                  obtain ⟨us, fps, hst⟩ := hf.st
                  have hmn : mvN ⟨2, c, m, 0⟩ F D (q + 1) = mvOne (F.getD q 0) Dq ⟨2, c, m, 0⟩ := by rw [mvN, hmq]; rfl
                  have hmt : S ++ mvT ⟨2, c, m, 0⟩ F D (q + 1) = (S ++ mvT ⟨2, c, m, 0⟩ F D q) ++ [(mvN ⟨2, c, m, 0⟩ F D (q + 1)).getD []] := by rw [mvT, List.append_assoc]
                  have htl : (S ++ mvT ⟨2, c, m, 0⟩ F D q).length ≤ 2 * j + q := by rw [List.length_append, mvT_len]; have := HSL.out; omega
                  obtain ⟨f, hfe⟩ : ∃ f, f = F.getD q 0 := ⟨_, rfl⟩
                  obtain ⟨T, hT⟩ : ∃ T, T = S ++ mvT ⟨2, c, m, 0⟩ F D q := ⟨_, rfl⟩
                  rw [← hfe] at hfq hmc hmn
                  rw [← hT] at hmt htl hf hst
                  have hfail : mvN ⟨2, c, m, 0⟩ F D (q + 1) = none → R = false := fun h0 => by
                    rcases hk : okX d ⟨k, c, m⟩ with _ | _
                    · exact HBad.out hk
                    · have h1 := ((HALL.out HNE.out (by rw [← HVO.out])).2 hk).1
                      have h2 := mvN_no h0 nf (by omega)
                      rw [HNF.out, HF.out, HD.out] at h2
                      rw [show (⟨2, c, m, 0⟩ : Ac) = pA ⟨k, c, m⟩ from rfl, h1] at h2
                      exact absurd h2 (by simp)
                  have c0 := (cells_of_heap hy 0 (by simp)).1
                  have c1 := (cells_of_heap hy 1 (by simp)).1
                  have c2 := (cells_of_heap hy 2 (by simp)).1
                  have c3 := (cells_of_heap hy 3 (by simp)).1
                  simp only [List.getElem_toArray, List.getElem_cons_zero, List.getElem_cons_succ] at c0 c1 c2 c3
                  have HMN := Lib.hid hmn
                  have HMT := Lib.hid hmt
                  have HTL := Lib.hid htl
                  have HFail := Lib.hid hfail
                  have HFo := Lib.hid hf
                  have HST := Lib.hid hst
                  have HVs := Lib.hid hvs
                  have HYw := Lib.hid hy
                  have HMw := Lib.hid hmw
                  have HBw := Lib.hid hb
                  have HDq := Lib.hid hdq
                  have HMq := Lib.hid hmq
                  have hyl : y9 < wr.heap.size := (Array.getElem?_eq_some_iff.mp hy).1
                  have HYL := Lib.hid hyl
                  clear hmn hmt htl hfail hf hst hvs hy hmw hb hdq hmq hfe hT hyl
                  rcases hfq with rfl | rfl
                  · have HMP := Lib.hid (HMN.out.trans (mv_put Dq ⟨2, c, m, 0⟩))
                    unfold mvV at hmc
                    go_wp2_with fail
                    refine (putPress_any u4 Dq 2 c m 0 _ (by have := HDq.out; omega) HFo.out.nil HFo.out.dn).mono ?_
                    obtain ⟨O, hO⟩ : ∃ O, O = putV Dq ⟨2, c, m, 0⟩ := ⟨_, rfl⟩
                    rw [← hO] at HMP ⊢
                    rintro e w6 ⟨hm, hb⟩
                    have HB6 := Lib.hid hb
                    clear hb hO hmc c0 c1 c2 c3
                    rcases O with _ | l2
                    · subst hm
                      have hr := HFail.out HMP.out
                      go_wp2
                      go_ret2
                      exact HNO.out _ (HBw.out.trans (HB6.out.mono HBw.out.size)) hr
                    · obtain ⟨g2, c2, rfl, ho⟩ := hm
                      have hl2 := mvOne_len (HMN.out.symm.trans HMP.out)
                      obtain ⟨n2, hn2⟩ : ∃ x, x = l2.length := ⟨_, rfl⟩
                      have HN2 := Lib.hid hn2
                      have HO6 := Lib.hid ho
                      have HL2 := Lib.hid hl2
                      obtain ⟨M, hM⟩ : ∃ x, x = T.length := ⟨_, rfl⟩
                      have HM := Lib.hid hM
                      have b63 : M + 1 ≤ maxLen := by have := HTL.out; unfold maxLen; omega
                      have b47 : (M + 1) * 24 ≤ 140737488355328 := by have := HTL.out; omega
                      have hws : w.heap.size ≤ w6.heap.size := Nat.le_trans HBw.out.size HB6.out.size
                      have HOW := Lib.hid (show (w6.alloc (.cells #[.slice (some ⟨g2, 0, none⟩) n2 c2] 143)).ownsRow w.heap.size 143 1 u5 M us from by rw [hM]; exact owns_below (owns_below HST.out.own HB6.out) (below_alloc1 _ _))
                      rw [← hn2]
                      clear hn2 ho hl2 hM
                      go_wp2_with (at_builtin; refine wpList_append_lies _ rfl _ _ 137 rfl w.heap.size 143 iS (.slice none 0 0) 1 24 Try.underlying137 hi hz0 hz1 hz2 rfl (by decide) _ _ _ rfl HOW.out ⟨w6.heap.size, 0, none⟩ 1 1 [.slice (some ⟨g2, 0, none⟩) n2 c2] rfl rfl (World.news_of_block (cs := #[.slice (some ⟨g2, 0, none⟩) n2 c2]) (t := 143) (fr := (0, 0)) (heap_alloc_new w6 _)) (by intro u hu; rw [List.mem_singleton.1 hu]; rfl) (by decide) b63 b47 (by simp; omega) _ rfl ?_)
                      intro gs cs w7 hown hgrow hat hglt
                      have HB7 := Lib.hid (show Below w.heap.size w w7 from Below.grown ((HBw.out.trans (HB6.out.mono HBw.out.size)).alloc hws _) hgrow (by simp; omega) (fun q hq => (HOW.out.lt q hq).1))
                      have hblk : ∀ t, t < wr.heap.size → u5.ownBlock ≠ some t → w7.heap[t]? = wr.heap[t]? := fun t ht hne => (hgrow.block t (by simp; have := HB6.out.size; omega) (fun e => hne e.symm)).trans ((heap_alloc_old w6 _ (Nat.lt_of_lt_of_le ht HB6.out.size)).trans (HB6.out.block t ht))
                      have HY7 := Lib.hid (show w7.heap[y9]? = some (.cells #[.int .i64 2, .int .i64 c, .int .i64 m, .int .i64 0] 203 (0, 0)) from (hblk y9 HYL.out (fun e => (HVs.out y9 e).1 rfl)).trans HYw.out)
                      have HM7 := Lib.hid (HMw.out.keep (hblk b9 HMw.out.1 (fun e => (HVs.out b9 e).2 rfl)))
                      have HV7 := Lib.hid (show ∀ t, (Value.slice (some ⟨gs, 0, none⟩) (M + 1) cs).ownBlock = some t → t ≠ y9 ∧ t ≠ b9 from fun t ht => by
                        obtain rfl : gs = t := by simpa [Value.ownBlock] using ht
                        rcases hat with h1 | h1
                        · exact HVs.out gs h1
                        · have h2 := HYL.out
                          have h3 := HMw.out.1
                          have h4 := HB6.out.size
                          have h5 : gs = w6.heap.size + 1 := h1.trans (by simp)
                          exact ⟨by omega, by omega⟩)
                      have HF7 := Lib.hid (show FoW w7 w.heap.size (.slice (some ⟨g2, 0, none⟩) n2 c2) (.slice (some ⟨gs, 0, none⟩) (M + 1) cs) l2 (S ++ mvT ⟨2, c, m, 0⟩ F D (q + 1)) from by
                        rw [HMT.out, HMP.out, HM.out, HN2.out]
                        rw [HM.out, HN2.out] at hown
                        refine FoW.push HST.out HBw.out.size (HB6.out.alloc HB6.out.size _) (owns_below HO6.out (below_alloc1 _ _)) hown hgrow ?_
                        exact hat.imp id (fun h => h.trans (by simp)))
                      clear hown hgrow hat hglt b63 b47 hws hblk
                      go_wp2
                      go_roundw
                      case rel => exact ⟨q + 1, l2, by omega, by go_num, HMP.out, by have := HDq.out; have := HL2.out; omega, HF7.out, HV7.out, HY7.out, HM7.out, HB7.out⟩
                      case measure => simp [intOf]; omega
                  · have HMP := Lib.hid (HMN.out.trans (mv_take Dq ⟨2, c, m, 0⟩))
                    unfold mvV at hmc
                    go_wp2_with fail
                    refine (takePress_any u4 Dq 2 c m 0 _ (by have := HDq.out; omega) HFo.out.nil HFo.out.dn).mono ?_
                    obtain ⟨O, hO⟩ : ∃ O, O = takeV Dq ⟨2, c, m, 0⟩ := ⟨_, rfl⟩
                    rw [← hO] at HMP ⊢
                    rintro e w6 ⟨hm, hb⟩
                    have HB6 := Lib.hid hb
                    clear hb hO hmc c0 c1 c2 c3
                    rcases O with _ | l2
                    · subst hm
                      have hr := HFail.out HMP.out
                      go_wp2
                      go_ret2
                      exact HNO.out _ (HBw.out.trans (HB6.out.mono HBw.out.size)) hr
                    · obtain ⟨g2, c2, rfl, ho⟩ := hm
                      have hl2 := mvOne_len (HMN.out.symm.trans HMP.out)
                      obtain ⟨n2, hn2⟩ : ∃ x, x = l2.length := ⟨_, rfl⟩
                      have HN2 := Lib.hid hn2
                      have HO6 := Lib.hid ho
                      have HL2 := Lib.hid hl2
                      obtain ⟨M, hM⟩ : ∃ x, x = T.length := ⟨_, rfl⟩
                      have HM := Lib.hid hM
                      have b63 : M + 1 ≤ maxLen := by have := HTL.out; unfold maxLen; omega
                      have b47 : (M + 1) * 24 ≤ 140737488355328 := by have := HTL.out; omega
                      have hws : w.heap.size ≤ w6.heap.size := Nat.le_trans HBw.out.size HB6.out.size
                      have HOW := Lib.hid (show (w6.alloc (.cells #[.slice (some ⟨g2, 0, none⟩) n2 c2] 143)).ownsRow w.heap.size 143 1 u5 M us from by rw [hM]; exact owns_below (owns_below HST.out.own HB6.out) (below_alloc1 _ _))
                      rw [← hn2]
                      clear hn2 ho hl2 hM
                      go_wp2_with (at_builtin; refine wpList_append_lies _ rfl _ _ 137 rfl w.heap.size 143 iS (.slice none 0 0) 1 24 Try.underlying137 hi hz0 hz1 hz2 rfl (by decide) _ _ _ rfl HOW.out ⟨w6.heap.size, 0, none⟩ 1 1 [.slice (some ⟨g2, 0, none⟩) n2 c2] rfl rfl (World.news_of_block (cs := #[.slice (some ⟨g2, 0, none⟩) n2 c2]) (t := 143) (fr := (0, 0)) (heap_alloc_new w6 _)) (by intro u hu; rw [List.mem_singleton.1 hu]; rfl) (by decide) b63 b47 (by simp; omega) _ rfl ?_)
                      intro gs cs w7 hown hgrow hat hglt
                      have HB7 := Lib.hid (show Below w.heap.size w w7 from Below.grown ((HBw.out.trans (HB6.out.mono HBw.out.size)).alloc hws _) hgrow (by simp; omega) (fun q hq => (HOW.out.lt q hq).1))
                      have hblk : ∀ t, t < wr.heap.size → u5.ownBlock ≠ some t → w7.heap[t]? = wr.heap[t]? := fun t ht hne => (hgrow.block t (by simp; have := HB6.out.size; omega) (fun e => hne e.symm)).trans ((heap_alloc_old w6 _ (Nat.lt_of_lt_of_le ht HB6.out.size)).trans (HB6.out.block t ht))
                      have HY7 := Lib.hid (show w7.heap[y9]? = some (.cells #[.int .i64 2, .int .i64 c, .int .i64 m, .int .i64 0] 203 (0, 0)) from (hblk y9 HYL.out (fun e => (HVs.out y9 e).1 rfl)).trans HYw.out)
                      have HM7 := Lib.hid (HMw.out.keep (hblk b9 HMw.out.1 (fun e => (HVs.out b9 e).2 rfl)))
                      have HV7 := Lib.hid (show ∀ t, (Value.slice (some ⟨gs, 0, none⟩) (M + 1) cs).ownBlock = some t → t ≠ y9 ∧ t ≠ b9 from fun t ht => by
                        obtain rfl : gs = t := by simpa [Value.ownBlock] using ht
                        rcases hat with h1 | h1
                        · exact HVs.out gs h1
                        · have h2 := HYL.out
                          have h3 := HMw.out.1
                          have h4 := HB6.out.size
                          have h5 : gs = w6.heap.size + 1 := h1.trans (by simp)
                          exact ⟨by omega, by omega⟩)
                      have HF7 := Lib.hid (show FoW w7 w.heap.size (.slice (some ⟨g2, 0, none⟩) n2 c2) (.slice (some ⟨gs, 0, none⟩) (M + 1) cs) l2 (S ++ mvT ⟨2, c, m, 0⟩ F D (q + 1)) from by
                        rw [HMT.out, HMP.out, HM.out, HN2.out]
                        rw [HM.out, HN2.out] at hown
                        refine FoW.push HST.out HBw.out.size (HB6.out.alloc HB6.out.size _) (owns_below HO6.out (below_alloc1 _ _)) hown hgrow ?_
                        exact hat.imp id (fun h => h.trans (by simp)))
                      clear hown hgrow hat hglt b63 b47 hws hblk
                      go_wp2
                      go_roundw
                      case rel => exact ⟨q + 1, l2, by omega, by go_num, HMP.out, by have := HDq.out; have := HL2.out; omega, HF7.out, HV7.out, HY7.out, HM7.out, HB7.out⟩
                      case measure => simp [intOf]; omega
                · obtain rfl : q = nf := by omega
                  have hokx : okX d ⟨k, c, m⟩ = true := by
                    rcases hk : okX d ⟨k, c, m⟩ with _ | _
                    · have h1 := (HALL.out HNE.out (by rw [← HVO.out])).1 hk
                      rw [HNF.out, HF.out, HD.out] at hmq
                      rw [show (⟨2, c, m, 0⟩ : Ac) = pA ⟨k, c, m⟩ from rfl, h1] at hmq
                      exact absurd hmq (by simp)
                    · rfl
                  obtain ⟨h1, h2⟩ := (HALL.out HNE.out (by rw [← HVO.out])).2 hokx
                  have hDq : Dq = dA (dwN s (j + 1)) := by
                    rw [HNF.out, HF.out, HD.out] at hmq
                    rw [show (⟨2, c, m, 0⟩ : Ac) = pA ⟨k, c, m⟩ from rfl, h1] at hmq
                    rw [HDW.out]; exact (Option.some.inj hmq).symm
                  have hSq : S ++ mvT ⟨2, c, m, 0⟩ F D q = skN s (j + 1) := by
                    rw [HSK.out, HNF.out, HF.out, HD.out]
                    rw [show (⟨2, c, m, 0⟩ : Ac) = pA ⟨k, c, m⟩ from rfl, h2]
                  rw [hDq, hSq] at hf
                  have HFw := Lib.hid hf
                  have HBw := Lib.hid hb
                  have HMc := Lib.hid (HNX.out hokx)
                  clear h1 h2 hDq hSq hf hb hmq hdq hvs hy hmw hokx
                  go_wp2
                  go_roundw
                  case rel => exact ⟨j + 1, by omega, by go_num, HMc.out, HFw.out, HBw.out⟩
                  case measure => simp [intOf]; omega
      · obtain rfl : j = n := by omega
        obtain ⟨ad, cd, rfl⟩ := RdN.shape hf.dn
        obtain ⟨us, fps, hst⟩ := hf.st
        have hrs : RdS Ac.cells wr u5 (skN s s.length) := by rw [← HNL.out]; exact (hst.done rfl).rd
        have hRl : R = decide ((dA (dwN s j)).length = 0) := by
          have h8 : decide ((j : Int) ≤ 8) = true := decide_eq_true (by omega)
          rw [HR.out, okMc, ← HNL.out, HMC.out, h8, Bool.true_and, Bool.true_and, dA_len]
        obtain ⟨L, hL⟩ : ∃ L, L = (dA (dwN s j)).length := ⟨_, rfl⟩
        rw [← hL] at hRl ⊢
        have HRS := Lib.hid hrs
        have HRL := Lib.hid hRl
        have HBw := Lib.hid hb
        clear hrs hRl hf hst hb hL
        by_cases h0 : L = 0
        · have hr : R = true := by rw [HRL.out]; exact decide_eq_true h0
          have HRT := Lib.hid hr
          subst h0
          clear hr
          go_wp2
          go_ret2
          exact ⟨_, by rw [← HR.out, HRT.out]; rfl, fun _ => HRS.out, HBw.out⟩
        · have hr : R = false := by rw [HRL.out]; exact decide_eq_false h0
          have HRT := Lib.hid hr
          have hL0 : ¬ (L : Int) = 0 := by omega
          clear hr
          go_wp2
          go_ret2
          exact ⟨_, by rw [← HR.out, HRT.out]; simp [h0], fun _ => HRS.out, HBw.out⟩
  · have hr : R = false := by
      rw [hR, okMc, ← hnl, show decide ((n : Int) ≤ 8) = false from decide_eq_false (by omega), Bool.false_and, Bool.and_false]
    have hn8' : (8 : Int) < (n : Int) := by omega
    have HRT := Lib.hid hr
    clear h hnl hR hr
    go_enter Try.func103, Try.ntmps103
    go_wp2
    go_ret2
    exact ⟨_, by rw [← HR.out, HRT.out]; rfl, fun h => (by rw [← HR.out, HRT.out] at h; exact absurd h (by decide)), Below.refl _ _⟩
set_option maxRecDepth 100000 in
theorem implIsMacro_any (v : Value) (s : List St) (w : World) (hs : s.length ≤ maxLen) (h : RdN w v s.length (flatSt s)) :
    Calls Try.prog 36 #[v] w fun e w' => e = .returned (.bool (okMc s)) ∧ Below w.heap.size w w' := by
  have HS := Lib.hid hs
  have H := Lib.hid h
  clear hs h
  go_enter Try.func36, Try.ntmps36
  go_wp2_with fail
  refine (followMacro_any v s _ HS.out H.out).mono ?_
  rintro e w1 ⟨u, rfl, _, hb⟩
  have HB := Lib.hid hb
  clear hb
  go_wp2
  go_ret
  exact ⟨rfl, HB.out⟩
theorem implIsMacro_q (v : Value) (s : List St) (o : Bool) (ho : o = okMc s) (w : World) (hs : s.length ≤ maxLen) (h : RdN w v s.length (flatSt s)) :
    Calls Try.prog 36 #[v] w fun e w' => e = .returned (.bool o) ∧ Below w.heap.size w w' := by
  rw [ho]; exact implIsMacro_any v s w hs h

end Go.Proofs.Yteljmfdlegohbaa
