/- DERIVED. The program's set of codes and its list: codeSet.ascending returns the codes of the set, ascending, in memory of its own. -/
import Derived.Test.YtghijkpcmamebaaLawBits
import Derived.Test.YtghijkpcmamebaaRpDef
import Derived.Laws.Rows
import Derived.Deep.DeepCutAuto
namespace Go.Proofs.Ytghijkpcmamebaa
open Go.RowKit

/-- The codes of a set up to k. -/
def ascN (P : Nat → Bool) : Nat → List Int
  | 0 => []
  | k + 1 => if P (k + 1) = true then ascN P k ++ [((k + 1 : Nat) : Int)] else ascN P k
theorem ascN_len (P : Nat → Bool) : ∀ k, (ascN P k).length ≤ k
  | 0 => Nat.le_refl _
  | k + 1 => by
    have := ascN_len P k
    rw [ascN]; split
    · simp; omega
    · omega
theorem ascN_congr {P Q : Nat → Bool} : ∀ k, (∀ j, 1 ≤ j → j ≤ k → P j = Q j) → ascN P k = ascN Q k
  | 0, _ => rfl
  | k + 1, h => by rw [ascN, ascN, ascN_congr k (fun j h1 h2 => h j h1 (by omega)), h (k + 1) (by omega) (Nat.le_refl _)]
theorem ascN_codes (l : List Hd) : ∀ k, ascN (fun c => hasC l (c : Int) l.length) k = codesN l k
  | 0 => rfl
  | k + 1 => by rw [ascN, codesN, ascN_codes l k]
theorem ascN_bits (b : List Int) : ∀ k, ascN (fun c => bitC b (c - 1)) k = bitK b k
  | 0 => rfl
  | k + 1 => by rw [ascN, bitK, ascN_bits b k]; rfl
/-- A block that holds a set of codes: place j tells whether the code j is in it. -/
def SetH (w : World) (g : Nat) (P : Nat → Bool) : Prop := ∃ cs, w.heap[g]? = some (.cells cs 62 (0, 0)) ∧ cs.size = 57 ∧ ∀ j, j < 57 → cs[j]? = some (.bool (P j))
theorem SetH.cell {w : World} {g : Nat} {P : Nat → Bool} (h : SetH w g P) {j : Nat} (hj : j < 57) : w.cell? ⟨g, j, none⟩ = some (.bool (P j)) ∧ w.frozen? ⟨g, j, none⟩ = false := by
  obtain ⟨cs, hh, hs, hP⟩ := h
  exact ⟨by rw [cell_of_row w g j _ _ _ hh]; exact hP j hj, frozen_of_row w g j _ _ hh⟩
theorem SetH.block {w w' : World} {g : Nat} {P : Nat → Bool} (h : SetH w g P) (hb : w'.heap[g]? = w.heap[g]?) : SetH w' g P := by
  obtain ⟨cs, hh, h⟩ := h
  exact ⟨cs, hb.trans hh, h⟩
theorem SetH.lt {w : World} {g : Nat} {P : Nat → Bool} (h : SetH w g P) : g < w.heap.size := by
  obtain ⟨cs, hh, _⟩ := h
  exact (Array.getElem?_eq_some_iff.1 hh).1
theorem SetH.set {w : World} {g : Nat} {P : Nat → Bool} (h : SetH w g P) {j : Nat} (b : Bool) : SetH (w.setCell ⟨g, j, none⟩ (.bool b)) g (fun c => if c = j then b else P c) := by
  obtain ⟨cs, hh, hs, hP⟩ := h
  refine ⟨_, heap_setCell_same w g j _ _ _ hh, by simp [hs], fun q hq => ?_⟩
  rw [Array.getElem?_setIfInBounds]
  by_cases e : j = q
  · subst e; simp [hs, hq]
  · rw [if_neg e]
    show cs[q]? = some (.bool (if q = j then b else P q))
    rw [if_neg (fun x => e x.symm)]; exact hP q hq
/-- The codes in the list that is being filled. -/
def ListH (w : World) (g : Nat) (X : List Int) : Prop := ∃ cs, w.heap[g]? = some (.cells cs 83 (0, 0)) ∧ cs.size = 56 ∧ cs.toList.take X.length = X.map (.int .i64)
theorem ListH.cell {w : World} {g : Nat} {X : List Int} (h : ListH w g X) {j : Nat} (hj : j < 56) : (∃ y, w.cell? ⟨g, j, none⟩ = some y) ∧ w.frozen? ⟨g, j, none⟩ = false := by
  obtain ⟨cs, hh, hs, hP⟩ := h
  exact ⟨⟨cs[j]'(by omega), by rw [cell_of_row w g j _ _ _ hh, Array.getElem?_eq_getElem]⟩, frozen_of_row w g j _ _ hh⟩
theorem ListH.block {w w' : World} {g : Nat} {X : List Int} (h : ListH w g X) (hb : w'.heap[g]? = w.heap[g]?) : ListH w' g X := by
  obtain ⟨cs, hh, h⟩ := h
  exact ⟨cs, hb.trans hh, h⟩
theorem ListH.push {w : World} {g : Nat} {X : List Int} (h : ListH w g X) (z : Int) (hl : X.length < 56) : ListH (w.setCell ⟨g, X.length, none⟩ (.int .i64 z)) g (X ++ [z]) := by
  obtain ⟨cs, hh, hs, hP⟩ := h
  refine ⟨_, heap_setCell_same w g X.length _ _ _ hh, by simp [hs], ?_⟩
  rw [Array.toList_setIfInBounds]
  have hlen : X.length < cs.toList.length := by simp [hs, hl]
  rw [List.length_append, List.length_singleton, List.take_succ_eq_append_getElem (by simpa using hlen), List.take_set_of_le (Nat.le_refl _), hP]
  simp
theorem owC_cells {w : World} {B g n cap : Nat} {cur : Array Value} {t : TypeId} {zs : List Int} (hB : B ≤ g) (hh : w.heap[g]? = some (.cells cur t (0, 0))) (hl : zs.length ≤ 1048576) (hs : zs.length ≤ cur.size) (hn : n = zs.length) (hc : cur.toList.take zs.length = zs.map (.int .i64)) :
    ∃ fp, OwC w B (.row [.int .i64]) (.slice (some ⟨g, 0, none⟩) n cap) (.row (ones zs)) fp := by
  refine ⟨_, OwC.rowMk (fps := List.replicate zs.length []) (by rw [ones_len]; exact hn) (by rw [ones_len]; unfold maxLen; omega) hB hh (by rw [ones_len]; simpa using hs) (by simp [ones_len]) fun i hi hi' => ?_⟩
  rw [ones_len] at hi
  have hcl : i < cur.toList.length := by simpa using Nat.lt_of_lt_of_le hi hs
  have hv : cur.toList[i]? = some (.int .i64 zs[i]) := by
    have := congrArg (·[i]?) hc
    simpa [List.getElem?_take, hi] using this
  have ht : (cur.toList.drop (i * ([Sh.int IntKind.i64] : List Sh).length)).take ([Sh.int IntKind.i64] : List Sh).length = [Value.int .i64 zs[i]] := by
    simp only [List.length_singleton, Nat.mul_one]
    rw [List.drop_eq_getElem_cons hcl, List.take_succ_cons, List.take_zero]
    rw [List.getElem?_eq_getElem hcl] at hv
    rw [Option.some.inj hv]
  rw [ht]
  simp only [ones, List.getElem_map, List.getElem_replicate]
  exact (OwL.cons (OwC.mkInt .i64 zs[i]) (by rw [OwL]; exact ⟨rfl, rfl, rfl⟩))
set_option maxRecDepth 10000 in
theorem zeros56 : (#[Value.int IntKind.i64 0, Value.int IntKind.i64 0, Value.int IntKind.i64 0, Value.int IntKind.i64 0, Value.int IntKind.i64 0, Value.int IntKind.i64 0, Value.int IntKind.i64 0, Value.int IntKind.i64 0, Value.int IntKind.i64 0, Value.int IntKind.i64 0, Value.int IntKind.i64 0, Value.int IntKind.i64 0, Value.int IntKind.i64 0, Value.int IntKind.i64 0, Value.int IntKind.i64 0, Value.int IntKind.i64 0, Value.int IntKind.i64 0, Value.int IntKind.i64 0, Value.int IntKind.i64 0, Value.int IntKind.i64 0, Value.int IntKind.i64 0, Value.int IntKind.i64 0, Value.int IntKind.i64 0, Value.int IntKind.i64 0, Value.int IntKind.i64 0, Value.int IntKind.i64 0, Value.int IntKind.i64 0, Value.int IntKind.i64 0, Value.int IntKind.i64 0, Value.int IntKind.i64 0, Value.int IntKind.i64 0, Value.int IntKind.i64 0, Value.int IntKind.i64 0, Value.int IntKind.i64 0, Value.int IntKind.i64 0, Value.int IntKind.i64 0, Value.int IntKind.i64 0, Value.int IntKind.i64 0, Value.int IntKind.i64 0, Value.int IntKind.i64 0, Value.int IntKind.i64 0, Value.int IntKind.i64 0, Value.int IntKind.i64 0, Value.int IntKind.i64 0, Value.int IntKind.i64 0, Value.int IntKind.i64 0, Value.int IntKind.i64 0, Value.int IntKind.i64 0, Value.int IntKind.i64 0, Value.int IntKind.i64 0, Value.int IntKind.i64 0, Value.int IntKind.i64 0, Value.int IntKind.i64 0, Value.int IntKind.i64 0, Value.int IntKind.i64 0, Value.int IntKind.i64 0] : Array Value) = Array.replicate 56 (Value.int .i64 0) := rfl
set_option maxRecDepth 10000 in
theorem none57 : (#[Value.bool false, Value.bool false, Value.bool false, Value.bool false, Value.bool false, Value.bool false, Value.bool false, Value.bool false, Value.bool false, Value.bool false, Value.bool false, Value.bool false, Value.bool false, Value.bool false, Value.bool false, Value.bool false, Value.bool false, Value.bool false, Value.bool false, Value.bool false, Value.bool false, Value.bool false, Value.bool false, Value.bool false, Value.bool false, Value.bool false, Value.bool false, Value.bool false, Value.bool false, Value.bool false, Value.bool false, Value.bool false, Value.bool false, Value.bool false, Value.bool false, Value.bool false, Value.bool false, Value.bool false, Value.bool false, Value.bool false, Value.bool false, Value.bool false, Value.bool false, Value.bool false, Value.bool false, Value.bool false, Value.bool false, Value.bool false, Value.bool false, Value.bool false, Value.bool false, Value.bool false, Value.bool false, Value.bool false, Value.bool false, Value.bool false, Value.bool false] : Array Value) = Array.replicate 57 (Value.bool false) := rfl
/-- What a function returns that makes a list of codes. -/
def CodesO (zs : List Int) (w : World) (e : Ending) (w' : World) : Prop := ∃ a c fp, e = .returned (.slice a zs.length c) ∧ OwC w' w.heap.size (.row [.int .i64]) (.slice a zs.length c) (.row (ones zs)) fp ∧ Below w.heap.size w w'

set_option maxRecDepth 100000 in
set_option maxHeartbeats 4000000 in
theorem ascending_any (P : Nat → Bool) (cs : Array Value) (hs : cs.size = 57) (hP : ∀ j, j < 57 → cs[j]? = some (.bool (P j))) (w : World) :
    Calls Try.prog 43 #[.agg cs] w (CodesO (ascN P 56) w) := by
  obtain ⟨R, hR⟩ : ∃ R, R = ascN P 56 := ⟨_, rfl⟩
  rw [← hR]
  have HR := Lib.hid hR
  clear hR
  obtain ⟨W, hW⟩ : ∃ W, W = w.alloc (.cells cs 62) := ⟨_, rfl⟩
  obtain ⟨gs, hgs⟩ : ∃ x, x = w.heap.size := ⟨_, rfl⟩
  have HS := Lib.hid (show SetH W gs P by rw [hW, hgs]; exact ⟨cs, heap_alloc_new w _, hs, hP⟩)
  have HB0 := Lib.hid (show Below gs w W by rw [hW, hgs]; exact (Below.refl _ _).alloc (Nat.le_refl _) _)
  have HW := Lib.hid hW
  have HGS := Lib.hid hgs
  clear hW hgs hs hP
  go_enter Try.func43, Try.ntmps43
  go_upto_region 2 with (fail)
  rw [← HW.out, ← HGS.out, zeros56]
  obtain ⟨gl, hgl⟩ : ∃ x, x = gs + 1 := ⟨_, rfl⟩
  obtain ⟨W1, hW1⟩ : ∃ x, x = W.alloc (.cells (Array.replicate 56 (.int .i64 0)) 83) := ⟨_, rfl⟩
  have hWs : W.heap.size = gs + 1 := by rw [HW.out, HGS.out]; simp
  have HL1 := Lib.hid (show ListH W1 gl [] by rw [hW1, hgl, ← hWs]; exact ⟨_, heap_alloc_new W _, by simp, rfl⟩)
  have HS1 := Lib.hid (show SetH W1 gs P from HS.out.block (by rw [hW1]; exact heap_alloc_old W _ HS.out.lt))
  have HB1 := Lib.hid (show Below gs w W1 by rw [hW1]; exact HB0.out.alloc (by have := HS.out.lt; omega) _)
  rw [← hgl, ← hW1]
  have hgg : ¬ gs = gl := by omega
  have hgl2 : gs ≤ gl := by omega
  have hgl1 : ¬ gl = gs := by omega
  clear hW1 hWs hgl
  go_wp2
  go_loopw [4, 5] (fun n c wr => ∃ k : Nat, k ≤ 56 ∧ n = .int .i64 ((ascN P k).length : Nat) ∧ c = .int .i64 ((k : Int) + 1) ∧ ListH wr gl (ascN P k) ∧ SetH wr gs P ∧ Below gs w wr) (fun _ c _ => 57 - (intOf c).toNat)
  case atStart => exact ⟨0, by omega, rfl, rfl, HL1.out, HS1.out, HB1.out⟩
  case round =>
    obtain ⟨k, hk, rfl, rfl, hL, hS, hb⟩ := hrel
    have hlen := ascN_len P k
    have hnx : ascN P (k + 1) = if P (k + 1) = true then ascN P k ++ [((k + 1 : Nat) : Int)] else ascN P k := rfl
    obtain ⟨X, hX⟩ : ∃ X, X = ascN P k := ⟨_, rfl⟩
    rw [← hX] at hL hlen hnx ⊢
    have HX := Lib.hid hX
    have HL := Lib.hid hL
    have HS := Lib.hid hS
    have HB := Lib.hid hb
    clear hX hb
    by_cases hkl : k < 56
    · obtain ⟨s0, s1⟩ := hS.cell (j := k + 1) (by omega)
      obtain ⟨⟨y, l0⟩, l1⟩ := hL.cell (j := X.length) (by omega)
      have hpu := hL.push (((k + 1 : Nat)) : Int) (by omega)
      obtain ⟨n, hn⟩ : ∃ n, n = X.length := ⟨_, rfl⟩
      rw [← hn] at l0 l1 hlen hpu ⊢
      obtain ⟨v, hv⟩ : ∃ v, v = P (k + 1) := ⟨_, rfl⟩
      rw [← hv] at s0 hnx
      rw [show (((k + 1 : Nat)) : Int) = (k : Int) + 1 by omega] at hpu hnx
      have HN := Lib.hid hn
      have HNX := Lib.hid hnx
      have HPU := Lib.hid hpu
      have hk1 : (k : Int) + 1 ≤ 56 := by omega
      have hk57 : (k : Int) + 1 < 57 := by omega
      have hn56 : (n : Int) < 56 := by omega
      have htn : ((k : Int) + 1).toNat = k + 1 := by omega
      clear hL hS hv hn hpu hnx
      cases v
      · have hnx := HNX.out
        rw [if_neg (by decide)] at hnx
        have HQ := Lib.hid hnx
        clear hnx l0 l1
        go_wp2
        go_roundw
        case rel => exact ⟨k + 1, by omega, by rw [HQ.out, HN.out], by go_num, by rw [HQ.out]; exact HL.out, HS.out, HB.out⟩
        case measure => simp [intOf]; omega
      · have hnx := HNX.out
        rw [if_pos rfl] at hnx
        have HQ := Lib.hid hnx
        have HS2 := Lib.hid (show SetH (wr.setCell ⟨gl, n, none⟩ (.int .i64 ((k : Int) + 1))) gs P from HS.out.block (heap_setCell_other wr _ _ _ hgg))
        have HB2 := Lib.hid (show Below gs w (wr.setCell ⟨gl, n, none⟩ (.int .i64 ((k : Int) + 1))) from HB.out.setCell hgl2 _)
        clear hnx
        go_wp2
        go_roundw
        case rel => exact ⟨k + 1, by omega, by rw [HQ.out, List.length_append, ← HN.out]; go_num, by go_num, by rw [HQ.out]; exact HPU.out, HS2.out, HB2.out⟩
        case measure => simp [intOf]; omega
    · obtain rfl : k = 56 := by omega
      obtain ⟨n, hn⟩ : ∃ n, n = X.length := ⟨_, rfl⟩
      have HRX := Lib.hid (show R = X by rw [HR.out, HX.out])
      have HN := Lib.hid hn
      rw [← hn] at hlen ⊢
      have hn57 : (n : Int) ≤ 56 := by omega
      clear hn hL hS hnx
      go_wp2
      go_ret
      obtain ⟨cs, hh, hcs, htk⟩ := HL.out
      obtain ⟨fp, hfp⟩ := owC_cells (n := n) (cap := n) hgl2 hh (by rw [← HN.out]; omega) (by rw [← HN.out, hcs]; exact hlen) HN.out htk
      rw [HRX.out, HGS.out] at *
      exact ⟨some ⟨gl, 0, none⟩, n, fp, by rw [← HN.out]; rfl, by rw [← HN.out]; exact hfp, HB.out⟩

end Go.Proofs.Ytghijkpcmamebaa
