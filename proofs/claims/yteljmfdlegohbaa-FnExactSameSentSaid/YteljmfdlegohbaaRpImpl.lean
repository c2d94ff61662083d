/- DERIVED. The program's set of codes and its list: codeSet.ascending returns the codes of the set, ascending, in memory of its own. · The program's canBeHeld, IsHeld and LayersOn: each returns what a plain function says. · The program's IsReport and SameReport: each returns what a plain function says. · The program's ReportOf: the report of held keys, in memory of its own. · The program's bitOf, ReadBits and BitBytes: the report whose bits are bytes, and a report's bits. -/
import Derived.Test.YteljmfdlegohbaaLawBits
import Derived.Test.YteljmfdlegohbaaRpSpec
import Derived.Laws.Rows
import Derived.Deep.DeepCutAuto
import Derived.Test.YteljmfdlegohbaaHd
import Derived.Test.YteljmfdlegohbaaAcOk
import Derived.Test.YteljmfdlegohbaaDebImpl
import Derived.Test.YteljmfdlegohbaaKm
import Derived.Test.YteljmfdlegohbaaRpLaw2
import Derived.Deep.RegionHeld3
import Derived.Deep.RegionLaw
import Derived.Deep.MidRow
namespace Go.Proofs.Yteljmfdlegohbaa
open Go.RowKit

/-- The codes of a set up to k. -/
def ascN (P : Nat → Bool) : Nat → List Int
  | 0 => []
  | k + 1 => if P (k + 1) = true then ascN P k ++ [((k + 1 : Nat) : Int)] else ascN P k
theorem ascN_len (P : Nat → Bool) : ∀ k, (ascN P k).length ≤ k
  | 0 => Nat.le_refl _
  | k + 1 => by
    have := ascN_len P k
    rw [ascN]; split
    · simp; omega
    · omega
theorem ascN_congr {P Q : Nat → Bool} : ∀ k, (∀ j, 1 ≤ j → j ≤ k → P j = Q j) → ascN P k = ascN Q k
  | 0, _ => rfl
  | k + 1, h => by rw [ascN, ascN, ascN_congr k (fun j h1 h2 => h j h1 (by omega)), h (k + 1) (by omega) (Nat.le_refl _)]
theorem ascN_codes (l : List Hd) : ∀ k, ascN (fun c => hasC l (c : Int) l.length) k = codesN l k
  | 0 => rfl
  | k + 1 => by rw [ascN, codesN, ascN_codes l k]
theorem ascN_bits (b : List Int) : ∀ k, ascN (fun c => bitC b (c - 1)) k = bitK b k
  | 0 => rfl
  | k + 1 => by rw [ascN, bitK, ascN_bits b k]; rfl
/-- A block that holds a set of codes: place j tells whether the code j is in it. -/
def SetH (w : World) (g : Nat) (P : Nat → Bool) : Prop := ∃ cs, w.heap[g]? = some (.cells cs 214 (0, 0)) ∧ cs.size = 57 ∧ ∀ j, j < 57 → cs[j]? = some (.bool (P j))
theorem SetH.cell {w : World} {g : Nat} {P : Nat → Bool} (h : SetH w g P) {j : Nat} (hj : j < 57) : w.cell? ⟨g, j, none⟩ = some (.bool (P j)) ∧ w.frozen? ⟨g, j, none⟩ = false := by
  obtain ⟨cs, hh, hs, hP⟩ := h
  exact ⟨by rw [cell_of_row w g j _ _ _ hh]; exact hP j hj, frozen_of_row w g j _ _ hh⟩
theorem SetH.block {w w' : World} {g : Nat} {P : Nat → Bool} (h : SetH w g P) (hb : w'.heap[g]? = w.heap[g]?) : SetH w' g P := by
  obtain ⟨cs, hh, h⟩ := h
  exact ⟨cs, hb.trans hh, h⟩
theorem SetH.lt {w : World} {g : Nat} {P : Nat → Bool} (h : SetH w g P) : g < w.heap.size := by
  obtain ⟨cs, hh, _⟩ := h
  exact (Array.getElem?_eq_some_iff.1 hh).1
theorem SetH.set {w : World} {g : Nat} {P : Nat → Bool} (h : SetH w g P) {j : Nat} (b : Bool) : SetH (w.setCell ⟨g, j, none⟩ (.bool b)) g (fun c => if c = j then b else P c) := by
  obtain ⟨cs, hh, hs, hP⟩ := h
  refine ⟨_, heap_setCell_same w g j _ _ _ hh, by simp [hs], fun q hq => ?_⟩
  rw [Array.getElem?_setIfInBounds]
  by_cases e : j = q
  · subst e; simp [hs, hq]
  · rw [if_neg e]
    show cs[q]? = some (.bool (if q = j then b else P q))
    rw [if_neg (fun x => e x.symm)]; exact hP q hq
/-- The codes in the list that is being filled. -/
def ListH (w : World) (g : Nat) (X : List Int) : Prop := ∃ cs, w.heap[g]? = some (.cells cs 229 (0, 0)) ∧ cs.size = 56 ∧ cs.toList.take X.length = X.map (.int .i64)
theorem ListH.cell {w : World} {g : Nat} {X : List Int} (h : ListH w g X) {j : Nat} (hj : j < 56) : (∃ y, w.cell? ⟨g, j, none⟩ = some y) ∧ w.frozen? ⟨g, j, none⟩ = false := by
  obtain ⟨cs, hh, hs, hP⟩ := h
  exact ⟨⟨cs[j]'(by omega), by rw [cell_of_row w g j _ _ _ hh, Array.getElem?_eq_getElem]⟩, frozen_of_row w g j _ _ hh⟩
theorem ListH.block {w w' : World} {g : Nat} {X : List Int} (h : ListH w g X) (hb : w'.heap[g]? = w.heap[g]?) : ListH w' g X := by
  obtain ⟨cs, hh, h⟩ := h
  exact ⟨cs, hb.trans hh, h⟩
theorem ListH.push {w : World} {g : Nat} {X : List Int} (h : ListH w g X) (z : Int) (hl : X.length < 56) : ListH (w.setCell ⟨g, X.length, none⟩ (.int .i64 z)) g (X ++ [z]) := by
  obtain ⟨cs, hh, hs, hP⟩ := h
  refine ⟨_, heap_setCell_same w g X.length _ _ _ hh, by simp [hs], ?_⟩
  rw [Array.toList_setIfInBounds]
  have hlen : X.length < cs.toList.length := by simp [hs, hl]
  rw [List.length_append, List.length_singleton, List.take_succ_eq_append_getElem (by simpa using hlen), List.take_set_of_le (Nat.le_refl _), hP]
  simp
theorem owC_cells {w : World} {B g n cap : Nat} {cur : Array Value} {t : TypeId} {zs : List Int} (hB : B ≤ g) (hh : w.heap[g]? = some (.cells cur t (0, 0))) (hl : zs.length ≤ 1048576) (hs : zs.length ≤ cur.size) (hn : n = zs.length) (hc : cur.toList.take zs.length = zs.map (.int .i64)) :
    ∃ fp, OwC w B (.row [.int .i64]) (.slice (some ⟨g, 0, none⟩) n cap) (.row (ones zs)) fp := by
  refine ⟨_, OwC.rowMk (fps := List.replicate zs.length []) (by rw [ones_len]; exact hn) (by rw [ones_len]; unfold maxLen; omega) hB hh (by rw [ones_len]; simpa using hs) (by simp [ones_len]) fun i hi hi' => ?_⟩
  rw [ones_len] at hi
  have hcl : i < cur.toList.length := by simpa using Nat.lt_of_lt_of_le hi hs
  have hv : cur.toList[i]? = some (.int .i64 zs[i]) := by
    have := congrArg (·[i]?) hc
    simpa [List.getElem?_take, hi] using this
  have ht : (cur.toList.drop (i * ([Sh.int IntKind.i64] : List Sh).length)).take ([Sh.int IntKind.i64] : List Sh).length = [Value.int .i64 zs[i]] := by
    simp only [List.length_singleton, Nat.mul_one]
    rw [List.drop_eq_getElem_cons hcl, List.take_succ_cons, List.take_zero]
    rw [List.getElem?_eq_getElem hcl] at hv
    rw [Option.some.inj hv]
  rw [ht]
  simp only [ones, List.getElem_map, List.getElem_replicate]
  exact (OwL.cons (OwC.mkInt .i64 zs[i]) (by rw [OwL]; exact ⟨rfl, rfl, rfl⟩))
set_option maxRecDepth 10000 in
theorem zeros56 : (#[Value.int IntKind.i64 0, Value.int IntKind.i64 0, Value.int IntKind.i64 0, Value.int IntKind.i64 0, Value.int IntKind.i64 0, Value.int IntKind.i64 0, Value.int IntKind.i64 0, Value.int IntKind.i64 0, Value.int IntKind.i64 0, Value.int IntKind.i64 0, Value.int IntKind.i64 0, Value.int IntKind.i64 0, Value.int IntKind.i64 0, Value.int IntKind.i64 0, Value.int IntKind.i64 0, Value.int IntKind.i64 0, Value.int IntKind.i64 0, Value.int IntKind.i64 0, Value.int IntKind.i64 0, Value.int IntKind.i64 0, Value.int IntKind.i64 0, Value.int IntKind.i64 0, Value.int IntKind.i64 0, Value.int IntKind.i64 0, Value.int IntKind.i64 0, Value.int IntKind.i64 0, Value.int IntKind.i64 0, Value.int IntKind.i64 0, Value.int IntKind.i64 0, Value.int IntKind.i64 0, Value.int IntKind.i64 0, Value.int IntKind.i64 0, Value.int IntKind.i64 0, Value.int IntKind.i64 0, Value.int IntKind.i64 0, Value.int IntKind.i64 0, Value.int IntKind.i64 0, Value.int IntKind.i64 0, Value.int IntKind.i64 0, Value.int IntKind.i64 0, Value.int IntKind.i64 0, Value.int IntKind.i64 0, Value.int IntKind.i64 0, Value.int IntKind.i64 0, Value.int IntKind.i64 0, Value.int IntKind.i64 0, Value.int IntKind.i64 0, Value.int IntKind.i64 0, Value.int IntKind.i64 0, Value.int IntKind.i64 0, Value.int IntKind.i64 0, Value.int IntKind.i64 0, Value.int IntKind.i64 0, Value.int IntKind.i64 0, Value.int IntKind.i64 0, Value.int IntKind.i64 0] : Array Value) = Array.replicate 56 (Value.int .i64 0) := rfl
set_option maxRecDepth 10000 in
theorem none57 : (#[Value.bool false, Value.bool false, Value.bool false, Value.bool false, Value.bool false, Value.bool false, Value.bool false, Value.bool false, Value.bool false, Value.bool false, Value.bool false, Value.bool false, Value.bool false, Value.bool false, Value.bool false, Value.bool false, Value.bool false, Value.bool false, Value.bool false, Value.bool false, Value.bool false, Value.bool false, Value.bool false, Value.bool false, Value.bool false, Value.bool false, Value.bool false, Value.bool false, Value.bool false, Value.bool false, Value.bool false, Value.bool false, Value.bool false, Value.bool false, Value.bool false, Value.bool false, Value.bool false, Value.bool false, Value.bool false, Value.bool false, Value.bool false, Value.bool false, Value.bool false, Value.bool false, Value.bool false, Value.bool false, Value.bool false, Value.bool false, Value.bool false, Value.bool false, Value.bool false, Value.bool false, Value.bool false, Value.bool false, Value.bool false, Value.bool false, Value.bool false] : Array Value) = Array.replicate 57 (Value.bool false) := rfl
/-- What a function returns that makes a list of codes. -/
def CodesO (zs : List Int) (w : World) (e : Ending) (w' : World) : Prop := ∃ a c fp, e = .returned (.slice a zs.length c) ∧ OwC w' w.heap.size (.row [.int .i64]) (.slice a zs.length c) (.row (ones zs)) fp ∧ Below w.heap.size w w'

set_option maxRecDepth 100000 in
set_option maxHeartbeats 4000000 in
theorem ascending_any (P : Nat → Bool) (cs : Array Value) (hs : cs.size = 57) (hP : ∀ j, j < 57 → cs[j]? = some (.bool (P j))) (w : World) :
    Calls Try.prog 167 #[.agg cs] w (CodesO (ascN P 56) w) := by
  obtain ⟨R, hR⟩ : ∃ R, R = ascN P 56 := ⟨_, rfl⟩
  rw [← hR]
  have HR := Lib.hid hR
  clear hR
  obtain ⟨W, hW⟩ : ∃ W, W = w.alloc (.cells cs 214) := ⟨_, rfl⟩
  obtain ⟨gs, hgs⟩ : ∃ x, x = w.heap.size := ⟨_, rfl⟩
  have HS := Lib.hid (show SetH W gs P by rw [hW, hgs]; exact ⟨cs, heap_alloc_new w _, hs, hP⟩)
  have HB0 := Lib.hid (show Below gs w W by rw [hW, hgs]; exact (Below.refl _ _).alloc (Nat.le_refl _) _)
  have HW := Lib.hid hW
  have HGS := Lib.hid hgs
  clear hW hgs hs hP
  go_enter Try.func167, Try.ntmps167
  go_upto_region 2 with (fail)
  rw [← HW.out, ← HGS.out, zeros56]
  obtain ⟨gl, hgl⟩ : ∃ x, x = gs + 1 := ⟨_, rfl⟩
  obtain ⟨W1, hW1⟩ : ∃ x, x = W.alloc (.cells (Array.replicate 56 (.int .i64 0)) 229) := ⟨_, rfl⟩
  have hWs : W.heap.size = gs + 1 := by rw [HW.out, HGS.out]; simp
  have HL1 := Lib.hid (show ListH W1 gl [] by rw [hW1, hgl, ← hWs]; exact ⟨_, heap_alloc_new W _, by simp, rfl⟩)
  have HS1 := Lib.hid (show SetH W1 gs P from HS.out.block (by rw [hW1]; exact heap_alloc_old W _ HS.out.lt))
  have HB1 := Lib.hid (show Below gs w W1 by rw [hW1]; exact HB0.out.alloc (by have := HS.out.lt; omega) _)
  rw [← hgl, ← hW1]
  have hgg : ¬ gs = gl := by omega
  have hgl2 : gs ≤ gl := by omega
  have hgl1 : ¬ gl = gs := by omega
  clear hW1 hWs hgl
  go_wp2
  go_loopw [4, 5] (fun n c wr => ∃ k : Nat, k ≤ 56 ∧ n = .int .i64 ((ascN P k).length : Nat) ∧ c = .int .i64 ((k : Int) + 1) ∧ ListH wr gl (ascN P k) ∧ SetH wr gs P ∧ Below gs w wr) (fun _ c _ => 57 - (intOf c).toNat)
  case atStart => exact ⟨0, by omega, rfl, rfl, HL1.out, HS1.out, HB1.out⟩
  case round =>
    obtain ⟨k, hk, rfl, rfl, hL, hS, hb⟩ := hrel
    have hlen := ascN_len P k
    have hnx : ascN P (k + 1) = if P (k + 1) = true then ascN P k ++ [((k + 1 : Nat) : Int)] else ascN P k := rfl
    obtain ⟨X, hX⟩ : ∃ X, X = ascN P k := ⟨_, rfl⟩
    rw [← hX] at hL hlen hnx ⊢
    have HX := Lib.hid hX
    have HL := Lib.hid hL
    have HS := Lib.hid hS
    have HB := Lib.hid hb
    clear hX hb
    by_cases hkl : k < 56
    · obtain ⟨s0, s1⟩ := hS.cell (j := k + 1) (by omega)
      obtain ⟨⟨y, l0⟩, l1⟩ := hL.cell (j := X.length) (by omega)
      have hpu := hL.push (((k + 1 : Nat)) : Int) (by omega)
      obtain ⟨n, hn⟩ : ∃ n, n = X.length := ⟨_, rfl⟩
      rw [← hn] at l0 l1 hlen hpu ⊢
      obtain ⟨v, hv⟩ : ∃ v, v = P (k + 1) := ⟨_, rfl⟩
      rw [← hv] at s0 hnx
      rw [show (((k + 1 : Nat)) : Int) = (k : Int) + 1 by omega] at hpu hnx
      have HN := Lib.hid hn
      have HNX := Lib.hid hnx
      have HPU := Lib.hid hpu
      have hk1 : (k : Int) + 1 ≤ 56 := by omega
      have hk57 : (k : Int) + 1 < 57 := by omega
      have hn56 : (n : Int) < 56 := by omega
      have htn : ((k : Int) + 1).toNat = k + 1 := by omega
      clear hL hS hv hn hpu hnx
      cases v
      · have hnx := HNX.out
        rw [if_neg (by decide)] at hnx
        have HQ := Lib.hid hnx
        clear hnx l0 l1
        go_wp2
        go_roundw
        case rel => exact ⟨k + 1, by omega, by rw [HQ.out, HN.out], by go_num, by rw [HQ.out]; exact HL.out, HS.out, HB.out⟩
        case measure => simp [intOf]; omega
      · have hnx := HNX.out
        rw [if_pos rfl] at hnx
        have HQ := Lib.hid hnx
        have HS2 := Lib.hid (show SetH (wr.setCell ⟨gl, n, none⟩ (.int .i64 ((k : Int) + 1))) gs P from HS.out.block (heap_setCell_other wr _ _ _ hgg))
        have HB2 := Lib.hid (show Below gs w (wr.setCell ⟨gl, n, none⟩ (.int .i64 ((k : Int) + 1))) from HB.out.setCell hgl2 _)
        clear hnx
        go_wp2
        go_roundw
        case rel => exact ⟨k + 1, by omega, by rw [HQ.out, List.length_append, ← HN.out]; go_num, by go_num, by rw [HQ.out]; exact HPU.out, HS2.out, HB2.out⟩
        case measure => simp [intOf]; omega
    · obtain rfl : k = 56 := by omega
      obtain ⟨n, hn⟩ : ∃ n, n = X.length := ⟨_, rfl⟩
      have HRX := Lib.hid (show R = X by rw [HR.out, HX.out])
      have HN := Lib.hid hn
      rw [← hn] at hlen ⊢
      have hn57 : (n : Int) ≤ 56 := by omega
      clear hn hL hS hnx
      go_wp2
      go_ret
      obtain ⟨cs, hh, hcs, htk⟩ := HL.out
      obtain ⟨fp, hfp⟩ := owC_cells (n := n) (cap := n) hgl2 hh (by rw [← HN.out]; omega) (by rw [← HN.out, hcs]; exact hlen) HN.out htk
      rw [HRX.out, HGS.out] at *
      exact ⟨some ⟨gl, 0, none⟩, n, fp, by rw [← HN.out]; rfl, by rw [← HN.out]; exact hfp, HB.out⟩
end Go.Proofs.Yteljmfdlegohbaa

namespace Go.Proofs.Yteljmfdlegohbaa
open Go.RowKit

/-- What a walk knows of one held key. -/
theorem hd_at7 {w : World} {ua : Option Addr} {m uc : Nat} {l : List Hd} (h : RdN w (.slice ua m uc) l.length (flatHd l)) {k : Nat} (hk : k < l.length) : ∃ b off, ua = some ⟨b, off, none⟩ ∧ b < w.heap.size ∧
    w.cell? ⟨b, off + k * 5, none⟩ = some (.int .i64 (hdD l k).h) ∧ w.cell? ⟨b, off + k * 5 + 1, none⟩ = some (.int .i64 (hdD l k).k) ∧ w.cell? ⟨b, off + k * 5 + 2, none⟩ = some (.int .i64 (hdD l k).c) ∧ w.cell? ⟨b, off + k * 5 + 3, none⟩ = some (.int .i64 (hdD l k).m) ∧ w.cell? ⟨b, off + k * 5 + 4, none⟩ = some (.int .i64 (hdD l k).n) := by
  rcases rd_hds (l := l) h with ⟨rfl, _⟩ | ⟨b, off, cap, _, hs, hlt, hc⟩
  · simp at hk
  · obtain ⟨rfl, rfl, rfl⟩ := by simpa using hs
    exact ⟨b, off, rfl, hlt, hc k hk⟩

set_option maxRecDepth 100000 in
theorem canBeHeld_q (k c m n : Int) (o : Bool) (ho : o = (okAc k c m n && (!decide (k = 1) && !holdAc k c m n))) (w : World) : Calls Try.prog 166 #[acv k c m n] w fun e w' => e = .returned (.bool o) ∧ Below w.heap.size w w' := by
  obtain ⟨vo, hvo⟩ : ∃ vo, vo = okAc k c m n := ⟨_, rfl⟩
  obtain ⟨vt, hvt⟩ : ∃ vt, vt = holdAc k c m n := ⟨_, rfl⟩
  rw [← hvo, ← hvt] at ho
  have HA := Lib.hid ho
  have HVO := Lib.hid hvo
  have HVT := Lib.hid hvt
  clear ho hvo hvt
  obtain ⟨W, hW⟩ : ∃ W, W = w.alloc (.cells #[.int .i64 k, .int .i64 c, .int .i64 m, .int .i64 n] 203) := ⟨_, rfl⟩
  have HX0 := Lib.hid (show Bxd W w.heap.size [.int .i64 k, .int .i64 c, .int .i64 m, .int .i64 n] by rw [hW]; exact Bxd.new _ _ _)
  have HB0 := Lib.hid (show Below w.heap.size w W by rw [hW]; exact (Below.refl _ _).alloc (Nat.le_refl _) _)
  have HS0 := Lib.hid (show w.heap.size < W.heap.size by rw [hW]; simp)
  have HW := Lib.hid hW
  clear hW
  go_enter Try.func166, Try.ntmps166
  go_wp2_with fail
  rw [← HW.out]
  have c0 := HX0.out.at 0 _ rfl
  have c1 := HX0.out.at 1 _ rfl
  have c2 := HX0.out.at 2 _ rfl
  have c3 := HX0.out.at 3 _ rfl
  refine (implIsAction_q k c m n vo HVO.out _).mono ?_
  rintro e w1 ⟨rfl, hb⟩
  have HB1 := Lib.hid (HB0.out.trans (hb.mono HB0.out.size))
  have HX1 := Lib.hid (HX0.out.below hb HS0.out)
  clear hb c0 c1 c2 c3
  have c0 := HX1.out.at 0 _ rfl
  have c1 := HX1.out.at 1 _ rfl
  have c2 := HX1.out.at 2 _ rfl
  have c3 := HX1.out.at 3 _ rfl
  cases vo
  · obtain rfl : o = false := HA.out
    go_wp2
    go_ret
    exact ⟨rfl, HB1.out⟩
  · by_cases h1 : k = 1
    · obtain rfl : o = false := by rw [HA.out]; simp [h1]
      go_wp2
      go_ret
      exact ⟨rfl, HB1.out⟩
    · have HK := Lib.hid (show o = !vt by rw [HA.out]; simp [h1])
      go_wp2_with fail
      refine (implIsTapHold_q k c m n vt HVT.out _).mono ?_
      rintro e w2 ⟨rfl, hb⟩
      have HB2 := Lib.hid (HB1.out.trans (hb.mono HB1.out.size))
      clear hb c0 c1 c2 c3
      go_wp2
      go_ret
      exact ⟨ret_bool (by rw [HK.out]; simp [h1]), HB2.out⟩

theorem isMask4_any (x : Int) (v : Bool) (hv : v = inB x 0 15) (w : World) : Calls Try.prog 156 #[.int .i64 4, .int .i64 x] w fun e w' => e = .returned (.bool v) ∧ w = w' := by
  rw [hv]; exact isMaskOf_any 4 x w (by omega)
theorem hasKey_t (S K : Nat) (o : Bool) (ho : o = S.testBit K) (w : World) (hS : S < 2 ^ 62) (hK : K < 62) : Calls Try.prog 161 #[.int .i64 S, .int .i64 K] w fun e w' => e = .returned (.bool o) ∧ w = w' := by
  rw [ho, ← hz_nat S K hS]; exact hasKey_any S K w hK

set_option maxRecDepth 100000 in
set_option maxHeartbeats 4000000 in
theorem implIsHeld_any (v : Value) (l : List Hd) (w : World) (hn : l.length ≤ maxLen) (h : RdN w v l.length (flatHd l)) :
    Calls Try.prog 104 #[v] w fun e w' => e = .returned (.bool (okHd l)) ∧ Below w.heap.size w w' := by
  obtain ⟨r, hr⟩ : ∃ r, r = okHd l := ⟨_, rfl⟩
  rw [← hr]
  have HR := Lib.hid hr
  clear hr
  unfold maxLen at hn
  rcases rd_hds h with ⟨rfl, a, cap, rfl⟩ | ⟨b, off, cap, hpos, rfl, hlt, hc⟩
  · obtain rfl : r = true := HR.out
    clear h
    go_enter Try.func104, Try.ntmps104
    go_wp2
    refine wp_loop_rounds 1 ?_
    rw [rounds_succ]
    go_wp2
    go_ret
    exact ⟨rfl, Below.refl _ _⟩
  · have HC := Lib.hid hc
    obtain ⟨N, hN⟩ : ∃ N, N = l.length := ⟨_, rfl⟩
    rw [← hN] at hn hpos ⊢
    have HNN := Lib.hid hN
    clear h hc hN
    go_enter Try.func104, Try.ntmps104
    go_wp2
    go_loopw [3, 5, 8] (fun s _ i wr => ∃ (j : Nat), j ≤ N ∧ i = .int .i64 j ∧ s = .int .i64 (seenN l j : Nat) ∧ hdN l j = true ∧ Below w.heap.size w wr) (fun _ _ i _ => N - (intOf i).toNat)
    case atStart => exact ⟨0, Nat.zero_le _, rfl, rfl, rfl, Below.refl _ _⟩
    case round =>
      obtain ⟨j, hj, rfl, rfl, hd, hb⟩ := hrel
      by_cases hlt' : j < N
      · obtain ⟨c0, c1, c2, c3, c4⟩ := HC.out j (by rw [← HNN.out]; exact hlt')
        obtain ⟨e, he⟩ : ∃ e, e = hdD l j := ⟨_, rfl⟩
        have hsl := seenN_lt hd
        have hbad : (okOne e && !(seenN l j).testBit e.h.toNat) = false → r = false := fun h0 => by rw [HR.out, okHd, ← HNN.out]; exact hdN_no (by rw [← he]; exact h0) _ hlt'
        have hnx : (okOne e && !(seenN l j).testBit e.h.toNat) = true → hdN l (j + 1) = true := fun h0 => by rw [hdN, hd, ← he, h0]; rfl
        have hsn : seenN l (j + 1) = seenN l j ||| 2 ^ e.h.toNat := by rw [seenN, ← he]
        rw [← he] at c0 c1 c2 c3 c4
        obtain ⟨S, hS⟩ : ∃ S, S = seenN l j := ⟨_, rfl⟩
        rw [← hS] at hsl hbad hnx hsn ⊢
        obtain ⟨k0, ka, ca, ma, na⟩ := e
        simp only at c0 c1 c2 c3 c4 hbad hnx hsn
        have f0 := (hb.cell (p := ⟨b, off + j * 5, none⟩) hlt).trans c0
        have f1 := (hb.cell (p := ⟨b, off + j * 5 + 1, none⟩) hlt).trans c1
        have f2 := (hb.cell (p := ⟨b, off + j * 5 + 2, none⟩) hlt).trans c2
        have f3 := (hb.cell (p := ⟨b, off + j * 5 + 3, none⟩) hlt).trans c3
        have f4 := (hb.cell (p := ⟨b, off + j * 5 + 4, none⟩) hlt).trans c4
        obtain ⟨V, hV⟩ : ∃ V, V = inB k0 0 31 := ⟨_, rfl⟩
        obtain ⟨vc, hvc⟩ : ∃ vc, vc = (okAc ka ca ma na && (!decide (ka = 1) && !holdAc ka ca ma na)) := ⟨_, rfl⟩
        have hone : okOne ⟨k0, ka, ca, ma, na⟩ = (V && vc) := by rw [hV, hvc]; rfl
        rw [hone] at hbad hnx
        have HBad := Lib.hid hbad
        have HNX := Lib.hid hnx
        have HSN := Lib.hid hsn
        have HSL := Lib.hid hsl
        have HVC := Lib.hid hvc
        have HV := Lib.hid hV
        have HB := Lib.hid hb
        clear c0 c1 c2 c3 c4 hbad hnx hsn hsl hvc hV hone hb he hS hd
        go_upto_region 5 with (fail)
        obtain ⟨U, hU⟩ : ∃ U, U = wr.alloc (.cells #[.int .i64 k0, .int .i64 ka, .int .i64 ca, .int .i64 ma, .int .i64 na] 212) := ⟨_, rfl⟩
        obtain ⟨g, hg⟩ : ∃ g, g = wr.heap.size := ⟨_, rfl⟩
        have hbx : Bxd U g [.int .i64 k0, .int .i64 ka, .int .i64 ca, .int .i64 ma, .int .i64 na] := by rw [hU, hg]; exact Bxd.new _ _ _
        have hu : Below wr.heap.size wr U := by rw [hU]; exact (Below.refl _ _).alloc (Nat.le_refl _) _
        have hgs : g < U.heap.size := by rw [hU, hg]; simp
        rw [← hU, ← hg]
        have HXU := Lib.hid hbx
        have HGS := Lib.hid hgs
        have HBU := Lib.hid (HB.out.trans (hu.mono HB.out.size))
        clear hU hg hbx hu hgs f0 f1 f2 f3 f4
        have a0 := HXU.out.at 0 _ rfl
        have a1 := HXU.out.at 1 _ rfl
        have a2 := HXU.out.at 2 _ rfl
        have a3 := HXU.out.at 3 _ rfl
        have a4 := HXU.out.at 4 _ rfl
        go_wp2_with fail
        refine (isBetween_any k0 0 31 _).mono ?_
        rw [← HV.out]
        rintro e w2 ⟨rfl, rfl⟩
        cases V
        · obtain rfl : r = false := HBad.out rfl
          go_wp2
          go_ret
          exact ⟨rfl, HBU.out⟩
        · have hk : 0 ≤ k0 ∧ k0 ≤ 31 := of_decide_eq_true HV.out.symm
          obtain ⟨K, rfl⟩ : ∃ K : Nat, k0 = K := ⟨k0.toNat, by omega⟩
          have hK : K ≤ 31 := by omega
          have hK0 : ¬ (K : Int) < 0 := by omega
          obtain ⟨B, hB⟩ : ∃ B, B = S.testBit K := ⟨_, rfl⟩
          have HBB := Lib.hid hB
          have HS62 := Lib.hid (show S < 2 ^ 62 by have := HSL.out; omega)
          clear hB hk
          go_wp2_with fail
          refine (hasKey_t S K B HBB.out _ HS62.out (by omega)).mono ?_
          rintro e w2 ⟨rfl, rfl⟩
          cases B
          · go_wp2_with fail
            refine (canBeHeld_q ka ca ma na vc HVC.out _).mono ?_
            rintro e w2 ⟨rfl, hb2⟩
            have HB2 := Lib.hid (HBU.out.trans (hb2.mono HBU.out.size))
            have HX2 := Lib.hid (HXU.out.below hb2 HGS.out)
            clear hb2 a0 a1 a2 a3 a4
            have a0 := HX2.out.at 0 _ rfl
            cases vc
            · obtain rfl : r = false := HBad.out rfl
              go_wp2
              go_ret
              exact ⟨rfl, HB2.out⟩
            · have hq : hdN l (j + 1) = true := HNX.out (by rw [Int.toNat_natCast, ← HBB.out]; rfl)
              have hp31 : 2 ^ K ≤ 2 ^ 31 := Nat.pow_le_pow_right (by omega) hK
              have hor := or_nat S (2 ^ K) (by have := HSL.out; omega) (by omega)
              have hsn := HSN.out
              rw [Int.toNat_natCast] at hsn
              have hpe : ((2 ^ K : Nat) : Int) = (2 : Int) ^ K := by rw [Int.natCast_pow]; rfl
              have hsh : wrap64 ((2 : Int) ^ K) = 2 ^ K := (wrap64_pow62 (by omega)).trans hpe
              rw [hpe] at hor
              have HOR := Lib.hid hor
              have HQ := Lib.hid hq
              have HSN2 := Lib.hid hsn
              clear hq hsn hpe hor
              go_wp2
              go_roundw
              case rel => exact ⟨j + 1, by omega, by go_num, by rw [HSN2.out, ← HOR.out], HQ.out, HB2.out⟩
              case measure => simp [intOf]; omega
          · obtain rfl : r = false := HBad.out (by rw [Int.toNat_natCast, ← HBB.out]; simp)
            go_wp2
            go_ret
            exact ⟨rfl, HBU.out⟩
      · obtain rfl : j = N := by omega
        have hrt : r = true := by rw [HR.out, okHd, ← HNN.out]; exact hd
        subst hrt
        go_wp2
        go_ret
        exact ⟨rfl, hb⟩
theorem implIsHeld_q (v : Value) (l : List Hd) (o : Bool) (ho : o = okHd l) (w : World) (hn : l.length ≤ maxLen) (h : RdN w v l.length (flatHd l)) :
    Calls Try.prog 104 #[v] w fun e w' => e = .returned (.bool o) ∧ Below w.heap.size w w' := by
  rw [ho]; exact implIsHeld_any v l w hn h

/-- The code ahead of place j, 0 at the start. -/
def lastN (zs : List Int) (j : Nat) : Int := if j = 0 then 0 else zs.getD (j - 1) 0
theorem lastN_in {zs : List Int} {j : Nat} (h : rpN zs j = true) : 0 ≤ lastN zs j ∧ lastN zs j ≤ 56 := by
  rw [lastN]
  split
  · omega
  · rename_i hj
    have h1 := rpN_at h (j - 1) (by omega)
    rw [rpAt, Bool.and_eq_true] at h1
    have h2 := of_decide_eq_true h1.1
    omega
theorem rpAt_last {zs : List Int} {j : Nat} (h : rpN zs j = true) : rpAt zs j = inB (zs.getD j 0) (lastN zs j + 1) 56 := by
  have h1 := lastN_in h
  rw [rpAt, lastN] at *
  by_cases hj : j = 0
  · subst hj; simp [inB]
  · rw [if_neg hj] at h1 ⊢
    have hd : decide (j = 0) = false := decide_eq_false hj
    rw [hd, Bool.false_or, Bool.eq_iff_iff, Bool.and_eq_true]
    unfold inB
    simp only [decide_eq_true_eq]
    omega

set_option maxRecDepth 100000 in
set_option maxHeartbeats 4000000 in
theorem implIsReport_any (r : Int) (u : Value) (zs : List Int) (w : World) (hl : zs.length ≤ maxLen) (h : Rd w u (zs.map (.int .i64))) :
    Calls Try.prog 145 #[rpv r u] w fun e w' => e = .returned (.bool (okRp r zs)) ∧ Below w.heap.size w w' := by
  unfold maxLen at hl
  obtain ⟨v, hv⟩ : ∃ v, v = okRp r zs := ⟨_, rfl⟩
  rw [← hv]
  obtain ⟨V, hV⟩ : ∃ V, V = inB r 0 15 := ⟨_, rfl⟩
  have hv2 : v = (rpN zs zs.length && V) := by rw [hv, hV]; rfl
  have HV := Lib.hid hV
  have HVV := Lib.hid hv2
  clear hv hV hv2
  rcases rd_ints h with ⟨rfl, a, cap, rfl⟩ | ⟨b, off, cap, hpos, rfl, hlt, hc⟩
  · clear h
    obtain rfl : v = V := HVV.out
    obtain ⟨W, hW⟩ : ∃ W, W = w.alloc (.cells #[.int .i64 r, .slice a 0 cap] 62) := ⟨_, rfl⟩
    have HX0 := Lib.hid (show Bxd W w.heap.size [.int .i64 r, .slice a 0 cap] by rw [hW]; exact Bxd.new _ _ _)
    have HB0 := Lib.hid (show Below w.heap.size w W by rw [hW]; exact (Below.refl _ _).alloc (Nat.le_refl _) _)
    have HS0 := Lib.hid (show w.heap.size < W.heap.size by rw [hW]; simp)
    have HW := Lib.hid hW
    clear hW
    go_enter Try.func145, Try.ntmps145
    go_wp2
    rw [← HW.out]
    have c0 := HX0.out.at 0 _ rfl
    have c1 := HX0.out.at 1 _ rfl
    refine wp_loop_rounds 1 ?_
    rw [rounds_succ]
    go_wp2_with fail
    refine (isBetween_any r 0 15 _).mono ?_
    rw [← HV.out]
    rintro e w0 ⟨rfl, rfl⟩
    go_wp2
    go_ret
    exact ⟨rfl, HB0.out⟩
  · have HC := Lib.hid hc
    obtain ⟨N, hN⟩ : ∃ N, N = zs.length := ⟨_, rfl⟩
    rw [← hN] at hl hpos ⊢
    have HNN := Lib.hid hN
    clear h hc hN
    obtain ⟨W, hW⟩ : ∃ W, W = w.alloc (.cells #[.int .i64 r, .slice (some ⟨b, off, none⟩) N cap] 62) := ⟨_, rfl⟩
    have HX0 := Lib.hid (show Bxd W w.heap.size [.int .i64 r, .slice (some ⟨b, off, none⟩) N cap] by rw [hW]; exact Bxd.new _ _ _)
    have HB0 := Lib.hid (show Below w.heap.size w W by rw [hW]; exact (Below.refl _ _).alloc (Nat.le_refl _) _)
    have HS0 := Lib.hid (show w.heap.size < W.heap.size by rw [hW]; simp)
    have HW := Lib.hid hW
    clear hW
    go_enter Try.func145, Try.ntmps145
    go_wp2
    rw [← HW.out]
    have c0 := HX0.out.at 0 _ rfl
    have c1 := HX0.out.at 1 _ rfl
    go_wp2
    clear c1
    go_loopw [3, 5, 9] (fun s _ i wr => ∃ (j : Nat), j ≤ N ∧ i = .int .i64 j ∧ s = .int .i64 (lastN zs j) ∧ rpN zs j = true ∧ wr = W) (fun _ _ i _ => N - (intOf i).toNat)
    case atStart => exact ⟨0, Nat.zero_le _, rfl, rfl, rfl, rfl⟩
    case round =>
      obtain ⟨j, hj, rfl, rfl, hp, rfl⟩ := hrel
      by_cases hlt' : j < N
      · have d1 : wr.cell? ⟨b, off + j, none⟩ = some (.int .i64 (zs.getD j 0)) := (HB0.out.cell (p := ⟨b, off + j, none⟩) hlt).trans (HC.out j (by rw [← HNN.out]; exact hlt'))
        have hbad : rpAt zs j = false → v = false := fun h0 => by rw [HVV.out, rpN_no h0 _ (by rw [← HNN.out]; exact hlt'), Bool.false_and]
        have hnx : rpAt zs j = true → rpN zs (j + 1) = true := fun h0 => by rw [rpN, hp, h0]; rfl
        rw [rpAt_last hp] at hbad hnx
        obtain ⟨hl0, hl5⟩ := lastN_in hp
        have hls : lastN zs (j + 1) = zs.getD j 0 := by rw [lastN, if_neg (by omega)]; rfl
        obtain ⟨z, hz⟩ : ∃ z, z = zs.getD j 0 := ⟨_, rfl⟩
        obtain ⟨L, hL⟩ : ∃ L, L = lastN zs j := ⟨_, rfl⟩
        rw [← hz] at d1 hbad hnx hls
        rw [← hL] at hbad hnx hl0 hl5 ⊢
        obtain ⟨q, hq⟩ : ∃ q, q = inB z (L + 1) 56 := ⟨_, rfl⟩
        rw [← hq] at hbad hnx
        have HBad := Lib.hid hbad
        have HNX := Lib.hid hnx
        have HQ := Lib.hid hq
        have HLS := Lib.hid hls
        clear hbad hnx hq hz hp hls hL
        go_wp2_with fail
        refine (isBetween_any z (L + 1) 56 _).mono ?_
        rw [← HQ.out]
        rintro e w2 ⟨rfl, rfl⟩
        cases q
        · obtain rfl : v = false := HBad.out rfl
          go_wp2
          go_ret
          exact ⟨rfl, HB0.out⟩
        · have HT := Lib.hid (HNX.out rfl)
          go_wp2
          go_roundw
          case rel => exact ⟨j + 1, by omega, by go_num, by rw [HLS.out], HT.out, by first | rfl | trivial⟩
          case measure => simp [intOf]; omega
      · obtain rfl : j = N := by omega
        obtain rfl : v = V := by rw [HVV.out, ← HNN.out, hp, Bool.true_and]
        go_wp2_with fail
        refine (isBetween_any r 0 15 _).mono ?_
        rw [← HV.out]
        rintro e w0 ⟨rfl, rfl⟩
        go_wp2
        go_ret
        exact ⟨rfl, HB0.out⟩
theorem implIsReport_q (r : Int) (u : Value) (zs : List Int) (o : Bool) (ho : o = okRp r zs) (w : World) (hl : zs.length ≤ maxLen) (h : Rd w u (zs.map (.int .i64))) :
    Calls Try.prog 145 #[rpv r u] w fun e w' => e = .returned (.bool o) ∧ Below w.heap.size w w' := by
  rw [ho]; exact implIsReport_any r u zs w hl h

set_option maxRecDepth 100000 in
set_option maxHeartbeats 4000000 in
theorem slicesEqual_any (u1 u2 : Value) (z1 z2 : List Int) (w : World) (hl1 : z1.length ≤ maxLen) (h1 : Rd w u1 (z1.map (.int .i64))) (h2 : Rd w u2 (z2.map (.int .i64))) :
    Calls Try.prog 170 #[u1, u2] w fun e w' => e = .returned (.bool (decide (z1 = z2))) ∧ Below w.heap.size w w' := by
  unfold maxLen at hl1
  obtain ⟨v, hv⟩ : ∃ v, v = decide (z1 = z2) := ⟨_, rfl⟩
  rw [← hv]
  have HV := Lib.hid hv
  clear hv
  obtain ⟨a1, c1, hu1⟩ : ∃ a cap, u1 = .slice a z1.length cap := by obtain ⟨a, cap, hu, _⟩ := h1; exact ⟨a, cap, by simpa using hu⟩
  obtain ⟨a2, c2, hu2⟩ : ∃ a cap, u2 = .slice a z2.length cap := by obtain ⟨a, cap, hu, _⟩ := h2; exact ⟨a, cap, by simpa using hu⟩
  subst hu1 hu2
  have H1 := Lib.hid h1
  have H2 := Lib.hid h2
  clear h1 h2
  by_cases hn : z1.length = z2.length
  · obtain ⟨N, hN⟩ : ∃ N, N = z1.length := ⟨_, rfl⟩
    have HNN := Lib.hid hN
    have HN2 := Lib.hid hn
    rw [← hn, ← hN]
    rw [← hN] at hl1
    clear hN
    rcases rd_ints H1.out with ⟨hz, a, cap, hs⟩ | ⟨b, off, cap, hpos, hs, hlt, hc⟩
    · have hN0 : N = 0 := by rw [HNN.out, hz]; rfl
      have hz2 : z2 = [] := List.eq_nil_of_length_eq_zero (by rw [← hn, ← HNN.out, hN0])
      obtain rfl : v = true := by rw [HV.out]; exact decide_eq_true (by rw [hz, hz2])
      subst hN0
      clear hs hn
      go_enter Try.func170, Try.ntmps170
      go_wp2
      refine wp_loop_rounds 1 ?_
      rw [rounds_succ]
      go_wp2
      go_ret
      exact ⟨rfl, Below.refl _ _⟩
    · rcases rd_ints H2.out with ⟨hz, _⟩ | ⟨b2, off2, cap2, _, hs2, hlt2, hc2⟩
      · exfalso; rw [hn, hz] at hpos; simp at hpos
      · have e1 : a1 = some ⟨b, off, none⟩ := by simp only [Value.slice.injEq] at hs; exact hs.1
        have e2 : a2 = some ⟨b2, off2, none⟩ := by simp only [Value.slice.injEq] at hs2; exact hs2.1
        subst e1 e2
        have HC := Lib.hid hc
        have HC2 := Lib.hid hc2
        clear hc hc2 hn hs hs2
        go_enter Try.func170, Try.ntmps170
        go_wp2
        go_loopw [5, 13] (fun _ i wr => ∃ (k : Nat), k ≤ N ∧ i = .int .i64 k ∧ (∀ q, q < k → z1.getD q 0 = z2.getD q 0) ∧ Below w.heap.size w wr) (fun _ i _ => N - (intOf i).toNat)
        case atStart => exact ⟨0, Nat.zero_le _, rfl, fun q hq => absurd hq (Nat.not_lt_zero _), Below.refl _ _⟩
        case round =>
          obtain ⟨k, hk, rfl, hp, hb⟩ := hrel
          by_cases hlt' : k < N
          · have d1 := (hb.cell (p := ⟨b, off + k, none⟩) hlt).trans (HC.out k (by rw [← HNN.out]; exact hlt'))
            have d2 := (hb.cell (p := ⟨b2, off2 + k, none⟩) hlt2).trans (HC2.out k (by rw [← HN2.out, ← HNN.out]; exact hlt'))
            have hbad : z1.getD k 0 ≠ z2.getD k 0 → v = false := fun h0 => by rw [HV.out]; exact decide_eq_false (fun h => h0 (by rw [h]))
            have hnx : z1.getD k 0 = z2.getD k 0 → ∀ q, q < k + 1 → z1.getD q 0 = z2.getD q 0 := fun h0 q hq => by
              rcases Nat.lt_or_ge q k with h3 | h3
              · exact hp q h3
              · obtain rfl : q = k := by omega
                exact h0
            have HBad := Lib.hid hbad
            have HNX := Lib.hid hnx
            have HB := Lib.hid hb
            clear hbad hnx hb hp
            obtain ⟨p1, hp1⟩ : ∃ x, x = z1.getD k 0 := ⟨_, rfl⟩
            obtain ⟨p2, hp2⟩ : ∃ x, x = z2.getD k 0 := ⟨_, rfl⟩
            rw [← hp1] at d1 HBad HNX
            rw [← hp2] at d2 HBad HNX
            clear hp1 hp2
            by_cases he : p1 = p2
            · have HT := Lib.hid (HNX.out he)
              subst he
              go_wp2
              go_quiet (fail)
              go_wp2
              go_roundw
              case rel => exact ⟨k + 1, by omega, by go_num, HT.out, below_drewN HB.out _⟩
              case measure => simp [intOf]; omega
            · obtain rfl : v = false := HBad.out he
              go_wp2
              go_quiet (fail)
              go_wp2
              go_ret
              exact ⟨rfl, below_drewN HB.out _⟩
          · obtain rfl : k = N := by omega
            obtain rfl : v = true := by
              rw [HV.out]
              exact decide_eq_true (take_sameI HN2.out (fun q hq => hp q (by rw [HNN.out]; exact hq)))
            go_wp2
            go_ret
            exact ⟨rfl, hb⟩
  · obtain rfl : v = false := by rw [HV.out]; exact decide_eq_false (fun h => hn (by rw [h]))
    have hne : ¬ ((z1.length : Int) = (z2.length : Int)) := by omega
    obtain ⟨n1, hn1⟩ : ∃ n, n = z1.length := ⟨_, rfl⟩
    obtain ⟨n2, hn2⟩ : ∃ n, n = z2.length := ⟨_, rfl⟩
    rw [← hn1, ← hn2] at hne ⊢
    rw [← hn1] at hl1
    clear hn hn1 hn2
    go_enter Try.func170, Try.ntmps170
    go_wp2
    go_ret
    exact ⟨rfl, Below.refl _ _⟩

set_option maxRecDepth 100000 in
set_option maxHeartbeats 4000000 in
theorem implSameReport_any (r1 : Int) (u1 : Value) (z1 : List Int) (r2 : Int) (u2 : Value) (z2 : List Int) (w : World) (hl1 : z1.length ≤ maxLen) (h1 : Rd w u1 (z1.map (.int .i64))) (h2 : Rd w u2 (z2.map (.int .i64))) :
    Calls Try.prog 121 #[rpv r1 u1, rpv r2 u2] w fun e w' => e = .returned (.bool (sameRp r1 z1 r2 z2)) ∧ Below w.heap.size w w' := by
  obtain ⟨v, hv⟩ : ∃ v, v = sameRp r1 z1 r2 z2 := ⟨_, rfl⟩
  rw [← hv]
  have HV := Lib.hid hv
  clear hv
  obtain ⟨a1, c1, hu1⟩ : ∃ a cap, u1 = .slice a z1.length cap := by obtain ⟨a, cap, hu, _⟩ := h1; exact ⟨a, cap, by simpa using hu⟩
  obtain ⟨a2, c2, hu2⟩ : ∃ a cap, u2 = .slice a z2.length cap := by obtain ⟨a, cap, hu, _⟩ := h2; exact ⟨a, cap, by simpa using hu⟩
  subst hu1 hu2
  obtain ⟨n1, hn1⟩ : ∃ n, n = z1.length := ⟨_, rfl⟩
  obtain ⟨n2, hn2⟩ : ∃ n, n = z2.length := ⟨_, rfl⟩
  obtain ⟨W, hW⟩ : ∃ W, W = (w.alloc (.cells #[.int .i64 r1, .slice a1 n1 c1] 62)).alloc (.cells #[.int .i64 r2, .slice a2 n2 c2] 62) := ⟨_, rfl⟩
  have hB0 : Below w.heap.size w W := by rw [hW]; exact ((Below.refl _ _).alloc (Nat.le_refl _) _).alloc (by simp) _
  have k1 : W.heap[w.heap.size]? = some (.cells #[.int .i64 r1, .slice a1 n1 c1] 62 (0, 0)) := by
    rw [hW, Below.heap_alloc _ _ _ (by simp)]; exact heap_alloc_new w _
  have k2 : W.heap[w.heap.size + 1]? = some (.cells #[.int .i64 r2, .slice a2 n2 c2] 62 (0, 0)) := by
    rw [hW]; simpa using heap_alloc_new (w.alloc (.cells #[.int .i64 r1, .slice a1 n1 c1] 62)) _
  have K1 := Lib.hid k1
  have K2 := Lib.hid k2
  have H1 := Lib.hid (show Rd W (.slice a1 n1 c1) (z1.map (.int .i64)) by rw [hn1]; exact h1.below hB0)
  have H2 := Lib.hid (show Rd W (.slice a2 n2 c2) (z2.map (.int .i64)) by rw [hn2]; exact h2.below hB0)
  have HB0 := Lib.hid hB0
  have HW := Lib.hid hW
  have HL1 := Lib.hid hl1
  rw [← hn1, ← hn2]
  clear hW hB0 k1 k2 h1 h2 hn1 hn2 hl1
  go_enter Try.func121, Try.ntmps121
  go_upto_region 1 with (fail)
  rw [← HW.out]
  have x0 := (cells_of_heap K1.out 0 (by simp)).1
  have x1 := (cells_of_heap K1.out 1 (by simp)).1
  have y0 := (cells_of_heap K2.out 0 (by simp)).1
  have y1 := (cells_of_heap K2.out 1 (by simp)).1
  simp only [List.getElem_toArray, List.getElem_cons_zero, List.getElem_cons_succ] at x0 x1 y0 y1
  by_cases hr : r1 = r2
  · have HK := Lib.hid (show v = decide (z1 = z2) by rw [HV.out, sameRp]; simp [hr])
    subst hr
    go_wp2_with fail
    refine (slicesEqual_any _ _ z1 z2 _ HL1.out H1.out H2.out).mono ?_
    rw [← HK.out]
    rintro e w2 ⟨rfl, hb⟩
    have HB2 := Lib.hid (HB0.out.trans (hb.mono HB0.out.size))
    clear hb x0 x1 y0 y1
    go_wp2
    go_ret
    exact ⟨rfl, HB2.out⟩
  · obtain rfl : v = false := by rw [HV.out]; exact decide_eq_false (fun h => hr h.1)
    go_wp2
    go_ret
    exact ⟨rfl, HB0.out⟩
end Go.Proofs.Yteljmfdlegohbaa

namespace Go.Proofs.Yteljmfdlegohbaa
open Go.RowKit

theorem okOne_code {e : Hd} (h : okOne e = true) : (0 ≤ e.c ∧ e.c ≤ 56) ∧ (¬ (e.k = 2 ∨ e.k = 8) → e.m = 0) := by
  obtain ⟨_, h1, _, h2⟩ := okOne_at h
  have h3 : ¬ (e.k = 6 ∨ e.k = 7) := fun hk => by rw [holdAc, h1, decide_eq_true hk] at h2; exact absurd h2 (by decide)
  unfold okAc inB at h1
  split at h1
  · simp only [Bool.and_eq_true, decide_eq_true_eq] at h1; omega
  split at h1
  · simp only [Bool.and_eq_true, Bool.or_eq_true, decide_eq_true_eq] at h1; omega
  split at h1
  · simp only [Bool.and_eq_true, decide_eq_true_eq] at h1; omega
  split at h1
  · simp only [Bool.and_eq_true, decide_eq_true_eq] at h1; omega
  split at h1
  · omega
  split at h1
  · omega
  split at h1
  · simp only [Bool.and_eq_true, decide_eq_true_eq] at h1; omega
  · exact absurd h1 (by decide)
theorem SetH.congr {w : World} {g : Nat} {P Q : Nat → Bool} (h : SetH w g P) (e : ∀ j, j < 57 → P j = Q j) : SetH w g Q := by
  obtain ⟨cs, hh, hs, hP⟩ := h
  exact ⟨cs, hh, hs, fun j hj => by rw [hP j hj, e j hj]⟩
theorem tySet : Try.prog.underlying 214 = some (.array 57 4) := by kernel_rfl
theorem iSet : (Try.prog.info? 214).map (·.size) = some 57 := by kernel_rfl

set_option maxRecDepth 100000 in
set_option maxHeartbeats 8000000 in
theorem implReportOf_any (v : Value) (l : List Hd) (w : World) (hn : l.length ≤ maxLen) (h : RdN w v l.length (flatHd l)) :
    Calls Try.prog 105 #[v] w (RpvO (rofM l : Nat) (rofK l) w) := by
  obtain ⟨R, hR⟩ : ∃ R, R = okHd l := ⟨_, rfl⟩
  obtain ⟨rm, hrm⟩ : ∃ x, x = rofM l := ⟨_, rfl⟩
  obtain ⟨rk, hrk⟩ : ∃ x, x = rofK l := ⟨_, rfl⟩
  rw [← hrm, ← hrk]
  have HRm := Lib.hid hrm
  have HRk := Lib.hid hrk
  clear hrm hrk
  obtain ⟨xa, xc, rfl⟩ := RdN.shape h
  obtain ⟨n, hnl⟩ : ∃ n, n = l.length := ⟨_, rfl⟩
  have HNL := Lib.hid hnl
  have HR := Lib.hid hR
  have H := Lib.hid h
  have HN := Lib.hid hn
  have hnr : n ≤ maxLen := by rw [hnl]; exact hn
  unfold maxLen at hnr
  rw [← hnl]
  clear hR h hn hnl
  obtain ⟨gw, hgw⟩ : ∃ g, g = w.heap.size := ⟨_, rfl⟩
  obtain ⟨V, hV⟩ : ∃ V, V = w.alloc (.cells #[.int .i64 0, .slice none 0 0] 62) := ⟨_, rfl⟩
  have HG0 := Lib.hid (show V.heap[gw]? = some (.cells #[.int .i64 0, .slice none 0 0] 62 (0, 0)) by rw [hV, hgw]; exact heap_alloc_new w _)
  have HB0 := Lib.hid (show Below gw w V by rw [hV, hgw]; exact (Below.refl _ _).alloc (Nat.le_refl _) _)
  have HS0 := Lib.hid (show V.heap.size = gw + 1 by rw [hV, hgw]; simp)
  have HV := Lib.hid hV
  have HGW := Lib.hid hgw
  clear hV
  go_enter Try.func105, Try.ntmps105
  go_upto_region 1 with (fail)
  rw [← HV.out, ← hgw]
  clear hgw
  go_wp2_with fail
  refine (implIsHeld_q _ l R HR.out _ HN.out (by rw [HNL.out]; have := H.out.below (show Below w.heap.size w V by rw [← HGW.out]; exact HB0.out); rw [← HNL.out] at this ⊢; exact this)).mono ?_
  rintro e w1 ⟨rfl, hb⟩
  have HB1 := Lib.hid (show Below gw w w1 from HB0.out.trans (hb.mono (by rw [HS0.out]; omega)))
  have HG1 := Lib.hid ((hb.block gw (by rw [HS0.out]; omega)).trans HG0.out)
  have HS1 := Lib.hid (show gw < w1.heap.size from Nat.lt_of_lt_of_le (by rw [HS0.out]; omega) hb.size)
  clear hb
  obtain ⟨y0, q0⟩ := cells_of_heap HG1.out 0 (by simp)
  obtain ⟨y1, q1⟩ := cells_of_heap HG1.out 1 (by simp)
  cases R
  · obtain rfl : rm = 0 := by rw [HRm.out, rofM, ← HR.out]; rfl
    obtain rfl : rk = [] := by rw [HRk.out, rofK, ← HR.out]; rfl
    go_wp2
    clear y0 q0 y1 q1
    obtain ⟨wf, hwf⟩ : ∃ x, x = putW (w1) (gw) 0 [.int .i64 0, .slice none 0 0] := ⟨_, rfl⟩
    have kf := putW_all [.int .i64 0, .slice none 0 0] HG1.out rfl
    have bf := putW_below (b := gw) (by first | omega | simp) [.int .i64 0, .slice none 0 0] 0 _ HB1.out
    have of := (show OwC (putW w1 gw 0 [.int .i64 0, .slice none 0 0]) gw (.row [.int .i64]) (.slice none 0 0) (.row (ones [])) [] from OwC.rowNil)
    rw [← hwf] at kf bf of
    have cf := hwf.symm
    simp only [putW, Nat.reduceAdd] at cf
    rw [cf]
    clear cf hwf
    have f0 := (cells_of_heap kf 0 (by simp)).1
    have f1 := (cells_of_heap kf 1 (by simp)).1
    simp only [List.getElem_toArray, List.getElem_cons_zero, List.getElem_cons_succ] at f0 f1
    refine bodyPost_ret (v := rpv 0 (.slice none 0 0)) (by simp [results, Try.results105, go_sem, f0, f1]) rfl ⟨none, 0, [], rfl, by rw [← HGW.out]; exact of, by rw [← HGW.out]; exact bf⟩
  · have HM := Lib.hid (show rm = mdOf l n by rw [HRm.out, rofM, ← HR.out, HNL.out]; rfl)
    have HK := Lib.hid (show rk = codesN l 56 by rw [HRk.out, rofK, ← HR.out]; rfl)
    have HOk := Lib.hid (show okHd l = true from HR.out.symm)
    go_upto_region 5 with (fail)
    rw [none57]
    obtain ⟨gp, hgp⟩ : ∃ x, x = w1.heap.size := ⟨_, rfl⟩
    obtain ⟨U, hU⟩ : ∃ x, x = w1.alloc (.cells (Array.replicate 57 (.bool false)) 214) := ⟨_, rfl⟩
    have HP0 := Lib.hid (show SetH U gp (fun c => hasC l (c : Int) 0) by
      rw [hU, hgp]
      exact ⟨_, heap_alloc_new w1 _, by simp, fun j hj => by simp [hj, hasC]⟩)
    have HGU := Lib.hid (show U.heap[gw]? = some (.cells #[.int .i64 0, .slice none 0 0] 62 (0, 0)) by rw [hU, heap_alloc_old w1 _ HS1.out]; exact HG1.out)
    have HBU := Lib.hid (show Below gw w U by rw [hU]; exact HB1.out.alloc (by have := HS1.out; omega) _)
    have hgwp : gw < gp := by rw [hgp]; exact HS1.out
    rw [← hU, ← hgp]
    clear hU hgp y0 q0 y1 q1
    have hgn : ¬ gw = gp := by omega
    have hle : gw ≤ gp := by omega
    go_wp2
    go_loopw [3, 6, 13] (fun m _ i wr => ∃ j : Nat, j ≤ n ∧ i = .int .i64 j ∧ m = .int .i64 (mdOf l j : Nat) ∧ SetH wr gp (fun c => hasC l (c : Int) j) ∧ wr.heap[gw]? = some (.cells #[.int .i64 0, .slice none 0 0] 62 (0, 0)) ∧ Below gw w wr) (fun _ _ i _ => n - (intOf i).toNat)
    case atStart => exact ⟨0, Nat.zero_le _, rfl, rfl, HP0.out, HGU.out, HBU.out⟩
    case round =>
      obtain ⟨j, hj, rfl, rfl, hp, hgw, hb⟩ := hrel
      have HP := Lib.hid hp
      have HG2 := Lib.hid hgw
      have HB2 := Lib.hid hb
      by_cases hlt' : j < n
      · obtain ⟨b, off, rfl, hlt, c0, c1, c2, c3, c4⟩ := hd_at7 H.out (k := j) (by rw [← HNL.out]; exact hlt')
        have hjl : j < l.length := by rw [← HNL.out]; exact hlt'
        have hok1 := (hdN_at HOk.out j hjl).1
        have hmods := okOne_mods hok1
        obtain ⟨hcode, hm0⟩ := okOne_code hok1
        have hlo := mdOf_lt HOk.out j (by omega)
        have hnx : mdOf l (j + 1) = if (hdD l j).k = 2 ∨ (hdD l j).k = 8 then mdOf l j ||| (hdD l j).m.toNat else mdOf l j := rfl
        have hnc : ∀ c : Nat, hasC l (c : Int) (j + 1) = (hasC l (c : Int) j || decide ((hdD l j).c = (c : Int))) := fun c => rfl
        obtain ⟨e, he⟩ : ∃ e, e = hdD l j := ⟨_, rfl⟩
        rw [← he] at c0 c1 c2 c3 c4 hmods hcode hm0 hnx hnc
        obtain ⟨k0, kk, ca, ma, nn⟩ := e
        simp only at c0 c1 c2 c3 c4 hmods hcode hm0 hnx hnc
        obtain ⟨M, rfl⟩ : ∃ M : Nat, ma = M := ⟨ma.toNat, by omega⟩
        obtain ⟨C, rfl⟩ : ∃ C : Nat, ca = C := ⟨ca.toNat, by omega⟩
        rw [Int.toNat_natCast] at hnx
        obtain ⟨q, hq⟩ : ∃ q, q = mdOf l j := ⟨_, rfl⟩
        rw [← hq] at hlo hnx ⊢
        have hor := or_nat q M (by omega) (by omega)
        have hqm : mdOf l (j + 1) = q ||| M := by
          rw [hnx]
          split
          · rfl
          · rename_i hk
            have : M = 0 := by have := hm0 hk; omega
            rw [this]; simp
        have HQM := Lib.hid hqm
        have HOR := Lib.hid hor
        have HNC := Lib.hid hnc
        have f0 := (hb.cell (p := ⟨b, off + j * 5, none⟩) (by have := HGW.out; show b < gw; omega)).trans c0
        have f1 := (hb.cell (p := ⟨b, off + j * 5 + 1, none⟩) (by have := HGW.out; show b < gw; omega)).trans c1
        have f2 := (hb.cell (p := ⟨b, off + j * 5 + 2, none⟩) (by have := HGW.out; show b < gw; omega)).trans c2
        have f3 := (hb.cell (p := ⟨b, off + j * 5 + 3, none⟩) (by have := HGW.out; show b < gw; omega)).trans c3
        have f4 := (hb.cell (p := ⟨b, off + j * 5 + 4, none⟩) (by have := HGW.out; show b < gw; omega)).trans c4
        have hC57 : (C : Int) < 57 := by omega
        have hC57n : C < 57 := by omega
        clear c0 c1 c2 c3 c4 hq hnx hor hqm hnc hmods hcode hm0 hlo hok1 hjl he hp hgw hb
        go_upto_region 8 with (fail)
        obtain ⟨U2, hU2⟩ : ∃ U, U = wr.alloc (.cells #[.int .i64 k0, .int .i64 kk, .int .i64 C, .int .i64 M, .int .i64 nn] 212) := ⟨_, rfl⟩
        obtain ⟨g, hg⟩ : ∃ g, g = wr.heap.size := ⟨_, rfl⟩
        have hbx : Bxd U2 g [.int .i64 k0, .int .i64 kk, .int .i64 C, .int .i64 M, .int .i64 nn] := by rw [hU2, hg]; exact Bxd.new _ _ _
        have hgpl : gp < wr.heap.size := HP.out.lt
        have HP3 := Lib.hid (show SetH U2 gp (fun c => hasC l (c : Int) j) from HP.out.block (by rw [hU2]; exact heap_alloc_old wr _ hgpl))
        have HG3 := Lib.hid (show U2.heap[gw]? = some (.cells #[.int .i64 0, .slice none 0 0] 62 (0, 0)) by rw [hU2, heap_alloc_old wr _ (by omega)]; exact HG2.out)
        have HB3 := Lib.hid (show Below gw w U2 by rw [hU2]; exact HB2.out.alloc (by omega) _)
        have hggp : ¬ g = gp := by rw [hg]; omega
        rw [← hU2, ← hg]
        have HXU := Lib.hid hbx
        clear hU2 hg hbx hgpl f0 f1 f2 f3 f4
        have a2 := HXU.out.at 2 _ rfl
        have a3 := HXU.out.at 3 _ rfl
        obtain ⟨s0, s1⟩ := HP3.out.cell hC57n
        have HP4 := Lib.hid (show SetH (U2.setCell ⟨gp, C, none⟩ (.bool true)) gp (fun c => hasC l (c : Int) (j + 1)) from (HP3.out.set (j := C) true).congr (fun c _ => by
          rw [HNC.out]
          by_cases hc : c = C
          · subst hc; simp
          · rw [if_neg hc, decide_eq_false (by omega), Bool.or_false]))
        have HG4 := Lib.hid (show (U2.setCell ⟨gp, C, none⟩ (.bool true)).heap[gw]? = some (.cells #[.int .i64 0, .slice none 0 0] 62 (0, 0)) by rw [heap_setCell_other U2 _ _ _ hgn]; exact HG3.out)
        have HB4 := Lib.hid (show Below gw w (U2.setCell ⟨gp, C, none⟩ (.bool true)) from HB3.out.setCell hle _)
        go_wp2
        go_roundw
        case rel => exact ⟨j + 1, by omega, by go_num, by rw [HQM.out, ← HOR.out], HP4.out, HG4.out, HB4.out⟩
        case measure => simp [intOf]; omega
      · obtain rfl : j = n := by omega
        obtain ⟨M, hMv⟩ : ∃ M, M = mdOf l j := ⟨_, rfl⟩
        rw [← hMv]
        have HM2 := Lib.hid (show rm = M by rw [HM.out, hMv])
        obtain ⟨CS, hh, hsz, hcs⟩ := hp
        have hi : (Try.prog.info? 214).map (·.size) = some CS.size := by rw [hsz]; exact iSet
        have HCS := Lib.hid hcs
        have HSZ := Lib.hid hsz
        have hgs : gw < wr.heap.size := (Array.getElem?_eq_some_iff.mp hgw).1
        have HGS := Lib.hid hgs
        clear hMv hcs hsz hgw hb hgs
        go_wp2_with (refine wpList_load_row rfl 214 _ rfl gp rfl 214 CS (0, 0) _ hh tySet rfl hi ?_)
        clear hi hh
        go_wp2_with fail
        refine (ascending_any (fun c => hasC l (c : Int) j) CS HSZ.out HCS.out _).mono ?_
        rintro e w2 ⟨a, c, fp, rfl, ho, hb⟩
        have hK2 : ascN (fun c => hasC l (c : Int) j) 56 = rk := by rw [HK.out, ← ascN_codes l 56, HNL.out]
        rw [hK2] at ho ⊢
        have HO := Lib.hid ho
        have HG5 := Lib.hid ((hb.block gw HGS.out).trans HG2.out)
        have HB5 := Lib.hid (HB2.out.trans (hb.mono (by have := HGS.out; omega)))
        have hrng := ho.rng
        have HFP := Lib.hid (show gw ∉ fp from fun hm => by have := (hrng gw hm).1; have := HGS.out; omega)
        clear ho hb hK2 hrng
        obtain ⟨N, hN⟩ : ∃ N, N = rk.length := ⟨_, rfl⟩
        rw [← hN]
        have HNk := Lib.hid hN
        clear hN
        obtain ⟨y0, q0⟩ := cells_of_heap HG5.out 0 (by simp)
        obtain ⟨y1, q1⟩ := cells_of_heap HG5.out 1 (by simp)
        go_wp2
        clear y0 q0 y1 q1
        obtain ⟨wf, hwf⟩ : ∃ x, x = putW (w2) (gw) 0 [.int .i64 M, .slice a N c] := ⟨_, rfl⟩
        have kf := putW_all [.int .i64 M, .slice a N c] HG5.out rfl
        have bf := putW_below (b := gw) (by first | omega | simp) [.int .i64 M, .slice a N c] 0 _ HB5.out
        have of := (show OwC (putW w2 gw 0 [.int .i64 M, .slice a N c]) gw (.row [.int .i64]) (.slice a N c) (.row (ones rk)) fp from OwC.putAt (OwC.base _ _ _ _ (by rw [HNk.out]; exact HO.out) (by have := HGS.out; omega)) _ HFP.out 0)
        rw [← hwf] at kf bf of
        have cf := hwf.symm
        simp only [putW, Nat.reduceAdd] at cf
        rw [cf]
        clear cf hwf
        have f0 := (cells_of_heap kf 0 (by simp)).1
        have f1 := (cells_of_heap kf 1 (by simp)).1
        simp only [List.getElem_toArray, List.getElem_cons_zero, List.getElem_cons_succ] at f0 f1
        refine bodyPost_ret (v := rpv M (.slice a N c)) (by simp [results, Try.results105, go_sem, f0, f1]) rfl ⟨a, c, fp, by rw [HM2.out, HNk.out], by rw [← HGW.out, ← HNk.out]; exact of, by rw [← HGW.out]; exact bf⟩
end Go.Proofs.Yteljmfdlegohbaa

namespace Go.Proofs.Yteljmfdlegohbaa
open Go.RowKit

theorem ascending_list (P : Nat → Bool) (R : List Int) (cs : List Value) (hR : ascN P 56 = R) (hs : cs.length = 57) (hP : ∀ j, j < 57 → cs[j]? = some (.bool (P j))) (w : World) : Calls Try.prog 167 #[.agg cs.toArray] w (CodesO R w) := by
  rw [← hR]
  exact ascending_any P _ (by simpa using hs) (fun j hj => by simpa using hP j hj) w

theorem set2_block (w : World) (g b : Nat) (x y : Value) (h : ¬ b = g) : ((w.setCell ⟨g, 0, none⟩ x).setCell ⟨g, 1, none⟩ y).heap[b]? = w.heap[b]? := by
  rw [heap_setCell_other _ _ _ _ h, heap_setCell_other _ _ _ _ h]
theorem bitC_nat {b : List Int} {k d m Q : Nat} (hd : d = k / 8) (hm : m = k % 8) (hQ : b.getD (1 + d) 0 = (Q : Int)) : bitC b k = Q.testBit m := by
  rw [bitC, ← hd, ← hm, hQ, Int.toNat_natCast]

end Go.Proofs.Yteljmfdlegohbaa
