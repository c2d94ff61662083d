/- DERIVED. strings.Cut at a separator of one byte, at any text: the text before the first such byte and behind it, or the whole text. No condition. · The program's guessKey, guessTapHold, guessAction: each returns what a plain function says, where the tables are as their texts lay them. -/
import Derived.Test.YtnfnhbldphiohaaDoorText
import Derived.Shelf.Strings.Search1
import Derived.Deep.RegionHeld3
import Derived.WalkSmall
import Derived.Test.YtnfnhbldphiohaaDoorAcTxI
import Derived.Test.YtnfnhbldphiohaaDoorAcTx
import Derived.Test.YtnfnhbldphiohaaDoorNums
namespace Go.Proofs.YtnfnhbldphiohaaDoor
open Go.RowKit

def cutRen : Go.Shelf.Ren := ⟨fun | 217 => 93 | 266 => 105 | n => n, fun | 3 => 3 | 5 => 5 | 9 => 9 | n => n, fun | n => n⟩
theorem cutLays : Go.Proofs.Lays.n217 Tryd.prog cutRen := {
  mixed := by kernel_rfl
  f217 := Tryd.func93.trans (congrArg some (by kernel_rfl))
  f266 := Tryd.func105.trans (congrArg some (by kernel_rfl))
  t3 := Tryd.underlying3
  a3 := Tryd.isAgg3
  z3 := Tryd.sizeOf3
  v3 := Tryd.zeroValue3
  t5 := Tryd.underlying5
  a5 := Tryd.isAgg5
  z5 := Tryd.sizeOf5
  v5 := Tryd.zeroValue5
  t9 := Tryd.underlying9
  a9 := Tryd.isAgg9
  z9 := Tryd.sizeOf9
  v9 := Tryd.zeroValue9 }
/-- The place of the first byte x, -1 if there is none. -/
def ixB (s : ByteArray) (x : UInt8) : Int := Lib.indexByte s.data.toList x
theorem indexByte_lt : ∀ (l : List UInt8) (x : UInt8), Lib.indexByte l x < l.length
  | [], _ => by simp [Lib.indexByte]
  | b :: l, x => by
    have h := indexByte_lt l x
    unfold Lib.indexByte
    split
    · simp
    · split
      · simp; omega
      · simp; omega
theorem ixB_form (s : ByteArray) (x : UInt8) : ixB s x = -1 ∨ ∃ i : Nat, ixB s x = i ∧ i < s.size := by
  have h1 := Lib.indexByte_ge s.data.toList x
  have h2 := indexByte_lt s.data.toList x
  have h3 : s.data.toList.length = s.size := by rw [Array.length_toList]; rfl
  unfold ixB
  rcases Int.lt_or_le (Lib.indexByte s.data.toList x) 0 with h | h
  · left; omega
  · right; exact ⟨(Lib.indexByte s.data.toList x).toNat, by omega, by omega⟩
theorem idxByte_any (s : ByteArray) (x : UInt8) (w : World) : Calls Tryd.prog 93 #[.string s, .int .u8 (x.toNat : Int)] w fun e w' => e = .returned (.int .i64 (ixB s x)) ∧ w = w' :=
  (Any.stringslite_IndexByte (ρ := cutRen) cutLays s (x.toNat : Int) w).mono fun e w' ⟨he, hw⟩ => ⟨by rw [he, ixB]; congr 3; rw [Int.toNat_natCast]; exact UInt8.ofNat_toNat, hw.symm⟩

/-- The separator of the one byte x. -/
structure OneB (S : ByteArray) (x : UInt8) : Prop where
  is : S = ⟨#[x]⟩
  sz : (S.size : Int) = 1
  ix : ∀ w, (Instr.index 9 (.string S) (.int .i64 0)).run Tryd.prog w = .ok (.int .u8 (x.toNat : Int)) w
theorem oneB (x : UInt8) : OneB ⟨#[x]⟩ x := ⟨rfl, rfl, fun w => by rw [run_index_string w 9 _ _ _ Tryd.underlying9]; rfl⟩
theorem idx_any (s S : ByteArray) (x : UInt8) (h : OneB S x) (w : World) : Calls Tryd.prog 79 #[.string s, .string S] w fun e w' => e = .returned (.int .i64 (ixB s x)) ∧ w = w' := by
  obtain ⟨r, hr⟩ : ∃ r, r = ixB s x := ⟨_, rfl⟩
  rw [← hr]
  have HR := Lib.hid hr
  have hsz := h.sz
  have hix := h.ix
  have HH := Lib.hid h.is
  clear hr h
  by_cases hs : S = s
  · have hr0 : r = 0 := by rw [HR.out, ← hs, HH.out]; simp [ixB, Lib.indexByte]
    subst hr0
    subst hs
    go_enter Tryd.func79, Tryd.ntmps79
    go_wp2
    go_ret
    exact ⟨rfl, rfl⟩
  · have hne := toList_ne hs
    clear hs
    go_enter Tryd.func79, Tryd.ntmps79
    go_wp2_with fail
    refine (idxByte_any s x _).mono ?_
    rw [← HR.out]
    rintro e w0 ⟨rfl, rfl⟩
    go_wp2
    go_ret
    exact ⟨rfl, rfl⟩
/-- The text ahead of the first byte x, the text behind it, and whether it is there. -/
def cutV (s : ByteArray) (x : UInt8) : ByteArray × ByteArray × Bool := if ixB s x < 0 then (s, ⟨#[]⟩, false) else (s.extract 0 (ixB s x).toNat, s.extract ((ixB s x).toNat + 1) s.size, true)
theorem slcut_any (s S : ByteArray) (x : UInt8) (h : OneB S x) (w : World) (hl : s.size ≤ 1048576) : Calls Tryd.prog 78 #[.string s, .string S] w fun e w' => e = .returned (.tuple #[.string (cutV s x).1, .string (cutV s x).2.1, .bool (cutV s x).2.2]) ∧ Below w.heap.size w w' := by
  obtain ⟨i, hi⟩ : ∃ i, i = ixB s x := ⟨_, rfl⟩
  have HI := Lib.hid hi
  have HO := Lib.hid h
  have hsz := h.sz
  rcases ixB_form s x with h | ⟨k, h, hk⟩
  · have hc : cutV s x = (s, ⟨#[]⟩, false) := by rw [cutV, if_pos (by omega)]
    rw [hc]
    obtain rfl : i = -1 := by omega
    clear hc h hi hl
    go_enter Tryd.func78, Tryd.ntmps78
    go_wp2_with fail
    refine (idx_any s S x HO.out _).mono ?_
    rw [← HI.out]
    rintro e w0 ⟨rfl, rfl⟩
    go_wp2
    go_ret3
    exact ⟨rfl, Below.refl _ _⟩
  · obtain ⟨L, R, hc, hL, hR⟩ : ∃ L R, cutV s x = (L, R, true) ∧ L = s.extract 0 k ∧ R = s.extract (k + 1) s.size := ⟨_, _, by rw [cutV, if_neg (by omega), h, Int.toNat_natCast], rfl, rfl⟩
    rw [hc]
    obtain rfl : i = (k : Int) := by omega
    have c0 : (0 : Int) ≤ (k : Int) := by omega
    have c1 : (k : Int) ≤ (s.size : Int) := by omega
    have c2 : (0 : Int) ≤ (k : Int) + 1 := by omega
    have c3 : (k : Int) + 1 ≤ (s.size : Int) := by omega
    have hw1 : IntKind.i64.wrap ((k : Int) + 1) = (k : Int) + 1 := IntWalk.i64_in _ ⟨by omega, by omega⟩
    have HL := Lib.hid hL
    have HRR := Lib.hid hR
    clear hc h hi hL hR hk hl
    go_enter Tryd.func78, Tryd.ntmps78
    go_wp2_with fail
    refine (idx_any s S x HO.out _).mono ?_
    rw [← HI.out]
    rintro e w0 ⟨rfl, rfl⟩
    go_wp2
    go_quiet (fail)
    go_wp2
    go_ret3
    exact ⟨by rw [HL.out, HRR.out]; rfl, below_drewN (Below.refl _ _) _⟩
theorem cut_any (s S : ByteArray) (x : UInt8) (h : OneB S x) (w : World) (hl : s.size ≤ 1048576) : Calls Tryd.prog 57 #[.string s, .string S] w fun e w' => e = .returned (.tuple #[.string (cutV s x).1, .string (cutV s x).2.1, .bool (cutV s x).2.2]) ∧ Below w.heap.size w w' := by
  obtain ⟨⟨L, R, b⟩, hr⟩ : ∃ r, r = cutV s x := ⟨_, rfl⟩
  rw [← hr]
  have HR := Lib.hid hr
  clear hr
  go_enter Tryd.func57, Tryd.ntmps57
  go_wp2_with fail
  refine (slcut_any s S x h _ hl).mono ?_
  rw [← HR.out]
  rintro e w1 ⟨rfl, hb⟩
  have HB := Lib.hid hb
  clear hb
  go_wp2
  go_ret3
  exact ⟨rfl, HB.out⟩
theorem cut_n (s S : ByteArray) (x : UInt8) (h : OneB S x) (L R : ByteArray) (b : Bool) (hr : (L, R, b) = cutV s x) (w : World) (hl : s.size ≤ 1048576) : Calls Tryd.prog 57 #[.string s, .string S] w fun e w' => e = .returned (.tuple #[.string L, .string R, .bool b]) ∧ Below w.heap.size w w' :=
  (cut_any s S x h w hl).mono fun e w' hh => by rw [← hr] at hh; exact hh
theorem cut_sizes (s : ByteArray) (x : UInt8) : (cutV s x).1.size ≤ s.size ∧ (cutV s x).2.1.size ≤ s.size := by
  unfold cutV
  split
  · exact ⟨Nat.le_refl _, Nat.zero_le _⟩
  · exact ⟨by rw [ByteArray.size_extract]; omega, by rw [ByteArray.size_extract]; omega⟩
end Go.Proofs.YtnfnhbldphiohaaDoor

namespace Go.Proofs.YtnfnhbldphiohaaDoor
open Go.RowKit

def gkV (s : ByteArray) : Ac := if (cutV s 45).2.2 = true then ⟨2, codeV (cutV s 45).2.1, pmV (cutV s 45).1, 0⟩ else ⟨2, codeV s, 0, 0⟩
def gtV (l : ByteArray) (c : Int) : Ac := if pmV l = 0 then ⟨7, c, 0, pval l⟩ else ⟨6, c, pmV l, 0⟩
def gaV (s : ByteArray) : Ac :=
  if (cutV s 47).2.2 = true then gtV (cutV s 47).1 (codeV (cutV s 47).2.1)
  else if kindV (cutV s 58).1 = 2 then gkV s
  else if kindV (cutV s 58).1 = 8 then ⟨8, 0, pmV (cutV s 58).2.1, 0⟩
  else ⟨kindV (cutV s 58).1, 0, 0, pval (cutV s 58).2.1⟩
theorem implCodeOf_n (s : ByteArray) (n : Nat) (hn : n = codeV s) (w : World) (ht : AcTabs w) : Calls Tryd.prog 98 #[.string s] w fun e w' => e = .returned (.int .i64 (n : Nat)) ∧ Below w.heap.size w w' := by
  rw [hn]; exact (implCodeOf_any s w ht.nm).mono fun e w' h => ⟨h.1, by rw [← h.2]; exact Below.refl _ _⟩
theorem implParseMods_n (s : ByteArray) (n : Nat) (hn : n = pmV s) (w : World) : Calls Tryd.prog 101 #[.string s] w fun e w' => e = .returned (.int .i64 (n : Nat)) ∧ Below w.heap.size w w' := by
  rw [hn]; exact implParseMods_any s w
theorem kindOf_n (s : ByteArray) (n : Nat) (hn : n = kindV s) (w : World) (ht : AcTabs w) : Calls Tryd.prog 99 #[.string s] w fun e w' => e = .returned (.int .i64 (n : Nat)) ∧ Below w.heap.size w w' := by
  rw [hn]; exact (kindOf_any s w ht.wd).mono fun e w' h => ⟨h.1, by rw [← h.2]; exact Below.refl _ _⟩
theorem implParseInt_n (s : ByteArray) (n : Int) (b : Bool) (hn : n = pval s) (hb : b = okI s) (w : World) (ht : AcTabs w) : Calls Tryd.prog 102 #[.string s] w fun e w' => e = .returned (.tuple #[.int .i64 n, .bool b]) ∧ Below w.heap.size w w' := by
  rw [hn, hb]; exact implParseInt_any s w ht.pow

set_option maxHeartbeats 4000000 in
set_option maxRecDepth 100000 in
theorem guessKey_any (s : ByteArray) (z : Ac) (hz : z = gkV s) (w : World) (ht : AcTabs w) (hl : s.size ≤ 1048576) : Calls Tryd.prog 100 #[.string s] w fun e w' => e = .returned (acv z.k z.c z.m z.n) ∧ Below w.heap.size w w' := by
  obtain ⟨⟨L, R, b⟩, hr⟩ : ∃ r, r = cutV s 45 := ⟨_, rfl⟩
  have HZ := Lib.hid hz
  have HR := Lib.hid hr
  have HL := Lib.hid hl
  have HO := Lib.hid (oneB 45)
  have HT := Lib.hid ht
  clear hz hr hl ht
  obtain ⟨V, hV⟩ : ∃ V, V = w.alloc (.cells #[.int .i64 0, .int .i64 0, .int .i64 0, .int .i64 0] 67) := ⟨_, rfl⟩
  have HG0 := Lib.hid (show V.heap[w.heap.size]? = some (.cells #[.int .i64 0, .int .i64 0, .int .i64 0, .int .i64 0] 67 (0, 0)) by rw [hV]; exact heap_alloc_new w _)
  have HB0 := Lib.hid (show Below w.heap.size w V by rw [hV]; exact (Below.refl _ _).alloc (Nat.le_refl _) _)
  have HS0 := Lib.hid (show w.heap.size < V.heap.size by rw [hV]; simp)
  have HV2 := Lib.hid hV
  clear hV
  have HT0 := Lib.hid (HT.out.below HB0.out)
  go_enter Tryd.func100, Tryd.ntmps100
  go_wp2_with fail
  rw [← HV2.out]
  refine (cut_n s _ 45 HO.out L R b HR.out _ HL.out).mono ?_
  rintro e w1 ⟨rfl, hb⟩
  have HB1 := Lib.hid (HB0.out.trans (hb.mono HB0.out.size))
  have HG1 := Lib.hid ((hb.block _ HS0.out).trans HG0.out)
  have HS1 := Lib.hid (Nat.lt_of_lt_of_le HS0.out hb.size)
  have HT1 := Lib.hid (HT0.out.below hb)
  clear hb
  cases b
  · obtain ⟨C, hC⟩ : ∃ C, C = codeV s := ⟨_, rfl⟩
    have HC := Lib.hid hC
    have HZ2 := Lib.hid (show z = ⟨2, C, 0, 0⟩ by rw [HZ.out, gkV, ← HR.out, hC]; rfl)
    clear hC
    go_wp2_with fail
    refine (implCodeOf_n s C HC.out _ HT1.out).mono ?_
    rintro e w2 ⟨rfl, hb⟩
    have HB2 := Lib.hid (HB1.out.trans (hb.mono HB1.out.size))
    have HG2 := Lib.hid ((hb.block _ HS1.out).trans HG1.out)
    have HS2 := Lib.hid (Nat.lt_of_lt_of_le HS1.out hb.size)
    have HT2 := Lib.hid (HT1.out.below hb)
    clear hb
    obtain ⟨y0, q0⟩ := cells_of_heap HG2.out 0 (by simp)
    obtain ⟨y1, q1⟩ := cells_of_heap HG2.out 1 (by simp)
    obtain ⟨y2, q2⟩ := cells_of_heap HG2.out 2 (by simp)
    obtain ⟨y3, q3⟩ := cells_of_heap HG2.out 3 (by simp)
    go_wp2
    clear y0 q0 y1 q1 y2 q2 y3 q3
    obtain ⟨wf, hwf⟩ : ∃ x, x = putW (w2) (w.heap.size) 0 [.int .i64 2, .int .i64 C, .int .i64 0, .int .i64 0] := ⟨_, rfl⟩
    have kf := putW_all [.int .i64 2, .int .i64 C, .int .i64 0, .int .i64 0] HG2.out rfl
    have bf := putW_below (b := w.heap.size) (by first | omega | simp) [.int .i64 2, .int .i64 C, .int .i64 0, .int .i64 0] 0 _ HB2.out
    rw [← hwf] at kf bf
    have cf := hwf.symm
    simp only [putW, Nat.reduceAdd] at cf
    rw [cf]
    clear cf hwf
    have f0 := (cells_of_heap kf 0 (by simp)).1
    have f1 := (cells_of_heap kf 1 (by simp)).1
    have f2 := (cells_of_heap kf 2 (by simp)).1
    have f3 := (cells_of_heap kf 3 (by simp)).1
    simp only [List.getElem_toArray, List.getElem_cons_zero, List.getElem_cons_succ] at f0 f1 f2 f3
    refine bodyPost_ret (v := acv 2 C 0 0) (by simp [results, Tryd.results100, go_sem, f0, f1, f2, f3]) rfl ⟨by rw [HZ2.out], bf⟩
  · obtain ⟨C, hC⟩ : ∃ C, C = codeV R := ⟨_, rfl⟩
    obtain ⟨M, hM⟩ : ∃ M, M = pmV L := ⟨_, rfl⟩
    have HC := Lib.hid hC
    have HM := Lib.hid hM
    have HZ2 := Lib.hid (show z = ⟨2, C, M, 0⟩ by rw [HZ.out, gkV, ← HR.out, hC, hM]; rfl)
    clear hC hM
    go_wp2_with fail
    refine (implCodeOf_n R C HC.out _ HT1.out).mono ?_
    rintro e w2 ⟨rfl, hb⟩
    have HB2 := Lib.hid (HB1.out.trans (hb.mono HB1.out.size))
    have HG2 := Lib.hid ((hb.block _ HS1.out).trans HG1.out)
    have HS2 := Lib.hid (Nat.lt_of_lt_of_le HS1.out hb.size)
    have HT2 := Lib.hid (HT1.out.below hb)
    clear hb
    go_wp2_with fail
    refine (implParseMods_n L M HM.out _).mono ?_
    rintro e w3 ⟨rfl, hb⟩
    have HB3 := Lib.hid (HB2.out.trans (hb.mono HB2.out.size))
    have HG3 := Lib.hid ((hb.block _ HS2.out).trans HG2.out)
    have HS3 := Lib.hid (Nat.lt_of_lt_of_le HS2.out hb.size)
    have HT3 := Lib.hid (HT2.out.below hb)
    clear hb
    obtain ⟨y0, q0⟩ := cells_of_heap HG3.out 0 (by simp)
    obtain ⟨y1, q1⟩ := cells_of_heap HG3.out 1 (by simp)
    obtain ⟨y2, q2⟩ := cells_of_heap HG3.out 2 (by simp)
    obtain ⟨y3, q3⟩ := cells_of_heap HG3.out 3 (by simp)
    go_wp2
    clear y0 q0 y1 q1 y2 q2 y3 q3
    obtain ⟨wf, hwf⟩ : ∃ x, x = putW (w3) (w.heap.size) 0 [.int .i64 2, .int .i64 C, .int .i64 M, .int .i64 0] := ⟨_, rfl⟩
    have kf := putW_all [.int .i64 2, .int .i64 C, .int .i64 M, .int .i64 0] HG3.out rfl
    have bf := putW_below (b := w.heap.size) (by first | omega | simp) [.int .i64 2, .int .i64 C, .int .i64 M, .int .i64 0] 0 _ HB3.out
    rw [← hwf] at kf bf
    have cf := hwf.symm
    simp only [putW, Nat.reduceAdd] at cf
    rw [cf]
    clear cf hwf
    have f0 := (cells_of_heap kf 0 (by simp)).1
    have f1 := (cells_of_heap kf 1 (by simp)).1
    have f2 := (cells_of_heap kf 2 (by simp)).1
    have f3 := (cells_of_heap kf 3 (by simp)).1
    simp only [List.getElem_toArray, List.getElem_cons_zero, List.getElem_cons_succ] at f0 f1 f2 f3
    refine bodyPost_ret (v := acv 2 C M 0) (by simp [results, Tryd.results100, go_sem, f0, f1, f2, f3]) rfl ⟨by rw [HZ2.out], bf⟩

set_option maxHeartbeats 4000000 in
set_option maxRecDepth 100000 in
theorem guessTapHold_any (l : ByteArray) (c : Int) (z : Ac) (hz : z = gtV l c) (w : World) (ht : AcTabs w) : Calls Tryd.prog 97 #[.string l, .int .i64 c] w fun e w' => e = .returned (acv z.k z.c z.m z.n) ∧ Below w.heap.size w w' := by
  obtain ⟨M, hM⟩ : ∃ M, M = pmV l := ⟨_, rfl⟩
  obtain ⟨n, hn⟩ : ∃ n, n = pval l := ⟨_, rfl⟩
  obtain ⟨b, hb⟩ : ∃ b, b = okI l := ⟨_, rfl⟩
  have HZ := Lib.hid (show z = if M = 0 then ⟨7, c, 0, n⟩ else ⟨6, c, M, 0⟩ by rw [hz, hM, hn]; rfl)
  have HM := Lib.hid hM
  have HN := Lib.hid hn
  have HOK := Lib.hid hb
  have HT := Lib.hid ht
  clear hz hM hn hb ht
  obtain ⟨V, hV⟩ : ∃ V, V = w.alloc (.cells #[.int .i64 0, .int .i64 0, .int .i64 0, .int .i64 0] 67) := ⟨_, rfl⟩
  have HG0 := Lib.hid (show V.heap[w.heap.size]? = some (.cells #[.int .i64 0, .int .i64 0, .int .i64 0, .int .i64 0] 67 (0, 0)) by rw [hV]; exact heap_alloc_new w _)
  have HB0 := Lib.hid (show Below w.heap.size w V by rw [hV]; exact (Below.refl _ _).alloc (Nat.le_refl _) _)
  have HS0 := Lib.hid (show w.heap.size < V.heap.size by rw [hV]; simp)
  have HV2 := Lib.hid hV
  clear hV
  have HT0 := Lib.hid (HT.out.below HB0.out)
  go_enter Tryd.func97, Tryd.ntmps97
  go_wp2_with fail
  rw [← HV2.out]
  refine (implParseMods_n l M HM.out _).mono ?_
  rintro e w1 ⟨rfl, hb⟩
  have HB1 := Lib.hid (HB0.out.trans (hb.mono HB0.out.size))
  have HG1 := Lib.hid ((hb.block _ HS0.out).trans HG0.out)
  have HS1 := Lib.hid (Nat.lt_of_lt_of_le HS0.out hb.size)
  have HT1 := Lib.hid (HT0.out.below hb)
  clear hb
  by_cases hm : M = 0
  · have HZ2 := Lib.hid (show z = ⟨7, c, 0, n⟩ by rw [HZ.out, if_pos hm])
    subst hm
    go_wp2_with fail
    refine (implParseInt_n l n b HN.out HOK.out _ HT1.out).mono ?_
    rintro e w2 ⟨rfl, hb⟩
    have HB2 := Lib.hid (HB1.out.trans (hb.mono HB1.out.size))
    have HG2 := Lib.hid ((hb.block _ HS1.out).trans HG1.out)
    have HS2 := Lib.hid (Nat.lt_of_lt_of_le HS1.out hb.size)
    have HT2 := Lib.hid (HT1.out.below hb)
    clear hb
    obtain ⟨y0, q0⟩ := cells_of_heap HG2.out 0 (by simp)
    obtain ⟨y1, q1⟩ := cells_of_heap HG2.out 1 (by simp)
    obtain ⟨y2, q2⟩ := cells_of_heap HG2.out 2 (by simp)
    obtain ⟨y3, q3⟩ := cells_of_heap HG2.out 3 (by simp)
    go_wp2
    clear y0 q0 y1 q1 y2 q2 y3 q3
    obtain ⟨wf, hwf⟩ : ∃ x, x = putW (w2) (w.heap.size) 0 [.int .i64 7, .int .i64 c, .int .i64 0, .int .i64 n] := ⟨_, rfl⟩
    have kf := putW_all [.int .i64 7, .int .i64 c, .int .i64 0, .int .i64 n] HG2.out rfl
    have bf := putW_below (b := w.heap.size) (by first | omega | simp) [.int .i64 7, .int .i64 c, .int .i64 0, .int .i64 n] 0 _ HB2.out
    rw [← hwf] at kf bf
    have cf := hwf.symm
    simp only [putW, Nat.reduceAdd] at cf
    rw [cf]
    clear cf hwf
    have f0 := (cells_of_heap kf 0 (by simp)).1
    have f1 := (cells_of_heap kf 1 (by simp)).1
    have f2 := (cells_of_heap kf 2 (by simp)).1
    have f3 := (cells_of_heap kf 3 (by simp)).1
    simp only [List.getElem_toArray, List.getElem_cons_zero, List.getElem_cons_succ] at f0 f1 f2 f3
    refine bodyPost_ret (v := acv 7 c 0 n) (by simp [results, Tryd.results97, go_sem, f0, f1, f2, f3]) rfl ⟨by rw [HZ2.out], bf⟩
  · have HZ2 := Lib.hid (show z = ⟨6, c, M, 0⟩ by rw [HZ.out, if_neg hm])
    have hne : ((M : Int) != 0) = true := by simp; omega
    clear hm
    obtain ⟨y0, q0⟩ := cells_of_heap HG1.out 0 (by simp)
    obtain ⟨y1, q1⟩ := cells_of_heap HG1.out 1 (by simp)
    obtain ⟨y2, q2⟩ := cells_of_heap HG1.out 2 (by simp)
    obtain ⟨y3, q3⟩ := cells_of_heap HG1.out 3 (by simp)
    go_wp2
    clear y0 q0 y1 q1 y2 q2 y3 q3
    obtain ⟨wf, hwf⟩ : ∃ x, x = putW (w1) (w.heap.size) 0 [.int .i64 6, .int .i64 c, .int .i64 M, .int .i64 0] := ⟨_, rfl⟩
    have kf := putW_all [.int .i64 6, .int .i64 c, .int .i64 M, .int .i64 0] HG1.out rfl
    have bf := putW_below (b := w.heap.size) (by first | omega | simp) [.int .i64 6, .int .i64 c, .int .i64 M, .int .i64 0] 0 _ HB1.out
    rw [← hwf] at kf bf
    have cf := hwf.symm
    simp only [putW, Nat.reduceAdd] at cf
    rw [cf]
    clear cf hwf
    have f0 := (cells_of_heap kf 0 (by simp)).1
    have f1 := (cells_of_heap kf 1 (by simp)).1
    have f2 := (cells_of_heap kf 2 (by simp)).1
    have f3 := (cells_of_heap kf 3 (by simp)).1
    simp only [List.getElem_toArray, List.getElem_cons_zero, List.getElem_cons_succ] at f0 f1 f2 f3
    refine bodyPost_ret (v := acv 6 c M 0) (by simp [results, Tryd.results97, go_sem, f0, f1, f2, f3]) rfl ⟨by rw [HZ2.out], bf⟩

set_option maxHeartbeats 4000000 in
set_option maxRecDepth 100000 in
theorem guessAction_any (s : ByteArray) (z : Ac) (hz : z = gaV s) (w : World) (ht : AcTabs w) (hl : s.size ≤ 1048576) : Calls Tryd.prog 80 #[.string s] w fun e w' => e = .returned (acv z.k z.c z.m z.n) ∧ Below w.heap.size w w' := by
  obtain ⟨⟨L, R, b⟩, hr⟩ : ∃ r, r = cutV s 47 := ⟨_, rfl⟩
  have HZ := Lib.hid hz
  have HR := Lib.hid hr
  have HL := Lib.hid hl
  have HO := Lib.hid (oneB 47)
  have HO2 := Lib.hid (oneB 58)
  have HT := Lib.hid ht
  clear hz hr hl ht
  obtain ⟨V, hV⟩ : ∃ V, V = w.alloc (.cells #[.int .i64 0, .int .i64 0, .int .i64 0, .int .i64 0] 67) := ⟨_, rfl⟩
  have HG0 := Lib.hid (show V.heap[w.heap.size]? = some (.cells #[.int .i64 0, .int .i64 0, .int .i64 0, .int .i64 0] 67 (0, 0)) by rw [hV]; exact heap_alloc_new w _)
  have HB0 := Lib.hid (show Below w.heap.size w V by rw [hV]; exact (Below.refl _ _).alloc (Nat.le_refl _) _)
  have HS0 := Lib.hid (show w.heap.size < V.heap.size by rw [hV]; simp)
  have HV2 := Lib.hid hV
  clear hV
  have HT0 := Lib.hid (HT.out.below HB0.out)
  go_enter Tryd.func80, Tryd.ntmps80
  go_wp2_with fail
  rw [← HV2.out]
  refine (cut_n s _ 47 HO.out L R b HR.out _ HL.out).mono ?_
  rintro e w1 ⟨rfl, hb⟩
  have HB1 := Lib.hid (HB0.out.trans (hb.mono HB0.out.size))
  have HG1 := Lib.hid ((hb.block _ HS0.out).trans HG0.out)
  have HS1 := Lib.hid (Nat.lt_of_lt_of_le HS0.out hb.size)
  have HT1 := Lib.hid (HT0.out.below hb)
  clear hb
  cases b
  · obtain ⟨⟨W, X, o⟩, hr2⟩ : ∃ r, r = cutV s 58 := ⟨_, rfl⟩
    have HR2 := Lib.hid hr2
    obtain ⟨K, hK⟩ : ∃ K, K = kindV W := ⟨_, rfl⟩
    have HK := Lib.hid hK
    have HZ2 := Lib.hid (show z = if K = 2 then gkV s else if K = 8 then ⟨8, 0, pmV X, 0⟩ else ⟨K, 0, 0, pval X⟩ by rw [HZ.out, gaV, ← HR.out, ← hr2, hK]; rfl)
    clear hr2 hK
    go_wp2_with fail
    refine (cut_n s _ 58 HO2.out W X o HR2.out _ HL.out).mono ?_
    rintro e w2 ⟨rfl, hb⟩
    have HB2 := Lib.hid (HB1.out.trans (hb.mono HB1.out.size))
    have HG2 := Lib.hid ((hb.block _ HS1.out).trans HG1.out)
    have HS2 := Lib.hid (Nat.lt_of_lt_of_le HS1.out hb.size)
    have HT2 := Lib.hid (HT1.out.below hb)
    clear hb
    go_wp2_with fail
    refine (kindOf_n W K HK.out _ HT2.out).mono ?_
    rintro e w3 ⟨rfl, hb⟩
    have HB3 := Lib.hid (HB2.out.trans (hb.mono HB2.out.size))
    have HG3 := Lib.hid ((hb.block _ HS2.out).trans HG2.out)
    have HS3 := Lib.hid (Nat.lt_of_lt_of_le HS2.out hb.size)
    have HT3 := Lib.hid (HT2.out.below hb)
    clear hb
    by_cases k2 : K = 2
    · subst k2
      have HZ3 := Lib.hid (show z = gkV s from HZ2.out)
      go_wp2_with fail
      refine (guessKey_any s z HZ3.out _ HT3.out HL.out).mono ?_
      rintro e w4 ⟨rfl, hb⟩
      have HB4 := Lib.hid (HB3.out.trans (hb.mono HB3.out.size))
      have HG4 := Lib.hid ((hb.block _ HS3.out).trans HG3.out)
      have HS4 := Lib.hid (Nat.lt_of_lt_of_le HS3.out hb.size)
      have HT4 := Lib.hid (HT3.out.below hb)
      clear hb
      obtain ⟨y0, q0⟩ := cells_of_heap HG4.out 0 (by simp)
      obtain ⟨y1, q1⟩ := cells_of_heap HG4.out 1 (by simp)
      obtain ⟨y2, q2⟩ := cells_of_heap HG4.out 2 (by simp)
      obtain ⟨y3, q3⟩ := cells_of_heap HG4.out 3 (by simp)
      go_wp2
      clear y0 q0 y1 q1 y2 q2 y3 q3
      obtain ⟨wf, hwf⟩ : ∃ x, x = putW (w4) (w.heap.size) 0 [.int .i64 z.k, .int .i64 z.c, .int .i64 z.m, .int .i64 z.n] := ⟨_, rfl⟩
      have kf := putW_all [.int .i64 z.k, .int .i64 z.c, .int .i64 z.m, .int .i64 z.n] HG4.out rfl
      have bf := putW_below (b := w.heap.size) (by first | omega | simp) [.int .i64 z.k, .int .i64 z.c, .int .i64 z.m, .int .i64 z.n] 0 _ HB4.out
      rw [← hwf] at kf bf
      have cf := hwf.symm
      simp only [putW, Nat.reduceAdd] at cf
      rw [cf]
      clear cf hwf
      have f0 := (cells_of_heap kf 0 (by simp)).1
      have f1 := (cells_of_heap kf 1 (by simp)).1
      have f2 := (cells_of_heap kf 2 (by simp)).1
      have f3 := (cells_of_heap kf 3 (by simp)).1
      simp only [List.getElem_toArray, List.getElem_cons_zero, List.getElem_cons_succ] at f0 f1 f2 f3
      refine bodyPost_ret (v := acv z.k z.c z.m z.n) (by simp [results, Tryd.results80, go_sem, f0, f1, f2, f3]) rfl ⟨rfl, bf⟩
    · by_cases k8 : K = 8
      · subst k8
        obtain ⟨M, hM⟩ : ∃ M, M = pmV X := ⟨_, rfl⟩
        have HM := Lib.hid hM
        have HZ3 := Lib.hid (show z = ⟨8, 0, M, 0⟩ by rw [HZ2.out, hM]; rfl)
        clear k2 hM
        go_wp2_with fail
        refine (implParseMods_n X M HM.out _).mono ?_
        rintro e w4 ⟨rfl, hb⟩
        have HB4 := Lib.hid (HB3.out.trans (hb.mono HB3.out.size))
        have HG4 := Lib.hid ((hb.block _ HS3.out).trans HG3.out)
        have HS4 := Lib.hid (Nat.lt_of_lt_of_le HS3.out hb.size)
        have HT4 := Lib.hid (HT3.out.below hb)
        clear hb
        obtain ⟨y0, q0⟩ := cells_of_heap HG4.out 0 (by simp)
        obtain ⟨y1, q1⟩ := cells_of_heap HG4.out 1 (by simp)
        obtain ⟨y2, q2⟩ := cells_of_heap HG4.out 2 (by simp)
        obtain ⟨y3, q3⟩ := cells_of_heap HG4.out 3 (by simp)
        go_wp2
        clear y0 q0 y1 q1 y2 q2 y3 q3
        obtain ⟨wf, hwf⟩ : ∃ x, x = putW (w4) (w.heap.size) 0 [.int .i64 8, .int .i64 0, .int .i64 M, .int .i64 0] := ⟨_, rfl⟩
        have kf := putW_all [.int .i64 8, .int .i64 0, .int .i64 M, .int .i64 0] HG4.out rfl
        have bf := putW_below (b := w.heap.size) (by first | omega | simp) [.int .i64 8, .int .i64 0, .int .i64 M, .int .i64 0] 0 _ HB4.out
        rw [← hwf] at kf bf
        have cf := hwf.symm
        simp only [putW, Nat.reduceAdd] at cf
        rw [cf]
        clear cf hwf
        have f0 := (cells_of_heap kf 0 (by simp)).1
        have f1 := (cells_of_heap kf 1 (by simp)).1
        have f2 := (cells_of_heap kf 2 (by simp)).1
        have f3 := (cells_of_heap kf 3 (by simp)).1
        simp only [List.getElem_toArray, List.getElem_cons_zero, List.getElem_cons_succ] at f0 f1 f2 f3
        refine bodyPost_ret (v := acv 8 0 M 0) (by simp [results, Tryd.results80, go_sem, f0, f1, f2, f3]) rfl ⟨by rw [HZ3.out], bf⟩
      · obtain ⟨n, hn⟩ : ∃ n, n = pval X := ⟨_, rfl⟩
        obtain ⟨b, hb⟩ : ∃ b, b = okI X := ⟨_, rfl⟩
        have HN := Lib.hid hn
        have HOK := Lib.hid hb
        have HZ3 := Lib.hid (show z = ⟨K, 0, 0, n⟩ by rw [HZ2.out, if_neg k2, if_neg k8, hn])
        have e2 : ((K : Int) == 2) = false := by simp; omega
        have e8 : ((K : Int) == 8) = false := by simp; omega
        clear k2 k8 hn hb
        go_wp2_with fail
        refine (implParseInt_n X n b HN.out HOK.out _ HT3.out).mono ?_
        rintro e w4 ⟨rfl, hb⟩
        have HB4 := Lib.hid (HB3.out.trans (hb.mono HB3.out.size))
        have HG4 := Lib.hid ((hb.block _ HS3.out).trans HG3.out)
        have HS4 := Lib.hid (Nat.lt_of_lt_of_le HS3.out hb.size)
        have HT4 := Lib.hid (HT3.out.below hb)
        clear hb
        obtain ⟨y0, q0⟩ := cells_of_heap HG4.out 0 (by simp)
        obtain ⟨y1, q1⟩ := cells_of_heap HG4.out 1 (by simp)
        obtain ⟨y2, q2⟩ := cells_of_heap HG4.out 2 (by simp)
        obtain ⟨y3, q3⟩ := cells_of_heap HG4.out 3 (by simp)
        go_wp2
        clear y0 q0 y1 q1 y2 q2 y3 q3
        obtain ⟨wf, hwf⟩ : ∃ x, x = putW (w4) (w.heap.size) 0 [.int .i64 K, .int .i64 0, .int .i64 0, .int .i64 n] := ⟨_, rfl⟩
        have kf := putW_all [.int .i64 K, .int .i64 0, .int .i64 0, .int .i64 n] HG4.out rfl
        have bf := putW_below (b := w.heap.size) (by first | omega | simp) [.int .i64 K, .int .i64 0, .int .i64 0, .int .i64 n] 0 _ HB4.out
        rw [← hwf] at kf bf
        have cf := hwf.symm
        simp only [putW, Nat.reduceAdd] at cf
        rw [cf]
        clear cf hwf
        have f0 := (cells_of_heap kf 0 (by simp)).1
        have f1 := (cells_of_heap kf 1 (by simp)).1
        have f2 := (cells_of_heap kf 2 (by simp)).1
        have f3 := (cells_of_heap kf 3 (by simp)).1
        simp only [List.getElem_toArray, List.getElem_cons_zero, List.getElem_cons_succ] at f0 f1 f2 f3
        refine bodyPost_ret (v := acv K 0 0 n) (by simp [results, Tryd.results80, go_sem, f0, f1, f2, f3]) rfl ⟨by rw [HZ3.out], bf⟩
  · obtain ⟨C, hC⟩ : ∃ C, C = codeV R := ⟨_, rfl⟩
    have HC := Lib.hid hC
    have HZ2 := Lib.hid (show z = gtV L C by rw [HZ.out, gaV, ← HR.out, hC]; exact if_pos rfl)
    clear hC
    go_wp2_with fail
    refine (implCodeOf_n R C HC.out _ HT1.out).mono ?_
    rintro e w2 ⟨rfl, hb⟩
    have HB2 := Lib.hid (HB1.out.trans (hb.mono HB1.out.size))
    have HG2 := Lib.hid ((hb.block _ HS1.out).trans HG1.out)
    have HS2 := Lib.hid (Nat.lt_of_lt_of_le HS1.out hb.size)
    have HT2 := Lib.hid (HT1.out.below hb)
    clear hb
    go_wp2_with fail
    refine (guessTapHold_any L C z HZ2.out _ HT2.out).mono ?_
    rintro e w3 ⟨rfl, hb⟩
    have HB3 := Lib.hid (HB2.out.trans (hb.mono HB2.out.size))
    have HG3 := Lib.hid ((hb.block _ HS2.out).trans HG2.out)
    have HS3 := Lib.hid (Nat.lt_of_lt_of_le HS2.out hb.size)
    have HT3 := Lib.hid (HT2.out.below hb)
    clear hb
    obtain ⟨y0, q0⟩ := cells_of_heap HG3.out 0 (by simp)
    obtain ⟨y1, q1⟩ := cells_of_heap HG3.out 1 (by simp)
    obtain ⟨y2, q2⟩ := cells_of_heap HG3.out 2 (by simp)
    obtain ⟨y3, q3⟩ := cells_of_heap HG3.out 3 (by simp)
    go_wp2
    clear y0 q0 y1 q1 y2 q2 y3 q3
    obtain ⟨wf, hwf⟩ : ∃ x, x = putW (w3) (w.heap.size) 0 [.int .i64 z.k, .int .i64 z.c, .int .i64 z.m, .int .i64 z.n] := ⟨_, rfl⟩
    have kf := putW_all [.int .i64 z.k, .int .i64 z.c, .int .i64 z.m, .int .i64 z.n] HG3.out rfl
    have bf := putW_below (b := w.heap.size) (by first | omega | simp) [.int .i64 z.k, .int .i64 z.c, .int .i64 z.m, .int .i64 z.n] 0 _ HB3.out
    rw [← hwf] at kf bf
    have cf := hwf.symm
    simp only [putW, Nat.reduceAdd] at cf
    rw [cf]
    clear cf hwf
    have f0 := (cells_of_heap kf 0 (by simp)).1
    have f1 := (cells_of_heap kf 1 (by simp)).1
    have f2 := (cells_of_heap kf 2 (by simp)).1
    have f3 := (cells_of_heap kf 3 (by simp)).1
    simp only [List.getElem_toArray, List.getElem_cons_zero, List.getElem_cons_succ] at f0 f1 f2 f3
    refine bodyPost_ret (v := acv z.k z.c z.m z.n) (by simp [results, Tryd.results80, go_sem, f0, f1, f2, f3]) rfl ⟨rfl, bf⟩

end Go.Proofs.YtnfnhbldphiohaaDoor
