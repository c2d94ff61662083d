/- DERIVED. strings.Cut at a separator of one byte, at any text: the text before the first such byte and behind it, or the whole text. No condition. · The program's guessKey, guessTapHold, guessAction: each returns what a plain function says, where the tables are as their texts lay them. -/
import Derived.Test.YtghijkpcmamebaaDoorText
import Derived.Shelf.Strings.Search1
import Derived.Deep.RegionHeld3
import Derived.WalkSmall
import Derived.Test.YtghijkpcmamebaaDoorAcTxI
import Derived.Test.YtghijkpcmamebaaDoorAcTx
import Derived.Test.YtghijkpcmamebaaDoorNums
namespace Go.Proofs.YtghijkpcmamebaaDoor
open Go.RowKit

def cutRen : Go.Shelf.Ren := ⟨fun | 217 => 71 | 266 => 76 | n => n, fun | 3 => 3 | 5 => 5 | 9 => 9 | n => n, fun | n => n⟩
theorem cutLays : Go.Proofs.Lays.n217 Tryd.prog cutRen := {
  mixed := by kernel_rfl
  f217 := Tryd.func71.trans (congrArg some (by kernel_rfl))
  f266 := Tryd.func76.trans (congrArg some (by kernel_rfl))
  t3 := Tryd.underlying3
  a3 := Tryd.isAgg3
  z3 := Tryd.sizeOf3
  v3 := Tryd.zeroValue3
  t5 := Tryd.underlying5
  a5 := Tryd.isAgg5
  z5 := Tryd.sizeOf5
  v5 := Tryd.zeroValue5
  t9 := Tryd.underlying9
  a9 := Tryd.isAgg9
  z9 := Tryd.sizeOf9
  v9 := Tryd.zeroValue9 }
/-- The place of the first byte x, -1 if there is none. -/
def ixB (s : ByteArray) (x : UInt8) : Int := Lib.indexByte s.data.toList x
theorem indexByte_lt : ∀ (l : List UInt8) (x : UInt8), Lib.indexByte l x < l.length
  | [], _ => by simp [Lib.indexByte]
  | b :: l, x => by
    have h := indexByte_lt l x
    unfold Lib.indexByte
    split
    · simp
    · split
      · simp; omega
      · simp; omega
theorem ixB_form (s : ByteArray) (x : UInt8) : ixB s x = -1 ∨ ∃ i : Nat, ixB s x = i ∧ i < s.size := by
  have h1 := Lib.indexByte_ge s.data.toList x
  have h2 := indexByte_lt s.data.toList x
  have h3 : s.data.toList.length = s.size := by rw [Array.length_toList]; rfl
  unfold ixB
  rcases Int.lt_or_le (Lib.indexByte s.data.toList x) 0 with h | h
  · left; omega
  · right; exact ⟨(Lib.indexByte s.data.toList x).toNat, by omega, by omega⟩
theorem idxByte_any (s : ByteArray) (x : UInt8) (w : World) : Calls Tryd.prog 71 #[.string s, .int .u8 (x.toNat : Int)] w fun e w' => e = .returned (.int .i64 (ixB s x)) ∧ w = w' :=
  (Any.stringslite_IndexByte (ρ := cutRen) cutLays s (x.toNat : Int) w).mono fun e w' ⟨he, hw⟩ => ⟨by rw [he, ixB]; congr 3; rw [Int.toNat_natCast]; exact UInt8.ofNat_toNat, hw.symm⟩

/-- The separator of the one byte x. -/
structure OneB (S : ByteArray) (x : UInt8) : Prop where
  is : S = ⟨#[x]⟩
  sz : (S.size : Int) = 1
  ix : ∀ w, (Instr.index 9 (.string S) (.int .i64 0)).run Tryd.prog w = .ok (.int .u8 (x.toNat : Int)) w
theorem oneB (x : UInt8) : OneB ⟨#[x]⟩ x := ⟨rfl, rfl, fun w => by rw [run_index_string w 9 _ _ _ Tryd.underlying9]; rfl⟩
theorem idx_any (s S : ByteArray) (x : UInt8) (h : OneB S x) (w : World) : Calls Tryd.prog 68 #[.string s, .string S] w fun e w' => e = .returned (.int .i64 (ixB s x)) ∧ w = w' := by
  obtain ⟨r, hr⟩ : ∃ r, r = ixB s x := ⟨_, rfl⟩
  rw [← hr]
  have HR := Lib.hid hr
  have hsz := h.sz
  have hix := h.ix
  have HH := Lib.hid h.is
  clear hr h
  by_cases hs : S = s
  · have hr0 : r = 0 := by rw [HR.out, ← hs, HH.out]; simp [ixB, Lib.indexByte]
    subst hr0
    subst hs
    go_enter Tryd.func68, Tryd.ntmps68
    go_wp2
    go_ret
    exact ⟨rfl, rfl⟩
  · have hne := toList_ne hs
    clear hs
    go_enter Tryd.func68, Tryd.ntmps68
    go_wp2_with fail
    refine (idxByte_any s x _).mono ?_
    rw [← HR.out]
    rintro e w0 ⟨rfl, rfl⟩
    go_wp2
    go_ret
    exact ⟨rfl, rfl⟩
/-- The text ahead of the first byte x, the text behind it, and whether it is there. -/
def cutV (s : ByteArray) (x : UInt8) : ByteArray × ByteArray × Bool := if ixB s x < 0 then (s, ⟨#[]⟩, false) else (s.extract 0 (ixB s x).toNat, s.extract ((ixB s x).toNat + 1) s.size, true)
theorem slcut_any (s S : ByteArray) (x : UInt8) (h : OneB S x) (w : World) (hl : s.size ≤ 1048576) : Calls Tryd.prog 62 #[.string s, .string S] w fun e w' => e = .returned (.tuple #[.string (cutV s x).1, .string (cutV s x).2.1, .bool (cutV s x).2.2]) ∧ Below w.heap.size w w' := by
  obtain ⟨i, hi⟩ : ∃ i, i = ixB s x := ⟨_, rfl⟩
  have HI := Lib.hid hi
  have HO := Lib.hid h
  have hsz := h.sz
  rcases ixB_form s x with h | ⟨k, h, hk⟩
  · have hc : cutV s x = (s, ⟨#[]⟩, false) := by rw [cutV, if_pos (by omega)]
    rw [hc]
    obtain rfl : i = -1 := by omega
    clear hc h hi hl
    go_enter Tryd.func62, Tryd.ntmps62
    go_wp2_with fail
    refine (idx_any s S x HO.out _).mono ?_
    rw [← HI.out]
    rintro e w0 ⟨rfl, rfl⟩
    go_wp2
    go_ret3
    exact ⟨rfl, Below.refl _ _⟩
  · obtain ⟨L, R, hc, hL, hR⟩ : ∃ L R, cutV s x = (L, R, true) ∧ L = s.extract 0 k ∧ R = s.extract (k + 1) s.size := ⟨_, _, by rw [cutV, if_neg (by omega), h, Int.toNat_natCast], rfl, rfl⟩
    rw [hc]
    obtain rfl : i = (k : Int) := by omega
    have c0 : (0 : Int) ≤ (k : Int) := by omega
    have c1 : (k : Int) ≤ (s.size : Int) := by omega
    have c2 : (0 : Int) ≤ (k : Int) + 1 := by omega
    have c3 : (k : Int) + 1 ≤ (s.size : Int) := by omega
    have hw1 : IntKind.i64.wrap ((k : Int) + 1) = (k : Int) + 1 := IntWalk.i64_in _ ⟨by omega, by omega⟩
    have HL := Lib.hid hL
    have HRR := Lib.hid hR
    clear hc h hi hL hR hk hl
    go_enter Tryd.func62, Tryd.ntmps62
    go_wp2_with fail
    refine (idx_any s S x HO.out _).mono ?_
    rw [← HI.out]
    rintro e w0 ⟨rfl, rfl⟩
    go_wp2
    go_quiet (fail)
    go_wp2
    go_ret3
    exact ⟨by rw [HL.out, HRR.out]; rfl, below_drewN (Below.refl _ _) _⟩
theorem cut_any (s S : ByteArray) (x : UInt8) (h : OneB S x) (w : World) (hl : s.size ≤ 1048576) : Calls Tryd.prog 32 #[.string s, .string S] w fun e w' => e = .returned (.tuple #[.string (cutV s x).1, .string (cutV s x).2.1, .bool (cutV s x).2.2]) ∧ Below w.heap.size w w' := by
  obtain ⟨⟨L, R, b⟩, hr⟩ : ∃ r, r = cutV s x := ⟨_, rfl⟩
  rw [← hr]
  have HR := Lib.hid hr
  clear hr
  go_enter Tryd.func32, Tryd.ntmps32
  go_wp2_with fail
  refine (slcut_any s S x h _ hl).mono ?_
  rw [← HR.out]
  rintro e w1 ⟨rfl, hb⟩
  have HB := Lib.hid hb
  clear hb
  go_wp2
  go_ret3
  exact ⟨rfl, HB.out⟩
theorem cut_n (s S : ByteArray) (x : UInt8) (h : OneB S x) (L R : ByteArray) (b : Bool) (hr : (L, R, b) = cutV s x) (w : World) (hl : s.size ≤ 1048576) : Calls Tryd.prog 32 #[.string s, .string S] w fun e w' => e = .returned (.tuple #[.string L, .string R, .bool b]) ∧ Below w.heap.size w w' :=
  (cut_any s S x h w hl).mono fun e w' hh => by rw [← hr] at hh; exact hh
theorem cut_sizes (s : ByteArray) (x : UInt8) : (cutV s x).1.size ≤ s.size ∧ (cutV s x).2.1.size ≤ s.size := by
  unfold cutV
  split
  · exact ⟨Nat.le_refl _, Nat.zero_le _⟩
  · exact ⟨by rw [ByteArray.size_extract]; omega, by rw [ByteArray.size_extract]; omega⟩
end Go.Proofs.YtghijkpcmamebaaDoor

namespace Go.Proofs.YtghijkpcmamebaaDoor
open Go.RowKit

def gkV (s : ByteArray) : Ac := if (cutV s 45).2.2 = true then ⟨2, codeV (cutV s 45).2.1, pmV (cutV s 45).1, 0⟩ else ⟨2, codeV s, 0, 0⟩
def gtV (l : ByteArray) (c : Int) : Ac := if pmV l = 0 then ⟨7, c, 0, pval l⟩ else ⟨6, c, pmV l, 0⟩
def gaV (s : ByteArray) : Ac :=
  if (cutV s 47).2.2 = true then gtV (cutV s 47).1 (codeV (cutV s 47).2.1)
  else if kindV (cutV s 58).1 = 2 then gkV s
  else if kindV (cutV s 58).1 = 8 then ⟨8, 0, pmV (cutV s 58).2.1, 0⟩
  else ⟨kindV (cutV s 58).1, 0, 0, pval (cutV s 58).2.1⟩
theorem implParseMods_n (s : ByteArray) (n : Nat) (hn : n = pmV s) (w : World) : Calls Tryd.prog 33 #[.string s] w fun e w' => e = .returned (.int .i64 (n : Nat)) ∧ Below w.heap.size w w' := by
  rw [hn]; exact implParseMods_any s w
end Go.Proofs.YtghijkpcmamebaaDoor
