/- DERIVED. The exact laws of chapter 7 on bytes: BootBytes, BitBytes, ReadBits: each, called with any argument, returns true and changes nothing that was there; what the program's function does is a premise. · The reference's ReadBoot: the report whose boot bytes are bytes. · The exact laws of chapter 7 that only read held keys: each, called with any held keys, returns true and changes nothing that was there; what the program's function does is a premise. · The exact laws of ReportOf and ReadBoot: each, called with any argument, returns true and changes nothing that was there; what the program's function does is a premise. -/
import Derived.Test.YteljmfdlegohbaaRpSpec5
import Derived.Test.YteljmfdlegohbaaLawBits
import Derived.Deep.RegionHeld3
import Derived.Deep.DeepCutAuto
import Derived.Deep.RegionLaw
import Derived.BigRegion
import Derived.Test.YteljmfdlegohbaaHdSpec
import Derived.Test.YteljmfdlegohbaaOwnBase
namespace Go.Proofs.Yteljmfdlegohbaa
open Go.RowKit

/-- A slice is no longer than its room. -/
def CapOk (v : Value) : Prop := ∀ a n c, v = .slice a n c → n ≤ c
theorem capOk_of {w : World} {B : Nat} {T : TypeId} {a : Option Addr} {n m c : Nat} {xs : List Value} {fp : List Nat} (h : OwF w B T 1 (.slice a n c) m xs fp) : CapOk (.slice a n c) := fun a' n' c' e => by
  obtain ⟨rfl, rfl, rfl⟩ := by simpa using e
  rcases h.1.2 with ⟨h1, h2⟩ | ⟨g, cap, cur, h1, _, _, h2, _⟩
  · obtain ⟨_, rfl, rfl⟩ := by simpa using h1
    exact Nat.le_refl _
  · obtain ⟨_, rfl, rfl⟩ := by simpa using h1
    exact h2
/-- What a function returns that reads a report: with the footprint of its codes. -/
def RpTO (x : Rpr) (w : World) (e : Ending) (w' : World) : Prop := ∃ a c fp, e = .returned (.tuple #[rpv x.r (.slice a x.z.length c), .bool x.b]) ∧ OwC w' w.heap.size (.row [.int .i64]) (.slice a x.z.length c) (.row (ones x.z)) fp ∧ Below w.heap.size w w'
theorem rpTO {x : Rpr} {w w' : World} {e : Ending} (h : RpTB x w e w') (hl : x.z.length ≤ 1048576) : RpTO x w e w' := by
  obtain ⟨u, he, ho, hb⟩ := h
  obtain ⟨a, c, fp, rfl, h⟩ := owC_len ho hl
  exact ⟨a, c, fp, he, h, hb⟩
theorem bbV_le (r : Int) (zs : List Int) : (bbV r zs).length ≤ 8 := by
  rw [bbV]; split
  · simp
  · simp
theorem biV_le (r : Int) (zs : List Int) : (biV r zs).length ≤ 8 := by
  rw [biV]; split
  · rw [biN_len]; omega
  · simp
theorem rdV_len (bs : List Int) : (rdV bs).z.length ≤ 56 := by
  rw [rdV]; split
  · exact bitK_len bs 56
  · simp
theorem markReport_q (B : Nat) (r : Int) (u : Value) (zs : List Int) (fp : List Nat) (q q2 : Int) (hq : q2 = q + (zs.length : Int)) (w : World) (hn : zs.length ≤ 1099511627776) (hk : 0 ≤ q) (hk' : q ≤ 1099511627776) (h : OwC w B (.row [.int .i64]) u (.row (ones zs)) fp) :
    Calls Try.prog 69 #[rpv r u, .int .i64 q] w fun e w' => e = .returned (.int .i64 q2) ∧ OwC w' B (.row [.int .i64]) u (.row (ones (marksZ q zs.length))) fp ∧ Turn w w' fp := by
  rw [hq]; exact markReport_own B r u zs fp q w hn hk hk' h
theorem bKeys_len (b : List Int) : ∀ k, (bKeys b k).length ≤ k
  | 0 => Nat.le_refl _
  | k + 1 => by
    have := bKeys_len b k
    rw [bKeys]; split
    · simp; omega
    · omega
theorem bOnes_le (b : List Int) : ∀ k, bOnes b k ≤ k
  | 0 => Nat.le_refl _
  | k + 1 => by
    have := bOnes_le b k
    rw [bOnes]; split <;> omega
theorem bFine_no {b : List Int} {i : Nat} (h : bHole b i = true) : ∀ m, i < m → bFine b m = false
  | 0, hm => absurd hm (Nat.not_lt_zero _)
  | m + 1, hm => by
    rcases Nat.lt_or_ge i m with h2 | h2
    · rw [bFine, bFine_no h m h2, Bool.false_and]
    · obtain rfl : i = m := by omega
      rw [bFine, h, Bool.not_true, Bool.and_false]
/-- Behind 'app_box' the elder blocks are as they were. -/
theorem app_keep {w w4 : World} {gw gm ga cap g2 : Nat} {X : List Int} {x : Int}
    (ho : w.ownsRow (gw + 1) 3 1 (.slice (some ⟨ga, 0, none⟩) X.length cap) X.length (X.map (.int .i64)))
    (hgs : gm < w.heap.size) (hlt : gw < gm) {cap1 : Nat}
    (_hown2 : w4.ownsRow (gw + 1) 3 1 (.slice (some ⟨g2, 0, none⟩) (X.length + 1) cap1) (X.length + 1) (X.map (.int .i64) ++ [.int .i64 x]))
    (hgrow2 : (w.alloc (.cells #[.int .i64 x] 3)).grownBy w4 (Value.slice (some ⟨ga, 0, none⟩) X.length cap).ownBlock) (cap2 : Nat) (q : Nat) (hq : q < gw) :
    (w4.setCell ⟨gm, 1, none⟩ (.slice (some ⟨g2, 0, none⟩) (X.length + 1) cap2)).heap[q]? = w.heap[q]? := by
  have hba : Below w.heap.size w (w.alloc (.cells #[.int .i64 x] 3)) := (Below.refl _ _).alloc (Nat.le_refl _) _
  have hb4 : Below (gw + 1) w w4 := (hba.mono (by omega)).grown hgrow2 (by simp; omega) (fun q hq => (ho.lt q hq).1)
  rw [heap_setCell_other w4 ⟨gm, 1, none⟩ q _ (by show ¬ q = gm; omega)]
  exact hb4.block q (by omega)

/-- What a function returns that makes a report. -/
def RpvO (r : Int) (zs : List Int) (w : World) (e : Ending) (w' : World) : Prop := ∃ a c fp, e = .returned (rpv r (.slice a zs.length c)) ∧ OwC w' w.heap.size (.row [.int .i64]) (.slice a zs.length c) (.row (ones zs)) fp ∧ Below w.heap.size w w'
theorem rpvO {r : Int} {zs : List Int} {w w' : World} {e : Ending} (h : RpV r zs w e w') (hl : zs.length ≤ 1048576) : RpvO r zs w e w' := by
  obtain ⟨u, he, ho, hb⟩ := h
  obtain ⟨a, c, fp, rfl, h⟩ := owC_len ho hl
  exact ⟨a, c, fp, he, h, hb⟩
theorem rofK_len (l : List Hd) : (rofK l).length ≤ 56 := by
  rw [rofK]; split
  · exact codesN_len l 56
  · simp
theorem rbV_len (bs : List Int) (rl : Int) (zl : List Int) (h : zl.length ≤ 1048576) : (rbV bs rl zl).z.length ≤ 1048576 := by
  have := bKeys_len bs 6
  rw [rbV]; split
  · rw [rbEnd]; split
    · exact h
    · split
      · show (bKeys bs 6).length ≤ 1048576; omega
      · simp
  · simp
end Go.Proofs.Yteljmfdlegohbaa
