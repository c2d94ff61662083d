/- DERIVED. The reference's cursor behind other calls, and a cursor for a place: l24New, l1Once. -/
import Derived.Test.YtleheibpgngmiaaCur
namespace Go.Proofs.Ytleheibpgngmiaa
open Go.RowKit

theorem grown_alloc (w : World) (o : Obj) (r : Option Nat) : w.grownBy (w.alloc o) r :=
  let h : Below w.heap.size w (w.alloc o) := (Below.refl _ _).alloc (Nat.le_refl _) _
  ⟨h.os, h.tape, h.output, h.size, fun k hk _ => h.block k hk⟩
theorem grown_of_below {w w' : World} (h : Below w.heap.size w w') (r : Option Nat) : w.grownBy w' r := ⟨h.os, h.tape, h.output, h.size, fun k hk _ => h.block k hk⟩
theorem grown_new {w0 w : World} {r : Option Nat} (h : w0.grownBy w r) (b o : Nat) (z : Value) (hb : w0.heap.size ≤ b) : w0.grownBy (w.setCell ⟨b, o, none⟩ z) r :=
  ⟨h.os, h.tape, h.output, by simpa using h.size, fun k hk hr => (Below.heap_setCell w ⟨b, o, none⟩ z k (fun e => by simp at e; omega)).trans (h.block k hk hr)⟩
theorem Draws.below {B b n : Nat} {v : Value} {zs : List Int} {w w' : World} (h : Draws B b v n zs w) (hb : Below w.heap.size w w') : Draws B b v n zs w' :=
  h.stay (hb.block b h.lt) (hb.mono (Nat.le_trans h.low (Nat.le_of_lt h.lt)))
theorem Draws.alloc {B b n : Nat} {v : Value} {zs : List Int} {w : World} (h : Draws B b v n zs w) (o : Obj) : Draws B b v n zs (w.alloc o) :=
  h.below ((Below.refl _ _).alloc (Nat.le_refl _) _)
theorem Draws.drewN {B b n : Nat} {v : Value} {zs : List Int} {w : World} (h : Draws B b v n zs w) (k : Nat) : Draws B b v n zs (w.drewN k) :=
  h.below (below_drewN (Below.refl _ _) k)
theorem Draws.setCell {B b n : Nat} {v : Value} {zs : List Int} {w : World} (h : Draws B b v n zs w) (x o : Nat) (z : Value) (hx : x ≠ b) (hB : B ≤ x) : Draws B b v n zs (w.setCell ⟨x, o, none⟩ z) :=
  h.stay (Below.heap_setCell w ⟨x, o, none⟩ z b (fun e => hx (by simpa using e.symm))) ((Below.refl B w).setCell hB z)
set_option maxHeartbeats 1000000 in
theorem l24New_draw (v : Value) (zs : List Int) (k : Int) (w : World) (hl : zs.length ≤ 1099511627776) (hz : ∀ z ∈ zs, 0 ≤ z ∧ z < 256) (h : Rd w v (zs.map (.int .u8))) :
    Calls Try.prog 43 #[v, .int .i64 k] w fun e w' => e = .returned (.pointer (some ⟨w.heap.size, 0, none⟩)) ∧ Draws w.heap.size w.heap.size v zs.length zs w' ∧ Below w.heap.size w w' ∧ w.heap.size < w'.heap.size := by
  have HZ := Lib.hid hz
  have HR := Lib.hid h
  clear hz h
  go_enter Try.func43, Try.ntmps43
  go_wp2_with fail
  refine (l1New_draw v zs _ hl HZ.out HR.out).mono ?_
  rintro e w1 ⟨rfl, hd, hb, hlt⟩
  obtain ⟨i, q, hi, hh⟩ := hd.cur
  obtain ⟨c2, f2⟩ := cells_of_heap hh 2 (by simp)
  have HD := Lib.hid hd
  have HB := Lib.hid hb
  have HH := Lib.hid hh
  clear hd hb hh
  go_wp2
  go_ret
  refine ⟨rfl, HD.out.keep ⟨i, _, hi, cur_set2 HH.out⟩ (grown_set _ _ _ _), HB.out.setCell (Nat.le_refl _) _, by simpa using hlt⟩

theorem l1Once_draw {B b n : Nat} {v : Value} {zs : List Int} {w : World} (m : Int) (h : Draws B b v n zs w) (hm : 0 < m) (hm' : m ≤ 4294967296) :
    Calls Try.prog 70 #[.pointer (some ⟨b, 0, none⟩), .int .i64 m] w fun e w' => ∃ t : Bool, e = .returned (.bool t) ∧ Draws B b v n zs w' ∧ w.grownBy w' (some b) := by
  have HD := Lib.hid h
  clear h
  go_enter Try.func70, Try.ntmps70
  go_wp2_with fail
  refine (l1Below_draw m HD.out hm hm').mono ?_
  rintro e w1 ⟨x, rfl, x0, x1, hd, hg⟩
  have HD1 := Lib.hid hd
  have HG1 := Lib.hid hg
  clear hd hg
  go_wp2
  go_ret
  exact ⟨_, rfl, HD1.out, HG1.out⟩
theorem grown_size {w w' : World} {r : Option Nat} {x : Nat} (h : w.grownBy w' r) (hx : x < w.heap.size) : x < w'.heap.size := Nat.lt_of_lt_of_le hx h.size
theorem grown_high {w0 w w' : World} {r r' : Option Nat} (h : w0.grownBy w r) (hg : w.grownBy w' r') (hr : ∀ q, r' = some q → w0.heap.size ≤ q) : w0.grownBy w' r :=
  ⟨hg.os.trans h.os, hg.tape.trans h.tape, hg.output.trans h.output, Nat.le_trans h.size hg.size, fun k hk hn => (hg.block k (Nat.lt_of_lt_of_le hk h.size) (fun e => by have := hr k e.symm; omega)).trans (h.block k hk hn)⟩
theorem Draws.high {B b n : Nat} {v : Value} {zs : List Int} {w w' : World} {r : Option Nat} {H : Nat} (h : Draws B b v n zs w) (hg : w.grownBy w' r) (hr : ∀ q, r = some q → H ≤ q) (hb : b < H) : Draws B b v n zs w' :=
  h.stay (hg.block b h.lt (fun e => by have := hr b e.symm; omega)) ⟨hg.os, hg.tape, hg.output, hg.size, fun k hk => hg.block k (Nat.lt_trans (Nat.lt_of_lt_of_le hk h.low) h.lt) (fun e => by have := hr k e.symm; have := h.low; omega)⟩

end Go.Proofs.Ytleheibpgngmiaa
