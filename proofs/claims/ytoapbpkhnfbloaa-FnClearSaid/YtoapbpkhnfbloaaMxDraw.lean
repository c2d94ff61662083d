/- DERIVED. What the reference draws of chapter 2 by its cursor: a valid matrix and masks of it. -/
import Derived.Test.YtoapbpkhnfbloaaMxSpec2
import Derived.Test.YtoapbpkhnfbloaaCur
namespace Go.Proofs.Ytoapbpkhnfbloaa
open Go.RowKit

theorem grown_alloc (w : World) (o : Obj) (r : Option Nat) : w.grownBy (w.alloc o) r :=
  let h : Below w.heap.size w (w.alloc o) := (Below.refl _ _).alloc (Nat.le_refl _) _
  ⟨h.os, h.tape, h.output, h.size, fun k hk _ => h.block k hk⟩
theorem grown_of_below {w w' : World} (h : Below w.heap.size w w') (r : Option Nat) : w.grownBy w' r := ⟨h.os, h.tape, h.output, h.size, fun k hk _ => h.block k hk⟩
theorem grown_new {w0 w : World} {r : Option Nat} (h : w0.grownBy w r) (b o : Nat) (z : Value) (hb : w0.heap.size ≤ b) : w0.grownBy (w.setCell ⟨b, o, none⟩ z) r :=
  ⟨h.os, h.tape, h.output, by simpa using h.size, fun k hk hr => (Below.heap_setCell w ⟨b, o, none⟩ z k (fun e => by simp at e; omega)).trans (h.block k hk hr)⟩
theorem Draws.below {B b n : Nat} {v : Value} {zs : List Int} {w w' : World} (h : Draws B b v n zs w) (hb : Below w.heap.size w w') : Draws B b v n zs w' :=
  h.stay (hb.block b h.lt) (hb.mono (Nat.le_trans h.low (Nat.le_of_lt h.lt)))
theorem Draws.alloc {B b n : Nat} {v : Value} {zs : List Int} {w : World} (h : Draws B b v n zs w) (o : Obj) : Draws B b v n zs (w.alloc o) :=
  h.below ((Below.refl _ _).alloc (Nat.le_refl _) _)
theorem Draws.drewN {B b n : Nat} {v : Value} {zs : List Int} {w : World} (h : Draws B b v n zs w) (k : Nat) : Draws B b v n zs (w.drewN k) :=
  h.below (below_drewN (Below.refl _ _) k)
theorem Draws.setCell {B b n : Nat} {v : Value} {zs : List Int} {w : World} (h : Draws B b v n zs w) (x o : Nat) (z : Value) (hx : x ≠ b) (hB : B ≤ x) : Draws B b v n zs (w.setCell ⟨x, o, none⟩ z) :=
  h.stay (Below.heap_setCell w ⟨x, o, none⟩ z b (fun e => hx (by simpa using e.symm))) ((Below.refl B w).setCell hB z)
theorem cells_of_heap {w : World} {b : Nat} {cs : Array Value} {t : TypeId} (h : w.heap[b]? = some (.cells cs t (0, 0))) (j : Nat) (hj : j < cs.size) : w.cell? ⟨b, j, none⟩ = some cs[j] ∧ w.frozen? ⟨b, j, none⟩ = false := by
  constructor
  · simp [World.cell?, h, Array.getElem?_eq_getElem hj]
  · simp [World.frozen?, h]

set_option maxHeartbeats 1000000 in
theorem l24New_draw (v : Value) (zs : List Int) (k : Int) (w : World) (hl : zs.length ≤ 1099511627776) (hz : ∀ z ∈ zs, 0 ≤ z ∧ z < 256) (h : Rd w v (zs.map (.int .u8))) :
    Calls Try.prog 10 #[v, .int .i64 k] w fun e w' => e = .returned (.pointer (some ⟨w.heap.size, 0, none⟩)) ∧ Draws w.heap.size w.heap.size v zs.length zs w' ∧ Below w.heap.size w w' ∧ w.heap.size < w'.heap.size := by
  have HZ := Lib.hid hz
  have HR := Lib.hid h
  clear hz h
  go_enter Try.func10, Try.ntmps10
  go_wp2_with fail
  refine (l1New_draw v zs _ hl HZ.out HR.out).mono ?_
  rintro e w1 ⟨rfl, hd, hb, hlt⟩
  obtain ⟨i, q, hi, hh⟩ := hd.cur
  obtain ⟨c2, f2⟩ := cells_of_heap hh 2 (by simp)
  have HD := Lib.hid hd
  have HB := Lib.hid hb
  have HH := Lib.hid hh
  clear hd hb hh
  go_wp2
  go_ret
  refine ⟨rfl, HD.out.keep ⟨i, _, hi, cur_set2 HH.out⟩ (grown_set _ _ _ _), HB.out.setCell (Nat.le_refl _) _, by simpa using hlt⟩

theorem l1Once_draw {B b n : Nat} {v : Value} {zs : List Int} {w : World} (m : Int) (h : Draws B b v n zs w) (hm : 0 < m) (hm' : m ≤ 4294967296) :
    Calls Try.prog 21 #[.pointer (some ⟨b, 0, none⟩), .int .i64 m] w fun e w' => ∃ t : Bool, e = .returned (.bool t) ∧ Draws B b v n zs w' ∧ w.grownBy w' (some b) := by
  have HD := Lib.hid h
  clear h
  go_enter Try.func21, Try.ntmps21
  go_wp2_with fail
  refine (l1Below_draw m HD.out hm hm').mono ?_
  rintro e w1 ⟨x, rfl, x0, x1, hd, hg⟩
  have HD1 := Lib.hid hd
  have HG1 := Lib.hid hg
  clear hd hg
  go_wp2
  go_ret
  exact ⟨_, rfl, HD1.out, HG1.out⟩

set_option maxHeartbeats 1000000 in
theorem l2Matrix_draw {B b n : Nat} {v : Value} {zs : List Int} {w : World} (h : Draws B b v n zs w) :
    Calls Try.prog 11 #[.pointer (some ⟨b, 0, none⟩)] w fun e w' => ∃ (r c : Nat) (D : Bool), e = .returned (mx r c D) ∧ 1 ≤ r ∧ r ≤ 4 ∧ 1 ≤ c ∧ c ≤ 6 ∧ Draws B b v n zs w' ∧ w.grownBy w' (some b) := by
  obtain ⟨W, hW⟩ : ∃ W, W = w.alloc (.cells #[.int .i64 0, .int .i64 0, .bool false] 25) := ⟨_, rfl⟩
  have hh : W.heap[w.heap.size]? = some (.cells #[.int .i64 0, .int .i64 0, .bool false] 25 (0, 0)) := by rw [hW]; exact heap_alloc_new w _
  have hne : w.heap.size ≠ b := fun e => by have := h.lt; omega
  have hsz : w.heap.size < W.heap.size := by rw [hW]; simp
  have HLT := Lib.hid h.lt
  have HLOW := Lib.hid h.low
  have HD0 := Lib.hid (show Draws B b v n zs W by rw [hW]; exact h.alloc _)
  have HG0 := Lib.hid (show w.grownBy W (some b) by rw [hW]; exact grown_alloc _ _ _)
  have HW := Lib.hid hW
  have HH := Lib.hid hh
  clear h hW hh
  go_enter Try.func11, Try.ntmps11
  go_wp2_with fail
  rw [← HW.out]
  refine (l1Below_draw 4 HD0.out (by omega) (by omega)).mono ?_
  rintro e w1 ⟨x, rfl, x0, x1, hd, hg⟩
  have HD1 := Lib.hid hd
  have HG1 := Lib.hid hg
  clear hd hg
  go_wp2_with fail
  refine (l1Below_draw 6 HD1.out (by omega) (by omega)).mono ?_
  rintro e w2 ⟨y, rfl, y0, y1, hd, hg⟩
  have HD2 := Lib.hid hd
  have HG2 := Lib.hid (grown_trans HG1.out hg)
  clear hd hg
  go_wp2_with fail
  refine (l1Once_draw 4 HD2.out (by omega) (by omega)).mono ?_
  rintro e w3 ⟨t, rfl, hd, hg⟩
  have HD3 := Lib.hid hd
  have HG3 := Lib.hid (grown_trans HG2.out hg)
  have hh3 : w3.heap[w.heap.size]? = some (.cells #[.int .i64 0, .int .i64 0, .bool false] 25 (0, 0)) := by
    rw [HG3.out.block _ hsz (by simpa using hne)]; exact HH.out
  clear hd hg
  obtain ⟨c0, f0⟩ := cells_of_heap hh3 0 (by simp)
  obtain ⟨c1, f1⟩ := cells_of_heap hh3 1 (by simp)
  obtain ⟨c2, f2⟩ := cells_of_heap hh3 2 (by simp)
  have HH3 := Lib.hid hh3
  clear hh3
  obtain ⟨r, hr⟩ := Int.eq_ofNat_of_zero_le (show 0 ≤ 1 + x by omega)
  obtain ⟨c, hc⟩ := Int.eq_ofNat_of_zero_le (show 0 ≤ 1 + y by omega)
  have HR := Lib.hid hr
  have HC := Lib.hid hc
  clear hr hc
  go_wp2
  have k1 : (w3.setCell ⟨w.heap.size, 0, none⟩ (.int .i64 (1 + x))).heap[w.heap.size]? = some (.cells #[.int .i64 (1 + x), .int .i64 0, .bool false] 25 (0, 0)) := heap_setCell_same w3 _ 0 _ _ _ HH3.out
  have k2 : ((w3.setCell ⟨w.heap.size, 0, none⟩ (.int .i64 (1 + x))).setCell ⟨w.heap.size, 1, none⟩ (.int .i64 (1 + y))).heap[w.heap.size]? = some (.cells #[.int .i64 (1 + x), .int .i64 (1 + y), .bool false] 25 (0, 0)) := heap_setCell_same _ _ 1 _ _ _ k1
  have k3 : (((w3.setCell ⟨w.heap.size, 0, none⟩ (.int .i64 (1 + x))).setCell ⟨w.heap.size, 1, none⟩ (.int .i64 (1 + y))).setCell ⟨w.heap.size, 2, none⟩ (.bool t)).heap[w.heap.size]? = some (.cells #[.int .i64 (1 + x), .int .i64 (1 + y), .bool t] 25 (0, 0)) := heap_setCell_same _ _ 2 _ _ _ k2
  have hB : B ≤ w.heap.size := Nat.le_trans HLOW.out (Nat.le_of_lt HLT.out)
  have hdf : Draws B b v n zs (((w3.setCell ⟨w.heap.size, 0, none⟩ (.int .i64 (1 + x))).setCell ⟨w.heap.size, 1, none⟩ (.int .i64 (1 + y))).setCell ⟨w.heap.size, 2, none⟩ (.bool t)) :=
    ((HD3.out.setCell _ 0 _ hne hB).setCell _ 1 _ hne hB).setCell _ 2 _ hne hB
  have hgf : w.grownBy (((w3.setCell ⟨w.heap.size, 0, none⟩ (.int .i64 (1 + x))).setCell ⟨w.heap.size, 1, none⟩ (.int .i64 (1 + y))).setCell ⟨w.heap.size, 2, none⟩ (.bool t)) (some b) :=
    grown_new (grown_new (grown_new (grown_trans HG0.out HG3.out) _ 0 _ (Nat.le_refl _)) _ 1 _ (Nat.le_refl _)) _ 2 _ (Nat.le_refl _)
  obtain ⟨wf, hwf⟩ : ∃ wf, wf = ((w3.setCell ⟨w.heap.size, 0, none⟩ (.int .i64 (1 + x))).setCell ⟨w.heap.size, 1, none⟩ (.int .i64 (1 + y))).setCell ⟨w.heap.size, 2, none⟩ (.bool t) := ⟨_, rfl⟩
  rw [← hwf] at k3 hdf hgf ⊢
  clear hwf k1 k2 c0 c1 c2 f0 f1 f2
  obtain ⟨c0, _⟩ := cells_of_heap k3 0 (by simp)
  obtain ⟨c1, _⟩ := cells_of_heap k3 1 (by simp)
  obtain ⟨c2, _⟩ := cells_of_heap k3 2 (by simp)
  refine bodyPost_ret (v := mx (1 + x) (1 + y) t) (by simp [results, Try.results11, go_sem, c0, c1, c2]) rfl ⟨r, c, t, by rw [HR.out, HC.out], ?_, ?_, ?_, ?_, hdf, hgf⟩
  · have := HR.out; omega
  · have := HR.out; omega
  · have := HC.out; omega
  · have := HC.out; omega

theorem Boxed.grown {w w' : World} {x b : Nat} {R C : Int} {D : Bool} (h : Boxed w x R C D) (hx : x < w.heap.size) (hne : x ≠ b) (hg : w.grownBy w' (some b)) : Boxed w' x R C D := by
  obtain ⟨h0, h1, h2⟩ := h
  have e := hg.block x hx (by simpa using hne)
  exact ⟨(World.cell?_of_block (w := w) e).trans h0, (World.cell?_of_block (w := w) e).trans h1, (World.cell?_of_block (w := w) e).trans h2⟩
theorem grown_size {w w' : World} {r : Option Nat} {x : Nat} (h : w.grownBy w' r) (hx : x < w.heap.size) : x < w'.heap.size := Nat.lt_of_lt_of_le hx h.size

set_option maxHeartbeats 1000000 in
theorem l2Pressed_draw {B b n : Nat} {v : Value} {zs : List Int} {w : World} (r c : Nat) (D : Bool) (h : Draws B b v n zs w) (h1 : 1 ≤ r) (h2 : r ≤ 4) (h3 : 1 ≤ c) (h4 : c ≤ 6) :
    Calls Try.prog 12 #[.pointer (some ⟨b, 0, none⟩), mx r c D] w fun e w' => ∃ m : Nat, e = .returned (.int .i64 m) ∧ m < 2 ^ (r * c) ∧ Draws B b v n zs w' ∧ w.grownBy w' (some b) := by
  obtain ⟨W, hW⟩ : ∃ W, W = w.alloc (.cells #[.int .i64 r, .int .i64 c, .bool D] 25) := ⟨_, rfl⟩
  have hx : Boxed W w.heap.size r c D := by rw [hW]; exact boxed_new _ _ _ _ _
  have hne : w.heap.size ≠ b := fun e => by have := h.lt; omega
  have hsz : w.heap.size < W.heap.size := by rw [hW]; simp
  have HD0 := Lib.hid (show Draws B b v n zs W by rw [hW]; exact h.alloc _)
  have HG0 := Lib.hid (show w.grownBy W (some b) by rw [hW]; exact grown_alloc _ _ _)
  have HX0 := Lib.hid hx
  have HW := Lib.hid hW
  have HNE := Lib.hid hne
  have HSZ := Lib.hid hsz
  have hkm := keysM_nat h1 h2 h3 h4
  have hN24 := rc_le h4 h2
  have hN1 : 0 < r * c := Nat.mul_pos h1 h3
  obtain ⟨N, hN⟩ : ∃ N, N = r * c := ⟨_, rfl⟩
  rw [← hN] at hkm hN24 hN1 ⊢
  have HK := Lib.hid hkm
  clear h hW hx hne hsz hkm hN
  go_enter Try.func12, Try.ntmps12
  go_wp2_with fail
  rw [← HW.out]
  refine (l1Below_draw 7 HD0.out (by omega) (by omega)).mono ?_
  rintro e w1 ⟨q, rfl, q0, q1, hd, hg⟩
  have HD1 := Lib.hid hd
  have HX1 := Lib.hid (HX0.out.grown HSZ.out HNE.out hg)
  have HS1 := Lib.hid (grown_size hg HSZ.out)
  have HG1 := Lib.hid (grown_trans HG0.out hg)
  clear hd hg
  obtain ⟨k, rfl⟩ := Int.eq_ofNat_of_zero_le q0
  clear q0
  go_wp2
  go_loopw [5, 6] (fun o i wr => ∃ (j m : Nat), j ≤ 7 ∧ i = .int .i64 j ∧ o = .int .i64 m ∧ m < 2 ^ 24 ∧ Draws B b v n zs wr ∧ Boxed wr w.heap.size r c D ∧ w.heap.size < wr.heap.size ∧ w.grownBy wr (some b)) (fun _ i _ => (intOf i).toNat)
  case atStart => exact ⟨k, 0, by omega, rfl, rfl, by omega, HD1.out, HX1.out, HS1.out, HG1.out⟩
  case round =>
    obtain ⟨j, m, hj, rfl, rfl, hm, hd, hx, hs, hg⟩ := hrel
    obtain ⟨c0, c1, c2⟩ := hx
    have HD2 := Lib.hid hd
    have HX2 := Lib.hid (show Boxed wr w.heap.size r c D from ⟨c0, c1, c2⟩)
    have HS2 := Lib.hid hs
    have HG2 := Lib.hid hg
    have HM := Lib.hid hm
    clear hd hs hg hm
    by_cases hlt : 0 < j
    · go_wp2_with fail
      refine (specKeyCount_any r c D _).mono ?_
      rw [HK.out]
      rintro e w3 ⟨rfl, hb⟩
      have HD3 := Lib.hid (HD2.out.below hb)
      have HX3 := Lib.hid (HX2.out.below hb HS2.out)
      have HS3 := Lib.hid (Nat.lt_of_lt_of_le HS2.out hb.size)
      have HG3 := Lib.hid (grown_trans HG2.out (grown_of_below hb (some b)))
      clear hb
      go_wp2_with fail
      refine (l1Below_draw (N : Int) HD3.out (by omega) (by omega)).mono ?_
      rintro e w4 ⟨y, rfl, y0, y1, hd, hg⟩
      have HD4 := Lib.hid hd
      have HX4 := Lib.hid (HX3.out.grown HS3.out HNE.out hg)
      have HS4 := Lib.hid (grown_size hg HS3.out)
      have HG4 := Lib.hid (grown_trans HG3.out hg)
      clear hd hg
      obtain ⟨t, rfl⟩ := Int.eq_ofNat_of_zero_le y0
      have ht : t < 24 := by omega
      have hw := wrap64_pow62 (k := t) (by omega)
      have hp24 : 2 ^ t < 2 ^ 24 := Nat.pow_lt_pow_right (by decide) ht
      obtain ⟨p, hp⟩ : ∃ p, p = 2 ^ t := ⟨_, rfl⟩
      rw [← hp] at hw hp24
      have hor := or_nat m p (by have := HM.out; omega) (by omega)
      have hlt24 := Nat.or_lt_two_pow HM.out hp24
      have HL := Lib.hid hlt24
      clear hp hlt24 hp24
      go_wp2
      go_roundw
      case rel => exact ⟨j - 1, m ||| p, by omega, by rw [show ((j - 1 : Nat) : Int) = (j : Int) - 1 by omega], rfl, HL.out, HD4.out, HX4.out, HS4.out, HG4.out⟩
      case measure => simp [intOf]; omega
    · obtain rfl : j = 0 := by omega
      have hm62 : m < 2 ^ 62 := by have := HM.out; omega
      have hw := wrap64_pow62 (k := N) (by omega)
      have hpos : 0 < 2 ^ N := Nat.two_pow_pos N
      have hp62 := pow62 (k := N) (by omega)
      have hand : bits .and .i64 (m : Int) (((2 ^ N : Nat) : Int) - 1) = ((m % 2 ^ N : Nat) : Int) := by
        rw [show (((2 ^ N : Nat) : Int) - 1) = ((2 ^ N - 1 : Nat) : Int) by omega, and_nat _ _ hm62 (by omega), Nat.and_two_pow_sub_one_eq_mod]
      have hfin : m % 2 ^ N < 2 ^ N := Nat.mod_lt _ hpos
      obtain ⟨z, hz⟩ : ∃ z, z = m % 2 ^ N := ⟨_, rfl⟩
      rw [← hz] at hand hfin
      have HF := Lib.hid hfin
      obtain ⟨p, hp⟩ : ∃ p, p = 2 ^ N := ⟨_, rfl⟩
      rw [← hp] at hand hw hp62 hpos
      clear hz hp hfin
      go_wp2_with fail
      refine (specKeyCount_any r c D _).mono ?_
      rw [HK.out]
      rintro e w3 ⟨rfl, hb⟩
      have HD3 := Lib.hid (HD2.out.below hb)
      have HG3 := Lib.hid (grown_trans HG2.out (grown_of_below hb (some b)))
      clear hb
      go_wp2
      go_ret
      exact ⟨z, rfl, HF.out, HD3.out, HG3.out⟩

theorem res_cells {w w' : World} {x b : Nat} {z0 z1 z2 : Value} {t : TypeId} (hh : w.heap[x]? = some (.cells #[z0, z1, z2] t (0, 0))) (hx : x < w.heap.size) (hne : x ≠ b) (hg : w.grownBy w' (some b)) :
    w'.heap[x]? = some (.cells #[z0, z1, z2] t (0, 0)) ∧ (w'.cell? ⟨x, 0, none⟩ = some z0 ∧ w'.cell? ⟨x, 1, none⟩ = some z1 ∧ w'.cell? ⟨x, 2, none⟩ = some z2) ∧ w'.frozen? ⟨x, 0, none⟩ = false ∧ w'.frozen? ⟨x, 1, none⟩ = false ∧ w'.frozen? ⟨x, 2, none⟩ = false := by
  have h := (hg.block x hx (by simpa using hne)).trans hh
  exact ⟨h, ⟨(cells_of_heap h 0 (by simp)).1, (cells_of_heap h 1 (by simp)).1, (cells_of_heap h 2 (by simp)).1⟩, (cells_of_heap h 0 (by simp)).2, (cells_of_heap h 1 (by simp)).2, (cells_of_heap h 2 (by simp)).2⟩

set_option maxHeartbeats 1000000 in
theorem MakeMatrix_draw (v : Value) (zs : List Int) (w : World) (hl : zs.length ≤ 1099511627776) (hz : ∀ z ∈ zs, 0 ≤ z ∧ z < 256) (h : Rd w v (zs.map (.int .u8))) :
    Calls Try.prog 5 #[v] w fun e w' => ∃ (r c a d : Nat) (D : Bool), e = .returned (.tuple #[mx r c D, .int .i64 a, .int .i64 ((a ||| d : Nat) : Int)]) ∧ 1 ≤ r ∧ r ≤ 4 ∧ 1 ≤ c ∧ c ≤ 6 ∧ a < 2 ^ (r * c) ∧ d < 2 ^ (r * c) ∧ Below w.heap.size w w' := by
  obtain ⟨W, hW⟩ : ∃ W, W = w.alloc (.cells #[.int .i64 0, .int .i64 0, .bool false] 25) := ⟨_, rfl⟩
  have HW := Lib.hid hW
  have HR := Lib.hid (show Rd W v (zs.map (.int .u8)) by rw [hW]; exact h.below ((Below.refl _ _).alloc (Nat.le_refl _) _))
  have HB0 := Lib.hid (show Below w.heap.size w W by rw [hW]; exact (Below.refl _ _).alloc (Nat.le_refl _) _)
  have HH := Lib.hid (show W.heap[w.heap.size]? = some (.cells #[.int .i64 0, .int .i64 0, .bool false] 25 (0, 0)) by rw [hW]; exact heap_alloc_new w _)
  have HSZ := Lib.hid (show W.heap.size = w.heap.size + 1 by rw [hW]; simp)
  have HZ := Lib.hid hz
  clear hW h hz
  go_enter Try.func5, Try.ntmps5
  go_wp2_with fail
  rw [← HW.out]
  refine (l24New_draw v zs 1 W hl HZ.out HR.out).mono ?_
  rintro e w1 ⟨rfl, hd, hb, hlt⟩
  have HD1 := Lib.hid hd
  have HB1 := Lib.hid (HB0.out.trans (hb.mono HB0.out.size))
  have HC1 := Lib.hid (hb.block w.heap.size (by rw [HSZ.out]; omega))
  clear hd hb
  go_wp2_with fail
  refine (l2Matrix_draw HD1.out).mono ?_
  rintro e w2 ⟨r, c, D, rfl, h1, h2, h3, h4, hd, hg⟩
  have HD2 := Lib.hid hd
  have HG2 := Lib.hid hg
  clear hd hg
  go_wp2_with fail
  obtain ⟨W2, hW2⟩ : ∃ W2, W2 = w2.alloc (.cells #[.int .i64 r, .int .i64 c, .bool D] 25) := ⟨_, rfl⟩
  have HD3 := Lib.hid (show Draws W.heap.size W.heap.size v zs.length zs W2 by rw [hW2]; exact HD2.out.alloc _)
  have HX3 := Lib.hid (show Boxed W2 w2.heap.size r c D by rw [hW2]; exact boxed_new _ _ _ _ _)
  have HS3 := Lib.hid (show w2.heap.size < W2.heap.size by rw [hW2]; simp)
  have HG3 := Lib.hid (show w1.grownBy W2 (some W.heap.size) by rw [hW2]; exact grown_trans HG2.out (grown_alloc _ _ _))
  have HN3 := Lib.hid (show w2.heap.size ≠ W.heap.size from fun e => by have := HD2.out.lt; omega)
  have HWW := Lib.hid hW2
  clear hW2
  rw [← HWW.out]
  refine (l2Pressed_draw r c D HD3.out h1 h2 h3 h4).mono ?_
  rintro e w4 ⟨a, rfl, ha, hd, hg⟩
  have HD4 := Lib.hid hd
  have HX4 := Lib.hid (HX3.out.grown HS3.out HN3.out hg)
  have HS4 := Lib.hid (grown_size hg HS3.out)
  have HG4 := Lib.hid (grown_trans HG3.out hg)
  have HA := Lib.hid ha
  have hne0 : w.heap.size ≠ W.heap.size := by rw [HSZ.out]; omega
  have hlt0 : w.heap.size < w1.heap.size := by have := HSZ.out; omega
  have hh4 : w4.heap[w.heap.size]? = some (.cells #[.int .i64 0, .int .i64 0, .bool false] 25 (0, 0)) := by
    rw [HG4.out.block _ hlt0 (by simpa using hne0), HC1.out]; exact HH.out
  have hlt4 : w.heap.size < w4.heap.size := Nat.lt_of_lt_of_le hlt0 HG4.out.size
  obtain ⟨c0, c1, c2⟩ := HX4.out
  have HH4 := Lib.hid hh4
  have HN0 := Lib.hid hne0
  have HL4 := Lib.hid hlt4
  have HL0 := Lib.hid hlt0
  clear hd hg ha hh4 hne0 hlt4 hlt0
  go_wp2
  go_region_with (go_at_call 12; refine (l2Pressed_draw (w := w4.drew) r c D (HD4.out.below ((Below.refl _ _).drew)) h1 h2 h3 h4).mono ?_; rintro e w5 ⟨d, rfl, hdd, hd, hg⟩; obtain ⟨hh5, ⟨p0, p1, p2⟩, q0, q1, q2⟩ := res_cells (w := w4.drew) HH4.out HL4.out HN0.out hg; obtain ⟨k0, k1, k2⟩ := Boxed.grown (w := w4.drew) HX4.out HS4.out HN3.out hg; have HH5 := Lib.hid hh5; have HG5 := Lib.hid hg; have HD5 := Lib.hid hd; have hor := or_nat a d (lt62 h2 h4 HA.out) (lt62 h2 h4 hdd); have HDD := Lib.hid hdd; clear hh5 hg hd hdd)
  all_goals
    go_wp2
    have k1 : (w5.setCell ⟨w.heap.size, 0, none⟩ (.int .i64 r)).heap[w.heap.size]? = some (.cells #[.int .i64 r, .int .i64 0, .bool false] 25 (0, 0)) := heap_setCell_same w5 _ 0 _ _ _ HH5.out
    have k2 : ((w5.setCell ⟨w.heap.size, 0, none⟩ (.int .i64 r)).setCell ⟨w.heap.size, 1, none⟩ (.int .i64 c)).heap[w.heap.size]? = some (.cells #[.int .i64 r, .int .i64 c, .bool false] 25 (0, 0)) := heap_setCell_same _ _ 1 _ _ _ k1
    have k3 : (((w5.setCell ⟨w.heap.size, 0, none⟩ (.int .i64 r)).setCell ⟨w.heap.size, 1, none⟩ (.int .i64 c)).setCell ⟨w.heap.size, 2, none⟩ (.bool D)).heap[w.heap.size]? = some (.cells #[.int .i64 r, .int .i64 c, .bool D] 25 (0, 0)) := heap_setCell_same _ _ 2 _ _ _ k2
    have hb5 : Below w.heap.size w w5 := by
      have hg := grown_trans (grown_trans HG4.out (grown_drewN _ 1 _)) HG5.out
      have h1 : Below w.heap.size w1 w5 := ⟨hg.os, hg.tape, hg.output, hg.size, fun j hj => hg.block j (Nat.lt_of_lt_of_le hj HB1.out.size) (by simp; have := HSZ.out; omega)⟩
      exact HB1.out.trans h1
    have hbf : Below w.heap.size w (((w5.setCell ⟨w.heap.size, 0, none⟩ (.int .i64 r)).setCell ⟨w.heap.size, 1, none⟩ (.int .i64 c)).setCell ⟨w.heap.size, 2, none⟩ (.bool D)) := ((hb5.setCell (Nat.le_refl _) _).setCell (Nat.le_refl _) _).setCell (Nat.le_refl _) _
    obtain ⟨wf, hwf⟩ : ∃ wf, wf = ((w5.setCell ⟨w.heap.size, 0, none⟩ (.int .i64 r)).setCell ⟨w.heap.size, 1, none⟩ (.int .i64 c)).setCell ⟨w.heap.size, 2, none⟩ (.bool D) := ⟨_, rfl⟩
    rw [← hwf] at k3 hbf ⊢
    have HDDo := HDD.out
    have HAo := HA.out
    clear hwf k1 k2 c0 c1 c2 hb5 HDD HA
    obtain ⟨c0, _⟩ := cells_of_heap k3 0 (by simp)
    obtain ⟨c1, _⟩ := cells_of_heap k3 1 (by simp)
    obtain ⟨c2, _⟩ := cells_of_heap k3 2 (by simp)
    refine bodyPost_ret (v := .tuple #[mx r c D, .int .i64 a, .int .i64 ((a ||| d : Nat) : Int)]) (by simp [results, Try.results5, go_sem, c0, c1, c2]) rfl ⟨r, c, a, d, D, rfl, h1, h2, h3, h4, HAo, HDDo, hbf⟩

end Go.Proofs.Ytoapbpkhnfbloaa
