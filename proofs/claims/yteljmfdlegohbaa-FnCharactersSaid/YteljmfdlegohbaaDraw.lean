/- DERIVED. The reference's cursor, from which the laws draw their arguments: what it holds, and that each draw keeps it and hands back a number in its range. · The reference's cursor behind other calls, and a cursor for a place: l24New, l1Once. · Picking one of a list of numbers by the reference's cursor: one of the list. · The laws' bound on a text's length, and the reference's number for a law: called with any text, a number below the given one. -/
import Derived.Test.YteljmfdlegohbaaCore
import Derived.Test.YteljmfdlegohbaaProg
import Derived.Deep.RegionHeld3
namespace Go.Proofs.Yteljmfdlegohbaa
open Go.RowKit

/-- The slice value 'v' reads as 'xs', in memory below block number B. -/
def RdLow (B : Nat) (w : World) (v : Value) (xs : List Value) : Prop :=
  ∃ a cap, v = .slice a xs.length cap ∧ (xs = [] ∨ ∃ b off, a = some ⟨b, off, none⟩ ∧ b < B ∧ ∀ j (h : j < xs.length), w.cell? ⟨b, off + j, none⟩ = some xs[j])
theorem RdLow.of {w : World} {v : Value} {xs : List Value} (h : Rd w v xs) : RdLow w.heap.size w v xs := h
theorem RdLow.below {B : Nat} {w w' : World} {v : Value} {xs : List Value} (h : RdLow B w v xs) (hb : Below B w w') : RdLow B w' v xs := by
  obtain ⟨a, cap, hv, h⟩ := h
  refine ⟨a, cap, hv, ?_⟩
  rcases h with h | ⟨b, off, ha, hlt, hc⟩
  · exact .inl h
  · exact .inr ⟨b, off, ha, hlt, fun j hj => (hb.cell (p := ⟨b, off + j, none⟩) hlt).trans (hc j hj)⟩

/-- Block b is a cursor over the slice value v of n elements. -/
def Cur (b : Nat) (v : Value) (n : Nat) (w : World) : Prop :=
  ∃ (i : Nat) (h : Int), i ≤ n ∧ w.heap[b]? = some (.cells #[v, .int .i64 i, .int .i64 h] 189 (0, 0))

theorem and255 (y : Int) : 0 ≤ bits .and .i64 y 255 ∧ bits .and .i64 y 255 ≤ 255 := by
  unfold bits
  have e : (BitVec.ofInt 64 255).toNat = 255 := by decide
  have hle : (BitVec.ofInt 64 y &&& BitVec.ofInt 64 255).toNat ≤ 255 := by
    rw [BitVec.toNat_and, e]; exact Nat.and_le_right
  show 0 ≤ IntKind.i64.wrap ((BitVec.ofInt 64 y &&& BitVec.ofInt 64 255).toNat : Int) ∧ IntKind.i64.wrap ((BitVec.ofInt 64 y &&& BitVec.ofInt 64 255).toNat : Int) ≤ 255
  generalize (BitVec.ofInt 64 y &&& BitVec.ofInt 64 255).toNat = m at hle
  rw [IntWalk.i64_in _ ⟨by omega, by omega⟩]
  omega

/-- A block of three cells behind a store into its last cell or its middle one. -/
theorem cur_set2 {w : World} {b : Nat} {v x y z : Value} {t : TypeId} (h : w.heap[b]? = some (.cells #[v, x, y] t (0, 0))) : (w.setCell ⟨b, 2, none⟩ z).heap[b]? = some (.cells #[v, x, z] t (0, 0)) := heap_setCell_same w b 2 _ t z h
theorem cur_set1 {w : World} {b : Nat} {v x y z : Value} {t : TypeId} (h : w.heap[b]? = some (.cells #[v, x, y] t (0, 0))) : (w.setCell ⟨b, 1, none⟩ z).heap[b]? = some (.cells #[v, z, y] t (0, 0)) := heap_setCell_same w b 1 _ t z h
theorem low_of_grown {B : Nat} {w w' : World} {b : Nat} (h : w.grownBy w' (some b)) (hB : B ≤ b) (hs : B ≤ w.heap.size) : Below B w w' :=
  ⟨h.os, h.tape, h.output, h.size, fun k hk => h.block k (by omega) (by simp; omega)⟩

set_option maxHeartbeats 1000000 in
theorem l1Byte_any (B b n cap : Nat) (a : Option Addr) (zs : List Int) (w : World) (hB : B ≤ b) (hn : n = zs.length) (hn' : n ≤ 1099511627776) (hz : ∀ z ∈ zs, 0 ≤ z ∧ z < 256) (hr : RdLow B w (.slice a n cap) (zs.map (.int .u8))) (hc : Cur b (.slice a n cap) n w) :
    Calls Try.prog 150 #[.pointer (some ⟨b, 0, none⟩)] w fun e w' => ∃ x : Int, e = .returned (.int .i64 x) ∧ 0 ≤ x ∧ x ≤ 255 ∧ Cur b (.slice a n cap) n w' ∧ w.grownBy w' (some b) := by
  obtain ⟨i, h, hi, hb⟩ := hc
  have c0 : w.cell? ⟨b, 0, none⟩ = some (.slice a n cap) := by simp [World.cell?, hb]
  have c1 : w.cell? ⟨b, 1, none⟩ = some (.int .i64 i) := by simp [World.cell?, hb]
  have c2 : w.cell? ⟨b, 2, none⟩ = some (.int .i64 h) := by simp [World.cell?, hb]
  have f1 : w.frozen? ⟨b, 1, none⟩ = false := by simp [World.frozen?, hb]
  have f2 : w.frozen? ⟨b, 2, none⟩ = false := by simp [World.frozen?, hb]
  have HZ := Lib.hid hz
  have HR := Lib.hid hr
  have HN := Lib.hid hn
  have HH := Lib.hid hb
  clear hz hr hn hb
  obtain ⟨q, hq⟩ : ∃ q, q = wrap64 (wrap64 (h * 6364136223846793005) + 1442695040888963407) := ⟨_, rfl⟩
  have HQ := Lib.hid hq
  clear hq
  go_enter Try.func150, Try.ntmps150
  go_wp2
  rw [← HQ.out]
  obtain ⟨w1, hw1⟩ : ∃ w1, w1 = w.setCell ⟨b, 2, none⟩ (.int .i64 q) := ⟨_, rfl⟩
  rw [← hw1]
  have hb1 : w1.heap[b]? = some (.cells #[.slice a n cap, .int .i64 i, .int .i64 q] 189 (0, 0)) := by rw [hw1]; exact cur_set2 HH.out
  have hg1 : w.grownBy w1 (some b) := by rw [hw1]; exact grown_set _ _ _ _
  have d0 : w1.cell? ⟨b, 0, none⟩ = some (.slice a n cap) := by simp [World.cell?, hb1]
  have d1 : w1.cell? ⟨b, 1, none⟩ = some (.int .i64 i) := by simp [World.cell?, hb1]
  have d2 : w1.cell? ⟨b, 2, none⟩ = some (.int .i64 q) := by simp [World.cell?, hb1]
  have e1 : w1.frozen? ⟨b, 1, none⟩ = false := by simp [World.frozen?, hb1]
  have HB1 := Lib.hid hb1
  have HG1 := Lib.hid hg1
  have HW1 := Lib.hid hw1
  clear hb1 hg1 hw1 c0 c1 c2 f1 f2
  go_quiet (fail)
  obtain ⟨x0, hx0⟩ : ∃ x0, x0 = bits .and .i64 (bits .xor .i64 (q / 8589934592) (q / 35184372088832)) 255 := ⟨_, rfl⟩
  have hx1 := and255 (bits .xor .i64 (q / 8589934592) (q / 35184372088832))
  rw [← hx0] at hx1
  obtain ⟨y0, y1⟩ := hx1
  rw [← hx0]
  clear hx0
  by_cases hin : i < n
  · have hin' : (i : Int) < (n : Int) := by omega
    have hi0 : (0 : Int) ≤ (i : Int) := by omega
    obtain ⟨a', cap', hv, hrow⟩ := HR.out
    have hlz : (zs.map (Value.int .u8)).length = n := by rw [List.length_map]; exact HN.out.symm
    rcases hrow with hnil | ⟨bb, off, ha, hbb, hcell⟩
    · rw [hnil] at hlz; simp at hlz; omega
    · simp only [Value.slice.injEq] at hv
      obtain ⟨rfl, -, rfl⟩ := hv
      subst ha
      obtain ⟨z, hz⟩ : ∃ z, z = zs.getD i 0 := ⟨_, rfl⟩
      have d3 : w1.cell? ⟨bb, off + i, none⟩ = some (.int .u8 z) := by
        have h1 := hcell i (by rw [hlz]; exact hin)
        rw [getD_map_int, ← hz] at h1
        rw [← h1]
        exact World.cell?_of_block (w := w) (HG1.out.block bb (by have := (Array.getElem?_eq_some_iff.mp HH.out).1; omega) (by simp; omega))
      obtain ⟨z0, z1⟩ : 0 ≤ z ∧ z < 256 := HZ.out z (by rw [hz]; have := HN.out; simp [List.getElem?_eq_getElem (show i < zs.length by omega)])
      have t1 : IntKind.i64.wrap z = z := IntWalk.i64_in _ ⟨by omega, by omega⟩
      have t2 : IntKind.i64.wrap (x0 + z) = x0 + z := IntWalk.i64_in _ ⟨by omega, by omega⟩
      have HZZ := Lib.hid hz
      have HC := Lib.hid hcell
      have HL := Lib.hid hlz
      clear hz hcell hlz
      go_wp2
      go_quiet (fail)
      go_wp2
      go_quiet (fail)
      have hx2 := and255 (x0 + z)
      obtain ⟨x2, hx3⟩ : ∃ x2, x2 = bits .and .i64 (x0 + z) 255 := ⟨_, rfl⟩
      rw [← hx3] at hx2
      rw [← hx3]
      obtain ⟨y2, y3⟩ := hx2
      clear hx3 t1 t2
      go_wp2
      go_ret
      refine ⟨x2, rfl, y2, y3, ⟨i + 1, q, by omega, ?_⟩, ?_⟩
      · have := cur_set1 (z := .int .i64 (i + 1 : Nat)) HB1.out
        exact this
      · exact grown_trans HG1.out (grown_trans (grown_drewN _ _ _) (grown_set _ b 1 _))
  · have hin' : ¬ (i : Int) < (n : Int) := by omega
    go_wp2
    go_quiet (fail)
    go_wp2
    go_ret
    exact ⟨x0, rfl, y0, y1, ⟨i, q, hi, HB1.out⟩, grown_trans HG1.out (grown_trans (grown_drewN _ _ _) (grown_drewN _ _ _))⟩
/-- What each draw of the cursor needs, and keeps. -/
structure Draws (B b : Nat) (v : Value) (n : Nat) (zs : List Int) (w : World) : Prop where
  low : B ≤ b
  len : n = zs.length
  small : n ≤ 1099511627776
  bytes : ∀ z ∈ zs, 0 ≤ z ∧ z < 256
  shape : ∃ a cap, v = .slice a n cap
  read : RdLow B w v (zs.map (.int .u8))
  cur : Cur b v n w
theorem Draws.lt {B b n : Nat} {v : Value} {zs : List Int} {w : World} (h : Draws B b v n zs w) : b < w.heap.size := by
  obtain ⟨i, q, _, hb⟩ := h.cur
  exact (Array.getElem?_eq_some_iff.mp hb).1
theorem Draws.keep {B b n : Nat} {v : Value} {zs : List Int} {w w' : World} (h : Draws B b v n zs w) (hc : Cur b v n w') (hg : w.grownBy w' (some b)) : Draws B b v n zs w' :=
  { low := h.low, len := h.len, small := h.small, bytes := h.bytes, shape := h.shape, cur := hc, read := h.read.below (low_of_grown hg h.low (Nat.le_trans h.low (Nat.le_of_lt h.lt))) }
/-- A cursor stays one in a world in which its block and what lies below B are as they were. -/
theorem Draws.stay {B b n : Nat} {v : Value} {zs : List Int} {w w' : World} (h : Draws B b v n zs w) (hb : w'.heap[b]? = w.heap[b]?) (hl : Below B w w') : Draws B b v n zs w' := by
  obtain ⟨i, q, hi, hq⟩ := h.cur
  exact { low := h.low, len := h.len, small := h.small, bytes := h.bytes, shape := h.shape, cur := ⟨i, q, hi, by rw [hb]; exact hq⟩, read := h.read.below hl }

theorem l1Byte_draw {B b n : Nat} {v : Value} {zs : List Int} {w : World} (h : Draws B b v n zs w) :
    Calls Try.prog 150 #[.pointer (some ⟨b, 0, none⟩)] w fun e w' => ∃ x : Int, e = .returned (.int .i64 x) ∧ 0 ≤ x ∧ x ≤ 255 ∧ Draws B b v n zs w' ∧ w.grownBy w' (some b) := by
  obtain ⟨a, cap, rfl⟩ := h.shape
  refine (l1Byte_any B b n cap a zs w h.low h.len h.small h.bytes h.read h.cur).mono ?_
  rintro e w' ⟨x, rfl, x0, x1, hc, hg⟩
  exact ⟨x, rfl, x0, x1, h.keep hc hg, hg⟩

set_option maxHeartbeats 1000000 in
theorem l1Below_draw {B b n : Nat} {v : Value} {zs : List Int} {w : World} (m : Int) (h : Draws B b v n zs w) (hm : 0 < m) (hm' : m ≤ 4294967296) :
    Calls Try.prog 87 #[.pointer (some ⟨b, 0, none⟩), .int .i64 m] w fun e w' => ∃ x : Int, e = .returned (.int .i64 x) ∧ 0 ≤ x ∧ x < m ∧ Draws B b v n zs w' ∧ w.grownBy w' (some b) := by
  have HD := Lib.hid h
  clear h
  by_cases hs : m ≤ 256
  · go_enter Try.func87, Try.ntmps87
    go_wp2_with fail
    refine (l1Byte_draw HD.out).mono ?_
    rintro e w' ⟨x, rfl, x0, x1, hd, hg⟩
    have H1 := Lib.hid hd
    have G1 := Lib.hid hg
    clear hd hg
    go_wp2
    go_ret
    exact ⟨_, rfl, Int.emod_nonneg _ (by omega), Int.emod_lt_of_pos _ hm, H1.out, G1.out⟩
  · go_enter Try.func87, Try.ntmps87
    go_wp2_with fail
    refine (l1Byte_draw HD.out).mono ?_
    rintro e w1 ⟨x, rfl, x0, x1, hd, hg⟩
    have H1 := Lib.hid hd
    have G1 := Lib.hid hg
    clear hd hg
    go_wp2_with fail
    refine (l1Byte_draw H1.out).mono ?_
    rintro e w2 ⟨y, rfl, y0, y1, hd, hg⟩
    have H2 := Lib.hid hd
    have G2 := Lib.hid (grown_trans G1.out hg)
    clear hd hg
    go_wp2_with fail
    refine (l1Byte_draw H2.out).mono ?_
    rintro e w3 ⟨z, rfl, z0, z1, hd, hg⟩
    have H3 := Lib.hid hd
    have G3 := Lib.hid (grown_trans G2.out hg)
    clear hd hg
    go_wp2_with fail
    refine (l1Byte_draw H3.out).mono ?_
    rintro e w4 ⟨t, rfl, t0, t1, hd, hg⟩
    have H4 := Lib.hid hd
    have G4 := Lib.hid (grown_trans G3.out hg)
    clear hd hg
    go_wp2
    go_ret
    exact ⟨_, rfl, Int.emod_nonneg _ (by omega), Int.emod_lt_of_pos _ hm, H4.out, G4.out⟩
set_option maxHeartbeats 1000000 in
set_option maxRecDepth 100000 in
/-- A new cursor. -/
theorem l1New_draw (v : Value) (zs : List Int) (w : World) (hl : zs.length ≤ 1099511627776) (hz : ∀ z ∈ zs, 0 ≤ z ∧ z < 256) (h : Rd w v (zs.map (.int .u8))) :
    Calls Try.prog 148 #[v] w fun e w' => e = .returned (.pointer (some ⟨w.heap.size, 0, none⟩)) ∧ Draws w.heap.size w.heap.size v zs.length zs w' ∧ Below w.heap.size w w' ∧ w.heap.size < w'.heap.size := by
  have hend : ∀ (q : Int), ∀ a cap, v = .slice a zs.length cap → Draws w.heap.size w.heap.size v zs.length zs (w.alloc (.cells #[v, .int .i64 0, .int .i64 q] 189)) := fun q a cap hv =>
    { low := Nat.le_refl _, len := rfl, small := hl, bytes := hz, shape := ⟨a, cap, hv⟩, read := (RdLow.of h).below ((Below.refl _ _).alloc (Nat.le_refl _) _), cur := ⟨0, q, Nat.zero_le _, heap_alloc_new w _⟩ }
  have HE := Lib.hid hend
  clear hend
  rcases h.cases with ⟨hx, a, cap, rfl⟩ | ⟨hx, b, off, cap, rfl, hlt, hc⟩
  · have hx' : zs = [] := by simpa using hx
    subst hx'
    clear h hx hz
    go_enter Try.func148, Try.ntmps148
    go_wp2
    refine wp_loop_rounds 1 ?_
    rw [rounds_succ]
    go_wp2
    go_ret
    exact ⟨rfl, HE.out _ a cap rfl, (Below.refl _ _).alloc (Nat.le_refl _) _, by simp⟩
  · have hn : (zs.map (Value.int .u8)).length = zs.length := by simp
    rw [hn] at HE ⊢
    have hc' : ∀ j, j < zs.length → w.cell? ⟨b, off + j, none⟩ = some (.int .u8 (zs.getD j 0)) := fun j hj => by
      rw [hc j (by simpa using hj), getD_map_int]
    have HZ := Lib.hid hz
    have HC := Lib.hid hc'
    clear hc h hx hn hz hc'
    go_enter Try.func148, Try.ntmps148
    go_wp2
    go_loop [3, 4] (fun q i => ∃ (k : Nat) (h : Int), k ≤ zs.length ∧ i = .int .i64 k ∧ q = .int .i64 h) (fun _ i => zs.length - (intOf i).toNat)
    case atStart => exact ⟨0, _, Nat.zero_le _, rfl, rfl⟩
    case round =>
      obtain ⟨k, h, hk, rfl, rfl⟩ := hrel
      by_cases hlt' : k < zs.length
      · by_cases hbig : k < 4000
        · have hcell := HC.out k hlt'
          obtain ⟨x, hxd⟩ : ∃ x, x = zs.getD k 0 := ⟨_, rfl⟩
          obtain ⟨x0, x1⟩ : 0 ≤ x ∧ x < 256 := HZ.out x (by rw [hxd]; simp [List.getElem?_eq_getElem hlt'])
          rw [← hxd] at hcell
          clear hxd
          go_wp2
          go_round
          case rel => exact ⟨k + 1, _, by omega, by go_num, rfl⟩
          case measure => simp [intOf]; omega
        · have hbig' : ¬ (k : Int) < 4000 := by omega
          go_wp2
          go_ret
          exact ⟨rfl, HE.out _ _ cap rfl, (Below.refl _ _).alloc (Nat.le_refl _) _, by simp⟩
      · obtain rfl : k = zs.length := by omega
        go_wp2
        go_ret
        exact ⟨rfl, HE.out _ _ cap rfl, (Below.refl _ _).alloc (Nat.le_refl _) _, by simp⟩
end Go.Proofs.Yteljmfdlegohbaa

namespace Go.Proofs.Yteljmfdlegohbaa
open Go.RowKit

theorem grown_alloc (w : World) (o : Obj) (r : Option Nat) : w.grownBy (w.alloc o) r :=
  let h : Below w.heap.size w (w.alloc o) := (Below.refl _ _).alloc (Nat.le_refl _) _
  ⟨h.os, h.tape, h.output, h.size, fun k hk _ => h.block k hk⟩
theorem grown_of_below {w w' : World} (h : Below w.heap.size w w') (r : Option Nat) : w.grownBy w' r := ⟨h.os, h.tape, h.output, h.size, fun k hk _ => h.block k hk⟩
theorem grown_new {w0 w : World} {r : Option Nat} (h : w0.grownBy w r) (b o : Nat) (z : Value) (hb : w0.heap.size ≤ b) : w0.grownBy (w.setCell ⟨b, o, none⟩ z) r :=
  ⟨h.os, h.tape, h.output, by simpa using h.size, fun k hk hr => (Below.heap_setCell w ⟨b, o, none⟩ z k (fun e => by simp at e; omega)).trans (h.block k hk hr)⟩
theorem Draws.below {B b n : Nat} {v : Value} {zs : List Int} {w w' : World} (h : Draws B b v n zs w) (hb : Below w.heap.size w w') : Draws B b v n zs w' :=
  h.stay (hb.block b h.lt) (hb.mono (Nat.le_trans h.low (Nat.le_of_lt h.lt)))
theorem Draws.alloc {B b n : Nat} {v : Value} {zs : List Int} {w : World} (h : Draws B b v n zs w) (o : Obj) : Draws B b v n zs (w.alloc o) :=
  h.below ((Below.refl _ _).alloc (Nat.le_refl _) _)
theorem Draws.drewN {B b n : Nat} {v : Value} {zs : List Int} {w : World} (h : Draws B b v n zs w) (k : Nat) : Draws B b v n zs (w.drewN k) :=
  h.below (below_drewN (Below.refl _ _) k)
theorem Draws.setCell {B b n : Nat} {v : Value} {zs : List Int} {w : World} (h : Draws B b v n zs w) (x o : Nat) (z : Value) (hx : x ≠ b) (hB : B ≤ x) : Draws B b v n zs (w.setCell ⟨x, o, none⟩ z) :=
  h.stay (Below.heap_setCell w ⟨x, o, none⟩ z b (fun e => hx (by simpa using e.symm))) ((Below.refl B w).setCell hB z)
set_option maxHeartbeats 1000000 in
theorem l24New_draw (v : Value) (zs : List Int) (k : Int) (w : World) (hl : zs.length ≤ 1099511627776) (hz : ∀ z ∈ zs, 0 ≤ z ∧ z < 256) (h : Rd w v (zs.map (.int .u8))) :
    Calls Try.prog 83 #[v, .int .i64 k] w fun e w' => e = .returned (.pointer (some ⟨w.heap.size, 0, none⟩)) ∧ Draws w.heap.size w.heap.size v zs.length zs w' ∧ Below w.heap.size w w' ∧ w.heap.size < w'.heap.size := by
  have HZ := Lib.hid hz
  have HR := Lib.hid h
  clear hz h
  go_enter Try.func83, Try.ntmps83
  go_wp2_with fail
  refine (l1New_draw v zs _ hl HZ.out HR.out).mono ?_
  rintro e w1 ⟨rfl, hd, hb, hlt⟩
  obtain ⟨i, q, hi, hh⟩ := hd.cur
  obtain ⟨c2, f2⟩ := cells_of_heap hh 2 (by simp)
  have HD := Lib.hid hd
  have HB := Lib.hid hb
  have HH := Lib.hid hh
  clear hd hb hh
  go_wp2
  go_ret
  refine ⟨rfl, HD.out.keep ⟨i, _, hi, cur_set2 HH.out⟩ (grown_set _ _ _ _), HB.out.setCell (Nat.le_refl _) _, by simpa using hlt⟩

theorem grown_size {w w' : World} {r : Option Nat} {x : Nat} (h : w.grownBy w' r) (hx : x < w.heap.size) : x < w'.heap.size := Nat.lt_of_lt_of_le hx h.size
theorem grown_high {w0 w w' : World} {r r' : Option Nat} (h : w0.grownBy w r) (hg : w.grownBy w' r') (hr : ∀ q, r' = some q → w0.heap.size ≤ q) : w0.grownBy w' r :=
  ⟨hg.os.trans h.os, hg.tape.trans h.tape, hg.output.trans h.output, Nat.le_trans h.size hg.size, fun k hk hn => (hg.block k (Nat.lt_of_lt_of_le hk h.size) (fun e => by have := hr k e.symm; omega)).trans (h.block k hk hn)⟩
theorem Draws.high {B b n : Nat} {v : Value} {zs : List Int} {w w' : World} {r : Option Nat} {H : Nat} (h : Draws B b v n zs w) (hg : w.grownBy w' r) (hr : ∀ q, r = some q → H ≤ q) (hb : b < H) : Draws B b v n zs w' :=
  h.stay (hg.block b h.lt (fun e => by have := hr b e.symm; omega)) ⟨hg.os, hg.tape, hg.output, hg.size, fun k hk => hg.block k (Nat.lt_trans (Nat.lt_of_lt_of_le hk h.low) h.lt) (fun e => by have := hr k e.symm; have := h.low; omega)⟩
end Go.Proofs.Yteljmfdlegohbaa

namespace Go.Proofs.Yteljmfdlegohbaa
open Go.RowKit

set_option maxHeartbeats 1000000 in
theorem l1PickInt_draw {B b n : Nat} {v : Value} {zs : List Int} {w : World} (g : Nat) (ss : List Int) (h : Draws B b v n zs w) (hpos : 0 < ss.length) (hsm : ss.length ≤ 256) (hgb : g ≠ b)
    (hcell : ∀ j, j < ss.length → w.cell? ⟨g, j, none⟩ = some (.int .i64 (ss.getD j 0))) :
    Calls Try.prog 160 #[.pointer (some ⟨b, 0, none⟩), .slice (some ⟨g, 0, none⟩) ss.length ss.length] w fun e w' => ∃ s, e = .returned (.int .i64 s) ∧ s ∈ ss ∧ Draws B b v n zs w' ∧ w.grownBy w' (some b) := by
  have HD := Lib.hid h
  have HC := Lib.hid hcell
  have hg0 := World.block_lt_of_cell? w _ (hcell 0 hpos)
  clear h hcell
  go_enter Try.func160, Try.ntmps160
  go_wp2_with fail
  refine (l1Below_draw _ HD.out (by omega) (by omega)).mono ?_
  rintro e w1 ⟨x, rfl, x0, x1, hd, hg⟩
  obtain ⟨i, rfl⟩ := Int.eq_ofNat_of_zero_le x0
  have hi : i < ss.length := by omega
  obtain ⟨s, hs⟩ : ∃ s, s = ss.getD i 0 := ⟨_, rfl⟩
  have hc1 : w1.cell? ⟨g, i, none⟩ = some (.int .i64 s) := by
    rw [World.cell?_of_block (w := w) (hg.block g hg0 (by simpa using hgb)), HC.out i hi, hs]
  have hmem : s ∈ ss := by rw [hs]; simp [List.getElem?_eq_getElem hi]
  have H1 := Lib.hid hd
  have G1 := Lib.hid hg
  have HS := Lib.hid hs
  have HM := Lib.hid hmem
  clear hd hg hs hmem
  go_wp2
  go_ret
  exact ⟨s, rfl, HM.out, H1.out, G1.out⟩
end Go.Proofs.Yteljmfdlegohbaa

namespace Go.Proofs.Yteljmfdlegohbaa
open Go.RowKit

theorem big_any (a : Option Addr) (n cap : Nat) (w : World) : Calls Try.prog 18 #[.slice a n cap] w fun e w' => e = .returned (.bool (decide ((1048576 : Int) < n))) ∧ w = w' := by
  go_enter Try.func18, Try.ntmps18
  go_wp2
  go_ret
  exact ⟨rfl, rfl⟩

theorem wf_byte {n : Int} (h : (Lit.int .u8 n).wf = true) : 0 ≤ n ∧ n < 256 := by
  simp [Lit.wf, IntKind.min, IntKind.max, IntKind.signed, IntKind.bits] at h
  omega

theorem MakeNumber_draw (v : Value) (zs : List Int) (k m : Int) (w : World) (hl : zs.length ≤ 1099511627776) (hz : ∀ z ∈ zs, 0 ≤ z ∧ z < 256) (h : Rd w v (zs.map (.int .u8))) (hm : 0 < m) (hm' : m ≤ 4294967296) :
    Calls Try.prog 22 #[v, .int .i64 k, .int .i64 m] w fun e w' => ∃ x : Int, e = .returned (.int .i64 x) ∧ 0 ≤ x ∧ x < m ∧ Below w.heap.size w w' := by
  have HZ := Lib.hid hz
  have HR := Lib.hid h
  clear hz h
  go_enter Try.func22, Try.ntmps22
  go_wp2_with fail
  refine (l24New_draw v zs k _ hl HZ.out HR.out).mono ?_
  rintro e w1 ⟨rfl, hd, hb, hlt⟩
  have HB := Lib.hid hb
  have HD := Lib.hid hd
  clear hd hb
  go_wp2_with fail
  refine (l1Below_draw m HD.out hm hm').mono ?_
  rintro e w2 ⟨x, rfl, x0, x1, hd, hg⟩
  have HB2 := Lib.hid (HB.out.grown hg HB.out.size (fun q hq => by cases hq; exact Nat.le_refl _))
  clear hd hg
  go_wp2
  go_ret
  exact ⟨x, rfl, x0, x1, HB2.out⟩
/-- A box that the walk made stays as it is where only the cursor's block turns. -/
theorem blk_grown {w w' : World} {x b : Nat} {o : Obj} (h : w.heap[x]? = some o) (hg : w.grownBy w' (some b)) (hx : x ≠ b) : w'.heap[x]? = some o :=
  (hg.block x (Array.getElem?_eq_some_iff.mp h).1 (by simpa using hx)).trans h
theorem blk_alloc {w : World} {x : Nat} {o o' : Obj} (h : w.heap[x]? = some o) : (w.alloc o').heap[x]? = some o :=
  (((Below.refl _ _).alloc (Nat.le_refl _) o').block x (Array.getElem?_eq_some_iff.mp h).1).trans h

theorem grown_al {w0 w : World} {r : Option Nat} {o : Obj} (h : w0.grownBy w r) : w0.grownBy (w.alloc o) r := grown_high h (grown_alloc w o none) (fun q e => by cases e)
theorem grown_dr {w0 w : World} {r : Option Nat} (h : w0.grownBy w r) : w0.grownBy w.drew r := grown_high h (grown_drewN w 1 none) (fun q e => by cases e)
theorem Draws.dr {B b n : Nat} {v : Value} {zs : List Int} {w : World} (h : Draws B b v n zs w) : Draws B b v n zs w.drew := h.below ((Below.refl _ _).drew)

end Go.Proofs.Yteljmfdlegohbaa
