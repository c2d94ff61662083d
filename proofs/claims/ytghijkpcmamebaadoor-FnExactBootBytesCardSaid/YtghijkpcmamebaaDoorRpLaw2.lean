/- DERIVED. The exact laws of chapter 7 on bytes: BootBytes, BitBytes, ReadBits: each, called with any argument, returns true and changes nothing that was there; what the program's function does is a premise. · The reference's ReadBoot: the report whose boot bytes are bytes. · The exact laws of chapter 7 that only read held keys: each, called with any held keys, returns true and changes nothing that was there; what the program's function does is a premise. · The exact laws of ReportOf and ReadBoot: each, called with any argument, returns true and changes nothing that was there; what the program's function does is a premise. -/
import Derived.Test.YtghijkpcmamebaaDoorRpSpec5
import Derived.Test.YtghijkpcmamebaaDoorLawBits
import Derived.Deep.RegionHeld3
import Derived.Deep.DeepCutAuto
import Derived.Deep.RegionLaw
import Derived.BigRegion
import Derived.Test.YtghijkpcmamebaaDoorHdSpec
import Derived.Test.YtghijkpcmamebaaDoorOwnBase
namespace Go.Proofs.YtghijkpcmamebaaDoor
open Go.RowKit

/-- A slice is no longer than its room. -/
def CapOk (v : Value) : Prop := ∀ a n c, v = .slice a n c → n ≤ c
theorem capOk_of {w : World} {B : Nat} {T : TypeId} {a : Option Addr} {n m c : Nat} {xs : List Value} {fp : List Nat} (h : OwF w B T 1 (.slice a n c) m xs fp) : CapOk (.slice a n c) := fun a' n' c' e => by
  obtain ⟨rfl, rfl, rfl⟩ := by simpa using e
  rcases h.1.2 with ⟨h1, h2⟩ | ⟨g, cap, cur, h1, _, _, h2, _⟩
  · obtain ⟨_, rfl, rfl⟩ := by simpa using h1
    exact Nat.le_refl _
  · obtain ⟨_, rfl, rfl⟩ := by simpa using h1
    exact h2
/-- What a function returns that reads a report: with the footprint of its codes. -/
def RpTO (x : Rpr) (w : World) (e : Ending) (w' : World) : Prop := ∃ a c fp, e = .returned (.tuple #[rpv x.r (.slice a x.z.length c), .bool x.b]) ∧ OwC w' w.heap.size (.row [.int .i64]) (.slice a x.z.length c) (.row (ones x.z)) fp ∧ Below w.heap.size w w'
theorem rpTO {x : Rpr} {w w' : World} {e : Ending} (h : RpTB x w e w') (hl : x.z.length ≤ 1048576) : RpTO x w e w' := by
  obtain ⟨u, he, ho, hb⟩ := h
  obtain ⟨a, c, fp, rfl, h⟩ := owC_len ho hl
  exact ⟨a, c, fp, he, h, hb⟩
theorem bbV_le (r : Int) (zs : List Int) : (bbV r zs).length ≤ 8 := by
  rw [bbV]; split
  · simp
  · simp
theorem biV_le (r : Int) (zs : List Int) : (biV r zs).length ≤ 8 := by
  rw [biV]; split
  · rw [biN_len]; omega
  · simp
theorem rdV_len (bs : List Int) : (rdV bs).z.length ≤ 56 := by
  rw [rdV]; split
  · exact bitK_len bs 56
  · simp
theorem specBootBytes_law (r : Int) (u : Value) (zs zr : List Int) (hz : zr = bbV r zs) (w : World) (hl : zs.length ≤ maxLen) (h : Rd w u (zs.map (.int .i64))) : Calls Tryd.prog 24 #[rpv r u] w (ByOut zr w) := by
  rw [hz]; exact (specBootBytes_any r u zs w hl h).mono fun _ _ hp => byOut hp
theorem markReport_q (B : Nat) (r : Int) (u : Value) (zs : List Int) (fp : List Nat) (q q2 : Int) (hq : q2 = q + (zs.length : Int)) (w : World) (hn : zs.length ≤ 1099511627776) (hk : 0 ≤ q) (hk' : q ≤ 1099511627776) (h : OwC w B (.row [.int .i64]) u (.row (ones zs)) fp) :
    Calls Tryd.prog 22 #[rpv r u, .int .i64 q] w fun e w' => e = .returned (.int .i64 q2) ∧ OwC w' B (.row [.int .i64]) u (.row (ones (marksZ q zs.length))) fp ∧ Turn w w' fp := by
  rw [hq]; exact markReport_own B r u zs fp q w hn hk hk' h
theorem heldReport_q (r : Int) (u : Value) (m : Nat) (q q2 : Int) (hq : q2 = q + (m : Int)) (w : World) (hn : m ≤ 1048576) (hk : 0 ≤ q) (hk' : q ≤ 1099511627776) (h : Rd w u (marks64 q m)) :
    Calls Tryd.prog 23 #[rpv r u, .int .i64 q] w fun e w' => e = .returned (.int .i64 q2) ∧ Below w.heap.size w w' := by
  rw [hq]; exact heldReport_any r u m q w hn hk hk' h

set_option maxHeartbeats 1000000 in
set_option maxRecDepth 100000 in
theorem lawBootBytes_walk (r : Int) (a : Option Addr) (m cap : Nat) (zs : List Int) (w : World) (hm : zs.length = m) (hml : m ≤ maxLen) (h : Rd w (.slice a m cap) (zs.map (.int .i64))) (hI : ∀ (r : Int) (u : Value) (zs : List Int) (w' : World), Below w.heap.size w w' → zs.length ≤ maxLen → Rd w' u (zs.map (.int .i64)) → Calls Tryd.prog 15 #[rpv r u] w' (ByOut (bbV r zs) w')) : Calls Tryd.prog 6 #[rpv r (.slice a m cap)] w fun e w' => e = .returned (.bool true) ∧ Below w.heap.size w w' := by
  subst hm
  have HR := Lib.hid h
  have hI := hI r
  have HML := Lib.hid hml
  obtain ⟨zr, hz⟩ : ∃ x, x = bbV r zs := ⟨_, rfl⟩
  have hz3 := bbV_le r zs
  rw [← hz] at hz3
  have HI := Lib.hid (show ∀ (u : Value) (w' : World), Below w.heap.size w w' → zs.length ≤ maxLen → Rd w' u (zs.map (.int .i64)) → Calls Tryd.prog 15 #[rpv r u] w' (ByOut zr w') from fun u w' hb hl hr => by rw [hz]; exact hI u zs w' hb hl hr)
  have HZR := Lib.hid hz
  have HZ1 := Lib.hid (show zr.length ≤ 1048576 by omega)
  have HZ2 := Lib.hid (show zr.length ≤ 1000000000000 by omega)
  clear h hI hz hz3 hml
  obtain ⟨qr, hqr⟩ : ∃ q : Int, q = 1 + (zr.length : Int) := ⟨_, rfl⟩
  have hqr0 : ¬ qr < 0 := by omega
  have HQR := Lib.hid hqr
  clear hqr
  obtain ⟨qx, hqx⟩ : ∃ q : Int, q = 1 + (zs.length : Int) := ⟨_, rfl⟩
  have hqx0 : ¬ qx < 0 := by omega
  have HQX := Lib.hid hqx
  clear hqx
  by_cases hl : zs.length ≤ 1048576
  · have hsz : (if (1048576 : Int) < (zs.length : Int) then -1 else (1048576 : Int) - (zs.length : Int)) = 1048576 - (zs.length : Int) := if_neg (by omega)
    have hsz0 : ¬ (1048576 : Int) - (zs.length : Int) < 0 := by omega
    have HSZ := Lib.hid hsz
    have HL := Lib.hid hl
    clear hsz hl
    obtain ⟨w0, hw0⟩ : ∃ x, x = (w.alloc (.cells #[.int .i64 r, .slice a zs.length cap] 35)) := ⟨_, rfl⟩
    have HB0 := Lib.hid (show Below w.heap.size w w0 by rw [hw0]; exact (Below.refl _ _).alloc (Nat.le_refl _) _)
    have Kd_0 := Lib.hid (show w0.heap[w.heap.size]? = some (.cells #[.int .i64 r, .slice a zs.length cap] 35 (0, 0)) by rw [hw0]; exact heap_alloc_new w _)
    have SZ0 := Lib.hid (show w0.heap.size = w.heap.size + 1 by rw [hw0]; simp)
    have HW := Lib.hid hw0
    clear hw0
    go_enter Tryd.func6, Tryd.ntmps6
    have cd0 := (cells_of_heap Kd_0.out 0 (by simp)).1
    have cd1 := (cells_of_heap Kd_0.out 1 (by simp)).1
    go_wp2_with fail
    rw [← HW.out]
    refine (szReport_any r a zs.length cap 1048576 _ (by omega) (by omega) HML.out).mono ?_
    rw [HSZ.out]
    rintro e w1 ⟨rfl, hb⟩
    clear cd0 cd1
    have HB1 := Lib.hid (HB0.out.trans (hb.mono HB0.out.size))
    have HS1 := Lib.hid hb.size
    have Kd_1 := Lib.hid (blk_below Kd_0.out hb)
    clear Kd_0
    clear hb
    have cd0 := (cells_of_heap Kd_1.out 0 (by simp)).1
    have cd1 := (cells_of_heap Kd_1.out 1 (by simp)).1
    go_wp2_with fail
    refine (toReport_law r _ zs _ HL.out (HR.out.below HB1.out)).mono ?_
    rintro e w2 ⟨a1, c1, f1, rfl, h1, hb⟩
    clear cd0 cd1
    have HB2 := Lib.hid (HB1.out.trans (hb.mono HB1.out.size))
    have HS2 := Lib.hid hb.size
    have Kd_2 := Lib.hid (blk_below Kd_1.out hb)
    clear Kd_1
    have Rt := Lib.hid (h1.rng)
    have Ot_2 := Lib.hid h1
    clear hb h1
    go_wp2_with fail
    refine (specBootBytes_law r _ zs zr HZR.out _ (by have := HL.out; unfold maxLen; omega) (owC_rd Ot_2.out)).mono ?_
    rintro e w3 ⟨a4, c4, f4, rfl, h4, hb⟩
    have HB3 := Lib.hid (HB2.out.trans (hb.mono HB2.out.size))
    have HS3 := Lib.hid hb.size
    have Kd_3 := Lib.hid (blk_below Kd_2.out hb)
    have Ot_3 := Lib.hid (Ot_2.out.below hb)
    clear Kd_2 Ot_2
    have Rw := Lib.hid (h4.rng)
    have Ow_3 := Lib.hid h4
    clear hb h4
    have cd0 := (cells_of_heap Kd_3.out 0 (by simp)).1
    have cd1 := (cells_of_heap Kd_3.out 1 (by simp)).1
    go_wp2_with fail
    refine (toReport_law r _ zs _ HL.out (HR.out.below HB3.out)).mono ?_
    rintro e w4 ⟨a2, c2, f2, rfl, h2, hb⟩
    clear cd0 cd1
    have HB4 := Lib.hid (HB3.out.trans (hb.mono HB3.out.size))
    have HS4 := Lib.hid hb.size
    have Kd_4 := Lib.hid (blk_below Kd_3.out hb)
    have Ot_4 := Lib.hid (Ot_3.out.below hb)
    have Ow_4 := Lib.hid (Ow_3.out.below hb)
    clear Kd_3 Ot_3 Ow_3
    have Rx := Lib.hid (h2.rng)
    have Ox_4 := Lib.hid h2
    clear hb h2
    go_upto_region 7 with (fail)
    obtain ⟨w5, hw⟩ : ∃ x, x = w4.alloc (.cells #[.int .i64 r, .slice a2 zs.length c2] 26) := ⟨_, rfl⟩
    have hb : Below w4.heap.size w4 w5 := by rw [hw]; exact below_alloc1 _ _
    have hk : w5.heap[w4.heap.size]? = some (.cells #[.int .i64 r, .slice a2 zs.length c2] 26 (0, 0)) := by rw [hw]; exact heap_alloc_new _ _
    rw [← hw]
    have HB5 := Lib.hid (HB4.out.trans (hb.mono HB4.out.size))
    have HS5 := Lib.hid (show w4.heap.size < w5.heap.size from (Array.getElem?_eq_some_iff.mp hk).1)
    have Kd_5 := Lib.hid (blk_below Kd_4.out hb)
    have Ot_5 := Lib.hid (Ot_4.out.below hb)
    have Ow_5 := Lib.hid (Ow_4.out.below hb)
    have Ox_5 := Lib.hid (Ox_4.out.below hb)
    clear Kd_4 Ot_4 Ow_4 Ox_4
    have Kx_5 := Lib.hid hk
    clear hb hk hw
    have cx0 := (cells_of_heap Kx_5.out 0 (by simp)).1
    have cx1 := (cells_of_heap Kx_5.out 1 (by simp)).1
    go_wp2_with fail
    refine (HI.out _ _ HB5.out (by have := HL.out; unfold maxLen; omega) (owC_rd Ox_5.out)).mono ?_
    rintro e w6 ⟨a5, c5, f5, rfl, h5, hb⟩
    clear cx0 cx1
    have HB6 := Lib.hid (HB5.out.trans (hb.mono HB5.out.size))
    have HS6 := Lib.hid hb.size
    have Kd_6 := Lib.hid (blk_below Kd_5.out hb)
    have Kx_6 := Lib.hid (blk_below Kx_5.out hb)
    have Ot_6 := Lib.hid (Ot_5.out.below hb)
    have Ow_6 := Lib.hid (Ow_5.out.below hb)
    have Ox_6 := Lib.hid (Ox_5.out.below hb)
    clear Kd_5 Kx_5 Ot_5 Ow_5 Ox_5
    have Rg := Lib.hid (h5.rng)
    have Og_6 := Lib.hid h5
    clear hb h5
    go_wp2_with fail
    refine (eqByteS_same _ _ zr _ HZ2.out Og_6.out.rd1 Ow_6.out.rd1).mono ?_
    rintro e w7 ⟨rfl, hb⟩
    have HB7 := Lib.hid (HB6.out.trans (hb.mono HB6.out.size))
    have HS7 := Lib.hid hb.size
    have Kd_7 := Lib.hid (blk_below Kd_6.out hb)
    have Kx_7 := Lib.hid (blk_below Kx_6.out hb)
    have Ot_7 := Lib.hid (Ot_6.out.below hb)
    have Ow_7 := Lib.hid (Ow_6.out.below hb)
    have Ox_7 := Lib.hid (Ox_6.out.below hb)
    have Og_7 := Lib.hid (Og_6.out.below hb)
    clear Kd_6 Kx_6 Ot_6 Ow_6 Ox_6 Og_6
    clear hb
    go_upto_region 10 with (fail)
    go_cut [31] (fun sd wx => sd = .bool false ∧ Below w7.heap.size w7 wx)
    case first =>
      have cd0 := (cells_of_heap Kd_7.out 0 (by simp)).1
      have cd1 := (cells_of_heap Kd_7.out 1 (by simp)).1
      have cx0 := (cells_of_heap Kx_7.out 0 (by simp)).1
      have cx1 := (cells_of_heap Kx_7.out 1 (by simp)).1
      have ld : w.heap.size < w7.heap.size := (Array.getElem?_eq_some_iff.mp Kd_7.out).1
      have lx : w4.heap.size < w7.heap.size := (Array.getElem?_eq_some_iff.mp Kx_7.out).1
      go_region_held3 (fun w' => w'.cell? ⟨w.heap.size, 0, none⟩ = some (.int .i64 r) ∧ w'.cell? ⟨w.heap.size, 1, none⟩ = some (.slice a zs.length cap) ∧ w'.cell? ⟨w4.heap.size, 0, none⟩ = some (.int .i64 r) ∧ w'.cell? ⟨w4.heap.size, 1, none⟩ = some (.slice a2 zs.length c2)) (first | go_keep)
        (first | (go_at_call 19; refine (toReport_law r _ zs _ HL.out (HR.out.below (by first | exact HB7.out | exact HB7.out.drew | exact HB7.out.drew.drew))).mono ?_; rintro e v1 ⟨a3, c3, f3, rfl, hy, hb1⟩; have hbr : Below w7.heap.size w7 v1 := (by first | exact hb1 | exact ((Below.refl _ _).drew).trans hb1 | exact ((Below.refl _ _).drew.drew).trans hb1); have kcd0 := (hbr.cell (p := ⟨w.heap.size, 0, none⟩) ld).trans cd0; have kcd1 := (hbr.cell (p := ⟨w.heap.size, 1, none⟩) ld).trans cd1; have kcx0 := (hbr.cell (p := ⟨w4.heap.size, 0, none⟩) lx).trans cx0; have kcx1 := (hbr.cell (p := ⟨w4.heap.size, 1, none⟩) lx).trans cx1; have HBR := Lib.hid hbr; have HY := Lib.hid hy; clear hbr hb1 hy) | (go_at_call 20; refine (eqReport_same r _ _ zs _ (by have := HL.out; omega) ((owC_rd Ox_7.out).below (by first | exact HBR.out | exact HBR.out.drew | exact HBR.out.drew.drew)) ((owC_rd HY.out).below (by first | exact Below.refl _ _ | exact (Below.refl _ _).drew | exact (Below.refl _ _).drew.drew))).mono ?_; rintro e v2 ⟨rfl, hb2⟩; have hbr : Below w7.heap.size w7 v2 := (by first | exact HBR.out.trans (hb2.mono HBR.out.size) | exact HBR.out.trans (((Below.refl _ _).drew.trans hb2).mono HBR.out.size) | exact HBR.out.trans (((Below.refl _ _).drew.drew.trans hb2).mono HBR.out.size)); have kcd0 := (hbr.cell (p := ⟨w.heap.size, 0, none⟩) ld).trans cd0; have kcd1 := (hbr.cell (p := ⟨w.heap.size, 1, none⟩) ld).trans cd1; have kcx0 := (hbr.cell (p := ⟨w4.heap.size, 0, none⟩) lx).trans cx0; have kcx1 := (hbr.cell (p := ⟨w4.heap.size, 1, none⟩) lx).trans cx1; have HB2 := Lib.hid hbr; clear hbr hb2))
      all_goals
        go_wp2
        go_meet
        exact ⟨rfl, by first | exact HB2.out | exact HB2.out.drew⟩
    case rest =>
      obtain ⟨rfl, hb⟩ := hcut
      obtain ⟨w8, hw⟩ : ∃ x, x = wc := ⟨_, rfl⟩
      rw [← hw] at hb ⊢
      clear hw
      have HB8 := Lib.hid (HB7.out.trans (hb.mono HB7.out.size))
      have HS8 := Lib.hid hb.size
      have Kd_8 := Lib.hid (blk_below Kd_7.out hb)
      have Kx_8 := Lib.hid (blk_below Kx_7.out hb)
      have Ot_8 := Lib.hid (Ot_7.out.below hb)
      have Ow_8 := Lib.hid (Ow_7.out.below hb)
      have Ox_8 := Lib.hid (Ox_7.out.below hb)
      have Og_8 := Lib.hid (Og_7.out.below hb)
      clear Kd_7 Kx_7 Ot_7 Ow_7 Ox_7 Og_7
      clear hb
      have cx0 := (cells_of_heap Kx_8.out 0 (by simp)).1
      have cx1 := (cells_of_heap Kx_8.out 1 (by simp)).1
      go_wp2_with fail
      refine (markReport_q _ r _ zs _ 1 qx HQX.out _ (by have := HL.out; omega) (by decide) (by decide) Ox_8.out).mono ?_
      rintro e w9 ⟨rfl, ho, ht⟩
      clear cx0 cx1
      have HB9 := Lib.hid (HB8.out.trans (ht.below (fun b hb => by have := Rx.out b hb; have := HB3.out.size; omega) HB8.out.size))
      have HS9 := Lib.hid ht.size
      have Kd_9 := Lib.hid (blk_turn Kd_8.out ht (fun hm => by have := Rx.out _ hm; have := HS1.out; have := HS2.out; have := HS3.out; have := SZ0.out; omega))
      have Kx_9 := Lib.hid (blk_turn Kx_8.out ht (fun hm => by have := Rx.out _ hm; have := SZ0.out; omega))
      have Ot_9 := Lib.hid (Ot_8.out.turn ht (fun b hb hb' => by have := Rx.out b hb'; have := Rt.out b hb; have := HS3.out; have := SZ0.out; omega))
      have Ow_9 := Lib.hid (Ow_8.out.turn ht (fun b hb hb' => by have := Rx.out b hb'; have := Rw.out b hb; have := SZ0.out; omega))
      have Og_9 := Lib.hid (Og_8.out.turn ht (fun b hb hb' => by have := Rx.out b hb'; have := Rg.out b hb; have := HS5.out; have := SZ0.out; omega))
      have Ox_9 := Lib.hid ho
      clear ho ht Kd_8 Kx_8 Ot_8 Ow_8 Ox_8 Og_8
      go_wp2_with fail
      refine (eqByteS_same _ _ zr _ HZ2.out Og_9.out.rd1 Ow_9.out.rd1).mono ?_
      rintro e w10 ⟨rfl, hb⟩
      have HB10 := Lib.hid (HB9.out.trans (hb.mono HB9.out.size))
      have HS10 := Lib.hid hb.size
      have Kd_10 := Lib.hid (blk_below Kd_9.out hb)
      have Kx_10 := Lib.hid (blk_below Kx_9.out hb)
      have Ot_10 := Lib.hid (Ot_9.out.below hb)
      have Ow_10 := Lib.hid (Ow_9.out.below hb)
      have Ox_10 := Lib.hid (Ox_9.out.below hb)
      have Og_10 := Lib.hid (Og_9.out.below hb)
      clear Kd_9 Kx_9 Ot_9 Ow_9 Ox_9 Og_9
      clear hb
      go_wp2_with fail
      refine (markByteS_law _ _ zr _ 1 qr HQR.out _ HZ1.out (by decide) (by decide) Og_10.out).mono ?_
      rintro e w11 ⟨rfl, ho, ht⟩
      have HB11 := Lib.hid (HB10.out.trans (ht.below (fun b hb => by have := Rg.out b hb; have := HB5.out.size; omega) HB10.out.size))
      have HS11 := Lib.hid ht.size
      have Kd_11 := Lib.hid (blk_turn Kd_10.out ht (fun hm => by have := Rg.out _ hm; have := HS1.out; have := HS2.out; have := HS3.out; have := HS4.out; have := HS5.out; have := SZ0.out; omega))
      have Kx_11 := Lib.hid (blk_turn Kx_10.out ht (fun hm => by have := Rg.out _ hm; have := HS5.out; have := SZ0.out; omega))
      have Ot_11 := Lib.hid (Ot_10.out.turn ht (fun b hb hb' => by have := Rg.out b hb'; have := Rt.out b hb; have := HS3.out; have := HS4.out; have := HS5.out; have := SZ0.out; omega))
      have Ow_11 := Lib.hid (Ow_10.out.turn ht (fun b hb hb' => by have := Rg.out b hb'; have := Rw.out b hb; have := HS4.out; have := HS5.out; have := SZ0.out; omega))
      have Ox_11 := Lib.hid (Ox_10.out.turn ht (fun b hb hb' => by have := Rg.out b hb'; have := Rx.out b hb; have := HS5.out; have := SZ0.out; omega))
      have Og_11 := Lib.hid ho
      clear ho ht Kd_10 Kx_10 Ot_10 Ow_10 Ox_10 Og_10
      go_wp2_with fail
      refine (heldByteS_law _ _ zr.length _ 1 qr HQR.out _ HZ1.out (by decide) (by decide) Og_11.out).mono ?_
      rintro e w12 ⟨rfl, hb⟩
      have HB12 := Lib.hid (HB11.out.trans (hb.mono HB11.out.size))
      have HS12 := Lib.hid hb.size
      have Kd_12 := Lib.hid (blk_below Kd_11.out hb)
      have Kx_12 := Lib.hid (blk_below Kx_11.out hb)
      have Ot_12 := Lib.hid (Ot_11.out.below hb)
      have Ow_12 := Lib.hid (Ow_11.out.below hb)
      have Ox_12 := Lib.hid (Ox_11.out.below hb)
      have Og_12 := Lib.hid (Og_11.out.below hb)
      clear Kd_11 Kx_11 Ot_11 Ow_11 Ox_11 Og_11
      clear hb
      have cd0 := (cells_of_heap Kd_12.out 0 (by simp)).1
      have cd1 := (cells_of_heap Kd_12.out 1 (by simp)).1
      go_wp2_with fail
      refine (toReport_law r _ zs _ HL.out (HR.out.below HB12.out)).mono ?_
      rintro e w13 ⟨a6, c6, f6, rfl, h6, hb⟩
      clear cd0 cd1
      have HB13 := Lib.hid (HB12.out.trans (hb.mono HB12.out.size))
      have HS13 := Lib.hid hb.size
      have Kd_13 := Lib.hid (blk_below Kd_12.out hb)
      have Kx_13 := Lib.hid (blk_below Kx_12.out hb)
      have Ot_13 := Lib.hid (Ot_12.out.below hb)
      have Ow_13 := Lib.hid (Ow_12.out.below hb)
      have Ox_13 := Lib.hid (Ox_12.out.below hb)
      have Og_13 := Lib.hid (Og_12.out.below hb)
      clear Kd_12 Kx_12 Ot_12 Ow_12 Ox_12 Og_12
      have Ru := Lib.hid (h6.rng)
      have Ou_13 := Lib.hid h6
      clear hb h6
      go_wp2_with fail
      refine (HI.out _ _ HB13.out (by have := HL.out; unfold maxLen; omega) (owC_rd Ou_13.out)).mono ?_
      rintro e w14 ⟨a7, c7, f7, rfl, h7, hb⟩
      have HB14 := Lib.hid (HB13.out.trans (hb.mono HB13.out.size))
      have HS14 := Lib.hid hb.size
      have Kd_14 := Lib.hid (blk_below Kd_13.out hb)
      have Kx_14 := Lib.hid (blk_below Kx_13.out hb)
      have Ot_14 := Lib.hid (Ot_13.out.below hb)
      have Ow_14 := Lib.hid (Ow_13.out.below hb)
      have Ox_14 := Lib.hid (Ox_13.out.below hb)
      have Og_14 := Lib.hid (Og_13.out.below hb)
      have Ou_14 := Lib.hid (Ou_13.out.below hb)
      clear Kd_13 Kx_13 Ot_13 Ow_13 Ox_13 Og_13 Ou_13
      have Rh := Lib.hid (h7.rng)
      have Oh_14 := Lib.hid h7
      clear hb h7
      go_wp2_with fail
      refine (eqByteS_same _ _ zr _ HZ2.out Oh_14.out.rd1 Ow_14.out.rd1).mono ?_
      rintro e w15 ⟨rfl, hb⟩
      have HB15 := Lib.hid (HB14.out.trans (hb.mono HB14.out.size))
      have HS15 := Lib.hid hb.size
      have Kd_15 := Lib.hid (blk_below Kd_14.out hb)
      have Kx_15 := Lib.hid (blk_below Kx_14.out hb)
      have Ot_15 := Lib.hid (Ot_14.out.below hb)
      have Ow_15 := Lib.hid (Ow_14.out.below hb)
      have Ox_15 := Lib.hid (Ox_14.out.below hb)
      have Og_15 := Lib.hid (Og_14.out.below hb)
      have Ou_15 := Lib.hid (Ou_14.out.below hb)
      have Oh_15 := Lib.hid (Oh_14.out.below hb)
      clear Kd_14 Kx_14 Ot_14 Ow_14 Ox_14 Og_14 Ou_14 Oh_14
      clear hb
      go_wp2_with fail
      refine (heldByteS_law _ _ zr.length _ 1 qr HQR.out _ HZ1.out (by decide) (by decide) Og_15.out).mono ?_
      rintro e w16 ⟨rfl, hb⟩
      have HB16 := Lib.hid (HB15.out.trans (hb.mono HB15.out.size))
      have HS16 := Lib.hid hb.size
      have Kd_16 := Lib.hid (blk_below Kd_15.out hb)
      have Kx_16 := Lib.hid (blk_below Kx_15.out hb)
      have Ot_16 := Lib.hid (Ot_15.out.below hb)
      have Ow_16 := Lib.hid (Ow_15.out.below hb)
      have Ox_16 := Lib.hid (Ox_15.out.below hb)
      have Og_16 := Lib.hid (Og_15.out.below hb)
      have Ou_16 := Lib.hid (Ou_15.out.below hb)
      have Oh_16 := Lib.hid (Oh_15.out.below hb)
      clear Kd_15 Kx_15 Ot_15 Ow_15 Ox_15 Og_15 Ou_15 Oh_15
      clear hb
      go_wp2
      go_ret
      exact ⟨rfl, HB16.out⟩
  · have hsz : (if (1048576 : Int) < (zs.length : Int) then -1 else (1048576 : Int) - (zs.length : Int)) = -1 := if_pos (by omega)
    have HSZ := Lib.hid hsz
    clear hsz hl
    obtain ⟨w0, hw0⟩ : ∃ x, x = (w.alloc (.cells #[.int .i64 r, .slice a zs.length cap] 35)) := ⟨_, rfl⟩
    have HB0 := Lib.hid (show Below w.heap.size w w0 by rw [hw0]; exact (Below.refl _ _).alloc (Nat.le_refl _) _)
    have Kd_0 := Lib.hid (show w0.heap[w.heap.size]? = some (.cells #[.int .i64 r, .slice a zs.length cap] 35 (0, 0)) by rw [hw0]; exact heap_alloc_new w _)
    have SZ0 := Lib.hid (show w0.heap.size = w.heap.size + 1 by rw [hw0]; simp)
    have HW := Lib.hid hw0
    clear hw0
    go_enter Tryd.func6, Tryd.ntmps6
    have cd0 := (cells_of_heap Kd_0.out 0 (by simp)).1
    have cd1 := (cells_of_heap Kd_0.out 1 (by simp)).1
    go_wp2_with fail
    rw [← HW.out]
    refine (szReport_any r a zs.length cap 1048576 _ (by omega) (by omega) HML.out).mono ?_
    rw [HSZ.out]
    rintro e w1 ⟨rfl, hb⟩
    clear cd0 cd1
    have HB1 := Lib.hid (HB0.out.trans (hb.mono HB0.out.size))
    have HS1 := Lib.hid hb.size
    have Kd_1 := Lib.hid (blk_below Kd_0.out hb)
    clear Kd_0
    clear hb
    go_wp2
    go_ret
    exact ⟨rfl, HB1.out⟩

theorem bKeys_len (b : List Int) : ∀ k, (bKeys b k).length ≤ k
  | 0 => Nat.le_refl _
  | k + 1 => by
    have := bKeys_len b k
    rw [bKeys]; split
    · simp; omega
    · omega
theorem bOnes_le (b : List Int) : ∀ k, bOnes b k ≤ k
  | 0 => Nat.le_refl _
  | k + 1 => by
    have := bOnes_le b k
    rw [bOnes]; split <;> omega
theorem bFine_no {b : List Int} {i : Nat} (h : bHole b i = true) : ∀ m, i < m → bFine b m = false
  | 0, hm => absurd hm (Nat.not_lt_zero _)
  | m + 1, hm => by
    rcases Nat.lt_or_ge i m with h2 | h2
    · rw [bFine, bFine_no h m h2, Bool.false_and]
    · obtain rfl : i = m := by omega
      rw [bFine, h, Bool.not_true, Bool.and_false]
/-- Behind 'app_box' the elder blocks are as they were. -/
theorem app_keep {w w4 : World} {gw gm ga cap g2 : Nat} {X : List Int} {x : Int}
    (ho : w.ownsRow (gw + 1) 3 1 (.slice (some ⟨ga, 0, none⟩) X.length cap) X.length (X.map (.int .i64)))
    (hgs : gm < w.heap.size) (hlt : gw < gm) {cap1 : Nat}
    (_hown2 : w4.ownsRow (gw + 1) 3 1 (.slice (some ⟨g2, 0, none⟩) (X.length + 1) cap1) (X.length + 1) (X.map (.int .i64) ++ [.int .i64 x]))
    (hgrow2 : (w.alloc (.cells #[.int .i64 x] 3)).grownBy w4 (Value.slice (some ⟨ga, 0, none⟩) X.length cap).ownBlock) (cap2 : Nat) (q : Nat) (hq : q < gw) :
    (w4.setCell ⟨gm, 1, none⟩ (.slice (some ⟨g2, 0, none⟩) (X.length + 1) cap2)).heap[q]? = w.heap[q]? := by
  have hba : Below w.heap.size w (w.alloc (.cells #[.int .i64 x] 3)) := (Below.refl _ _).alloc (Nat.le_refl _) _
  have hb4 : Below (gw + 1) w w4 := (hba.mono (by omega)).grown hgrow2 (by simp; omega) (fun q hq => (ho.lt q hq).1)
  rw [heap_setCell_other w4 ⟨gm, 1, none⟩ q _ (by show ¬ q = gm; omega)]
  exact hb4.block q (by omega)

set_option maxRecDepth 100000 in
set_option maxHeartbeats 16000000 in
theorem specReadBoot_any (v : Value) (bs : List Int) (rl : Int) (u : Value) (zl : List Int) (w : World) (hl : bs.length ≤ maxLen) (hz : ∀ z ∈ bs, 0 ≤ z ∧ z < 256) (h : Rd w v (bs.map (.int .u8))) (hzl : zl.length ≤ 1048576) (hu : Rd w u (zl.map (.int .i64))) :
    Calls Tryd.prog 28 #[v, rpv rl u] w (RpTB (rbV bs rl zl) w) := by
  obtain ⟨i0, hi, hz0, hz1, hz2⟩ := info_parts info_int
  obtain ⟨r, hr⟩ : ∃ r, r = rbV bs rl zl := ⟨_, rfl⟩
  rw [← hr]
  obtain ⟨xa, xc, hv⟩ : ∃ a cap, v = .slice a bs.length cap := by
    obtain ⟨a, cap, hu, _⟩ := h
    exact ⟨a, cap, by simpa using hu⟩
  subst hv
  obtain ⟨ua, uc, rfl⟩ := ints_shape hu
  obtain ⟨n, hnl⟩ : ∃ n, n = bs.length := ⟨_, rfl⟩
  obtain ⟨nu, hnu⟩ : ∃ n, n = zl.length := ⟨_, rfl⟩
  have HNL := Lib.hid hnl
  have HNU := Lib.hid hnu
  have HR := Lib.hid hr
  have H := Lib.hid h
  have HU0 := Lib.hid hu
  have HZ := Lib.hid hz
  have HZL := Lib.hid hzl
  have hnr : n ≤ maxLen := by rw [hnl]; exact hl
  have hnur : nu ≤ 1048576 := by rw [hnu]; exact hzl
  unfold maxLen at hnr
  rw [← hnl, ← hnu]
  clear hr h hl hz hnl hu hzl hnu
  obtain ⟨gw, hgw⟩ : ∃ g, g = w.heap.size + 1 := ⟨_, rfl⟩
  obtain ⟨V, hV⟩ : ∃ V, V = (w.alloc (.cells #[.int .i64 rl, .slice ua nu uc] 26)).alloc (.cells #[.int .i64 0, .slice none 0 0] 26) := ⟨_, rfl⟩
  have HG0 := Lib.hid (show V.heap[gw]? = some (.cells #[.int .i64 0, .slice none 0 0] 26 (0, 0)) by rw [hV, hgw]; simpa using heap_alloc_new (w.alloc (.cells #[.int .i64 rl, .slice ua nu uc] 26)) _)
  have HK0 := Lib.hid (show V.heap[w.heap.size]? = some (.cells #[.int .i64 rl, .slice ua nu uc] 26 (0, 0)) by rw [hV, Below.heap_alloc _ _ _ (by simp)]; exact heap_alloc_new w _)
  have HB0 := Lib.hid (show Below w.heap.size w V by rw [hV]; exact ((Below.refl _ _).alloc (Nat.le_refl _) _).alloc (by simp) _)
  have hs0 : V.heap.size = gw + 1 := by rw [hV, hgw]; simp
  have HS0 := Lib.hid hs0
  have HV := Lib.hid hV
  have HGW := Lib.hid hgw
  have hle : w.heap.size ≤ gw := by rw [hgw]; exact Nat.le_succ _
  have hle1 : w.heap.size < gw := by rw [hgw]; exact Nat.lt_succ_self _
  have HNil := Lib.hid (show ∀ wx, Below w.heap.size w wx → r = ⟨0, [], false⟩ → RpTB r w (.returned (.tuple #[rpv 0 (.slice none 0 0), .bool false])) (putW wx gw 0 [.int .i64 0, .slice none 0 0]) from fun wx hx h => by
    rw [h]
    exact ⟨_, rfl, World.ownsRow_nil _ _ _ _, putW_below hle _ _ _ hx⟩)
  have hgw1 : w.heap.size + 1 = gw := hgw.symm
  clear hV hs0 hgw
  by_cases h8 : n = 8
  · subst h8
    obtain ⟨b, off, rfl, hlt, hc⟩ := bytes_at H.out (j := 0) (by rw [← HNL.out]; omega)
    have HC := Lib.hid hc
    have HLT := Lib.hid hlt
    have d0 := (HB0.out.cell (p := ⟨b, off, none⟩) hlt).trans (hc 0 (by rw [← HNL.out]; omega))
    have d1 := (HB0.out.cell (p := ⟨b, off + 1, none⟩) hlt).trans (hc 1 (by rw [← HNL.out]; omega))
    have hb0 := byte_of HZ.out (j := 0) (by rw [← HNL.out]; omega)
    obtain ⟨B, hB⟩ : ∃ x, x = bs.getD 0 0 := ⟨_, rfl⟩
    obtain ⟨B1, hB1⟩ : ∃ x, x = bs.getD 1 0 := ⟨_, rfl⟩
    rw [← hB] at d0 hb0
    rw [← hB1] at d1
    have wB : IntKind.i64.wrap B = B := IntWalk.i64_in _ ⟨by omega, by omega⟩
    obtain ⟨RL, hRL⟩ : ∃ x, x = okRp rl zl := ⟨_, rfl⟩
    have hr2 : r = if B ≤ 15 ∧ B1 = 0 ∧ RL = true ∧ bFine bs 6 = true then rbEnd bs zl else ⟨0, [], false⟩ := by
      rw [HR.out, rbV, ← hB, ← hB1, ← HNL.out, ← hRL]
      by_cases h15 : B ≤ 15 ∧ B1 = 0 ∧ RL = true ∧ bFine bs 6 = true
      · rw [if_pos h15, if_pos ⟨rfl, h15⟩]
      · rw [if_neg h15, if_neg (fun e => h15 e.2)]
    have HR2 := Lib.hid hr2
    have HRL := Lib.hid hRL
    have HBv := Lib.hid hB
    clear hc hB hB1 hr2 hlt hRL
    go_enter Tryd.func28, Tryd.ntmps28
    go_upto_region 1 with (fail)
    rw [← HV.out]
    clear hgw1
    have k0 := (cells_of_heap HK0.out 0 (by simp)).1
    have k1 := (cells_of_heap HK0.out 1 (by simp)).1
    obtain ⟨y0, q0⟩ := cells_of_heap HG0.out 0 (by simp)
    obtain ⟨y1, q1⟩ := cells_of_heap HG0.out 1 (by simp)
    by_cases h15 : B ≤ 15
    · have h15' : ¬ (15 : Int) < B := by omega
      by_cases h10 : B1 = 0
      · go_wp2_with fail
        refine (specIsReport_q rl _ zl RL HRL.out _ (by have := HZL.out; unfold maxLen; omega) (by rw [HNU.out]; have := HU0.out.below HB0.out; rw [← HNU.out] at this ⊢; exact this)).mono ?_
        rintro e w1 ⟨rfl, hb⟩
        have HB1 := Lib.hid (HB0.out.trans (hb.mono HB0.out.size))
        have HK1 := Lib.hid ((hb.block w.heap.size (by rw [HS0.out]; omega)).trans HK0.out)
        have HG1 := Lib.hid ((hb.block gw (by rw [HS0.out]; omega)).trans HG0.out)
        have f0 := (HB1.out.cell (p := ⟨b, off, none⟩) HLT.out).trans ((HB0.out.cell (p := ⟨b, off, none⟩) HLT.out).symm.trans d0)
        have hs1 : gw < w1.heap.size := (Array.getElem?_eq_some_iff.mp HG1.out).1
        clear hb d0 d1 k0 k1 y0 y1 q0 q1
        obtain ⟨y0, q0⟩ := cells_of_heap HG1.out 0 (by simp)
        obtain ⟨y1, q1⟩ := cells_of_heap HG1.out 1 (by simp)
        cases RL
        · have HRr := Lib.hid (show r = ⟨0, [], false⟩ by rw [HR2.out, if_neg (fun e => by have := e.2.2.1; simp at this)])
          go_wp2
          clear y0 q0 y1 q1
          obtain ⟨wf, hwf⟩ : ∃ x, x = putW (w1) (gw) 0 [.int .i64 0, .slice none 0 0] := ⟨_, rfl⟩
          have kf := putW_all [.int .i64 0, .slice none 0 0] HG1.out rfl
          have bf := putW_below (b := gw) (by first | omega | simp) [.int .i64 0, .slice none 0 0] 0 _ HB1.out
          have of := HNil.out _ HB1.out HRr.out
          rw [← hwf] at kf bf of
          have cf := hwf.symm
          simp only [putW, Nat.reduceAdd] at cf
          rw [cf]
          clear cf hwf
          have f0 := (cells_of_heap kf 0 (by simp)).1
          have f1 := (cells_of_heap kf 1 (by simp)).1
          simp only [List.getElem_toArray, List.getElem_cons_zero, List.getElem_cons_succ] at f0 f1
          refine bodyPost_ret (v := .tuple #[rpv 0 (.slice none 0 0), .bool false]) (by simp [results, Tryd.results28, go_sem, f0, f1]) rfl of
        · have HRr := Lib.hid (show r = if bFine bs 6 = true then rbEnd bs zl else ⟨0, [], false⟩ by
            rw [HR2.out]
            by_cases hf : bFine bs 6 = true
            · rw [if_pos hf, if_pos ⟨h15, h10, rfl, hf⟩]
            · rw [if_neg hf, if_neg (fun e => hf e.2.2.2)])
          clear y0 y1 q0 q1
          go_upto_region 4 with (fail)
          obtain ⟨ge, hge⟩ : ∃ g, g = w1.heap.size := ⟨_, rfl⟩
          obtain ⟨gm, hgm⟩ : ∃ g, g = w1.heap.size + 1 := ⟨_, rfl⟩
          obtain ⟨U, hU⟩ : ∃ U, U = (w1.alloc (.cells #[] 3)).alloc (.cells #[.int .i64 B, .slice (some ⟨ge, 0, none⟩) 0 0] 26) := ⟨_, rfl⟩
          have hbU : Below w1.heap.size w1 U := by rw [hU]; exact ((Below.refl _ _).alloc (Nat.le_refl _) _).alloc (by simp) _
          have hGm : U.heap[gm]? = some (.cells #[.int .i64 B, .slice (some ⟨ge, 0, none⟩) (bKeys bs 0).length 0] 26 (0, 0)) := by
            rw [hU, hgm]; simpa [bKeys] using heap_alloc_new (w1.alloc (.cells #[] 3)) _
          have hOw : U.ownsRow (gw + 1) 3 1 (.slice (some ⟨ge, 0, none⟩) (bKeys bs 0).length 0) (bKeys bs 0).length ((bKeys bs 0).map (.int .i64)) := by
            rw [hU, hge]
            have := World.ownsRow_lit (e := 3) (size := 1) (base := gw + 1) w1 #[] 0 (by omega) (by simp [maxLen]) rfl
            exact this.alloc _
          rw [← hgm, ← hge, ← hU]
          have HGm := Lib.hid hGm
          have HGw := Lib.hid ((hbU.block gw hs1).trans HG1.out)
          have HKw := Lib.hid ((hbU.block w.heap.size (by omega)).trans HK1.out)
          have HOw := Lib.hid hOw
          have HBU := Lib.hid (HB1.out.trans (hbU.mono HB1.out.size))
          have hgmw : gw < gm := by omega
          have hgmw1 : ¬ ge = gm := by omega
          clear hU hbU hGm hOw hge hgm f0 h15' h15 wB
          go_wp2
          go_loopw [7, 8] (fun on i wr => ∃ (q p ga cap : Nat), p = q + 2 ∧ q ≤ 6 ∧ i = .int .i64 (p : Nat) ∧ on = .int .i64 (bOnes bs q : Nat) ∧ bFine bs q = true ∧ wr.heap[gm]? = some (.cells #[.int .i64 B, .slice (some ⟨ga, 0, none⟩) (bKeys bs q).length cap] 26 (0, 0)) ∧ wr.ownsRow (gw + 1) 3 1 (.slice (some ⟨ga, 0, none⟩) (bKeys bs q).length cap) (bKeys bs q).length ((bKeys bs q).map (.int .i64)) ∧ ¬ ga = gm ∧ wr.heap[gw]? = some (.cells #[.int .i64 0, .slice none 0 0] 26 (0, 0)) ∧ wr.heap[w.heap.size]? = some (.cells #[.int .i64 rl, .slice ua nu uc] 26 (0, 0)) ∧ Below w.heap.size w wr) (fun _ i _ => 8 - (intOf i).toNat)
          case atStart => exact ⟨0, 2, ge, 0, rfl, by omega, rfl, rfl, rfl, HGm.out, HOw.out, hgmw1, HGw.out, HKw.out, HBU.out⟩
          case round =>
            obtain ⟨q, p, ga, cap, hp, hq, rfl, rfl, hfine, hgm, ho, hga, hgw, hkw, hb⟩ := hrel
            have hlk := bKeys_len bs q
            obtain ⟨X, hX⟩ : ∃ X, X = bKeys bs q := ⟨_, rfl⟩
            rw [← hX] at hgm ho hlk
            have HX := Lib.hid hX
            have HO := Lib.hid ho
            have HGa := Lib.hid hga
            have HGm5 := Lib.hid hgm
            have HGw5 := Lib.hid hgw
            have HKw5 := Lib.hid hkw
            have HB5 := Lib.hid hb
            have HP := Lib.hid hp
            have HFine := Lib.hid hfine
            have hgs : gm < wr.heap.size := (Array.getElem?_eq_some_iff.mp hgm).1
            by_cases hql : q < 6
            · have f1 := (hb.cell (p := ⟨b, off + p, none⟩) HLT.out).trans (HC.out p (by rw [← HNL.out]; omega))
              have f2 := (hb.cell (p := ⟨b, off + (p - 1), none⟩) HLT.out).trans (HC.out (p - 1) (by rw [← HNL.out]; omega))
              have hb1 := byte_of HZ.out (j := p) (by rw [← HNL.out]; omega)
              have hbO : bOnes bs (q + 1) = if bs.getD p 0 = 1 then bOnes bs q + 1 else bOnes bs q := by rw [hp]; rfl
              have hbK : bKeys bs (q + 1) = if bs.getD p 0 ≠ 0 then X ++ [bs.getD p 0 - 3] else X := by rw [hp, hX]; rfl
              have hbH : bHole bs q = (decide (bs.getD p 0 ≠ 0) && (decide (bs.getD (p - 1) 0 = 0) && decide (0 < q))) := by rw [hp]; rfl
              obtain ⟨Z, hZ⟩ : ∃ x, x = bs.getD p 0 := ⟨_, rfl⟩
              obtain ⟨Y, hY⟩ : ∃ x, x = bs.getD (p - 1) 0 := ⟨_, rfl⟩
              rw [← hZ] at f1 hb1 hbO hbK hbH
              rw [← hY] at f2 hbH
              have HbO := Lib.hid hbO
              have HbK := Lib.hid hbK
              have HbH := Lib.hid hbH
              have hp8 : (p : Int) < 8 := by omega
              have hp2 : 2 ≤ p := by omega
              have hon6 : bOnes bs q ≤ 6 := by have := bOnes_le bs q; omega
              obtain ⟨O, hO⟩ : ∃ O, O = bOnes bs q := ⟨_, rfl⟩
              rw [← hO] at hon6 ⊢
              have HOn := Lib.hid hO
              clear hX ho hga hgm hgw hkw hb hZ hY hbO hbK hbH hp hfine hO
              go_upto_region 8 with (fail)
              go_upto_if 45 with (fail)
              go_cut [7] (fun o wx => o = .int .i64 (bOnes bs (q + 1) : Nat) ∧ wr = wx)
              case first =>
                by_cases hz1 : Z = 1
                · have h1 := HbO.out
                  rw [if_pos hz1, ← HOn.out] at h1
                  have H1 := Lib.hid h1
                  clear h1
                  subst hz1
                  go_wp2
                  go_meet
                  exact ⟨by rw [H1.out]; simp, rfl⟩
                · have h1 := HbO.out
                  rw [if_neg hz1, ← HOn.out] at h1
                  have H1 := Lib.hid h1
                  have bz : (Z == 1) = false := by simp [hz1]
                  clear h1
                  go_wp2
                  go_meet
                  exact ⟨by rw [H1.out], rfl⟩
              case rest =>
                obtain ⟨rfl, hw⟩ := hcut
                subst hw
                by_cases hzz0 : Z = 0
                · have hK2 : bKeys bs (q + 1) = X := by rw [HbK.out, if_neg (fun e => e hzz0)]
                  have hH2 : bHole bs q = false := by rw [HbH.out, hzz0]; rfl
                  have hF2 : bFine bs (q + 1) = true := by rw [bFine, HFine.out, hH2]; rfl
                  have HK2 := Lib.hid hK2
                  have HF2 := Lib.hid hF2
                  have HPP := Lib.hid (show (p : Int) + 1 = ((p + 1 : Nat) : Int) by omega)
                  clear hK2 hH2 hF2
                  subst hzz0
                  go_wp2
                  go_roundw
                  case rel => exact ⟨q + 1, p + 1, ga, cap, by rw [HP.out], by omega, by rw [HPP.out], rfl, HF2.out, by rw [HK2.out]; exact HGm5.out, by rw [HK2.out]; exact HO.out, HGa.out, HGw5.out, HKw5.out, HB5.out⟩
                  case measure => simp [intOf]; omega
                · have bz0 : (Z == 0) = false := by simp [hzz0]
                  have bz1 : (Z != 0) = true := by simp [hzz0]
                  have wZ : IntKind.i64.wrap Z = Z := IntWalk.i64_in _ ⟨by omega, by omega⟩
                  have wZ3 : IntKind.i64.wrap (Z - 3) = Z - 3 := IntWalk.i64_in _ ⟨by omega, by omega⟩
                  have hK2 : bKeys bs (q + 1) = X ++ [Z - 3] := by rw [HbK.out, if_pos hzz0]
                  have HK2 := Lib.hid hK2
                  obtain ⟨m1, p1⟩ := cells_of_heap HGm5.out 1 (by simp)
                  have c63 : X.length + 1 ≤ maxLen := by unfold maxLen; omega
                  have c47 : (X.length + 1) * 8 ≤ 140737488355328 := by omega
                  clear hK2
                  go_upto_region 11 with (fail)
                  have f3 := (HB5.out.cell (p := ⟨b, off + p, none⟩) HLT.out).trans ((HB5.out.cell (p := ⟨b, off + p, none⟩) HLT.out).symm.trans f1)
                  go_region_law (refine step_append_lies _ (by rfl) (.tmp 54) (.tmp 61) 24 (by rfl) (gw + 1) 3 i0 (.int .i64 0) 1 8 Tryd.underlying24 hi hz0 hz1 hz2 rfl (by decide) (.slice (some ⟨ga, 0, none⟩) X.length cap) X.length (X.map (.int .i64)) (by rfl) (HO.out.alloc _).drew ⟨wr.heap.size, 0, none⟩ 1 1 [.int .i64 (Z - 3)] (by rfl) (by rfl) (World.news_of_block (cs := #[.int .i64 (Z - 3)]) (t := 3) (fr := (0, 0)) (heap_alloc_new wr _)) (by simp [Value.oneCell']) (by decide) c63 c47 (by simp; omega) (wr.heap.size + 1) (by simp) ?_; intro g2 cap2 w4 hown2 hgrow2 hat2 hlt4; obtain ⟨o14, p14, hg7, ho7, hgg, hw7, hb7⟩ := app_box HGm5.out HO.out HGa.out HGw5.out hgmw HB5.out hle hown2 ⟨hgrow2.os, hgrow2.tape, hgrow2.output, hgrow2.size, hgrow2.block⟩ hat2; have HG7 := Lib.hid hg7; have HO7 := Lib.hid ho7; have HGG := Lib.hid hgg; have HW7 := Lib.hid hw7; have HB7 := Lib.hid hb7; have HK7 := Lib.hid ((app_keep HO.out hgs hgmw hown2 ⟨hgrow2.os, hgrow2.tape, hgrow2.output, hgrow2.size, hgrow2.block⟩ cap2 _ hle1).trans HKw5.out); clear hg7 ho7 hgg hw7 hb7 hown2 hgrow2 hat2 hlt4)
                  all_goals
                    obtain ⟨W7, hW7⟩ : ∃ W, W = (w4.setCell ⟨gm, 1, none⟩ (.slice (some ⟨g2, 0, none⟩) (X.length + 1) cap2)) := ⟨_, rfl⟩
                    have hg7 := HG7.out
                    have ho7 := HO7.out
                    have hw7 := HW7.out
                    have hb7 := HB7.out
                    have hk7 := HK7.out
                    rw [← hW7] at hg7 ho7 hw7 hb7 hk7 ⊢
                    have e1 := (hb7.cell (p := ⟨b, off + p, none⟩) HLT.out).trans ((HB5.out.cell (p := ⟨b, off + p, none⟩) HLT.out).symm.trans f1)
                    have e2 := (hb7.cell (p := ⟨b, off + (p - 1), none⟩) HLT.out).trans ((HB5.out.cell (p := ⟨b, off + (p - 1), none⟩) HLT.out).symm.trans f2)
                    have Hg7 := Lib.hid hg7
                    have Ho7 := Lib.hid ho7
                    have Hw7 := Lib.hid hw7
                    have Hb7 := Lib.hid hb7
                    have Hk7 := Lib.hid hk7
                    have HPP := Lib.hid (show (p : Int) + 1 = ((p + 1 : Nat) : Int) by omega)
                    have hp1 : ((p : Int) - 1).toNat = p - 1 := by omega
                    have hp1n : 0 ≤ (p : Int) - 1 := by omega
                    have hp18 : (p : Int) - 1 < 8 := by omega
                    clear hW7 hg7 ho7 hw7 hb7 hk7 f1 f2 f3 o14 p14 m1 p1 c63 c47 HG7 HO7 HW7 HB7 HK7
                    by_cases hy0 : Y = 0
                    · by_cases hq0 : 0 < q
                      · have hH2 : bHole bs q = true := by rw [HbH.out, decide_eq_true hzz0, decide_eq_true hy0, decide_eq_true hq0]; rfl
                        have HRz := Lib.hid (show r = ⟨0, [], false⟩ by rw [HRr.out, bFine_no hH2 6 hql]; rfl)
                        have hp22 : (2 : Int) < p := by have := HP.out; omega
                        obtain ⟨y0, q0⟩ := cells_of_heap Hw7.out 0 (by simp)
                        obtain ⟨y1, q1⟩ := cells_of_heap Hw7.out 1 (by simp)
                        clear hH2
                        subst hy0
                        go_wp2
                        clear y0 q0 y1 q1
                        obtain ⟨wf, hwf⟩ : ∃ x, x = putW (W7) (gw) 0 [.int .i64 0, .slice none 0 0] := ⟨_, rfl⟩
                        have kf := putW_all [.int .i64 0, .slice none 0 0] Hw7.out rfl
                        have bf := putW_below (b := gw) (by first | omega | simp) [.int .i64 0, .slice none 0 0] 0 _ Hb7.out
                        have of := HNil.out _ Hb7.out HRz.out
                        rw [← hwf] at kf bf of
                        have cf := hwf.symm
                        simp only [putW, Nat.reduceAdd] at cf
                        rw [cf]
                        clear cf hwf
                        have f0 := (cells_of_heap kf 0 (by simp)).1
                        have f1 := (cells_of_heap kf 1 (by simp)).1
                        simp only [List.getElem_toArray, List.getElem_cons_zero, List.getElem_cons_succ] at f0 f1
                        refine bodyPost_ret (v := .tuple #[rpv 0 (.slice none 0 0), .bool false]) (by simp [results, Tryd.results28, go_sem, f0, f1]) rfl of
                      · have hF2 : bFine bs (q + 1) = true := by rw [bFine, HFine.out, HbH.out, decide_eq_false hq0, Bool.and_false, Bool.and_false]; rfl
                        have hp22 : ¬ (2 : Int) < p := by have := HP.out; omega
                        have HF2 := Lib.hid hF2
                        clear hF2
                        subst hy0
                        go_wp2
                        go_roundw
                        case rel => exact ⟨q + 1, p + 1, g2, cap2, by rw [HP.out], by omega, by rw [HPP.out], rfl, HF2.out, by rw [HK2.out]; exact Hg7.out, by rw [HK2.out]; exact Ho7.out, HGG.out, Hw7.out, Hk7.out, Hb7.out⟩
                        case measure => simp [intOf]; omega
                    · have hF2 : bFine bs (q + 1) = true := by rw [bFine, HFine.out, HbH.out, decide_eq_false hy0, Bool.false_and, Bool.and_false]; rfl
                      have by0 : (Y == 0) = false := by simp [hy0]
                      have HF2 := Lib.hid hF2
                      clear hF2
                      go_wp2
                      go_roundw
                      case rel => exact ⟨q + 1, p + 1, g2, cap2, by rw [HP.out], by omega, by rw [HPP.out], rfl, HF2.out, by rw [HK2.out]; exact Hg7.out, by rw [HK2.out]; exact Ho7.out, HGG.out, Hw7.out, Hk7.out, Hb7.out⟩
                      case measure => simp [intOf]; omega
            · obtain rfl : q = 6 := by omega
              obtain rfl : p = 8 := by omega
              have HRe := Lib.hid (show r = if bOnes bs 6 = 6 then ⟨B, zl, true⟩ else if okRp B X = true then ⟨B, X, true⟩ else ⟨0, [], false⟩ by rw [HRr.out, if_pos hfine, rbEnd, ← HX.out, ← HBv.out])
              have hon6 : bOnes bs 6 ≤ 6 := bOnes_le bs 6
              obtain ⟨O, hO⟩ : ∃ O, O = bOnes bs 6 := ⟨_, rfl⟩
              rw [← hO] at hon6 ⊢
              have HOn := Lib.hid hO
              obtain ⟨y0, q0⟩ := cells_of_heap hgw 0 (by simp)
              obtain ⟨y1, q1⟩ := cells_of_heap hgw 1 (by simp)
              have m0 := (cells_of_heap hgm 0 (by simp)).1
              have m1 := (cells_of_heap hgm 1 (by simp)).1
              have k1 := (cells_of_heap hkw 1 (by simp)).1
              have f0 := (hb.cell (p := ⟨b, off, none⟩) HLT.out).trans (HC.out 0 (by rw [← HNL.out]; omega))
              rw [← HBv.out] at f0
              clear hX ho hga hgm hgw hkw hb hfine hO hp hq
              by_cases h6 : O = 6
              · have HRf := Lib.hid (show r = ⟨B, zl, true⟩ by rw [HRe.out, if_pos (HOn.out.symm.trans h6)])
                subst h6
                have wB : IntKind.i64.wrap B = B := IntWalk.i64_in _ ⟨by omega, by omega⟩
                have hblt : b < wr.heap.size := Nat.lt_of_lt_of_le HLT.out HB5.out.size
                have hwlt : w.heap.size < wr.heap.size := by omega
                have hgwl : gw < wr.heap.size := by omega
                have hbA : Below wr.heap.size wr (wr.alloc (.cells #[] 3)) := (Below.refl _ _).alloc (Nat.le_refl _) _
                have fA := (hbA.cell (p := ⟨b, off, none⟩) hblt).trans f0
                have kA := (hbA.cell (p := ⟨w.heap.size, 1, none⟩) hwlt).trans k1
                rcases Nat.eq_zero_or_pos nu with hn0 | hn0
                · subst hn0
                  cases ua
                  all_goals
                    go_upto_region 15 with (fail)
                    go_region
                    all_goals clear y0 q0 y1 q1
                    all_goals go_wp2
                    all_goals
                      have hsz := putW_size gw [.int .i64 B, .slice (some ⟨wr.heap.size, 0, none⟩) 0 0] 0 wr
                      have kf := putW_all [.int .i64 B, .slice (some ⟨wr.heap.size, 0, none⟩) 0 0] HGw5.out rfl
                      have bf := putW_below (b := gw) (by first | omega | simp) [.int .i64 B, .slice (some ⟨wr.heap.size, 0, none⟩) 0 0] 0 _ HB5.out
                      obtain ⟨ws, hws⟩ : ∃ x, x = wr.heap.size := ⟨_, rfl⟩
                      obtain ⟨wf, hwf⟩ : ∃ x, x = putW wr gw 0 [.int .i64 B, .slice (some ⟨wr.heap.size, 0, none⟩) 0 0] := ⟨_, rfl⟩
                      rw [← hwf] at hsz kf bf
                      have cf := hwf.symm
                      simp only [putW, Nat.reduceAdd] at cf
                      rw [cf]
                      clear cf hwf
                      rw [← hws] at kf hsz ⊢
                      have hbx : Below wf.heap.size wf ((wf.alloc (.cells #[] 3)).drew) := ((Below.refl _ _).alloc (Nat.le_refl _) _).drew
                      have kx := (hbx.block gw (by omega)).trans kf
                      have bx := bf.trans (hbx.mono bf.size)
                      have ox : ((wf.alloc (.cells #[] 3)).drew).ownsRow w.heap.size 3 1 (.slice (some ⟨ws, 0, none⟩) 0 0) 0 [] := by
                        rw [← hsz]
                        exact (World.ownsRow_lit (e := 3) (size := 1) (base := w.heap.size) wf #[] 0 bf.size (by simp [maxLen]) rfl).drew
                      obtain rfl : zl = [] := List.eq_nil_of_length_eq_zero HNU.out.symm
                      obtain ⟨wg, hwg⟩ : ∃ x, x = (wf.alloc (.cells #[] 3)).drew := ⟨_, rfl⟩
                      rw [← hwg] at kx bx ox ⊢
                      clear hwg hbx kf bf hsz hws
                      have f0 := (cells_of_heap kx 0 (by simp)).1
                      have f1 := (cells_of_heap kx 1 (by simp)).1
                      simp only [List.getElem_toArray, List.getElem_cons_zero, List.getElem_cons_succ] at f0 f1
                      refine bodyPost_ret (v := .tuple #[rpv B (.slice (some ⟨ws, 0, none⟩) 0 0), .bool true]) (by simp [results, Tryd.results28, go_sem, f0, f1]) rfl (by rw [HRf.out]; exact ⟨_, rfl, ox, bx⟩)
                · obtain ⟨b2, off2, rfl, hlt2, -⟩ := ints_at (by have := HU0.out; exact this) (j := 0) (by rw [← HNU.out]; exact hn0)
                  have hnews : ∀ w', Below w.heap.size w w' → ∀ q u, (zl.map (.int .i64))[q]? = some u → w'.cell? ((⟨b2, off2, none⟩ : Addr).add q) = some u := by
                    intro w' hw' q u hq
                    have hl := (List.getElem?_eq_some_iff.mp hq).1
                    have hadd : (⟨b2, off2, none⟩ : Addr).add q = ⟨b2, off2 + q, none⟩ := by unfold Addr.add; split <;> simp_all
                    rw [hadd, hw'.cell (p := ⟨b2, off2 + q, none⟩) hlt2]
                    rcases Rd.cases HU0.out with ⟨h0, _⟩ | ⟨_, b3, off3, cap3, hs, _, hcc⟩
                    · rw [h0] at hl; simp at hl
                    · obtain ⟨⟨rfl, rfl⟩, -⟩ := by simpa using hs
                      rw [hcc q hl]
                      exact (List.getElem?_eq_getElem hl ▸ hq)
                  have HNews := Lib.hid hnews
                  have HNL2 := Lib.hid (show (zl.map (Value.int .i64)).length = nu * 1 by rw [List.length_map, Nat.mul_one, HNU.out])
                  have b63 : 0 + nu ≤ maxLen := by unfold maxLen; omega
                  have b47 : (0 + nu) * 8 ≤ 140737488355328 := by omega
                  clear hnews
                  go_upto_region 15 with (fail)
                  go_region_law (refine step_append_lies _ (by rfl) (.tmp 88) (.tmp 90) 24 (by rfl) wr.heap.size 3 i0 (.int .i64 0) 1 8 Tryd.underlying24 hi hz0 hz1 hz2 rfl (by decide) (.slice (some ⟨wr.heap.size, 0, none⟩) 0 0) 0 [] (by rfl) (World.ownsRow_lit (e := 3) (size := 1) wr.drew #[] 0 (by simp) (by simp [maxLen]) rfl) ⟨b2, off2, none⟩ nu uc (zl.map (.int .i64)) (by rfl) HNL2.out (HNews.out _ (HB5.out.trans (((Below.refl wr.heap.size wr).drew.alloc (by simp) _).mono HB5.out.size))) (by simp [Value.oneCell']) hn0 b63 b47 (by simp) (wr.heap.size + 1) (by simp) ?_; intro g2 cap2 w4 hown2 hgrow2 hat2 hlt4; have hb2 : Below wr.heap.size wr w4 := ((Below.refl wr.heap.size wr).drew.alloc (by simp) _).grown hgrow2 (by simp) (fun q hq => by simp [Value.ownBlock] at hq; omega); have hgw4 := (hb2.block gw hgwl).trans HGw5.out; obtain ⟨y04, q04⟩ := cells_of_heap hgw4 0 (by simp); obtain ⟨y14, q14⟩ := cells_of_heap hgw4 1 (by simp); have f04 := (hb2.cell (p := ⟨b, off, none⟩) hblt).trans f0; have HO2 := Lib.hid hown2; have HB2 := Lib.hid hb2; have HGw4 := Lib.hid hgw4; clear hown2 hgrow2 hat2 hlt4 hb2 hgw4)
                  all_goals clear y04 q04 y14 q14
                  all_goals go_wp2
                  all_goals
                    have ho2 := HO2.out
                    simp only [Nat.zero_add, List.nil_append] at ho2
                    have HO3 := Lib.hid (owns_base ho2 HB5.out.size)
                    have HB3 := Lib.hid (HB5.out.trans (HB2.out.mono HB5.out.size))
                    clear ho2
                    obtain ⟨wf, hwf⟩ : ∃ x, x = putW (w4) (gw) 0 [.int .i64 B, .slice (some ⟨g2, 0, none⟩) nu cap2] := ⟨_, rfl⟩
                    have kf := putW_all [.int .i64 B, .slice (some ⟨g2, 0, none⟩) nu cap2] HGw4.out rfl
                    have bf := putW_below (b := gw) (by first | omega | simp) [.int .i64 B, .slice (some ⟨g2, 0, none⟩) nu cap2] 0 _ HB3.out
                    have of := owns_putAt HO3.out (y := gw) (fun q hq => by have := (HO2.out.lt q hq).1; omega) 0 [.int .i64 B, .slice (some ⟨g2, 0, none⟩) nu cap2]
                    rw [← hwf] at kf bf of
                    have cf := hwf.symm
                    simp only [putW, Nat.reduceAdd] at cf
                    rw [cf]
                    clear cf hwf
                    have f0 := (cells_of_heap kf 0 (by simp)).1
                    have f1 := (cells_of_heap kf 1 (by simp)).1
                    simp only [List.getElem_toArray, List.getElem_cons_zero, List.getElem_cons_succ] at f0 f1
                    refine bodyPost_ret (v := .tuple #[rpv B (.slice (some ⟨g2, 0, none⟩) nu cap2), .bool true]) (by simp [results, Tryd.results28, go_sem, f0, f1]) rfl (by rw [HRf.out]; exact ⟨_, rfl, by rw [← HNU.out]; exact of, bf⟩)
              · have HRf := Lib.hid (show r = if okRp B X = true then ⟨B, X, true⟩ else ⟨0, [], false⟩ by rw [HRe.out, if_neg (fun e => h6 (HOn.out.trans e))])
                have b6 : ((O : Int) == 6) = false := by simp; omega
                obtain ⟨RX, hRX⟩ : ∃ x, x = okRp B X := ⟨_, rfl⟩
                have HRX := Lib.hid hRX
                clear hRX f0 k1
                go_wp2_with fail
                refine (specIsReport_q B _ X RX HRX.out _ (by unfold maxLen; omega) (Rd.of_owns HO.out)).mono ?_
                rintro e w2 ⟨rfl, hb⟩
                have HBx := Lib.hid (HB5.out.trans (hb.mono HB5.out.size))
                have HGx := Lib.hid ((hb.block gw (Array.getElem?_eq_some_iff.mp HGw5.out).1).trans HGw5.out)
                have HMx := Lib.hid ((hb.block gm hgs).trans HGm5.out)
                have HOx := Lib.hid (owns_keep HO.out (fun q hq => hb.block q (HO.out.lt q hq).2))
                clear hb y0 q0 y1 q1 m0 m1
                obtain ⟨y0, q0⟩ := cells_of_heap HGx.out 0 (by simp)
                obtain ⟨y1, q1⟩ := cells_of_heap HGx.out 1 (by simp)
                have m0 := (cells_of_heap HMx.out 0 (by simp)).1
                have m1 := (cells_of_heap HMx.out 1 (by simp)).1
                cases RX
                · have HRz := Lib.hid (show r = ⟨0, [], false⟩ by rw [HRf.out, if_neg (by rw [← HRX.out]; decide)])
                  go_wp2
                  clear y0 q0 y1 q1 m0 m1
                  obtain ⟨wf, hwf⟩ : ∃ x, x = putW (w2) (gw) 0 [.int .i64 0, .slice none 0 0] := ⟨_, rfl⟩
                  have kf := putW_all [.int .i64 0, .slice none 0 0] HGx.out rfl
                  have bf := putW_below (b := gw) (by first | omega | simp) [.int .i64 0, .slice none 0 0] 0 _ HBx.out
                  have of := HNil.out _ HBx.out HRz.out
                  rw [← hwf] at kf bf of
                  have cf := hwf.symm
                  simp only [putW, Nat.reduceAdd] at cf
                  rw [cf]
                  clear cf hwf
                  have f0 := (cells_of_heap kf 0 (by simp)).1
                  have f1 := (cells_of_heap kf 1 (by simp)).1
                  simp only [List.getElem_toArray, List.getElem_cons_zero, List.getElem_cons_succ] at f0 f1
                  refine bodyPost_ret (v := .tuple #[rpv 0 (.slice none 0 0), .bool false]) (by simp [results, Tryd.results28, go_sem, f0, f1]) rfl of
                · have HRz := Lib.hid (show r = ⟨B, X, true⟩ by rw [HRf.out, if_pos HRX.out.symm])
                  go_wp2
                  clear y0 q0 y1 q1 m0 m1
                  obtain ⟨wf, hwf⟩ : ∃ x, x = putW (w2) (gw) 0 [.int .i64 B, .slice (some ⟨ga, 0, none⟩) X.length cap] := ⟨_, rfl⟩
                  have kf := putW_all [.int .i64 B, .slice (some ⟨ga, 0, none⟩) X.length cap] HGx.out rfl
                  have bf := putW_below (b := gw) (by first | omega | simp) [.int .i64 B, .slice (some ⟨ga, 0, none⟩) X.length cap] 0 _ HBx.out
                  have of := owns_putAt HOx.out (y := gw) (fun q hq => by have := (HOx.out.lt q hq).1; omega) 0 [.int .i64 B, .slice (some ⟨ga, 0, none⟩) X.length cap]
                  rw [← hwf] at kf bf of
                  have cf := hwf.symm
                  simp only [putW, Nat.reduceAdd] at cf
                  rw [cf]
                  clear cf hwf
                  have f0 := (cells_of_heap kf 0 (by simp)).1
                  have f1 := (cells_of_heap kf 1 (by simp)).1
                  simp only [List.getElem_toArray, List.getElem_cons_zero, List.getElem_cons_succ] at f0 f1
                  refine bodyPost_ret (v := .tuple #[rpv B (.slice (some ⟨ga, 0, none⟩) X.length cap), .bool true]) (by simp [results, Tryd.results28, go_sem, f0, f1]) rfl (by rw [HRz.out]; exact ⟨_, rfl, owns_base of (Nat.le_of_lt (Nat.lt_succ_of_lt hle1)), bf⟩)
      · have HRr := Lib.hid (show r = ⟨0, [], false⟩ by rw [HR2.out, if_neg (fun e => h10 e.2.1)])
        clear k0 k1
        go_wp2
        clear y0 q0 y1 q1
        obtain ⟨wf, hwf⟩ : ∃ x, x = putW (V) (gw) 0 [.int .i64 0, .slice none 0 0] := ⟨_, rfl⟩
        have kf := putW_all [.int .i64 0, .slice none 0 0] HG0.out rfl
        have bf := putW_below (b := gw) (by first | omega | simp) [.int .i64 0, .slice none 0 0] 0 _ HB0.out
        have of := HNil.out _ HB0.out HRr.out
        rw [← hwf] at kf bf of
        have cf := hwf.symm
        simp only [putW, Nat.reduceAdd] at cf
        rw [cf]
        clear cf hwf
        have f0 := (cells_of_heap kf 0 (by simp)).1
        have f1 := (cells_of_heap kf 1 (by simp)).1
        simp only [List.getElem_toArray, List.getElem_cons_zero, List.getElem_cons_succ] at f0 f1
        refine bodyPost_ret (v := .tuple #[rpv 0 (.slice none 0 0), .bool false]) (by simp [results, Tryd.results28, go_sem, f0, f1]) rfl of
    · have h15' : (15 : Int) < B := by omega
      have HRr := Lib.hid (show r = ⟨0, [], false⟩ by rw [HR2.out, if_neg (fun e => h15 e.1)])
      clear k0 k1
      go_wp2
      clear y0 q0 y1 q1
      obtain ⟨wf, hwf⟩ : ∃ x, x = putW (V) (gw) 0 [.int .i64 0, .slice none 0 0] := ⟨_, rfl⟩
      have kf := putW_all [.int .i64 0, .slice none 0 0] HG0.out rfl
      have bf := putW_below (b := gw) (by first | omega | simp) [.int .i64 0, .slice none 0 0] 0 _ HB0.out
      have of := HNil.out _ HB0.out HRr.out
      rw [← hwf] at kf bf of
      have cf := hwf.symm
      simp only [putW, Nat.reduceAdd] at cf
      rw [cf]
      clear cf hwf
      have f0 := (cells_of_heap kf 0 (by simp)).1
      have f1 := (cells_of_heap kf 1 (by simp)).1
      simp only [List.getElem_toArray, List.getElem_cons_zero, List.getElem_cons_succ] at f0 f1
      refine bodyPost_ret (v := .tuple #[rpv 0 (.slice none 0 0), .bool false]) (by simp [results, Tryd.results28, go_sem, f0, f1]) rfl of
  · have HRr := Lib.hid (show r = ⟨0, [], false⟩ by rw [HR.out, rbV, if_neg (fun e => h8 (by rw [HNL.out]; exact e.1))])
    have h8' : ¬ (n : Int) = 8 := by omega
    obtain ⟨y0, q0⟩ := cells_of_heap HG0.out 0 (by simp)
    obtain ⟨y1, q1⟩ := cells_of_heap HG0.out 1 (by simp)
    go_enter Tryd.func28, Tryd.ntmps28
    go_upto_region 1 with (fail)
    rw [← HV.out]
    clear hgw1
    go_wp2
    clear y0 q0 y1 q1
    obtain ⟨wf, hwf⟩ : ∃ x, x = putW (V) (gw) 0 [.int .i64 0, .slice none 0 0] := ⟨_, rfl⟩
    have kf := putW_all [.int .i64 0, .slice none 0 0] HG0.out rfl
    have bf := putW_below (b := gw) (by first | omega | simp) [.int .i64 0, .slice none 0 0] 0 _ HB0.out
    have of := HNil.out _ HB0.out HRr.out
    rw [← hwf] at kf bf of
    have cf := hwf.symm
    simp only [putW, Nat.reduceAdd] at cf
    rw [cf]
    clear cf hwf
    have f0 := (cells_of_heap kf 0 (by simp)).1
    have f1 := (cells_of_heap kf 1 (by simp)).1
    simp only [List.getElem_toArray, List.getElem_cons_zero, List.getElem_cons_succ] at f0 f1
    refine bodyPost_ret (v := .tuple #[rpv 0 (.slice none 0 0), .bool false]) (by simp [results, Tryd.results28, go_sem, f0, f1]) rfl of
end Go.Proofs.YtghijkpcmamebaaDoor

namespace Go.Proofs.YtghijkpcmamebaaDoor
open Go.RowKit

/-- What a function returns that makes a report. -/
def RpvO (r : Int) (zs : List Int) (w : World) (e : Ending) (w' : World) : Prop := ∃ a c fp, e = .returned (rpv r (.slice a zs.length c)) ∧ OwC w' w.heap.size (.row [.int .i64]) (.slice a zs.length c) (.row (ones zs)) fp ∧ Below w.heap.size w w'
theorem rpvO {r : Int} {zs : List Int} {w w' : World} {e : Ending} (h : RpV r zs w e w') (hl : zs.length ≤ 1048576) : RpvO r zs w e w' := by
  obtain ⟨u, he, ho, hb⟩ := h
  obtain ⟨a, c, fp, rfl, h⟩ := owC_len ho hl
  exact ⟨a, c, fp, he, h, hb⟩
theorem rofK_len (l : List Hd) : (rofK l).length ≤ 56 := by
  rw [rofK]; split
  · exact codesN_len l 56
  · simp
theorem rbV_len (bs : List Int) (rl : Int) (zl : List Int) (h : zl.length ≤ 1048576) : (rbV bs rl zl).z.length ≤ 1048576 := by
  have := bKeys_len bs 6
  rw [rbV]; split
  · rw [rbEnd]; split
    · exact h
    · split
      · show (bKeys bs 6).length ≤ 1048576; omega
      · simp
  · simp
theorem specReadBoot_law (v : Value) (bs : List Int) (rl : Int) (u : Value) (zl : List Int) (rr : Int) (rz : List Int) (rb : Bool) (hR : rbV bs rl zl = ⟨rr, rz, rb⟩) (w : World) (hl : bs.length ≤ maxLen) (hz : ∀ z ∈ bs, 0 ≤ z ∧ z < 256) (h : Rd w v (bs.map (.int .u8))) (hzl : zl.length ≤ 1048576) (hu : Rd w u (zl.map (.int .i64))) :
    Calls Tryd.prog 28 #[v, rpv rl u] w (RpTO ⟨rr, rz, rb⟩ w) := by
  have hlen := rbV_len bs rl zl hzl
  rw [hR] at hlen
  exact (specReadBoot_any v bs rl u zl w hl hz h hzl hu).mono fun _ _ hp => by rw [hR] at hp; exact rpTO hp hlen
set_option maxHeartbeats 1000000 in
set_option maxRecDepth 100000 in
theorem lawReadBoot_walk (a : Option Addr) (n cap : Nat) (zs : List Int) (rl : Int) (b : Option Addr) (m cap2 : Nat) (zl : List Int) (w : World) (hn : zs.length = n) (hm : n ≤ maxLen) (hz : ∀ z ∈ zs, 0 ≤ z ∧ z < 256) (h : Rd w (.slice a n cap) (zs.map (.int .u8))) (hn2 : zl.length = m) (hm2 : m ≤ maxLen) (h2 : Rd w (.slice b m cap2) (zl.map (.int .i64))) (hI : ∀ (v : Value) (zs : List Int) (rl : Int) (u : Value) (zl : List Int) (w' : World), Below w.heap.size w w' → zs.length ≤ maxLen → CapOk v → (∀ z ∈ zs, 0 ≤ z ∧ z < 256) → Rd w' v (zs.map (.int .u8)) → zl.length ≤ 1048576 → Rd w' u (zl.map (.int .i64)) → Calls Tryd.prog 14 #[v, rpv rl u] w' (RpTO (rbV zs rl zl) w')) : Calls Tryd.prog 7 #[.slice a n cap, rpv rl (.slice b m cap2)] w fun e w' => e = .returned (.bool true) ∧ Below w.heap.size w w' := by
  subst hn hn2
  have HR := Lib.hid h
  have HU := Lib.hid h2
  have HZB := Lib.hid hz
  have HM := Lib.hid hm
  have HM2 := Lib.hid hm2
  clear h h2 hz hm hm2
  by_cases hl : zs.length ≤ 1048576
  · have hl2 : ¬ (1048576 : Int) < (zs.length : Int) := by omega
    by_cases hl3 : zl.length ≤ 1048576
    · have hsz : (if (1048576 : Int) < (zl.length : Int) then -1 else (1048576 : Int) - (zl.length : Int)) = 1048576 - (zl.length : Int) := if_neg (by omega)
      have hsz0 : ¬ (1048576 : Int) - (zl.length : Int) < 0 := by omega
      have HSZ := Lib.hid hsz
      have HL := Lib.hid hl
      have HL3 := Lib.hid hl3
      have HZ2 := Lib.hid (show zs.length ≤ 1000000000000 by omega)
      have HZ3 := Lib.hid (show zl.length ≤ 1000000000000 by omega)
      have HZ4 := Lib.hid (show zl.length ≤ 1099511627776 by omega)
      have hlen := rbV_len zs rl zl HL3.out
      obtain ⟨⟨rr, rz, rb⟩, hR⟩ : ∃ x, rbV zs rl zl = x := ⟨_, rfl⟩
      rw [hR] at hlen
      replace hlen : rz.length ≤ 1048576 := hlen
      have HI := Lib.hid (show ∀ (v u : Value) (w' : World), Below w.heap.size w w' → CapOk v → Rd w' v (zs.map (.int .u8)) → Rd w' u (zl.map (.int .i64)) → Calls Tryd.prog 14 #[v, rpv rl u] w' (RpTO ⟨rr, rz, rb⟩ w') from fun v u w' hb hc hr hu => by rw [← hR]; exact hI v zs rl u zl w' hb HM.out hc HZB.out hr HL3.out hu)
      have HE1 := Lib.hid (show rz.length ≤ 1000000000000 by omega)
      have HE2 := Lib.hid (show rz.length ≤ 1099511627776 by omega)
      have HE3 := Lib.hid (show rz.length ≤ 1048576 by omega)
      have HRR := Lib.hid hR
      clear hI hR hlen hsz
      obtain ⟨qx, hqx⟩ : ∃ q : Int, q = 1 + (zs.length : Int) := ⟨_, rfl⟩
      obtain ⟨qy, hqy⟩ : ∃ q : Int, q = qx + (zl.length : Int) := ⟨_, rfl⟩
      obtain ⟨qr, hqr⟩ : ∃ q : Int, q = 1 + (rz.length : Int) := ⟨_, rfl⟩
      have hqy0 : ¬ qy < 0 := by omega
      have hqr0 : ¬ qr < 0 := by omega
      have HQX := Lib.hid hqx
      have HQY := Lib.hid hqy
      have HQR := Lib.hid hqr
      have HQX1 := Lib.hid (show 0 ≤ qx ∧ qx ≤ 1099511627776 by omega)
      clear hqx hqy hqr hl hl3
      obtain ⟨w0, hw0⟩ : ∃ x, x = (w.alloc (.cells #[.int .i64 rl, .slice b zl.length cap2] 35)) := ⟨_, rfl⟩
      have HB0 := Lib.hid (show Below w.heap.size w w0 by rw [hw0]; exact (Below.refl _ _).alloc (Nat.le_refl _) _)
      have Kd_0 := Lib.hid (show w0.heap[w.heap.size]? = some (.cells #[.int .i64 rl, .slice b zl.length cap2] 35 (0, 0)) by rw [hw0]; exact heap_alloc_new w _)
      have SZ0 := Lib.hid (show w0.heap.size = w.heap.size + 1 by rw [hw0]; simp)
      have HW := Lib.hid hw0
      clear hw0
      go_enter Tryd.func7, Tryd.ntmps7
      have cd0 := (cells_of_heap Kd_0.out 0 (by simp)).1
      have cd1 := (cells_of_heap Kd_0.out 1 (by simp)).1
      go_wp2_with fail
      rw [← HW.out]
      refine (szReport_any rl b zl.length cap2 1048576 _ (by omega) (by omega) HM2.out).mono ?_
      rw [HSZ.out]
      rintro e w1 ⟨rfl, hb⟩
      clear cd0 cd1
      have HB1 := Lib.hid (HB0.out.trans (hb.mono HB0.out.size))
      have HS1 := Lib.hid hb.size
      have Kd_1 := Lib.hid (blk_below Kd_0.out hb)
      clear Kd_0
      clear hb
      go_upto_region 7 with (fail)
      go_cut [6, 7] (fun sp sq wx => ∃ (y9 : Nat) (a9 : Option Addr) (c9 : Nat) (f9 : List Nat), sp = .pointer (some ⟨y9, 0, none⟩) ∧ sq = .bool rb ∧ w1.heap.size ≤ y9 ∧ y9 ∉ f9 ∧ wx.heap[y9]? = some (.cells #[.int .i64 rr, .slice a9 rz.length c9] 26 (0, 0)) ∧ OwC wx w1.heap.size (.row [.int .i64]) (.slice a9 rz.length c9) (.row (ones rz)) f9 ∧ Below w1.heap.size w1 wx)
      case first =>
        have cd0 := (cells_of_heap Kd_1.out 0 (by simp)).1
        have cd1 := (cells_of_heap Kd_1.out 1 (by simp)).1
        have ld : w.heap.size < w1.heap.size := (Array.getElem?_eq_some_iff.mp Kd_1.out).1
        have nd0 : ¬ w.heap.size = w1.heap.size := by omega
        have md0 : ¬ w1.heap.size = w.heap.size := by omega
        have X0 := Lib.hid (Below.refl w1.heap.size w1)
        go_region_held3 (fun w' => w'.cell? ⟨w.heap.size, 0, none⟩ = some (.int .i64 rl) ∧ w'.cell? ⟨w.heap.size, 1, none⟩ = some (.slice b zl.length cap2)) (first | go_keep | simp [go_sem, *])
          (first | (go_at_call 29; refine (toByteS_law _ zs _ HL.out (HR.out.below (HB1.out.trans (Below.mono (by first | exact X0.out | exact X0.out.drew | exact X0.out.drew.drew | exact X0.out.alloc X0.out.size _ | exact (X0.out.alloc X0.out.size _).drew | exact (X0.out.alloc X0.out.size _).drew.drew) HB1.out.size)))).mono ?_; rintro e v1 ⟨a7, c7, f7, rfl, hy7, hb⟩; have hbr : Below w1.heap.size w1 v1 := below_via (by first | exact X0.out | exact X0.out.drew | exact X0.out.drew.drew | exact X0.out.alloc X0.out.size _ | exact (X0.out.alloc X0.out.size _).drew | exact (X0.out.alloc X0.out.size _).drew.drew) hb; have kcd0 := (hbr.cell (p := ⟨w.heap.size, 0, none⟩) ld).trans cd0; have kcd1 := (hbr.cell (p := ⟨w.heap.size, 1, none⟩) ld).trans cd1; have nd1 : ¬ w.heap.size = v1.heap.size := (by have := hbr.size; omega); have md1 : ¬ v1.heap.size = w.heap.size := (by have := hbr.size; omega); (first | (have KY := Lib.hid (ky_new X0.out.size hb)) | (have KY := Lib.hid (ky_drew X0.out.size hb)) | (have KY := Lib.hid (ky_old KY.out hb rfl)) | skip); have HY7 := Lib.hid (hy7); have X1 := Lib.hid hbr; clear hbr hb) | (go_at_call 19; refine (toReport_law rl _ zl _ HL3.out (HU.out.below (HB1.out.trans (Below.mono (by first | exact X1.out | exact X1.out.drew | exact X1.out.drew.drew | exact X1.out.alloc X1.out.size _ | exact (X1.out.alloc X1.out.size _).drew | exact (X1.out.alloc X1.out.size _).drew.drew) HB1.out.size)))).mono ?_; rintro e v2 ⟨a8, c8, f8, rfl, hy8, hb⟩; have hbr : Below w1.heap.size w1 v2 := below_via (by first | exact X1.out | exact X1.out.drew | exact X1.out.drew.drew | exact X1.out.alloc X1.out.size _ | exact (X1.out.alloc X1.out.size _).drew | exact (X1.out.alloc X1.out.size _).drew.drew) hb; have kcd0 := (hbr.cell (p := ⟨w.heap.size, 0, none⟩) ld).trans cd0; have kcd1 := (hbr.cell (p := ⟨w.heap.size, 1, none⟩) ld).trans cd1; have nd2 : ¬ w.heap.size = v2.heap.size := (by have := hbr.size; omega); have md2 : ¬ v2.heap.size = w.heap.size := (by have := hbr.size; omega); (first | (have KY := Lib.hid (ky_new X1.out.size hb)) | (have KY := Lib.hid (ky_drew X1.out.size hb)) | (have KY := Lib.hid (ky_old KY.out hb rfl)) | skip); have HY8 := Lib.hid (hy8); have HST2 := Lib.hid (show Below v1.heap.size v1 v2 from below_via (by first | exact Below.refl _ _ | exact (Below.refl _ _).drew | exact (Below.refl _ _).drew.drew | exact (Below.refl _ _).alloc (Nat.le_refl _) _ | exact ((Below.refl _ _).alloc (Nat.le_refl _) _).drew) hb); have X2 := Lib.hid hbr; clear hbr hb) | (go_at_call 28; refine (specReadBoot_law _ zs rl _ zl rr rz rb HRR.out _ HM.out HZB.out (HY7.out.rd1.below (by first | exact HST2.out | exact HST2.out.drew | exact HST2.out.drew.drew | exact HST2.out.alloc HST2.out.size _ | exact (HST2.out.alloc HST2.out.size _).drew | exact (HST2.out.alloc HST2.out.size _).drew.drew)) HL3.out ((owC_rd HY8.out).below (by first | exact (Below.refl _ _) | exact (Below.refl _ _).drew | exact (Below.refl _ _).drew.drew | exact (Below.refl _ _).alloc (Nat.le_refl _) _ | exact ((Below.refl _ _).alloc (Nat.le_refl _) _).drew | exact ((Below.refl _ _).alloc (Nat.le_refl _) _).drew.drew))).mono ?_; rintro e v3 ⟨a9, c9, f9, rfl, h9, hb⟩; have hbr : Below w1.heap.size w1 v3 := below_via (by first | exact X2.out | exact X2.out.drew | exact X2.out.drew.drew | exact X2.out.alloc X2.out.size _ | exact (X2.out.alloc X2.out.size _).drew | exact (X2.out.alloc X2.out.size _).drew.drew) hb; have kcd0 := (hbr.cell (p := ⟨w.heap.size, 0, none⟩) ld).trans cd0; have kcd1 := (hbr.cell (p := ⟨w.heap.size, 1, none⟩) ld).trans cd1; have nd3 : ¬ w.heap.size = v3.heap.size := (by have := hbr.size; omega); have md3 : ¬ v3.heap.size = w.heap.size := (by have := hbr.size; omega); (first | (have KY := Lib.hid (ky_new X2.out.size hb)) | (have KY := Lib.hid (ky_drew X2.out.size hb)) | (have KY := Lib.hid (ky_old KY.out hb rfl)) | skip); have H9R := Lib.hid (h9.rng); have H9 := Lib.hid (OwC.base (B := w1.heap.size) _ _ _ _ h9 (Below.size (B := w1.heap.size) (w := w1) (by first | exact X2.out | exact X2.out.drew | exact X2.out.drew.drew | exact X2.out.alloc X2.out.size _ | exact (X2.out.alloc X2.out.size _).drew | exact (X2.out.alloc X2.out.size _).drew.drew))); have X3 := Lib.hid hbr; clear hbr hb; (try (have e0 := cells_of_heap KY.out.1 0 (by simp); have g0 := e0.2; replace e0 := e0.1; have e1 := cells_of_heap KY.out.1 1 (by simp); have g1 := e1.2; replace e1 := e1.1))))
        all_goals
          go_wp2
          go_meet
          first | exact ⟨v3.heap.size, _, _, _, rfl, rfl, X3.out.size, fun hm => Nat.lt_irrefl _ (H9R.out _ hm).2, heap_alloc_new _ _, H9.out.below ((Below.refl _ _).alloc (Nat.le_refl _) _), X3.out.alloc X3.out.size _⟩ | exact ⟨v3.heap.size, _, _, _, rfl, rfl, X3.out.size, fun hm => Nat.lt_irrefl _ (H9R.out _ hm).2, heap_alloc_new _ _, H9.out.below ((Below.refl _ _).alloc (Nat.le_refl _) _).drew, (X3.out.alloc X3.out.size _).drew⟩ | exact ⟨_, _, _, _, rfl, rfl, KY.out.2.2, (fun hm => Nat.lt_irrefl _ (Nat.lt_of_lt_of_le KY.out.2.1 (H9R.out _ hm).1)), putW_all [.int .i64 rr, .slice _ rz.length _] KY.out.1 rfl, H9.out.putAt [.int .i64 rr, .slice _ rz.length _] (fun hm => Nat.lt_irrefl _ (Nat.lt_of_lt_of_le KY.out.2.1 (H9R.out _ hm).1)) 0, putW_below KY.out.2.2 [.int .i64 rr, .slice _ rz.length _] 0 _ X3.out⟩ | exact ⟨_, _, _, _, rfl, rfl, KY.out.2.2, (fun hm => Nat.lt_irrefl _ (Nat.lt_of_lt_of_le KY.out.2.1 (H9R.out _ hm).1)), putW_all [.int .i64 rr, .slice _ rz.length _] KY.out.1 rfl, (H9.out.putAt [.int .i64 rr, .slice _ rz.length _] (fun hm => Nat.lt_irrefl _ (Nat.lt_of_lt_of_le KY.out.2.1 (H9R.out _ hm).1)) 0).below (Below.refl _ _).drew, (putW_below KY.out.2.2 [.int .i64 rr, .slice _ rz.length _] 0 _ X3.out).drew⟩
      case rest =>
        obtain ⟨yw, aw, cw, fw, rfl, rfl, hlw, hni, hk, hw, hb⟩ := hcut
        obtain ⟨w2, hEq⟩ : ∃ x, x = wc := ⟨_, rfl⟩
        rw [← hEq] at hk hw hb ⊢
        clear hEq
        have huw : yw < w2.heap.size := (Array.getElem?_eq_some_iff.mp hk).1
        have HB2 := Lib.hid (HB1.out.trans (hb.mono HB1.out.size))
        have HS2 := Lib.hid hb.size
        have Kd_2 := Lib.hid (blk_below Kd_1.out hb)
        clear Kd_1
        have Rw := Lib.hid hw.rng
        have Ow_2 := Lib.hid hw
        have Kw_2 := Lib.hid hk
        have NIw := Lib.hid hni
        clear hb hk hni hw
        go_wp2_with fail
        refine (toByteS_law _ zs _ HL.out (HR.out.below HB2.out)).mono ?_
        rintro e w3 ⟨a1, c1, f1, rfl, h1, hb⟩
        have HB3 := Lib.hid (HB2.out.trans (hb.mono HB2.out.size))
        have HS3 := Lib.hid hb.size
        have Kd_3 := Lib.hid (blk_below Kd_2.out hb)
        have Kw_3 := Lib.hid (blk_below Kw_2.out hb)
        have Ow_3 := Lib.hid (Ow_2.out.below hb)
        clear Kd_2 Kw_2 Ow_2
        have Rx := Lib.hid (h1.rng)
        have Ox_3 := Lib.hid h1
        clear hb h1
        have cd0 := (cells_of_heap Kd_3.out 0 (by simp)).1
        have cd1 := (cells_of_heap Kd_3.out 1 (by simp)).1
        go_wp2_with fail
        refine (toReport_law rl _ zl _ HL3.out (HU.out.below HB3.out)).mono ?_
        rintro e w4 ⟨a2, c2, f2, rfl, h2, hb⟩
        clear cd0 cd1
        have HB4 := Lib.hid (HB3.out.trans (hb.mono HB3.out.size))
        have HS4 := Lib.hid hb.size
        have Kd_4 := Lib.hid (blk_below Kd_3.out hb)
        have Kw_4 := Lib.hid (blk_below Kw_3.out hb)
        have Ow_4 := Lib.hid (Ow_3.out.below hb)
        have Ox_4 := Lib.hid (Ox_3.out.below hb)
        clear Kd_3 Kw_3 Ow_3 Ox_3
        have Rz := Lib.hid (h2.rng)
        have Oz_4 := Lib.hid h2
        clear hb h2
        go_upto_region 10 with (fail)
        obtain ⟨w5, hw⟩ : ∃ x, x = w4.alloc (.cells #[.int .i64 rl, .slice a2 zl.length c2] 26) := ⟨_, rfl⟩
        have hb : Below w4.heap.size w4 w5 := by rw [hw]; exact below_alloc1 _ _
        have hk : w5.heap[w4.heap.size]? = some (.cells #[.int .i64 rl, .slice a2 zl.length c2] 26 (0, 0)) := by rw [hw]; exact heap_alloc_new _ _
        rw [← hw]
        have HB5 := Lib.hid (HB4.out.trans (hb.mono HB4.out.size))
        have HS5 := Lib.hid (show w4.heap.size < w5.heap.size from (Array.getElem?_eq_some_iff.mp hk).1)
        have Kd_5 := Lib.hid (blk_below Kd_4.out hb)
        have Kw_5 := Lib.hid (blk_below Kw_4.out hb)
        have Ow_5 := Lib.hid (Ow_4.out.below hb)
        have Ox_5 := Lib.hid (Ox_4.out.below hb)
        have Oz_5 := Lib.hid (Oz_4.out.below hb)
        clear Kd_4 Kw_4 Ow_4 Ox_4 Oz_4
        have Kz_5 := Lib.hid hk
        clear hb hk hw
        have cz0 := (cells_of_heap Kz_5.out 0 (by simp)).1
        have cz1 := (cells_of_heap Kz_5.out 1 (by simp)).1
        go_wp2_with fail
        refine (HI.out _ _ _ HB5.out (capOk_of Ox_5.out) Ox_5.out.rd1 (owC_rd Oz_5.out)).mono ?_
        rintro e w6 ⟨a4, c4, f4, rfl, h4, hb⟩
        clear cz0 cz1
        have HB6 := Lib.hid (HB5.out.trans (hb.mono HB5.out.size))
        have HS6 := Lib.hid hb.size
        have Kd_6 := Lib.hid (blk_below Kd_5.out hb)
        have Kw_6 := Lib.hid (blk_below Kw_5.out hb)
        have Kz_6 := Lib.hid (blk_below Kz_5.out hb)
        have Ow_6 := Lib.hid (Ow_5.out.below hb)
        have Ox_6 := Lib.hid (Ox_5.out.below hb)
        have Oz_6 := Lib.hid (Oz_5.out.below hb)
        clear Kd_5 Kw_5 Kz_5 Ow_5 Ox_5 Oz_5
        have Rg := Lib.hid (h4.rng)
        have Og_6 := Lib.hid h4
        clear hb h4
        go_upto_region 11 with (fail)
        obtain ⟨w7, hw⟩ : ∃ x, x = w6.alloc (.cells #[.int .i64 rr, .slice a4 rz.length c4] 26) := ⟨_, rfl⟩
        have hb : Below w6.heap.size w6 w7 := by rw [hw]; exact below_alloc1 _ _
        have hk : w7.heap[w6.heap.size]? = some (.cells #[.int .i64 rr, .slice a4 rz.length c4] 26 (0, 0)) := by rw [hw]; exact heap_alloc_new _ _
        rw [← hw]
        have HB7 := Lib.hid (HB6.out.trans (hb.mono HB6.out.size))
        have HS7 := Lib.hid (show w6.heap.size < w7.heap.size from (Array.getElem?_eq_some_iff.mp hk).1)
        have Kd_7 := Lib.hid (blk_below Kd_6.out hb)
        have Kw_7 := Lib.hid (blk_below Kw_6.out hb)
        have Kz_7 := Lib.hid (blk_below Kz_6.out hb)
        have Ow_7 := Lib.hid (Ow_6.out.below hb)
        have Ox_7 := Lib.hid (Ox_6.out.below hb)
        have Oz_7 := Lib.hid (Oz_6.out.below hb)
        have Og_7 := Lib.hid (Og_6.out.below hb)
        clear Kd_6 Kw_6 Kz_6 Ow_6 Ox_6 Oz_6 Og_6
        have Kg_7 := Lib.hid hk
        clear hb hk hw
        have cg0 := (cells_of_heap Kg_7.out 0 (by simp)).1
        have cg1 := (cells_of_heap Kg_7.out 1 (by simp)).1
        have cw0 := (cells_of_heap Kw_7.out 0 (by simp)).1
        have cw1 := (cells_of_heap Kw_7.out 1 (by simp)).1
        go_wp2_with fail
        refine (eqReport_same rr _ _ rz _ HE1.out (owC_rd Og_7.out) (owC_rd Ow_7.out)).mono ?_
        rintro e w8 ⟨rfl, hb⟩
        clear cg0 cg1 cw0 cw1
        have HB8 := Lib.hid (HB7.out.trans (hb.mono HB7.out.size))
        have HS8 := Lib.hid hb.size
        have Kd_8 := Lib.hid (blk_below Kd_7.out hb)
        have Kw_8 := Lib.hid (blk_below Kw_7.out hb)
        have Kz_8 := Lib.hid (blk_below Kz_7.out hb)
        have Kg_8 := Lib.hid (blk_below Kg_7.out hb)
        have Ow_8 := Lib.hid (Ow_7.out.below hb)
        have Ox_8 := Lib.hid (Ox_7.out.below hb)
        have Oz_8 := Lib.hid (Oz_7.out.below hb)
        have Og_8 := Lib.hid (Og_7.out.below hb)
        clear Kd_7 Kw_7 Kz_7 Kg_7 Ow_7 Ox_7 Oz_7 Og_7
        clear hb
        go_wp2_with fail
        refine (toByteS_law _ zs _ HL.out (HR.out.below HB8.out)).mono ?_
        rintro e w9 ⟨a5, c5, f5, rfl, h5, hb⟩
        have HB9 := Lib.hid (HB8.out.trans (hb.mono HB8.out.size))
        have HS9 := Lib.hid hb.size
        have Kd_9 := Lib.hid (blk_below Kd_8.out hb)
        have Kw_9 := Lib.hid (blk_below Kw_8.out hb)
        have Kz_9 := Lib.hid (blk_below Kz_8.out hb)
        have Kg_9 := Lib.hid (blk_below Kg_8.out hb)
        have Ow_9 := Lib.hid (Ow_8.out.below hb)
        have Ox_9 := Lib.hid (Ox_8.out.below hb)
        have Oz_9 := Lib.hid (Oz_8.out.below hb)
        have Og_9 := Lib.hid (Og_8.out.below hb)
        clear Kd_8 Kw_8 Kz_8 Kg_8 Ow_8 Ox_8 Oz_8 Og_8
        have Ry := Lib.hid (h5.rng)
        have Oy_9 := Lib.hid h5
        clear hb h5
        go_wp2_with fail
        refine (eqByteS_same _ _ zs _ HZ2.out Ox_9.out.rd1 Oy_9.out.rd1).mono ?_
        rintro e w10 ⟨rfl, hb⟩
        have HB10 := Lib.hid (HB9.out.trans (hb.mono HB9.out.size))
        have HS10 := Lib.hid hb.size
        have Kd_10 := Lib.hid (blk_below Kd_9.out hb)
        have Kw_10 := Lib.hid (blk_below Kw_9.out hb)
        have Kz_10 := Lib.hid (blk_below Kz_9.out hb)
        have Kg_10 := Lib.hid (blk_below Kg_9.out hb)
        have Ow_10 := Lib.hid (Ow_9.out.below hb)
        have Ox_10 := Lib.hid (Ox_9.out.below hb)
        have Oz_10 := Lib.hid (Oz_9.out.below hb)
        have Og_10 := Lib.hid (Og_9.out.below hb)
        have Oy_10 := Lib.hid (Oy_9.out.below hb)
        clear Kd_9 Kw_9 Kz_9 Kg_9 Ow_9 Ox_9 Oz_9 Og_9 Oy_9
        clear hb
        go_upto_region 15 with (fail)
        go_cut [61] (fun sd wx => sd = .bool false ∧ Below w10.heap.size w10 wx)
        case first =>
          have cd0 := (cells_of_heap Kd_10.out 0 (by simp)).1
          have cd1 := (cells_of_heap Kd_10.out 1 (by simp)).1
          have cz0 := (cells_of_heap Kz_10.out 0 (by simp)).1
          have cz1 := (cells_of_heap Kz_10.out 1 (by simp)).1
          have ld : w.heap.size < w10.heap.size := (Array.getElem?_eq_some_iff.mp Kd_10.out).1
          have lz : w4.heap.size < w10.heap.size := (Array.getElem?_eq_some_iff.mp Kz_10.out).1
          go_region_held3 (fun w' => w'.cell? ⟨w.heap.size, 0, none⟩ = some (.int .i64 rl) ∧ w'.cell? ⟨w.heap.size, 1, none⟩ = some (.slice b zl.length cap2) ∧ w'.cell? ⟨w4.heap.size, 0, none⟩ = some (.int .i64 rl) ∧ w'.cell? ⟨w4.heap.size, 1, none⟩ = some (.slice a2 zl.length c2)) (first | go_keep)
            (first | (go_at_call 19; refine (toReport_law rl _ zl _ HL3.out (HU.out.below (by first | exact HB10.out | exact HB10.out.drew | exact HB10.out.drew.drew))).mono ?_; rintro e v1 ⟨a3, c3, f3, rfl, hy, hb1⟩; have hbr : Below w10.heap.size w10 v1 := (by first | exact hb1 | exact ((Below.refl _ _).drew).trans hb1 | exact ((Below.refl _ _).drew.drew).trans hb1); have kcd0 := (hbr.cell (p := ⟨w.heap.size, 0, none⟩) ld).trans cd0; have kcd1 := (hbr.cell (p := ⟨w.heap.size, 1, none⟩) ld).trans cd1; have kcz0 := (hbr.cell (p := ⟨w4.heap.size, 0, none⟩) lz).trans cz0; have kcz1 := (hbr.cell (p := ⟨w4.heap.size, 1, none⟩) lz).trans cz1; have HBR := Lib.hid hbr; have HY := Lib.hid hy; clear hbr hb1 hy) | (go_at_call 20; refine (eqReport_same rl _ _ zl _ HZ3.out ((owC_rd Oz_10.out).below (by first | exact HBR.out | exact HBR.out.drew | exact HBR.out.drew.drew)) ((owC_rd HY.out).below (by first | exact Below.refl _ _ | exact (Below.refl _ _).drew | exact (Below.refl _ _).drew.drew))).mono ?_; rintro e v2 ⟨rfl, hb2⟩; have hbr : Below w10.heap.size w10 v2 := (by first | exact HBR.out.trans (hb2.mono HBR.out.size) | exact HBR.out.trans (((Below.refl _ _).drew.trans hb2).mono HBR.out.size) | exact HBR.out.trans (((Below.refl _ _).drew.drew.trans hb2).mono HBR.out.size)); have kcd0 := (hbr.cell (p := ⟨w.heap.size, 0, none⟩) ld).trans cd0; have kcd1 := (hbr.cell (p := ⟨w.heap.size, 1, none⟩) ld).trans cd1; have kcz0 := (hbr.cell (p := ⟨w4.heap.size, 0, none⟩) lz).trans cz0; have kcz1 := (hbr.cell (p := ⟨w4.heap.size, 1, none⟩) lz).trans cz1; have HB2 := Lib.hid hbr; clear hbr hb2))
          all_goals
            go_wp2
            go_meet
            exact ⟨rfl, by first | exact HB2.out | exact HB2.out.drew⟩
        case rest =>
          obtain ⟨rfl, hb⟩ := hcut
          obtain ⟨w11, hw⟩ : ∃ x, x = wc := ⟨_, rfl⟩
          rw [← hw] at hb ⊢
          clear hw
          have HB11 := Lib.hid (HB10.out.trans (hb.mono HB10.out.size))
          have HS11 := Lib.hid hb.size
          have Kd_11 := Lib.hid (blk_below Kd_10.out hb)
          have Kw_11 := Lib.hid (blk_below Kw_10.out hb)
          have Kz_11 := Lib.hid (blk_below Kz_10.out hb)
          have Kg_11 := Lib.hid (blk_below Kg_10.out hb)
          have Ow_11 := Lib.hid (Ow_10.out.below hb)
          have Ox_11 := Lib.hid (Ox_10.out.below hb)
          have Oz_11 := Lib.hid (Oz_10.out.below hb)
          have Og_11 := Lib.hid (Og_10.out.below hb)
          have Oy_11 := Lib.hid (Oy_10.out.below hb)
          clear Kd_10 Kw_10 Kz_10 Kg_10 Ow_10 Ox_10 Oz_10 Og_10 Oy_10
          clear hb
          go_wp2_with fail
          refine (markByteS_law _ _ zs _ 1 qx HQX.out _ HL.out (by decide) (by decide) Ox_11.out).mono ?_
          rintro e w12 ⟨rfl, ho, ht⟩
          have HB12 := Lib.hid (HB11.out.trans (ht.below (fun b hb => by have := Rx.out b hb; have := HB2.out.size; omega) HB11.out.size))
          have HS12 := Lib.hid ht.size
          have Kd_12 := Lib.hid (blk_turn Kd_11.out ht (fun hm => by have := Rx.out _ hm; have := HS1.out; have := HS2.out; have := SZ0.out; omega))
          have Kw_12 := Lib.hid (blk_turn Kw_11.out ht (fun hm => by have := Rx.out _ hm; have := HS2.out; have := SZ0.out; omega))
          have Kz_12 := Lib.hid (blk_turn Kz_11.out ht (fun hm => by have := Rx.out _ hm; have := HS4.out; have := SZ0.out; omega))
          have Kg_12 := Lib.hid (blk_turn Kg_11.out ht (fun hm => by have := Rx.out _ hm; have := HS4.out; have := HS5.out; have := HS6.out; have := SZ0.out; omega))
          have Ow_12 := Lib.hid (Ow_11.out.turn ht (fun b hb hb' => by have := Rx.out b hb'; have := Rw.out b hb; have := SZ0.out; omega))
          have Oz_12 := Lib.hid (Oz_11.out.turn ht (fun b hb hb' => by have := Rx.out b hb'; have := Rz.out b hb; have := SZ0.out; omega))
          have Og_12 := Lib.hid (Og_11.out.turn ht (fun b hb hb' => by have := Rx.out b hb'; have := Rg.out b hb; have := HS4.out; have := HS5.out; have := SZ0.out; omega))
          have Oy_12 := Lib.hid (Oy_11.out.turn ht (fun b hb hb' => by have := Rx.out b hb'; have := Ry.out b hb; have := HS4.out; have := HS5.out; have := HS6.out; have := HS7.out; have := HS8.out; have := SZ0.out; omega))
          have Ox_12 := Lib.hid ho
          clear ho ht Kd_11 Kw_11 Kz_11 Kg_11 Ow_11 Ox_11 Oz_11 Og_11 Oy_11
          have cz0 := (cells_of_heap Kz_12.out 0 (by simp)).1
          have cz1 := (cells_of_heap Kz_12.out 1 (by simp)).1
          go_wp2_with fail
          refine (markReport_q _ rl _ zl _ qx qy HQY.out _ HZ4.out HQX1.out.1 HQX1.out.2 Oz_12.out).mono ?_
          rintro e w13 ⟨rfl, ho, ht⟩
          clear cz0 cz1
          have HB13 := Lib.hid (HB12.out.trans (ht.below (fun b hb => by have := Rz.out b hb; have := HB3.out.size; omega) HB12.out.size))
          have HS13 := Lib.hid ht.size
          have Kd_13 := Lib.hid (blk_turn Kd_12.out ht (fun hm => by have := Rz.out _ hm; have := HS1.out; have := HS2.out; have := HS3.out; have := SZ0.out; omega))
          have Kw_13 := Lib.hid (blk_turn Kw_12.out ht (fun hm => by have := Rz.out _ hm; have := HS2.out; have := HS3.out; have := SZ0.out; omega))
          have Kz_13 := Lib.hid (blk_turn Kz_12.out ht (fun hm => by have := Rz.out _ hm; have := SZ0.out; omega))
          have Kg_13 := Lib.hid (blk_turn Kg_12.out ht (fun hm => by have := Rz.out _ hm; have := HS5.out; have := HS6.out; have := SZ0.out; omega))
          have Ow_13 := Lib.hid (Ow_12.out.turn ht (fun b hb hb' => by have := Rz.out b hb'; have := Rw.out b hb; have := HS3.out; have := SZ0.out; omega))
          have Ox_13 := Lib.hid (Ox_12.out.turn ht (fun b hb hb' => by have := Rz.out b hb'; have := Rx.out b hb; have := SZ0.out; omega))
          have Og_13 := Lib.hid (Og_12.out.turn ht (fun b hb hb' => by have := Rz.out b hb'; have := Rg.out b hb; have := HS5.out; have := SZ0.out; omega))
          have Oy_13 := Lib.hid (Oy_12.out.turn ht (fun b hb hb' => by have := Rz.out b hb'; have := Ry.out b hb; have := HS5.out; have := HS6.out; have := HS7.out; have := HS8.out; have := SZ0.out; omega))
          have Oz_13 := Lib.hid ho
          clear ho ht Kd_12 Kw_12 Kz_12 Kg_12 Ow_12 Ox_12 Oz_12 Og_12 Oy_12
          have cg0 := (cells_of_heap Kg_13.out 0 (by simp)).1
          have cg1 := (cells_of_heap Kg_13.out 1 (by simp)).1
          have cw0 := (cells_of_heap Kw_13.out 0 (by simp)).1
          have cw1 := (cells_of_heap Kw_13.out 1 (by simp)).1
          go_wp2_with fail
          refine (eqReport_same rr _ _ rz _ HE1.out (owC_rd Og_13.out) (owC_rd Ow_13.out)).mono ?_
          rintro e w14 ⟨rfl, hb⟩
          clear cg0 cg1 cw0 cw1
          have HB14 := Lib.hid (HB13.out.trans (hb.mono HB13.out.size))
          have HS14 := Lib.hid hb.size
          have Kd_14 := Lib.hid (blk_below Kd_13.out hb)
          have Kw_14 := Lib.hid (blk_below Kw_13.out hb)
          have Kz_14 := Lib.hid (blk_below Kz_13.out hb)
          have Kg_14 := Lib.hid (blk_below Kg_13.out hb)
          have Ow_14 := Lib.hid (Ow_13.out.below hb)
          have Ox_14 := Lib.hid (Ox_13.out.below hb)
          have Oz_14 := Lib.hid (Oz_13.out.below hb)
          have Og_14 := Lib.hid (Og_13.out.below hb)
          have Oy_14 := Lib.hid (Oy_13.out.below hb)
          clear Kd_13 Kw_13 Kz_13 Kg_13 Ow_13 Ox_13 Oz_13 Og_13 Oy_13
          clear hb
          have cg0 := (cells_of_heap Kg_14.out 0 (by simp)).1
          have cg1 := (cells_of_heap Kg_14.out 1 (by simp)).1
          go_wp2_with fail
          refine (markReport_q _ rr _ rz _ 1 qr HQR.out _ HE2.out (by decide) (by decide) Og_14.out).mono ?_
          rintro e w15 ⟨rfl, ho, ht⟩
          clear cg0 cg1
          have HB15 := Lib.hid (HB14.out.trans (ht.below (fun b hb => by have := Rg.out b hb; have := HB5.out.size; omega) HB14.out.size))
          have HS15 := Lib.hid ht.size
          have Kd_15 := Lib.hid (blk_turn Kd_14.out ht (fun hm => by have := Rg.out _ hm; have := HS1.out; have := HS2.out; have := HS3.out; have := HS4.out; have := HS5.out; have := SZ0.out; omega))
          have Kw_15 := Lib.hid (blk_turn Kw_14.out ht (fun hm => by have := Rg.out _ hm; have := HS2.out; have := HS3.out; have := HS4.out; have := HS5.out; have := SZ0.out; omega))
          have Kz_15 := Lib.hid (blk_turn Kz_14.out ht (fun hm => by have := Rg.out _ hm; have := HS5.out; have := SZ0.out; omega))
          have Kg_15 := Lib.hid (blk_turn Kg_14.out ht (fun hm => by have := Rg.out _ hm; have := SZ0.out; omega))
          have Ow_15 := Lib.hid (Ow_14.out.turn ht (fun b hb hb' => by have := Rg.out b hb'; have := Rw.out b hb; have := HS3.out; have := HS4.out; have := HS5.out; have := SZ0.out; omega))
          have Ox_15 := Lib.hid (Ox_14.out.turn ht (fun b hb hb' => by have := Rg.out b hb'; have := Rx.out b hb; have := HS4.out; have := HS5.out; have := SZ0.out; omega))
          have Oz_15 := Lib.hid (Oz_14.out.turn ht (fun b hb hb' => by have := Rg.out b hb'; have := Rz.out b hb; have := HS5.out; have := SZ0.out; omega))
          have Oy_15 := Lib.hid (Oy_14.out.turn ht (fun b hb hb' => by have := Rg.out b hb'; have := Ry.out b hb; have := HS7.out; have := HS8.out; have := SZ0.out; omega))
          have Og_15 := Lib.hid ho
          clear ho ht Kd_14 Kw_14 Kz_14 Kg_14 Ow_14 Ox_14 Oz_14 Og_14 Oy_14
          have cg0 := (cells_of_heap Kg_15.out 0 (by simp)).1
          have cg1 := (cells_of_heap Kg_15.out 1 (by simp)).1
          go_wp2_with fail
          refine (heldReport_q rr _ rz.length 1 qr HQR.out _ HE3.out (by decide) (by decide) (owC_marks Og_15.out)).mono ?_
          rintro e w16 ⟨rfl, hb⟩
          clear cg0 cg1
          have HB16 := Lib.hid (HB15.out.trans (hb.mono HB15.out.size))
          have HS16 := Lib.hid hb.size
          have Kd_16 := Lib.hid (blk_below Kd_15.out hb)
          have Kw_16 := Lib.hid (blk_below Kw_15.out hb)
          have Kz_16 := Lib.hid (blk_below Kz_15.out hb)
          have Kg_16 := Lib.hid (blk_below Kg_15.out hb)
          have Ow_16 := Lib.hid (Ow_15.out.below hb)
          have Ox_16 := Lib.hid (Ox_15.out.below hb)
          have Oz_16 := Lib.hid (Oz_15.out.below hb)
          have Og_16 := Lib.hid (Og_15.out.below hb)
          have Oy_16 := Lib.hid (Oy_15.out.below hb)
          clear Kd_15 Kw_15 Kz_15 Kg_15 Ow_15 Ox_15 Oz_15 Og_15 Oy_15
          clear hb
          go_upto_region 30 with (fail)
          go_cut [15, 16] (fun sp sq wx => ∃ (y9 : Nat) (a9 : Option Addr) (c9 : Nat) (f9 : List Nat), sp = .pointer (some ⟨y9, 0, none⟩) ∧ sq = .bool rb ∧ w16.heap.size ≤ y9 ∧ y9 ∉ f9 ∧ wx.heap[y9]? = some (.cells #[.int .i64 rr, .slice a9 rz.length c9] 26 (0, 0)) ∧ OwC wx w16.heap.size (.row [.int .i64]) (.slice a9 rz.length c9) (.row (ones rz)) f9 ∧ Below w16.heap.size w16 wx)
          case first =>
            have cd0 := (cells_of_heap Kd_16.out 0 (by simp)).1
            have cd1 := (cells_of_heap Kd_16.out 1 (by simp)).1
            have ld : w.heap.size < w16.heap.size := (Array.getElem?_eq_some_iff.mp Kd_16.out).1
            have nd0 : ¬ w.heap.size = w16.heap.size := by omega
            have md0 : ¬ w16.heap.size = w.heap.size := by omega
            have X0 := Lib.hid (Below.refl w16.heap.size w16)
            go_region_held3 (fun w' => w'.cell? ⟨w.heap.size, 0, none⟩ = some (.int .i64 rl) ∧ w'.cell? ⟨w.heap.size, 1, none⟩ = some (.slice b zl.length cap2)) (first | go_keep | simp [go_sem, *])
              (first | (go_at_call 29; refine (toByteS_law _ zs _ HL.out (HR.out.below (HB16.out.trans (Below.mono (by first | exact X0.out | exact X0.out.drew | exact X0.out.drew.drew | exact X0.out.alloc X0.out.size _ | exact (X0.out.alloc X0.out.size _).drew | exact (X0.out.alloc X0.out.size _).drew.drew) HB16.out.size)))).mono ?_; rintro e v1 ⟨a7, c7, f7, rfl, hy7, hb⟩; have hbr : Below w16.heap.size w16 v1 := below_via (by first | exact X0.out | exact X0.out.drew | exact X0.out.drew.drew | exact X0.out.alloc X0.out.size _ | exact (X0.out.alloc X0.out.size _).drew | exact (X0.out.alloc X0.out.size _).drew.drew) hb; have kcd0 := (hbr.cell (p := ⟨w.heap.size, 0, none⟩) ld).trans cd0; have kcd1 := (hbr.cell (p := ⟨w.heap.size, 1, none⟩) ld).trans cd1; have nd1 : ¬ w.heap.size = v1.heap.size := (by have := hbr.size; omega); have md1 : ¬ v1.heap.size = w.heap.size := (by have := hbr.size; omega); (first | (have KY := Lib.hid (ky_new X0.out.size hb)) | (have KY := Lib.hid (ky_drew X0.out.size hb)) | (have KY := Lib.hid (ky_old KY.out hb rfl)) | skip); have HY7 := Lib.hid (hy7); have X1 := Lib.hid hbr; clear hbr hb) | (go_at_call 19; refine (toReport_law rl _ zl _ HL3.out (HU.out.below (HB16.out.trans (Below.mono (by first | exact X1.out | exact X1.out.drew | exact X1.out.drew.drew | exact X1.out.alloc X1.out.size _ | exact (X1.out.alloc X1.out.size _).drew | exact (X1.out.alloc X1.out.size _).drew.drew) HB16.out.size)))).mono ?_; rintro e v2 ⟨a8, c8, f8, rfl, hy8, hb⟩; have hbr : Below w16.heap.size w16 v2 := below_via (by first | exact X1.out | exact X1.out.drew | exact X1.out.drew.drew | exact X1.out.alloc X1.out.size _ | exact (X1.out.alloc X1.out.size _).drew | exact (X1.out.alloc X1.out.size _).drew.drew) hb; have kcd0 := (hbr.cell (p := ⟨w.heap.size, 0, none⟩) ld).trans cd0; have kcd1 := (hbr.cell (p := ⟨w.heap.size, 1, none⟩) ld).trans cd1; have nd2 : ¬ w.heap.size = v2.heap.size := (by have := hbr.size; omega); have md2 : ¬ v2.heap.size = w.heap.size := (by have := hbr.size; omega); (first | (have KY := Lib.hid (ky_new X1.out.size hb)) | (have KY := Lib.hid (ky_drew X1.out.size hb)) | (have KY := Lib.hid (ky_old KY.out hb rfl)) | skip); have HY8 := Lib.hid (hy8); have HST2 := Lib.hid (show Below v1.heap.size v1 v2 from below_via (by first | exact Below.refl _ _ | exact (Below.refl _ _).drew | exact (Below.refl _ _).drew.drew | exact (Below.refl _ _).alloc (Nat.le_refl _) _ | exact ((Below.refl _ _).alloc (Nat.le_refl _) _).drew) hb); have X2 := Lib.hid hbr; clear hbr hb) | (go_at_call 14; refine (HI.out _ _ _ (HB16.out.trans (Below.mono (by first | exact X2.out | exact X2.out.drew | exact X2.out.drew.drew | exact X2.out.alloc X2.out.size _ | exact (X2.out.alloc X2.out.size _).drew | exact (X2.out.alloc X2.out.size _).drew.drew) HB16.out.size)) (capOk_of HY7.out) (HY7.out.rd1.below (by first | exact HST2.out | exact HST2.out.drew | exact HST2.out.drew.drew | exact HST2.out.alloc HST2.out.size _ | exact (HST2.out.alloc HST2.out.size _).drew | exact (HST2.out.alloc HST2.out.size _).drew.drew)) ((owC_rd HY8.out).below (by first | exact (Below.refl _ _) | exact (Below.refl _ _).drew | exact (Below.refl _ _).drew.drew | exact (Below.refl _ _).alloc (Nat.le_refl _) _ | exact ((Below.refl _ _).alloc (Nat.le_refl _) _).drew | exact ((Below.refl _ _).alloc (Nat.le_refl _) _).drew.drew))).mono ?_; rintro e v3 ⟨a9, c9, f9, rfl, h9, hb⟩; have hbr : Below w16.heap.size w16 v3 := below_via (by first | exact X2.out | exact X2.out.drew | exact X2.out.drew.drew | exact X2.out.alloc X2.out.size _ | exact (X2.out.alloc X2.out.size _).drew | exact (X2.out.alloc X2.out.size _).drew.drew) hb; have kcd0 := (hbr.cell (p := ⟨w.heap.size, 0, none⟩) ld).trans cd0; have kcd1 := (hbr.cell (p := ⟨w.heap.size, 1, none⟩) ld).trans cd1; have nd3 : ¬ w.heap.size = v3.heap.size := (by have := hbr.size; omega); have md3 : ¬ v3.heap.size = w.heap.size := (by have := hbr.size; omega); (first | (have KY := Lib.hid (ky_new X2.out.size hb)) | (have KY := Lib.hid (ky_drew X2.out.size hb)) | (have KY := Lib.hid (ky_old KY.out hb rfl)) | skip); have H9R := Lib.hid (h9.rng); have H9 := Lib.hid (OwC.base (B := w16.heap.size) _ _ _ _ h9 (Below.size (B := w16.heap.size) (w := w16) (by first | exact X2.out | exact X2.out.drew | exact X2.out.drew.drew | exact X2.out.alloc X2.out.size _ | exact (X2.out.alloc X2.out.size _).drew | exact (X2.out.alloc X2.out.size _).drew.drew))); have X3 := Lib.hid hbr; clear hbr hb; (try (have e0 := cells_of_heap KY.out.1 0 (by simp); have g0 := e0.2; replace e0 := e0.1; have e1 := cells_of_heap KY.out.1 1 (by simp); have g1 := e1.2; replace e1 := e1.1))))
            all_goals
              go_wp2
              go_meet
              first | exact ⟨v3.heap.size, _, _, _, rfl, rfl, X3.out.size, fun hm => Nat.lt_irrefl _ (H9R.out _ hm).2, heap_alloc_new _ _, H9.out.below ((Below.refl _ _).alloc (Nat.le_refl _) _), X3.out.alloc X3.out.size _⟩ | exact ⟨v3.heap.size, _, _, _, rfl, rfl, X3.out.size, fun hm => Nat.lt_irrefl _ (H9R.out _ hm).2, heap_alloc_new _ _, H9.out.below ((Below.refl _ _).alloc (Nat.le_refl _) _).drew, (X3.out.alloc X3.out.size _).drew⟩ | exact ⟨_, _, _, _, rfl, rfl, KY.out.2.2, (fun hm => Nat.lt_irrefl _ (Nat.lt_of_lt_of_le KY.out.2.1 (H9R.out _ hm).1)), putW_all [.int .i64 rr, .slice _ rz.length _] KY.out.1 rfl, H9.out.putAt [.int .i64 rr, .slice _ rz.length _] (fun hm => Nat.lt_irrefl _ (Nat.lt_of_lt_of_le KY.out.2.1 (H9R.out _ hm).1)) 0, putW_below KY.out.2.2 [.int .i64 rr, .slice _ rz.length _] 0 _ X3.out⟩ | exact ⟨_, _, _, _, rfl, rfl, KY.out.2.2, (fun hm => Nat.lt_irrefl _ (Nat.lt_of_lt_of_le KY.out.2.1 (H9R.out _ hm).1)), putW_all [.int .i64 rr, .slice _ rz.length _] KY.out.1 rfl, (H9.out.putAt [.int .i64 rr, .slice _ rz.length _] (fun hm => Nat.lt_irrefl _ (Nat.lt_of_lt_of_le KY.out.2.1 (H9R.out _ hm).1)) 0).below (Below.refl _ _).drew, (putW_below KY.out.2.2 [.int .i64 rr, .slice _ rz.length _] 0 _ X3.out).drew⟩
          case rest =>
            obtain ⟨yh, ah, ch, fh, rfl, rfl, hlh, hni, hk, hh, hb⟩ := hcut
            obtain ⟨w17, hEq⟩ : ∃ x, x = wc := ⟨_, rfl⟩
            rw [← hEq] at hk hh hb ⊢
            clear hEq
            have huh : yh < w17.heap.size := (Array.getElem?_eq_some_iff.mp hk).1
            have HB17 := Lib.hid (HB16.out.trans (hb.mono HB16.out.size))
            have HS17 := Lib.hid hb.size
            have Kd_17 := Lib.hid (blk_below Kd_16.out hb)
            have Kw_17 := Lib.hid (blk_below Kw_16.out hb)
            have Kz_17 := Lib.hid (blk_below Kz_16.out hb)
            have Kg_17 := Lib.hid (blk_below Kg_16.out hb)
            have Ow_17 := Lib.hid (Ow_16.out.below hb)
            have Ox_17 := Lib.hid (Ox_16.out.below hb)
            have Oz_17 := Lib.hid (Oz_16.out.below hb)
            have Og_17 := Lib.hid (Og_16.out.below hb)
            have Oy_17 := Lib.hid (Oy_16.out.below hb)
            clear Kd_16 Kw_16 Kz_16 Kg_16 Ow_16 Ox_16 Oz_16 Og_16 Oy_16
            have Rh := Lib.hid hh.rng
            have Oh_17 := Lib.hid hh
            have Kh_17 := Lib.hid hk
            have NIh := Lib.hid hni
            clear hb hk hni hh
            have ch0 := (cells_of_heap Kh_17.out 0 (by simp)).1
            have ch1 := (cells_of_heap Kh_17.out 1 (by simp)).1
            have cw0 := (cells_of_heap Kw_17.out 0 (by simp)).1
            have cw1 := (cells_of_heap Kw_17.out 1 (by simp)).1
            go_wp2_with fail
            refine (eqReport_same rr _ _ rz _ HE1.out (owC_rd Oh_17.out) (owC_rd Ow_17.out)).mono ?_
            rintro e w18 ⟨rfl, hb⟩
            clear ch0 ch1 cw0 cw1
            have HB18 := Lib.hid (HB17.out.trans (hb.mono HB17.out.size))
            have HS18 := Lib.hid hb.size
            have Kd_18 := Lib.hid (blk_below Kd_17.out hb)
            have Kw_18 := Lib.hid (blk_below Kw_17.out hb)
            have Kz_18 := Lib.hid (blk_below Kz_17.out hb)
            have Kg_18 := Lib.hid (blk_below Kg_17.out hb)
            have Kh_18 := Lib.hid (blk_below Kh_17.out hb)
            have Ow_18 := Lib.hid (Ow_17.out.below hb)
            have Ox_18 := Lib.hid (Ox_17.out.below hb)
            have Oz_18 := Lib.hid (Oz_17.out.below hb)
            have Og_18 := Lib.hid (Og_17.out.below hb)
            have Oy_18 := Lib.hid (Oy_17.out.below hb)
            have Oh_18 := Lib.hid (Oh_17.out.below hb)
            clear Kd_17 Kw_17 Kz_17 Kg_17 Kh_17 Ow_17 Ox_17 Oz_17 Og_17 Oy_17 Oh_17
            clear hb
            have cg0 := (cells_of_heap Kg_18.out 0 (by simp)).1
            have cg1 := (cells_of_heap Kg_18.out 1 (by simp)).1
            go_wp2_with fail
            refine (heldReport_q rr _ rz.length 1 qr HQR.out _ HE3.out (by decide) (by decide) (owC_marks Og_18.out)).mono ?_
            rintro e w19 ⟨rfl, hb⟩
            clear cg0 cg1
            have HB19 := Lib.hid (HB18.out.trans (hb.mono HB18.out.size))
            have HS19 := Lib.hid hb.size
            have Kd_19 := Lib.hid (blk_below Kd_18.out hb)
            have Kw_19 := Lib.hid (blk_below Kw_18.out hb)
            have Kz_19 := Lib.hid (blk_below Kz_18.out hb)
            have Kg_19 := Lib.hid (blk_below Kg_18.out hb)
            have Kh_19 := Lib.hid (blk_below Kh_18.out hb)
            have Ow_19 := Lib.hid (Ow_18.out.below hb)
            have Ox_19 := Lib.hid (Ox_18.out.below hb)
            have Oz_19 := Lib.hid (Oz_18.out.below hb)
            have Og_19 := Lib.hid (Og_18.out.below hb)
            have Oy_19 := Lib.hid (Oy_18.out.below hb)
            have Oh_19 := Lib.hid (Oh_18.out.below hb)
            clear Kd_18 Kw_18 Kz_18 Kg_18 Kh_18 Ow_18 Ox_18 Oz_18 Og_18 Oy_18 Oh_18
            clear hb
            go_wp2
            go_ret
            exact ⟨rfl, HB19.out⟩
    · have hsz : (if (1048576 : Int) < (zl.length : Int) then -1 else (1048576 : Int) - (zl.length : Int)) = -1 := if_pos (by omega)
      have HSZ := Lib.hid hsz
      clear hsz hl hl3
      obtain ⟨w0, hw0⟩ : ∃ x, x = (w.alloc (.cells #[.int .i64 rl, .slice b zl.length cap2] 35)) := ⟨_, rfl⟩
      have HB0 := Lib.hid (show Below w.heap.size w w0 by rw [hw0]; exact (Below.refl _ _).alloc (Nat.le_refl _) _)
      have Kd_0 := Lib.hid (show w0.heap[w.heap.size]? = some (.cells #[.int .i64 rl, .slice b zl.length cap2] 35 (0, 0)) by rw [hw0]; exact heap_alloc_new w _)
      have SZ0 := Lib.hid (show w0.heap.size = w.heap.size + 1 by rw [hw0]; simp)
      have HW := Lib.hid hw0
      clear hw0
      go_enter Tryd.func7, Tryd.ntmps7
      have cd0 := (cells_of_heap Kd_0.out 0 (by simp)).1
      have cd1 := (cells_of_heap Kd_0.out 1 (by simp)).1
      go_wp2_with fail
      rw [← HW.out]
      refine (szReport_any rl b zl.length cap2 1048576 _ (by omega) (by omega) HM2.out).mono ?_
      rw [HSZ.out]
      rintro e w1 ⟨rfl, hb⟩
      clear cd0 cd1
      have HB1 := Lib.hid (HB0.out.trans (hb.mono HB0.out.size))
      have HS1 := Lib.hid hb.size
      have Kd_1 := Lib.hid (blk_below Kd_0.out hb)
      clear Kd_0
      clear hb
      go_wp2
      go_ret
      exact ⟨rfl, HB1.out⟩
  · have hl' : (1048576 : Int) < (zs.length : Int) := by omega
    clear hl
    obtain ⟨w0, hw0⟩ : ∃ x, x = (w.alloc (.cells #[.int .i64 rl, .slice b zl.length cap2] 35)) := ⟨_, rfl⟩
    have HB0 := Lib.hid (show Below w.heap.size w w0 by rw [hw0]; exact (Below.refl _ _).alloc (Nat.le_refl _) _)
    have Kd_0 := Lib.hid (show w0.heap[w.heap.size]? = some (.cells #[.int .i64 rl, .slice b zl.length cap2] 35 (0, 0)) by rw [hw0]; exact heap_alloc_new w _)
    have SZ0 := Lib.hid (show w0.heap.size = w.heap.size + 1 by rw [hw0]; simp)
    have HW := Lib.hid hw0
    clear hw0
    go_enter Tryd.func7, Tryd.ntmps7
    go_wp2
    go_ret
    rw [← HW.out]
    exact ⟨rfl, HB0.out⟩

end Go.Proofs.YtghijkpcmamebaaDoor
