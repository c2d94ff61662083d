/- DERIVED. The exact laws of chapter 7 on bytes: BootBytes, BitBytes, ReadBits: each, called with any argument, returns true and changes nothing that was there; what the program's function does is a premise. · The reference's ReadBoot: the report whose boot bytes are bytes. · The exact laws of chapter 7 that only read held keys: each, called with any held keys, returns true and changes nothing that was there; what the program's function does is a premise. · The exact laws of ReportOf and ReadBoot: each, called with any argument, returns true and changes nothing that was there; what the program's function does is a premise. -/
import Derived.Test.YtghijkpcmamebaaRpSpec5
import Derived.Test.YtghijkpcmamebaaLawBits
import Derived.Deep.RegionHeld3
import Derived.Deep.DeepCutAuto
import Derived.Deep.RegionLaw
import Derived.BigRegion
import Derived.Test.YtghijkpcmamebaaHdSpec
import Derived.Test.YtghijkpcmamebaaOwnBase
namespace Go.Proofs.Ytghijkpcmamebaa
open Go.RowKit

/-- A slice is no longer than its room. -/
def CapOk (v : Value) : Prop := ∀ a n c, v = .slice a n c → n ≤ c
theorem capOk_of {w : World} {B : Nat} {T : TypeId} {a : Option Addr} {n m c : Nat} {xs : List Value} {fp : List Nat} (h : OwF w B T 1 (.slice a n c) m xs fp) : CapOk (.slice a n c) := fun a' n' c' e => by
  obtain ⟨rfl, rfl, rfl⟩ := by simpa using e
  rcases h.1.2 with ⟨h1, h2⟩ | ⟨g, cap, cur, h1, _, _, h2, _⟩
  · obtain ⟨_, rfl, rfl⟩ := by simpa using h1
    exact Nat.le_refl _
  · obtain ⟨_, rfl, rfl⟩ := by simpa using h1
    exact h2
/-- What a function returns that reads a report: with the footprint of its codes. -/
def RpTO (x : Rpr) (w : World) (e : Ending) (w' : World) : Prop := ∃ a c fp, e = .returned (.tuple #[rpv x.r (.slice a x.z.length c), .bool x.b]) ∧ OwC w' w.heap.size (.row [.int .i64]) (.slice a x.z.length c) (.row (ones x.z)) fp ∧ Below w.heap.size w w'
theorem rpTO {x : Rpr} {w w' : World} {e : Ending} (h : RpTB x w e w') (hl : x.z.length ≤ 1048576) : RpTO x w e w' := by
  obtain ⟨u, he, ho, hb⟩ := h
  obtain ⟨a, c, fp, rfl, h⟩ := owC_len ho hl
  exact ⟨a, c, fp, he, h, hb⟩
theorem bbV_le (r : Int) (zs : List Int) : (bbV r zs).length ≤ 8 := by
  rw [bbV]; split
  · simp
  · simp
theorem biV_le (r : Int) (zs : List Int) : (biV r zs).length ≤ 8 := by
  rw [biV]; split
  · rw [biN_len]; omega
  · simp
theorem rdV_len (bs : List Int) : (rdV bs).z.length ≤ 56 := by
  rw [rdV]; split
  · exact bitK_len bs 56
  · simp
theorem specBitBytes_law (r : Int) (u : Value) (zs zr : List Int) (hz : zr = biV r zs) (w : World) (hl : zs.length ≤ maxLen) (h : Rd w u (zs.map (.int .i64))) : Calls Try.prog 33 #[rpv r u] w (ByOut zr w) := by
  rw [hz]; exact (specBitBytes_any r u zs w hl h).mono fun _ _ hp => byOut hp
theorem specReadBits_law (v : Value) (bs : List Int) (rr : Int) (rz : List Int) (rb : Bool) (hR : rdV bs = ⟨rr, rz, rb⟩) (w : World) (hl : bs.length ≤ maxLen) (hz : ∀ z ∈ bs, 0 ≤ z ∧ z < 256) (h : Rd w v (bs.map (.int .u8))) :
    Calls Try.prog 38 #[v] w (RpTO ⟨rr, rz, rb⟩ w) := by
  have hlen := rdV_len bs
  rw [hR] at hlen
  replace hlen : rz.length ≤ 56 := hlen
  exact (specReadBits_any v bs w hl hz h).mono fun _ _ hp => by rw [hR] at hp; exact rpTO hp (by show rz.length ≤ 1048576; omega)
theorem markReport_q (B : Nat) (r : Int) (u : Value) (zs : List Int) (fp : List Nat) (q q2 : Int) (hq : q2 = q + (zs.length : Int)) (w : World) (hn : zs.length ≤ 1099511627776) (hk : 0 ≤ q) (hk' : q ≤ 1099511627776) (h : OwC w B (.row [.int .i64]) u (.row (ones zs)) fp) :
    Calls Try.prog 27 #[rpv r u, .int .i64 q] w fun e w' => e = .returned (.int .i64 q2) ∧ OwC w' B (.row [.int .i64]) u (.row (ones (marksZ q zs.length))) fp ∧ Turn w w' fp := by
  rw [hq]; exact markReport_own B r u zs fp q w hn hk hk' h
theorem heldReport_q (r : Int) (u : Value) (m : Nat) (q q2 : Int) (hq : q2 = q + (m : Int)) (w : World) (hn : m ≤ 1048576) (hk : 0 ≤ q) (hk' : q ≤ 1099511627776) (h : Rd w u (marks64 q m)) :
    Calls Try.prog 28 #[rpv r u, .int .i64 q] w fun e w' => e = .returned (.int .i64 q2) ∧ Below w.heap.size w w' := by
  rw [hq]; exact heldReport_any r u m q w hn hk hk' h

set_option maxHeartbeats 1000000 in
set_option maxRecDepth 100000 in
theorem lawBitBytes_walk (r : Int) (a : Option Addr) (m cap : Nat) (zs : List Int) (w : World) (hm : zs.length = m) (hml : m ≤ maxLen) (h : Rd w (.slice a m cap) (zs.map (.int .i64))) (hI : ∀ (r : Int) (u : Value) (zs : List Int) (w' : World), Below w.heap.size w w' → zs.length ≤ maxLen → Rd w' u (zs.map (.int .i64)) → Calls Try.prog 34 #[rpv r u] w' (ByOut (biV r zs) w')) : Calls Try.prog 9 #[rpv r (.slice a m cap)] w fun e w' => e = .returned (.bool true) ∧ Below w.heap.size w w' := by
  subst hm
  have HR := Lib.hid h
  have hI := hI r
  have HML := Lib.hid hml
  obtain ⟨zr, hz⟩ : ∃ x, x = biV r zs := ⟨_, rfl⟩
  have hz3 := biV_le r zs
  rw [← hz] at hz3
  have HI := Lib.hid (show ∀ (u : Value) (w' : World), Below w.heap.size w w' → zs.length ≤ maxLen → Rd w' u (zs.map (.int .i64)) → Calls Try.prog 34 #[rpv r u] w' (ByOut zr w') from fun u w' hb hl hr => by rw [hz]; exact hI u zs w' hb hl hr)
  have HZR := Lib.hid hz
  have HZ1 := Lib.hid (show zr.length ≤ 1048576 by omega)
  have HZ2 := Lib.hid (show zr.length ≤ 1000000000000 by omega)
  clear h hI hz hz3 hml
  obtain ⟨qr, hqr⟩ : ∃ q : Int, q = 1 + (zr.length : Int) := ⟨_, rfl⟩
  have hqr0 : ¬ qr < 0 := by omega
  have HQR := Lib.hid hqr
  clear hqr
  obtain ⟨qx, hqx⟩ : ∃ q : Int, q = 1 + (zs.length : Int) := ⟨_, rfl⟩
  have hqx0 : ¬ qx < 0 := by omega
  have HQX := Lib.hid hqx
  clear hqx
  by_cases hl : zs.length ≤ 1048576
  · have hsz : (if (1048576 : Int) < (zs.length : Int) then -1 else (1048576 : Int) - (zs.length : Int)) = 1048576 - (zs.length : Int) := if_neg (by omega)
    have hsz0 : ¬ (1048576 : Int) - (zs.length : Int) < 0 := by omega
    have HSZ := Lib.hid hsz
    have HL := Lib.hid hl
    clear hsz hl
    obtain ⟨w0, hw0⟩ : ∃ x, x = (w.alloc (.cells #[.int .i64 r, .slice a zs.length cap] 47)) := ⟨_, rfl⟩
    have HB0 := Lib.hid (show Below w.heap.size w w0 by rw [hw0]; exact (Below.refl _ _).alloc (Nat.le_refl _) _)
    have Kd_0 := Lib.hid (show w0.heap[w.heap.size]? = some (.cells #[.int .i64 r, .slice a zs.length cap] 47 (0, 0)) by rw [hw0]; exact heap_alloc_new w _)
    have SZ0 := Lib.hid (show w0.heap.size = w.heap.size + 1 by rw [hw0]; simp)
    have HW := Lib.hid hw0
    clear hw0
    go_enter Try.func9, Try.ntmps9
    have cd0 := (cells_of_heap Kd_0.out 0 (by simp)).1
    have cd1 := (cells_of_heap Kd_0.out 1 (by simp)).1
    go_wp2_with fail
    rw [← HW.out]
    refine (szReport_any r a zs.length cap 1048576 _ (by omega) (by omega) HML.out).mono ?_
    rw [HSZ.out]
    rintro e w1 ⟨rfl, hb⟩
    clear cd0 cd1
    have HB1 := Lib.hid (HB0.out.trans (hb.mono HB0.out.size))
    have HS1 := Lib.hid hb.size
    have Kd_1 := Lib.hid (blk_below Kd_0.out hb)
    clear Kd_0
    clear hb
    have cd0 := (cells_of_heap Kd_1.out 0 (by simp)).1
    have cd1 := (cells_of_heap Kd_1.out 1 (by simp)).1
    go_wp2_with fail
    refine (toReport_law r _ zs _ HL.out (HR.out.below HB1.out)).mono ?_
    rintro e w2 ⟨a1, c1, f1, rfl, h1, hb⟩
    clear cd0 cd1
    have HB2 := Lib.hid (HB1.out.trans (hb.mono HB1.out.size))
    have HS2 := Lib.hid hb.size
    have Kd_2 := Lib.hid (blk_below Kd_1.out hb)
    clear Kd_1
    have Rt := Lib.hid (h1.rng)
    have Ot_2 := Lib.hid h1
    clear hb h1
    go_wp2_with fail
    refine (specBitBytes_law r _ zs zr HZR.out _ (by have := HL.out; unfold maxLen; omega) (owC_rd Ot_2.out)).mono ?_
    rintro e w3 ⟨a4, c4, f4, rfl, h4, hb⟩
    have HB3 := Lib.hid (HB2.out.trans (hb.mono HB2.out.size))
    have HS3 := Lib.hid hb.size
    have Kd_3 := Lib.hid (blk_below Kd_2.out hb)
    have Ot_3 := Lib.hid (Ot_2.out.below hb)
    clear Kd_2 Ot_2
    have Rw := Lib.hid (h4.rng)
    have Ow_3 := Lib.hid h4
    clear hb h4
    have cd0 := (cells_of_heap Kd_3.out 0 (by simp)).1
    have cd1 := (cells_of_heap Kd_3.out 1 (by simp)).1
    go_wp2_with fail
    refine (toReport_law r _ zs _ HL.out (HR.out.below HB3.out)).mono ?_
    rintro e w4 ⟨a2, c2, f2, rfl, h2, hb⟩
    clear cd0 cd1
    have HB4 := Lib.hid (HB3.out.trans (hb.mono HB3.out.size))
    have HS4 := Lib.hid hb.size
    have Kd_4 := Lib.hid (blk_below Kd_3.out hb)
    have Ot_4 := Lib.hid (Ot_3.out.below hb)
    have Ow_4 := Lib.hid (Ow_3.out.below hb)
    clear Kd_3 Ot_3 Ow_3
    have Rx := Lib.hid (h2.rng)
    have Ox_4 := Lib.hid h2
    clear hb h2
    go_upto_region 7 with (fail)
    obtain ⟨w5, hw⟩ : ∃ x, x = w4.alloc (.cells #[.int .i64 r, .slice a2 zs.length c2] 28) := ⟨_, rfl⟩
    have hb : Below w4.heap.size w4 w5 := by rw [hw]; exact below_alloc1 _ _
    have hk : w5.heap[w4.heap.size]? = some (.cells #[.int .i64 r, .slice a2 zs.length c2] 28 (0, 0)) := by rw [hw]; exact heap_alloc_new _ _
    rw [← hw]
    have HB5 := Lib.hid (HB4.out.trans (hb.mono HB4.out.size))
    have HS5 := Lib.hid (show w4.heap.size < w5.heap.size from (Array.getElem?_eq_some_iff.mp hk).1)
    have Kd_5 := Lib.hid (blk_below Kd_4.out hb)
    have Ot_5 := Lib.hid (Ot_4.out.below hb)
    have Ow_5 := Lib.hid (Ow_4.out.below hb)
    have Ox_5 := Lib.hid (Ox_4.out.below hb)
    clear Kd_4 Ot_4 Ow_4 Ox_4
    have Kx_5 := Lib.hid hk
    clear hb hk hw
    have cx0 := (cells_of_heap Kx_5.out 0 (by simp)).1
    have cx1 := (cells_of_heap Kx_5.out 1 (by simp)).1
    go_wp2_with fail
    refine (HI.out _ _ HB5.out (by have := HL.out; unfold maxLen; omega) (owC_rd Ox_5.out)).mono ?_
    rintro e w6 ⟨a5, c5, f5, rfl, h5, hb⟩
    clear cx0 cx1
    have HB6 := Lib.hid (HB5.out.trans (hb.mono HB5.out.size))
    have HS6 := Lib.hid hb.size
    have Kd_6 := Lib.hid (blk_below Kd_5.out hb)
    have Kx_6 := Lib.hid (blk_below Kx_5.out hb)
    have Ot_6 := Lib.hid (Ot_5.out.below hb)
    have Ow_6 := Lib.hid (Ow_5.out.below hb)
    have Ox_6 := Lib.hid (Ox_5.out.below hb)
    clear Kd_5 Kx_5 Ot_5 Ow_5 Ox_5
    have Rg := Lib.hid (h5.rng)
    have Og_6 := Lib.hid h5
    clear hb h5
    go_wp2_with fail
    refine (eqByteS_same _ _ zr _ HZ2.out Og_6.out.rd1 Ow_6.out.rd1).mono ?_
    rintro e w7 ⟨rfl, hb⟩
    have HB7 := Lib.hid (HB6.out.trans (hb.mono HB6.out.size))
    have HS7 := Lib.hid hb.size
    have Kd_7 := Lib.hid (blk_below Kd_6.out hb)
    have Kx_7 := Lib.hid (blk_below Kx_6.out hb)
    have Ot_7 := Lib.hid (Ot_6.out.below hb)
    have Ow_7 := Lib.hid (Ow_6.out.below hb)
    have Ox_7 := Lib.hid (Ox_6.out.below hb)
    have Og_7 := Lib.hid (Og_6.out.below hb)
    clear Kd_6 Kx_6 Ot_6 Ow_6 Ox_6 Og_6
    clear hb
    go_upto_region 10 with (fail)
    go_cut [31] (fun sd wx => sd = .bool false ∧ Below w7.heap.size w7 wx)
    case first =>
      have cd0 := (cells_of_heap Kd_7.out 0 (by simp)).1
      have cd1 := (cells_of_heap Kd_7.out 1 (by simp)).1
      have cx0 := (cells_of_heap Kx_7.out 0 (by simp)).1
      have cx1 := (cells_of_heap Kx_7.out 1 (by simp)).1
      have ld : w.heap.size < w7.heap.size := (Array.getElem?_eq_some_iff.mp Kd_7.out).1
      have lx : w4.heap.size < w7.heap.size := (Array.getElem?_eq_some_iff.mp Kx_7.out).1
      go_region_held3 (fun w' => w'.cell? ⟨w.heap.size, 0, none⟩ = some (.int .i64 r) ∧ w'.cell? ⟨w.heap.size, 1, none⟩ = some (.slice a zs.length cap) ∧ w'.cell? ⟨w4.heap.size, 0, none⟩ = some (.int .i64 r) ∧ w'.cell? ⟨w4.heap.size, 1, none⟩ = some (.slice a2 zs.length c2)) (first | go_keep)
        (first | (go_at_call 31; refine (toReport_law r _ zs _ HL.out (HR.out.below (by first | exact HB7.out | exact HB7.out.drew | exact HB7.out.drew.drew))).mono ?_; rintro e v1 ⟨a3, c3, f3, rfl, hy, hb1⟩; have hbr : Below w7.heap.size w7 v1 := (by first | exact hb1 | exact ((Below.refl _ _).drew).trans hb1 | exact ((Below.refl _ _).drew.drew).trans hb1); have kcd0 := (hbr.cell (p := ⟨w.heap.size, 0, none⟩) ld).trans cd0; have kcd1 := (hbr.cell (p := ⟨w.heap.size, 1, none⟩) ld).trans cd1; have kcx0 := (hbr.cell (p := ⟨w4.heap.size, 0, none⟩) lx).trans cx0; have kcx1 := (hbr.cell (p := ⟨w4.heap.size, 1, none⟩) lx).trans cx1; have HBR := Lib.hid hbr; have HY := Lib.hid hy; clear hbr hb1 hy) | (go_at_call 25; refine (eqReport_same r _ _ zs _ (by have := HL.out; omega) ((owC_rd Ox_7.out).below (by first | exact HBR.out | exact HBR.out.drew | exact HBR.out.drew.drew)) ((owC_rd HY.out).below (by first | exact Below.refl _ _ | exact (Below.refl _ _).drew | exact (Below.refl _ _).drew.drew))).mono ?_; rintro e v2 ⟨rfl, hb2⟩; have hbr : Below w7.heap.size w7 v2 := (by first | exact HBR.out.trans (hb2.mono HBR.out.size) | exact HBR.out.trans (((Below.refl _ _).drew.trans hb2).mono HBR.out.size) | exact HBR.out.trans (((Below.refl _ _).drew.drew.trans hb2).mono HBR.out.size)); have kcd0 := (hbr.cell (p := ⟨w.heap.size, 0, none⟩) ld).trans cd0; have kcd1 := (hbr.cell (p := ⟨w.heap.size, 1, none⟩) ld).trans cd1; have kcx0 := (hbr.cell (p := ⟨w4.heap.size, 0, none⟩) lx).trans cx0; have kcx1 := (hbr.cell (p := ⟨w4.heap.size, 1, none⟩) lx).trans cx1; have HB2 := Lib.hid hbr; clear hbr hb2))
      all_goals
        go_wp2
        go_meet
        exact ⟨rfl, by first | exact HB2.out | exact HB2.out.drew⟩
    case rest =>
      obtain ⟨rfl, hb⟩ := hcut
      obtain ⟨w8, hw⟩ : ∃ x, x = wc := ⟨_, rfl⟩
      rw [← hw] at hb ⊢
      clear hw
      have HB8 := Lib.hid (HB7.out.trans (hb.mono HB7.out.size))
      have HS8 := Lib.hid hb.size
      have Kd_8 := Lib.hid (blk_below Kd_7.out hb)
      have Kx_8 := Lib.hid (blk_below Kx_7.out hb)
      have Ot_8 := Lib.hid (Ot_7.out.below hb)
      have Ow_8 := Lib.hid (Ow_7.out.below hb)
      have Ox_8 := Lib.hid (Ox_7.out.below hb)
      have Og_8 := Lib.hid (Og_7.out.below hb)
      clear Kd_7 Kx_7 Ot_7 Ow_7 Ox_7 Og_7
      clear hb
      have cx0 := (cells_of_heap Kx_8.out 0 (by simp)).1
      have cx1 := (cells_of_heap Kx_8.out 1 (by simp)).1
      go_wp2_with fail
      refine (markReport_q _ r _ zs _ 1 qx HQX.out _ (by have := HL.out; omega) (by decide) (by decide) Ox_8.out).mono ?_
      rintro e w9 ⟨rfl, ho, ht⟩
      clear cx0 cx1
      have HB9 := Lib.hid (HB8.out.trans (ht.below (fun b hb => by have := Rx.out b hb; have := HB3.out.size; omega) HB8.out.size))
      have HS9 := Lib.hid ht.size
      have Kd_9 := Lib.hid (blk_turn Kd_8.out ht (fun hm => by have := Rx.out _ hm; have := HS1.out; have := HS2.out; have := HS3.out; have := SZ0.out; omega))
      have Kx_9 := Lib.hid (blk_turn Kx_8.out ht (fun hm => by have := Rx.out _ hm; have := SZ0.out; omega))
      have Ot_9 := Lib.hid (Ot_8.out.turn ht (fun b hb hb' => by have := Rx.out b hb'; have := Rt.out b hb; have := HS3.out; have := SZ0.out; omega))
      have Ow_9 := Lib.hid (Ow_8.out.turn ht (fun b hb hb' => by have := Rx.out b hb'; have := Rw.out b hb; have := SZ0.out; omega))
      have Og_9 := Lib.hid (Og_8.out.turn ht (fun b hb hb' => by have := Rx.out b hb'; have := Rg.out b hb; have := HS5.out; have := SZ0.out; omega))
      have Ox_9 := Lib.hid ho
      clear ho ht Kd_8 Kx_8 Ot_8 Ow_8 Ox_8 Og_8
      go_wp2_with fail
      refine (eqByteS_same _ _ zr _ HZ2.out Og_9.out.rd1 Ow_9.out.rd1).mono ?_
      rintro e w10 ⟨rfl, hb⟩
      have HB10 := Lib.hid (HB9.out.trans (hb.mono HB9.out.size))
      have HS10 := Lib.hid hb.size
      have Kd_10 := Lib.hid (blk_below Kd_9.out hb)
      have Kx_10 := Lib.hid (blk_below Kx_9.out hb)
      have Ot_10 := Lib.hid (Ot_9.out.below hb)
      have Ow_10 := Lib.hid (Ow_9.out.below hb)
      have Ox_10 := Lib.hid (Ox_9.out.below hb)
      have Og_10 := Lib.hid (Og_9.out.below hb)
      clear Kd_9 Kx_9 Ot_9 Ow_9 Ox_9 Og_9
      clear hb
      go_wp2_with fail
      refine (markByteS_law _ _ zr _ 1 qr HQR.out _ HZ1.out (by decide) (by decide) Og_10.out).mono ?_
      rintro e w11 ⟨rfl, ho, ht⟩
      have HB11 := Lib.hid (HB10.out.trans (ht.below (fun b hb => by have := Rg.out b hb; have := HB5.out.size; omega) HB10.out.size))
      have HS11 := Lib.hid ht.size
      have Kd_11 := Lib.hid (blk_turn Kd_10.out ht (fun hm => by have := Rg.out _ hm; have := HS1.out; have := HS2.out; have := HS3.out; have := HS4.out; have := HS5.out; have := SZ0.out; omega))
      have Kx_11 := Lib.hid (blk_turn Kx_10.out ht (fun hm => by have := Rg.out _ hm; have := HS5.out; have := SZ0.out; omega))
      have Ot_11 := Lib.hid (Ot_10.out.turn ht (fun b hb hb' => by have := Rg.out b hb'; have := Rt.out b hb; have := HS3.out; have := HS4.out; have := HS5.out; have := SZ0.out; omega))
      have Ow_11 := Lib.hid (Ow_10.out.turn ht (fun b hb hb' => by have := Rg.out b hb'; have := Rw.out b hb; have := HS4.out; have := HS5.out; have := SZ0.out; omega))
      have Ox_11 := Lib.hid (Ox_10.out.turn ht (fun b hb hb' => by have := Rg.out b hb'; have := Rx.out b hb; have := HS5.out; have := SZ0.out; omega))
      have Og_11 := Lib.hid ho
      clear ho ht Kd_10 Kx_10 Ot_10 Ow_10 Ox_10 Og_10
      go_wp2_with fail
      refine (heldByteS_law _ _ zr.length _ 1 qr HQR.out _ HZ1.out (by decide) (by decide) Og_11.out).mono ?_
      rintro e w12 ⟨rfl, hb⟩
      have HB12 := Lib.hid (HB11.out.trans (hb.mono HB11.out.size))
      have HS12 := Lib.hid hb.size
      have Kd_12 := Lib.hid (blk_below Kd_11.out hb)
      have Kx_12 := Lib.hid (blk_below Kx_11.out hb)
      have Ot_12 := Lib.hid (Ot_11.out.below hb)
      have Ow_12 := Lib.hid (Ow_11.out.below hb)
      have Ox_12 := Lib.hid (Ox_11.out.below hb)
      have Og_12 := Lib.hid (Og_11.out.below hb)
      clear Kd_11 Kx_11 Ot_11 Ow_11 Ox_11 Og_11
      clear hb
      have cd0 := (cells_of_heap Kd_12.out 0 (by simp)).1
      have cd1 := (cells_of_heap Kd_12.out 1 (by simp)).1
      go_wp2_with fail
      refine (toReport_law r _ zs _ HL.out (HR.out.below HB12.out)).mono ?_
      rintro e w13 ⟨a6, c6, f6, rfl, h6, hb⟩
      clear cd0 cd1
      have HB13 := Lib.hid (HB12.out.trans (hb.mono HB12.out.size))
      have HS13 := Lib.hid hb.size
      have Kd_13 := Lib.hid (blk_below Kd_12.out hb)
      have Kx_13 := Lib.hid (blk_below Kx_12.out hb)
      have Ot_13 := Lib.hid (Ot_12.out.below hb)
      have Ow_13 := Lib.hid (Ow_12.out.below hb)
      have Ox_13 := Lib.hid (Ox_12.out.below hb)
      have Og_13 := Lib.hid (Og_12.out.below hb)
      clear Kd_12 Kx_12 Ot_12 Ow_12 Ox_12 Og_12
      have Ru := Lib.hid (h6.rng)
      have Ou_13 := Lib.hid h6
      clear hb h6
      go_wp2_with fail
      refine (HI.out _ _ HB13.out (by have := HL.out; unfold maxLen; omega) (owC_rd Ou_13.out)).mono ?_
      rintro e w14 ⟨a7, c7, f7, rfl, h7, hb⟩
      have HB14 := Lib.hid (HB13.out.trans (hb.mono HB13.out.size))
      have HS14 := Lib.hid hb.size
      have Kd_14 := Lib.hid (blk_below Kd_13.out hb)
      have Kx_14 := Lib.hid (blk_below Kx_13.out hb)
      have Ot_14 := Lib.hid (Ot_13.out.below hb)
      have Ow_14 := Lib.hid (Ow_13.out.below hb)
      have Ox_14 := Lib.hid (Ox_13.out.below hb)
      have Og_14 := Lib.hid (Og_13.out.below hb)
      have Ou_14 := Lib.hid (Ou_13.out.below hb)
      clear Kd_13 Kx_13 Ot_13 Ow_13 Ox_13 Og_13 Ou_13
      have Rh := Lib.hid (h7.rng)
      have Oh_14 := Lib.hid h7
      clear hb h7
      go_wp2_with fail
      refine (eqByteS_same _ _ zr _ HZ2.out Oh_14.out.rd1 Ow_14.out.rd1).mono ?_
      rintro e w15 ⟨rfl, hb⟩
      have HB15 := Lib.hid (HB14.out.trans (hb.mono HB14.out.size))
      have HS15 := Lib.hid hb.size
      have Kd_15 := Lib.hid (blk_below Kd_14.out hb)
      have Kx_15 := Lib.hid (blk_below Kx_14.out hb)
      have Ot_15 := Lib.hid (Ot_14.out.below hb)
      have Ow_15 := Lib.hid (Ow_14.out.below hb)
      have Ox_15 := Lib.hid (Ox_14.out.below hb)
      have Og_15 := Lib.hid (Og_14.out.below hb)
      have Ou_15 := Lib.hid (Ou_14.out.below hb)
      have Oh_15 := Lib.hid (Oh_14.out.below hb)
      clear Kd_14 Kx_14 Ot_14 Ow_14 Ox_14 Og_14 Ou_14 Oh_14
      clear hb
      go_wp2_with fail
      refine (heldByteS_law _ _ zr.length _ 1 qr HQR.out _ HZ1.out (by decide) (by decide) Og_15.out).mono ?_
      rintro e w16 ⟨rfl, hb⟩
      have HB16 := Lib.hid (HB15.out.trans (hb.mono HB15.out.size))
      have HS16 := Lib.hid hb.size
      have Kd_16 := Lib.hid (blk_below Kd_15.out hb)
      have Kx_16 := Lib.hid (blk_below Kx_15.out hb)
      have Ot_16 := Lib.hid (Ot_15.out.below hb)
      have Ow_16 := Lib.hid (Ow_15.out.below hb)
      have Ox_16 := Lib.hid (Ox_15.out.below hb)
      have Og_16 := Lib.hid (Og_15.out.below hb)
      have Ou_16 := Lib.hid (Ou_15.out.below hb)
      have Oh_16 := Lib.hid (Oh_15.out.below hb)
      clear Kd_15 Kx_15 Ot_15 Ow_15 Ox_15 Og_15 Ou_15 Oh_15
      clear hb
      go_wp2
      go_ret
      exact ⟨rfl, HB16.out⟩
  · have hsz : (if (1048576 : Int) < (zs.length : Int) then -1 else (1048576 : Int) - (zs.length : Int)) = -1 := if_pos (by omega)
    have HSZ := Lib.hid hsz
    clear hsz hl
    obtain ⟨w0, hw0⟩ : ∃ x, x = (w.alloc (.cells #[.int .i64 r, .slice a zs.length cap] 47)) := ⟨_, rfl⟩
    have HB0 := Lib.hid (show Below w.heap.size w w0 by rw [hw0]; exact (Below.refl _ _).alloc (Nat.le_refl _) _)
    have Kd_0 := Lib.hid (show w0.heap[w.heap.size]? = some (.cells #[.int .i64 r, .slice a zs.length cap] 47 (0, 0)) by rw [hw0]; exact heap_alloc_new w _)
    have SZ0 := Lib.hid (show w0.heap.size = w.heap.size + 1 by rw [hw0]; simp)
    have HW := Lib.hid hw0
    clear hw0
    go_enter Try.func9, Try.ntmps9
    have cd0 := (cells_of_heap Kd_0.out 0 (by simp)).1
    have cd1 := (cells_of_heap Kd_0.out 1 (by simp)).1
    go_wp2_with fail
    rw [← HW.out]
    refine (szReport_any r a zs.length cap 1048576 _ (by omega) (by omega) HML.out).mono ?_
    rw [HSZ.out]
    rintro e w1 ⟨rfl, hb⟩
    clear cd0 cd1
    have HB1 := Lib.hid (HB0.out.trans (hb.mono HB0.out.size))
    have HS1 := Lib.hid hb.size
    have Kd_1 := Lib.hid (blk_below Kd_0.out hb)
    clear Kd_0
    clear hb
    go_wp2
    go_ret
    exact ⟨rfl, HB1.out⟩

set_option maxHeartbeats 1000000 in
set_option maxRecDepth 100000 in
theorem lawReadBits_walk (a : Option Addr) (n cap : Nat) (zs : List Int) (w : World) (hn : zs.length = n) (hm : n ≤ maxLen) (hz : ∀ z ∈ zs, 0 ≤ z ∧ z < 256) (h : Rd w (.slice a n cap) (zs.map (.int .u8))) (hI : ∀ (v : Value) (zs : List Int) (w : World), zs.length ≤ maxLen → (∀ z ∈ zs, 0 ≤ z ∧ z < 256) → Rd w v (zs.map (.int .u8)) → Calls Try.prog 40 #[v] w (RpTO (rdV zs) w)) : Calls Try.prog 10 #[.slice a n cap] w fun e w' => e = .returned (.bool true) ∧ Below w.heap.size w w' := by
  subst hn
  have HR := Lib.hid h
  have hI := hI
  have HZB := Lib.hid hz
  have HM := Lib.hid hm
  clear h hz hm
  by_cases hl : zs.length ≤ 1048576
  · have hl2 : ¬ (1048576 : Int) < (zs.length : Int) := by omega
    have HL := Lib.hid hl
    have HZ2 := Lib.hid (show zs.length ≤ 1000000000000 by omega)
    clear hl
    have hlen := rdV_len zs
    obtain ⟨⟨rr, rz, rb⟩, hR⟩ : ∃ x, rdV zs = x := ⟨_, rfl⟩
    rw [hR] at hlen
    replace hlen : rz.length ≤ 56 := hlen
    have HI := Lib.hid (show ∀ (v : Value) (w : World), Rd w v (zs.map (.int .u8)) → Calls Try.prog 40 #[v] w (RpTO ⟨rr, rz, rb⟩ w) from fun v w hr => by rw [← hR]; exact hI v zs w HM.out HZB.out hr)
    have HE1 := Lib.hid (show rz.length ≤ 1000000000000 by omega)
    have HE2 := Lib.hid (show rz.length ≤ 1099511627776 by omega)
    have HE3 := Lib.hid (show rz.length ≤ 1048576 by omega)
    have HRR := Lib.hid hR
    clear hI hR hlen
    obtain ⟨qx, hqx⟩ : ∃ q : Int, q = 1 + (zs.length : Int) := ⟨_, rfl⟩
    obtain ⟨qr, hqr⟩ : ∃ q : Int, q = 1 + (rz.length : Int) := ⟨_, rfl⟩
    have hqx0 : ¬ qx < 0 := by omega
    have hqr0 : ¬ qr < 0 := by omega
    have HQX := Lib.hid hqx
    have HQR := Lib.hid hqr
    clear hqx hqr
    have HB0 := Lib.hid (Below.refl w.heap.size w)
    go_enter Try.func10, Try.ntmps10
    go_wp2_with fail
    refine (toByteS_law _ zs _ HL.out (HR.out.below HB0.out)).mono ?_
    rintro e w1 ⟨a1, c1, f1, rfl, h1, hb⟩
    have HB1 := Lib.hid (HB0.out.trans (hb.mono HB0.out.size))
    have HS1 := Lib.hid hb.size
    have Rt := Lib.hid (h1.rng)
    have Ot_1 := Lib.hid h1
    clear hb h1
    go_wp2_with fail
    refine (specReadBits_law _ zs rr rz rb HRR.out _ HM.out HZB.out Ot_1.out.rd1).mono ?_
    rintro e w2 ⟨a2, c2, f2, rfl, h2, hb⟩
    have HB2 := Lib.hid (HB1.out.trans (hb.mono HB1.out.size))
    have HS2 := Lib.hid hb.size
    have Ot_2 := Lib.hid (Ot_1.out.below hb)
    clear Ot_1
    have Rw := Lib.hid (h2.rng)
    have Ow_2 := Lib.hid h2
    clear hb h2
    go_upto_region 4 with (fail)
    obtain ⟨w3, hw⟩ : ∃ x, x = w2.alloc (.cells #[.int .i64 rr, .slice a2 rz.length c2] 28) := ⟨_, rfl⟩
    have hb : Below w2.heap.size w2 w3 := by rw [hw]; exact below_alloc1 _ _
    have hk : w3.heap[w2.heap.size]? = some (.cells #[.int .i64 rr, .slice a2 rz.length c2] 28 (0, 0)) := by rw [hw]; exact heap_alloc_new _ _
    rw [← hw]
    have HB3 := Lib.hid (HB2.out.trans (hb.mono HB2.out.size))
    have HS3 := Lib.hid (show w2.heap.size < w3.heap.size from (Array.getElem?_eq_some_iff.mp hk).1)
    have Ot_3 := Lib.hid (Ot_2.out.below hb)
    have Ow_3 := Lib.hid (Ow_2.out.below hb)
    clear Ot_2 Ow_2
    have Kw_3 := Lib.hid hk
    clear hb hk hw
    go_wp2_with fail
    refine (toByteS_law _ zs _ HL.out (HR.out.below HB3.out)).mono ?_
    rintro e w4 ⟨a3, c3, f3, rfl, h3, hb⟩
    have HB4 := Lib.hid (HB3.out.trans (hb.mono HB3.out.size))
    have HS4 := Lib.hid hb.size
    have Kw_4 := Lib.hid (blk_below Kw_3.out hb)
    have Ot_4 := Lib.hid (Ot_3.out.below hb)
    have Ow_4 := Lib.hid (Ow_3.out.below hb)
    clear Kw_3 Ot_3 Ow_3
    have Rx := Lib.hid (h3.rng)
    have Ox_4 := Lib.hid h3
    clear hb h3
    go_wp2_with fail
    refine (HI.out _ _ Ox_4.out.rd1).mono ?_
    rintro e w5 ⟨a4, c4, f4, rfl, h4, hb⟩
    have HB5 := Lib.hid (HB4.out.trans (hb.mono HB4.out.size))
    have HS5 := Lib.hid hb.size
    have Kw_5 := Lib.hid (blk_below Kw_4.out hb)
    have Ot_5 := Lib.hid (Ot_4.out.below hb)
    have Ow_5 := Lib.hid (Ow_4.out.below hb)
    have Ox_5 := Lib.hid (Ox_4.out.below hb)
    clear Kw_4 Ot_4 Ow_4 Ox_4
    have Rg := Lib.hid (h4.rng)
    have Og_5 := Lib.hid h4
    clear hb h4
    go_upto_region 6 with (fail)
    obtain ⟨w6, hw⟩ : ∃ x, x = w5.alloc (.cells #[.int .i64 rr, .slice a4 rz.length c4] 28) := ⟨_, rfl⟩
    have hb : Below w5.heap.size w5 w6 := by rw [hw]; exact below_alloc1 _ _
    have hk : w6.heap[w5.heap.size]? = some (.cells #[.int .i64 rr, .slice a4 rz.length c4] 28 (0, 0)) := by rw [hw]; exact heap_alloc_new _ _
    rw [← hw]
    have HB6 := Lib.hid (HB5.out.trans (hb.mono HB5.out.size))
    have HS6 := Lib.hid (show w5.heap.size < w6.heap.size from (Array.getElem?_eq_some_iff.mp hk).1)
    have Kw_6 := Lib.hid (blk_below Kw_5.out hb)
    have Ot_6 := Lib.hid (Ot_5.out.below hb)
    have Ow_6 := Lib.hid (Ow_5.out.below hb)
    have Ox_6 := Lib.hid (Ox_5.out.below hb)
    have Og_6 := Lib.hid (Og_5.out.below hb)
    clear Kw_5 Ot_5 Ow_5 Ox_5 Og_5
    have Kg_6 := Lib.hid hk
    clear hb hk hw
    have cg0 := (cells_of_heap Kg_6.out 0 (by simp)).1
    have cg1 := (cells_of_heap Kg_6.out 1 (by simp)).1
    have cw0 := (cells_of_heap Kw_6.out 0 (by simp)).1
    have cw1 := (cells_of_heap Kw_6.out 1 (by simp)).1
    go_wp2_with fail
    refine (eqReport_same rr _ _ rz _ HE1.out (owC_rd Og_6.out) (owC_rd Ow_6.out)).mono ?_
    rintro e w7 ⟨rfl, hb⟩
    clear cg0 cg1 cw0 cw1
    have HB7 := Lib.hid (HB6.out.trans (hb.mono HB6.out.size))
    have HS7 := Lib.hid hb.size
    have Kw_7 := Lib.hid (blk_below Kw_6.out hb)
    have Kg_7 := Lib.hid (blk_below Kg_6.out hb)
    have Ot_7 := Lib.hid (Ot_6.out.below hb)
    have Ow_7 := Lib.hid (Ow_6.out.below hb)
    have Ox_7 := Lib.hid (Ox_6.out.below hb)
    have Og_7 := Lib.hid (Og_6.out.below hb)
    clear Kw_6 Kg_6 Ot_6 Ow_6 Ox_6 Og_6
    clear hb
    go_wp2_with fail
    refine (toByteS_law _ zs _ HL.out (HR.out.below HB7.out)).mono ?_
    rintro e w8 ⟨a5, c5, f5, rfl, h5, hb⟩
    have HB8 := Lib.hid (HB7.out.trans (hb.mono HB7.out.size))
    have HS8 := Lib.hid hb.size
    have Kw_8 := Lib.hid (blk_below Kw_7.out hb)
    have Kg_8 := Lib.hid (blk_below Kg_7.out hb)
    have Ot_8 := Lib.hid (Ot_7.out.below hb)
    have Ow_8 := Lib.hid (Ow_7.out.below hb)
    have Ox_8 := Lib.hid (Ox_7.out.below hb)
    have Og_8 := Lib.hid (Og_7.out.below hb)
    clear Kw_7 Kg_7 Ot_7 Ow_7 Ox_7 Og_7
    have Ry := Lib.hid (h5.rng)
    have Oy_8 := Lib.hid h5
    clear hb h5
    go_wp2_with fail
    refine (eqByteS_same _ _ zs _ HZ2.out Ox_8.out.rd1 Oy_8.out.rd1).mono ?_
    rintro e w9 ⟨rfl, hb⟩
    have HB9 := Lib.hid (HB8.out.trans (hb.mono HB8.out.size))
    have HS9 := Lib.hid hb.size
    have Kw_9 := Lib.hid (blk_below Kw_8.out hb)
    have Kg_9 := Lib.hid (blk_below Kg_8.out hb)
    have Ot_9 := Lib.hid (Ot_8.out.below hb)
    have Ow_9 := Lib.hid (Ow_8.out.below hb)
    have Ox_9 := Lib.hid (Ox_8.out.below hb)
    have Og_9 := Lib.hid (Og_8.out.below hb)
    have Oy_9 := Lib.hid (Oy_8.out.below hb)
    clear Kw_8 Kg_8 Ot_8 Ow_8 Ox_8 Og_8 Oy_8
    clear hb
    go_wp2_with fail
    refine (markByteS_law _ _ zs _ 1 qx HQX.out _ HL.out (by decide) (by decide) Ox_9.out).mono ?_
    rintro e w10 ⟨rfl, ho, ht⟩
    have HB10 := Lib.hid (HB9.out.trans (ht.below (fun b hb => by have := Rx.out b hb; have := HB3.out.size; omega) HB9.out.size))
    have HS10 := Lib.hid ht.size
    have Kw_10 := Lib.hid (blk_turn Kw_9.out ht (fun hm => by have := Rx.out _ hm; have := HS3.out; omega))
    have Kg_10 := Lib.hid (blk_turn Kg_9.out ht (fun hm => by have := Rx.out _ hm; have := HS5.out; omega))
    have Ot_10 := Lib.hid (Ot_9.out.turn ht (fun b hb hb' => by have := Rx.out b hb'; have := Rt.out b hb; have := HS2.out; have := HS3.out; omega))
    have Ow_10 := Lib.hid (Ow_9.out.turn ht (fun b hb hb' => by have := Rx.out b hb'; have := Rw.out b hb; have := HS3.out; omega))
    have Og_10 := Lib.hid (Og_9.out.turn ht (fun b hb hb' => by have := Rx.out b hb'; have := Rg.out b hb; omega))
    have Oy_10 := Lib.hid (Oy_9.out.turn ht (fun b hb hb' => by have := Rx.out b hb'; have := Ry.out b hb; have := HS5.out; have := HS6.out; have := HS7.out; omega))
    have Ox_10 := Lib.hid ho
    clear ho ht Kw_9 Kg_9 Ot_9 Ow_9 Ox_9 Og_9 Oy_9
    have cg0 := (cells_of_heap Kg_10.out 0 (by simp)).1
    have cg1 := (cells_of_heap Kg_10.out 1 (by simp)).1
    have cw0 := (cells_of_heap Kw_10.out 0 (by simp)).1
    have cw1 := (cells_of_heap Kw_10.out 1 (by simp)).1
    go_wp2_with fail
    refine (eqReport_same rr _ _ rz _ HE1.out (owC_rd Og_10.out) (owC_rd Ow_10.out)).mono ?_
    rintro e w11 ⟨rfl, hb⟩
    clear cg0 cg1 cw0 cw1
    have HB11 := Lib.hid (HB10.out.trans (hb.mono HB10.out.size))
    have HS11 := Lib.hid hb.size
    have Kw_11 := Lib.hid (blk_below Kw_10.out hb)
    have Kg_11 := Lib.hid (blk_below Kg_10.out hb)
    have Ot_11 := Lib.hid (Ot_10.out.below hb)
    have Ow_11 := Lib.hid (Ow_10.out.below hb)
    have Ox_11 := Lib.hid (Ox_10.out.below hb)
    have Og_11 := Lib.hid (Og_10.out.below hb)
    have Oy_11 := Lib.hid (Oy_10.out.below hb)
    clear Kw_10 Kg_10 Ot_10 Ow_10 Ox_10 Og_10 Oy_10
    clear hb
    have cg0 := (cells_of_heap Kg_11.out 0 (by simp)).1
    have cg1 := (cells_of_heap Kg_11.out 1 (by simp)).1
    go_wp2_with fail
    refine (markReport_q _ rr _ rz _ 1 qr HQR.out _ HE2.out (by decide) (by decide) Og_11.out).mono ?_
    rintro e w12 ⟨rfl, ho, ht⟩
    clear cg0 cg1
    have HB12 := Lib.hid (HB11.out.trans (ht.below (fun b hb => by have := Rg.out b hb; have := HB4.out.size; omega) HB11.out.size))
    have HS12 := Lib.hid ht.size
    have Kw_12 := Lib.hid (blk_turn Kw_11.out ht (fun hm => by have := Rg.out _ hm; have := HS3.out; have := HS4.out; omega))
    have Kg_12 := Lib.hid (blk_turn Kg_11.out ht (fun hm => by have := Rg.out _ hm; omega))
    have Ot_12 := Lib.hid (Ot_11.out.turn ht (fun b hb hb' => by have := Rg.out b hb'; have := Rt.out b hb; have := HS2.out; have := HS3.out; have := HS4.out; omega))
    have Ow_12 := Lib.hid (Ow_11.out.turn ht (fun b hb hb' => by have := Rg.out b hb'; have := Rw.out b hb; have := HS3.out; have := HS4.out; omega))
    have Ox_12 := Lib.hid (Ox_11.out.turn ht (fun b hb hb' => by have := Rg.out b hb'; have := Rx.out b hb; omega))
    have Oy_12 := Lib.hid (Oy_11.out.turn ht (fun b hb hb' => by have := Rg.out b hb'; have := Ry.out b hb; have := HS6.out; have := HS7.out; omega))
    have Og_12 := Lib.hid ho
    clear ho ht Kw_11 Kg_11 Ot_11 Ow_11 Ox_11 Og_11 Oy_11
    have cg0 := (cells_of_heap Kg_12.out 0 (by simp)).1
    have cg1 := (cells_of_heap Kg_12.out 1 (by simp)).1
    go_wp2_with fail
    refine (heldReport_q rr _ rz.length 1 qr HQR.out _ HE3.out (by decide) (by decide) (owC_marks Og_12.out)).mono ?_
    rintro e w13 ⟨rfl, hb⟩
    clear cg0 cg1
    have HB13 := Lib.hid (HB12.out.trans (hb.mono HB12.out.size))
    have HS13 := Lib.hid hb.size
    have Kw_13 := Lib.hid (blk_below Kw_12.out hb)
    have Kg_13 := Lib.hid (blk_below Kg_12.out hb)
    have Ot_13 := Lib.hid (Ot_12.out.below hb)
    have Ow_13 := Lib.hid (Ow_12.out.below hb)
    have Ox_13 := Lib.hid (Ox_12.out.below hb)
    have Og_13 := Lib.hid (Og_12.out.below hb)
    have Oy_13 := Lib.hid (Oy_12.out.below hb)
    clear Kw_12 Kg_12 Ot_12 Ow_12 Ox_12 Og_12 Oy_12
    clear hb
    go_wp2_with fail
    refine (toByteS_law _ zs _ HL.out (HR.out.below HB13.out)).mono ?_
    rintro e w14 ⟨a6, c6, f6, rfl, h6, hb⟩
    have HB14 := Lib.hid (HB13.out.trans (hb.mono HB13.out.size))
    have HS14 := Lib.hid hb.size
    have Kw_14 := Lib.hid (blk_below Kw_13.out hb)
    have Kg_14 := Lib.hid (blk_below Kg_13.out hb)
    have Ot_14 := Lib.hid (Ot_13.out.below hb)
    have Ow_14 := Lib.hid (Ow_13.out.below hb)
    have Ox_14 := Lib.hid (Ox_13.out.below hb)
    have Og_14 := Lib.hid (Og_13.out.below hb)
    have Oy_14 := Lib.hid (Oy_13.out.below hb)
    clear Kw_13 Kg_13 Ot_13 Ow_13 Ox_13 Og_13 Oy_13
    have Ru := Lib.hid (h6.rng)
    have Ou_14 := Lib.hid h6
    clear hb h6
    go_wp2_with fail
    refine (HI.out _ _ Ou_14.out.rd1).mono ?_
    rintro e w15 ⟨a7, c7, f7, rfl, h7, hb⟩
    have HB15 := Lib.hid (HB14.out.trans (hb.mono HB14.out.size))
    have HS15 := Lib.hid hb.size
    have Kw_15 := Lib.hid (blk_below Kw_14.out hb)
    have Kg_15 := Lib.hid (blk_below Kg_14.out hb)
    have Ot_15 := Lib.hid (Ot_14.out.below hb)
    have Ow_15 := Lib.hid (Ow_14.out.below hb)
    have Ox_15 := Lib.hid (Ox_14.out.below hb)
    have Og_15 := Lib.hid (Og_14.out.below hb)
    have Oy_15 := Lib.hid (Oy_14.out.below hb)
    have Ou_15 := Lib.hid (Ou_14.out.below hb)
    clear Kw_14 Kg_14 Ot_14 Ow_14 Ox_14 Og_14 Oy_14 Ou_14
    have Rh := Lib.hid (h7.rng)
    have Oh_15 := Lib.hid h7
    clear hb h7
    go_upto_region 23 with (fail)
    obtain ⟨w16, hw⟩ : ∃ x, x = w15.alloc (.cells #[.int .i64 rr, .slice a7 rz.length c7] 28) := ⟨_, rfl⟩
    have hb : Below w15.heap.size w15 w16 := by rw [hw]; exact below_alloc1 _ _
    have hk : w16.heap[w15.heap.size]? = some (.cells #[.int .i64 rr, .slice a7 rz.length c7] 28 (0, 0)) := by rw [hw]; exact heap_alloc_new _ _
    rw [← hw]
    have HB16 := Lib.hid (HB15.out.trans (hb.mono HB15.out.size))
    have HS16 := Lib.hid (show w15.heap.size < w16.heap.size from (Array.getElem?_eq_some_iff.mp hk).1)
    have Kw_16 := Lib.hid (blk_below Kw_15.out hb)
    have Kg_16 := Lib.hid (blk_below Kg_15.out hb)
    have Ot_16 := Lib.hid (Ot_15.out.below hb)
    have Ow_16 := Lib.hid (Ow_15.out.below hb)
    have Ox_16 := Lib.hid (Ox_15.out.below hb)
    have Og_16 := Lib.hid (Og_15.out.below hb)
    have Oy_16 := Lib.hid (Oy_15.out.below hb)
    have Ou_16 := Lib.hid (Ou_15.out.below hb)
    have Oh_16 := Lib.hid (Oh_15.out.below hb)
    clear Kw_15 Kg_15 Ot_15 Ow_15 Ox_15 Og_15 Oy_15 Ou_15 Oh_15
    have Kh_16 := Lib.hid hk
    clear hb hk hw
    have ch0 := (cells_of_heap Kh_16.out 0 (by simp)).1
    have ch1 := (cells_of_heap Kh_16.out 1 (by simp)).1
    have cw0 := (cells_of_heap Kw_16.out 0 (by simp)).1
    have cw1 := (cells_of_heap Kw_16.out 1 (by simp)).1
    go_wp2_with fail
    refine (eqReport_same rr _ _ rz _ HE1.out (owC_rd Oh_16.out) (owC_rd Ow_16.out)).mono ?_
    rintro e w17 ⟨rfl, hb⟩
    clear ch0 ch1 cw0 cw1
    have HB17 := Lib.hid (HB16.out.trans (hb.mono HB16.out.size))
    have HS17 := Lib.hid hb.size
    have Kw_17 := Lib.hid (blk_below Kw_16.out hb)
    have Kg_17 := Lib.hid (blk_below Kg_16.out hb)
    have Kh_17 := Lib.hid (blk_below Kh_16.out hb)
    have Ot_17 := Lib.hid (Ot_16.out.below hb)
    have Ow_17 := Lib.hid (Ow_16.out.below hb)
    have Ox_17 := Lib.hid (Ox_16.out.below hb)
    have Og_17 := Lib.hid (Og_16.out.below hb)
    have Oy_17 := Lib.hid (Oy_16.out.below hb)
    have Ou_17 := Lib.hid (Ou_16.out.below hb)
    have Oh_17 := Lib.hid (Oh_16.out.below hb)
    clear Kw_16 Kg_16 Kh_16 Ot_16 Ow_16 Ox_16 Og_16 Oy_16 Ou_16 Oh_16
    clear hb
    have cg0 := (cells_of_heap Kg_17.out 0 (by simp)).1
    have cg1 := (cells_of_heap Kg_17.out 1 (by simp)).1
    go_wp2_with fail
    refine (heldReport_q rr _ rz.length 1 qr HQR.out _ HE3.out (by decide) (by decide) (owC_marks Og_17.out)).mono ?_
    rintro e w18 ⟨rfl, hb⟩
    clear cg0 cg1
    have HB18 := Lib.hid (HB17.out.trans (hb.mono HB17.out.size))
    have HS18 := Lib.hid hb.size
    have Kw_18 := Lib.hid (blk_below Kw_17.out hb)
    have Kg_18 := Lib.hid (blk_below Kg_17.out hb)
    have Kh_18 := Lib.hid (blk_below Kh_17.out hb)
    have Ot_18 := Lib.hid (Ot_17.out.below hb)
    have Ow_18 := Lib.hid (Ow_17.out.below hb)
    have Ox_18 := Lib.hid (Ox_17.out.below hb)
    have Og_18 := Lib.hid (Og_17.out.below hb)
    have Oy_18 := Lib.hid (Oy_17.out.below hb)
    have Ou_18 := Lib.hid (Ou_17.out.below hb)
    have Oh_18 := Lib.hid (Oh_17.out.below hb)
    clear Kw_17 Kg_17 Kh_17 Ot_17 Ow_17 Ox_17 Og_17 Oy_17 Ou_17 Oh_17
    clear hb
    go_wp2
    go_ret
    exact ⟨rfl, HB18.out⟩
  · have hl' : (1048576 : Int) < (zs.length : Int) := by omega
    clear hl
    go_enter Try.func10, Try.ntmps10
    go_wp2
    go_ret
    exact ⟨rfl, Below.refl _ _⟩
end Go.Proofs.Ytghijkpcmamebaa

namespace Go.Proofs.Ytghijkpcmamebaa
open Go.RowKit

theorem bKeys_len (b : List Int) : ∀ k, (bKeys b k).length ≤ k
  | 0 => Nat.le_refl _
  | k + 1 => by
    have := bKeys_len b k
    rw [bKeys]; split
    · simp; omega
    · omega
theorem bOnes_le (b : List Int) : ∀ k, bOnes b k ≤ k
  | 0 => Nat.le_refl _
  | k + 1 => by
    have := bOnes_le b k
    rw [bOnes]; split <;> omega
theorem bFine_no {b : List Int} {i : Nat} (h : bHole b i = true) : ∀ m, i < m → bFine b m = false
  | 0, hm => absurd hm (Nat.not_lt_zero _)
  | m + 1, hm => by
    rcases Nat.lt_or_ge i m with h2 | h2
    · rw [bFine, bFine_no h m h2, Bool.false_and]
    · obtain rfl : i = m := by omega
      rw [bFine, h, Bool.not_true, Bool.and_false]
/-- Behind 'app_box' the elder blocks are as they were. -/
theorem app_keep {w w4 : World} {gw gm ga cap g2 : Nat} {X : List Int} {x : Int}
    (ho : w.ownsRow (gw + 1) 3 1 (.slice (some ⟨ga, 0, none⟩) X.length cap) X.length (X.map (.int .i64)))
    (hgs : gm < w.heap.size) (hlt : gw < gm) {cap1 : Nat}
    (_hown2 : w4.ownsRow (gw + 1) 3 1 (.slice (some ⟨g2, 0, none⟩) (X.length + 1) cap1) (X.length + 1) (X.map (.int .i64) ++ [.int .i64 x]))
    (hgrow2 : (w.alloc (.cells #[.int .i64 x] 3)).grownBy w4 (Value.slice (some ⟨ga, 0, none⟩) X.length cap).ownBlock) (cap2 : Nat) (q : Nat) (hq : q < gw) :
    (w4.setCell ⟨gm, 1, none⟩ (.slice (some ⟨g2, 0, none⟩) (X.length + 1) cap2)).heap[q]? = w.heap[q]? := by
  have hba : Below w.heap.size w (w.alloc (.cells #[.int .i64 x] 3)) := (Below.refl _ _).alloc (Nat.le_refl _) _
  have hb4 : Below (gw + 1) w w4 := (hba.mono (by omega)).grown hgrow2 (by simp; omega) (fun q hq => (ho.lt q hq).1)
  rw [heap_setCell_other w4 ⟨gm, 1, none⟩ q _ (by show ¬ q = gm; omega)]
  exact hb4.block q (by omega)

theorem toHeldS_law (v : Value) (l : List Hd) (w : World) (hl : l.length ≤ 1048576) (h : RdN w v l.length (flatHd l)) :
    Calls Try.prog 21 #[v] w fun e w' => ∃ a c fp, e = .returned (.slice a l.length c) ∧ OwF w' w.heap.size 33 5 (.slice a l.length c) l.length (flatHd l) fp ∧ Below w.heap.size w w' :=
  (toHeldS_any v l w hl h).mono fun e w' ⟨u, he, ho, hb⟩ => by
    obtain ⟨a, c, fp, rfl, h⟩ := OwF.shape ho
    exact ⟨a, c, fp, he, h, hb⟩
theorem markHeldS_law (B : Nat) (v : Value) (l : List Hd) (fp : List Nat) (q : Int) (w : World) (hn : l.length ≤ 1048576) (hk : 0 ≤ q) (hk' : q ≤ 1099511627776) (h : OwF w B 33 5 v l.length (flatHd l) fp) :
    Calls Try.prog 26 #[v, .int .i64 q] w fun e w' => e = .returned (.int .i64 (q + ((l.length * 5 : Nat) : Int))) ∧ OwF w' B 33 5 v l.length (flatHd (marksHd q l.length)) fp ∧ Turn w w' fp :=
  (markHeldS_any B v l.length (flatHd l) q w hn hk hk' h.1).mono fun _ _ ⟨he, ho, hg⟩ => ⟨he, (h.marked ho hg).1, (h.marked ho hg).2⟩

set_option maxHeartbeats 1000000 in
set_option maxRecDepth 100000 in
theorem lawIsHeld_walk (a : Option Addr) (n cap : Nat) (l : List Hd) (w : World) (hn : l.length = n) (hm : n ≤ maxLen) (h : RdN w (.slice a n cap) l.length (flatHd l)) (hI : ∀ (v : Value) (l : List Hd) (w : World), l.length ≤ maxLen → RdN w v l.length (flatHd l) → Calls Try.prog 15 #[v] w fun e w' => e = .returned (.bool (okHd l)) ∧ Below w.heap.size w w') : Calls Try.prog 4 #[.slice a n cap] w fun e w' => e = .returned (.bool true) ∧ Below w.heap.size w w' := by
  subst hn
  have HR := Lib.hid h
  have HM := Lib.hid hm
  have HI := Lib.hid hI
  clear h hm hI
  by_cases hl : l.length ≤ 1048576
  · have hsz : (if (1048576 : Int) < (l.length : Int) then -1 else (1048576 : Int) - (l.length : Int)) = 1048576 - (l.length : Int) := if_neg (by omega)
    have hsz0 : ¬ (1048576 : Int) - (l.length : Int) < 0 := by omega
    have HSZ := Lib.hid hsz
    have HLM := Lib.hid (show l.length ≤ maxLen by unfold maxLen; omega)
    clear hsz
    obtain ⟨r, hR⟩ : ∃ x, okHd l = x := ⟨_, rfl⟩
    have HRR := Lib.hid hR
    clear hR
    have HB0 := Lib.hid (Below.refl w.heap.size w)
    go_enter Try.func4, Try.ntmps4
    go_wp2_with fail
    refine (szHeldS_any a l.length cap 1048576 _ (by omega) (by omega) HM.out).mono ?_
    rw [HSZ.out]
    rintro e v0 ⟨rfl, rfl⟩
    go_wp2_with fail
    refine (toHeldS_law _ l _ hl (HR.out.below HB0.out)).mono ?_
    rintro e w1 ⟨a1, c1, f1, rfl, h1, hb⟩
    have HB1 := Lib.hid (HB0.out.trans (hb.mono HB0.out.size))
    have HS1 := Lib.hid hb.size
    have Rt := Lib.hid (h1.rng)
    have Ot_1 := Lib.hid h1
    clear hb h1
    go_wp2_with fail
    refine (specIsHeld_any _ l _ HLM.out Ot_1.out.rd).mono ?_
    rw [HRR.out]
    rintro e w2 ⟨rfl, hb⟩
    have HB2 := Lib.hid (HB1.out.trans (hb.mono HB1.out.size))
    have HS2 := Lib.hid hb.size
    have Ot_2 := Lib.hid (Ot_1.out.below hb)
    clear Ot_1
    clear hb
    go_wp2_with fail
    refine (toHeldS_law _ l _ hl (HR.out.below HB2.out)).mono ?_
    rintro e w3 ⟨a2, c2, f2, rfl, h2, hb⟩
    have HB3 := Lib.hid (HB2.out.trans (hb.mono HB2.out.size))
    have HS3 := Lib.hid hb.size
    have Ot_3 := Lib.hid (Ot_2.out.below hb)
    clear Ot_2
    have Rx := Lib.hid (h2.rng)
    have Ox_3 := Lib.hid h2
    clear hb h2
    go_wp2_with fail
    refine (HI.out _ l _ HLM.out Ox_3.out.rd).mono ?_
    rw [HRR.out]
    rintro e w4 ⟨rfl, hb⟩
    have HB4 := Lib.hid (HB3.out.trans (hb.mono HB3.out.size))
    have HS4 := Lib.hid hb.size
    have Ot_4 := Lib.hid (Ot_3.out.below hb)
    have Ox_4 := Lib.hid (Ox_3.out.below hb)
    clear Ot_3 Ox_3
    clear hb
    go_wp2_with fail
    refine (toHeldS_law _ l _ hl (HR.out.below HB4.out)).mono ?_
    rintro e w5 ⟨a3, c3, f3, rfl, h3, hb⟩
    have HB5 := Lib.hid (HB4.out.trans (hb.mono HB4.out.size))
    have HS5 := Lib.hid hb.size
    have Ot_5 := Lib.hid (Ot_4.out.below hb)
    have Ox_5 := Lib.hid (Ox_4.out.below hb)
    clear Ot_4 Ox_4
    have Ry := Lib.hid (h3.rng)
    have Oy_5 := Lib.hid h3
    clear hb h3
    go_wp2_with fail
    refine (eqHeldS_same _ _ l _ (by omega) Ox_5.out.rd Oy_5.out.rd).mono ?_
    rintro e w6 ⟨rfl, hb⟩
    have HB6 := Lib.hid (HB5.out.trans (hb.mono HB5.out.size))
    have HS6 := Lib.hid hb.size
    have Ot_6 := Lib.hid (Ot_5.out.below hb)
    have Ox_6 := Lib.hid (Ox_5.out.below hb)
    have Oy_6 := Lib.hid (Oy_5.out.below hb)
    clear Ot_5 Ox_5 Oy_5
    clear hb
    go_wp2
    go_ret
    exact ⟨rfl, HB6.out⟩
  · have hsz : (if (1048576 : Int) < (l.length : Int) then -1 else (1048576 : Int) - (l.length : Int)) = -1 := if_pos (by omega)
    have HSZ := Lib.hid hsz
    clear hsz hl
    have HB0 := Lib.hid (Below.refl w.heap.size w)
    go_enter Try.func4, Try.ntmps4
    go_wp2_with fail
    refine (szHeldS_any a l.length cap 1048576 _ (by omega) (by omega) HM.out).mono ?_
    rw [HSZ.out]
    rintro e v0 ⟨rfl, rfl⟩
    go_wp2
    go_ret
    exact ⟨rfl, HB0.out⟩

set_option maxHeartbeats 1000000 in
set_option maxRecDepth 100000 in
theorem lawLayersOn_walk (fixed : Int) (a : Option Addr) (n cap : Nat) (l : List Hd) (w : World) (hn : l.length = n) (hm : n ≤ maxLen) (h : RdN w (.slice a n cap) l.length (flatHd l)) (hI : ∀ (v : Value) (l : List Hd) (w : World), l.length ≤ maxLen → RdN w v l.length (flatHd l) → Calls Try.prog 18 #[.int .i64 fixed, v] w fun e w' => e = .returned (.int .i64 (onV fixed l : Nat)) ∧ Below w.heap.size w w') : Calls Try.prog 5 #[.int .i64 fixed, .slice a n cap] w fun e w' => e = .returned (.bool true) ∧ Below w.heap.size w w' := by
  subst hn
  have HR := Lib.hid h
  have HM := Lib.hid hm
  have HI := Lib.hid hI
  clear h hm hI
  by_cases hl : l.length ≤ 1048576
  · have hsz : (if (1048576 : Int) < (l.length : Int) then -1 else (1048576 : Int) - (l.length : Int)) = 1048576 - (l.length : Int) := if_neg (by omega)
    have hsz0 : ¬ (1048576 : Int) - (l.length : Int) < 0 := by omega
    have HSZ := Lib.hid hsz
    have HLM := Lib.hid (show l.length ≤ maxLen by unfold maxLen; omega)
    clear hsz
    obtain ⟨r, hR⟩ : ∃ x, onV fixed l = x := ⟨_, rfl⟩
    have HRR := Lib.hid hR
    clear hR
    have HB0 := Lib.hid (Below.refl w.heap.size w)
    go_enter Try.func5, Try.ntmps5
    go_wp2_with fail
    refine (szHeldS_any a l.length cap 1048576 _ (by omega) (by omega) HM.out).mono ?_
    rw [HSZ.out]
    rintro e v0 ⟨rfl, rfl⟩
    go_wp2_with fail
    refine (toHeldS_law _ l _ hl (HR.out.below HB0.out)).mono ?_
    rintro e w1 ⟨a1, c1, f1, rfl, h1, hb⟩
    have HB1 := Lib.hid (HB0.out.trans (hb.mono HB0.out.size))
    have HS1 := Lib.hid hb.size
    have Rt := Lib.hid (h1.rng)
    have Ot_1 := Lib.hid h1
    clear hb h1
    go_wp2_with fail
    refine (specLayersOn_any fixed _ l _ HLM.out Ot_1.out.rd).mono ?_
    rw [HRR.out]
    rintro e w2 ⟨rfl, hb⟩
    have HB2 := Lib.hid (HB1.out.trans (hb.mono HB1.out.size))
    have HS2 := Lib.hid hb.size
    have Ot_2 := Lib.hid (Ot_1.out.below hb)
    clear Ot_1
    clear hb
    go_wp2_with fail
    refine (toHeldS_law _ l _ hl (HR.out.below HB2.out)).mono ?_
    rintro e w3 ⟨a2, c2, f2, rfl, h2, hb⟩
    have HB3 := Lib.hid (HB2.out.trans (hb.mono HB2.out.size))
    have HS3 := Lib.hid hb.size
    have Ot_3 := Lib.hid (Ot_2.out.below hb)
    clear Ot_2
    have Rx := Lib.hid (h2.rng)
    have Ox_3 := Lib.hid h2
    clear hb h2
    go_wp2_with fail
    refine (HI.out _ l _ HLM.out Ox_3.out.rd).mono ?_
    rw [HRR.out]
    rintro e w4 ⟨rfl, hb⟩
    have HB4 := Lib.hid (HB3.out.trans (hb.mono HB3.out.size))
    have HS4 := Lib.hid hb.size
    have Ot_4 := Lib.hid (Ot_3.out.below hb)
    have Ox_4 := Lib.hid (Ox_3.out.below hb)
    clear Ot_3 Ox_3
    clear hb
    go_wp2_with fail
    refine (toHeldS_law _ l _ hl (HR.out.below HB4.out)).mono ?_
    rintro e w5 ⟨a3, c3, f3, rfl, h3, hb⟩
    have HB5 := Lib.hid (HB4.out.trans (hb.mono HB4.out.size))
    have HS5 := Lib.hid hb.size
    have Ot_5 := Lib.hid (Ot_4.out.below hb)
    have Ox_5 := Lib.hid (Ox_4.out.below hb)
    clear Ot_4 Ox_4
    have Ry := Lib.hid (h3.rng)
    have Oy_5 := Lib.hid h3
    clear hb h3
    go_wp2_with fail
    refine (eqHeldS_same _ _ l _ (by omega) Ox_5.out.rd Oy_5.out.rd).mono ?_
    rintro e w6 ⟨rfl, hb⟩
    have HB6 := Lib.hid (HB5.out.trans (hb.mono HB5.out.size))
    have HS6 := Lib.hid hb.size
    have Ot_6 := Lib.hid (Ot_5.out.below hb)
    have Ox_6 := Lib.hid (Ox_5.out.below hb)
    have Oy_6 := Lib.hid (Oy_5.out.below hb)
    clear Ot_5 Ox_5 Oy_5
    clear hb
    go_wp2
    go_ret
    exact ⟨rfl, HB6.out⟩
  · have hsz : (if (1048576 : Int) < (l.length : Int) then -1 else (1048576 : Int) - (l.length : Int)) = -1 := if_pos (by omega)
    have HSZ := Lib.hid hsz
    clear hsz hl
    have HB0 := Lib.hid (Below.refl w.heap.size w)
    go_enter Try.func5, Try.ntmps5
    go_wp2_with fail
    refine (szHeldS_any a l.length cap 1048576 _ (by omega) (by omega) HM.out).mono ?_
    rw [HSZ.out]
    rintro e v0 ⟨rfl, rfl⟩
    go_wp2
    go_ret
    exact ⟨rfl, HB0.out⟩
end Go.Proofs.Ytghijkpcmamebaa

namespace Go.Proofs.Ytghijkpcmamebaa
open Go.RowKit

/-- What a function returns that makes a report. -/
def RpvO (r : Int) (zs : List Int) (w : World) (e : Ending) (w' : World) : Prop := ∃ a c fp, e = .returned (rpv r (.slice a zs.length c)) ∧ OwC w' w.heap.size (.row [.int .i64]) (.slice a zs.length c) (.row (ones zs)) fp ∧ Below w.heap.size w w'
theorem rpvO {r : Int} {zs : List Int} {w w' : World} {e : Ending} (h : RpV r zs w e w') (hl : zs.length ≤ 1048576) : RpvO r zs w e w' := by
  obtain ⟨u, he, ho, hb⟩ := h
  obtain ⟨a, c, fp, rfl, h⟩ := owC_len ho hl
  exact ⟨a, c, fp, he, h, hb⟩
theorem rofK_len (l : List Hd) : (rofK l).length ≤ 56 := by
  rw [rofK]; split
  · exact codesN_len l 56
  · simp
theorem rbV_len (bs : List Int) (rl : Int) (zl : List Int) (h : zl.length ≤ 1048576) : (rbV bs rl zl).z.length ≤ 1048576 := by
  have := bKeys_len bs 6
  rw [rbV]; split
  · rw [rbEnd]; split
    · exact h
    · split
      · show (bKeys bs 6).length ≤ 1048576; omega
      · simp
  · simp
theorem specReportOf_law (v : Value) (l : List Hd) (rr : Int) (rz : List Int) (hr : rr = (rofM l : Nat)) (hz : rz = rofK l) (w : World) (hn : l.length ≤ maxLen) (h : RdN w v l.length (flatHd l)) :
    Calls Try.prog 24 #[v] w (RpvO rr rz w) := by
  have := rofK_len l
  rw [hr, hz]; exact (specReportOf_any v l w hn h).mono fun _ _ hp => rpvO hp (by omega)
theorem markHeldS_q (B : Nat) (v : Value) (l : List Hd) (fp : List Nat) (q q2 : Int) (hq : q2 = q + ((l.length * 5 : Nat) : Int)) (w : World) (hn : l.length ≤ 1048576) (hk : 0 ≤ q) (hk' : q ≤ 1099511627776) (h : OwF w B 33 5 v l.length (flatHd l) fp) :
    Calls Try.prog 26 #[v, .int .i64 q] w fun e w' => e = .returned (.int .i64 q2) ∧ OwF w' B 33 5 v l.length (flatHd (marksHd q l.length)) fp ∧ Turn w w' fp := by
  rw [hq]; exact markHeldS_law B v l fp q w hn hk hk' h

set_option maxHeartbeats 1000000 in
set_option maxRecDepth 100000 in
theorem lawReportOf_walk (a : Option Addr) (n cap : Nat) (l : List Hd) (w : World) (hn : l.length = n) (hm : n ≤ maxLen) (h : RdN w (.slice a n cap) l.length (flatHd l)) (hI : ∀ (v : Value) (l : List Hd) (w : World), l.length ≤ maxLen → RdN w v l.length (flatHd l) → Calls Try.prog 13 #[v] w (RpvO (rofM l : Nat) (rofK l) w)) : Calls Try.prog 6 #[.slice a n cap] w fun e w' => e = .returned (.bool true) ∧ Below w.heap.size w w' := by
  subst hn
  have HR := Lib.hid h
  have HM := Lib.hid hm
  have hlen := rofK_len l
  obtain ⟨rr, hrr⟩ : ∃ x : Int, x = (rofM l : Nat) := ⟨_, rfl⟩
  obtain ⟨rz, hrz⟩ : ∃ x, x = rofK l := ⟨_, rfl⟩
  rw [← hrz] at hlen
  have HI := Lib.hid (show ∀ (v : Value) (w : World), RdN w v l.length (flatHd l) → Calls Try.prog 13 #[v] w (RpvO rr rz w) from fun v w hr => by rw [hrr, hrz]; exact hI v l w HM.out hr)
  have HE1 := Lib.hid (show rz.length ≤ 1000000000000 by omega)
  have HE2 := Lib.hid (show rz.length ≤ 1099511627776 by omega)
  have HE3 := Lib.hid (show rz.length ≤ 1048576 by omega)
  have HRR := Lib.hid hrr
  have HRZ := Lib.hid hrz
  clear h hI hrr hrz hlen
  obtain ⟨qx, hqx⟩ : ∃ q : Int, q = 1 + ((l.length * 5 : Nat) : Int) := ⟨_, rfl⟩
  obtain ⟨qr, hqr⟩ : ∃ q : Int, q = 1 + (rz.length : Int) := ⟨_, rfl⟩
  have hqx0 : ¬ qx < 0 := by omega
  have hqr0 : ¬ qr < 0 := by omega
  have HQX := Lib.hid hqx
  have HQR := Lib.hid hqr
  clear hqx hqr hm
  by_cases hl : l.length ≤ 1048576
  · have hsz : (if (1048576 : Int) < (l.length : Int) then -1 else (1048576 : Int) - (l.length : Int)) = 1048576 - (l.length : Int) := if_neg (by omega)
    have hsz0 : ¬ (1048576 : Int) - (l.length : Int) < 0 := by omega
    have HSZ := Lib.hid hsz
    have HL := Lib.hid hl
    have HE0 := Lib.hid (show l.length ≤ 1000000000000 by omega)
    clear hsz hl
    have HB0 := Lib.hid (Below.refl w.heap.size w)
    go_enter Try.func6, Try.ntmps6
    go_wp2_with fail
    refine (szHeldS_any a l.length cap 1048576 _ (by omega) (by omega) HM.out).mono ?_
    rw [HSZ.out]
    rintro e v0 ⟨rfl, rfl⟩
    go_wp2_with fail
    refine (toHeldS_law _ l _ HL.out (HR.out.below HB0.out)).mono ?_
    rintro e w1 ⟨a1, c1, f1, rfl, h1, hb⟩
    have HB1 := Lib.hid (HB0.out.trans (hb.mono HB0.out.size))
    have HS1 := Lib.hid hb.size
    have Rt := Lib.hid (h1.rng)
    have Ot_1 := Lib.hid h1
    clear hb h1
    go_wp2_with fail
    refine (specReportOf_law _ l rr rz HRR.out HRZ.out _ HM.out Ot_1.out.rd).mono ?_
    rintro e w2 ⟨a2, c2, f2, rfl, h2, hb⟩
    have HB2 := Lib.hid (HB1.out.trans (hb.mono HB1.out.size))
    have HS2 := Lib.hid hb.size
    have Ot_2 := Lib.hid (Ot_1.out.below hb)
    clear Ot_1
    have Rw := Lib.hid (h2.rng)
    have Ow_2 := Lib.hid h2
    clear hb h2
    go_upto_region 6 with (fail)
    obtain ⟨w3, hw⟩ : ∃ x, x = w2.alloc (.cells #[.int .i64 rr, .slice a2 rz.length c2] 28) := ⟨_, rfl⟩
    have hb : Below w2.heap.size w2 w3 := by rw [hw]; exact below_alloc1 _ _
    have hk : w3.heap[w2.heap.size]? = some (.cells #[.int .i64 rr, .slice a2 rz.length c2] 28 (0, 0)) := by rw [hw]; exact heap_alloc_new _ _
    rw [← hw]
    have HB3 := Lib.hid (HB2.out.trans (hb.mono HB2.out.size))
    have HS3 := Lib.hid (show w2.heap.size < w3.heap.size from (Array.getElem?_eq_some_iff.mp hk).1)
    have Ot_3 := Lib.hid (Ot_2.out.below hb)
    have Ow_3 := Lib.hid (Ow_2.out.below hb)
    clear Ot_2 Ow_2
    have Kw_3 := Lib.hid hk
    clear hb hk hw
    go_wp2_with fail
    refine (toHeldS_law _ l _ HL.out (HR.out.below HB3.out)).mono ?_
    rintro e w4 ⟨a3, c3, f3, rfl, h3, hb⟩
    have HB4 := Lib.hid (HB3.out.trans (hb.mono HB3.out.size))
    have HS4 := Lib.hid hb.size
    have Kw_4 := Lib.hid (blk_below Kw_3.out hb)
    have Ot_4 := Lib.hid (Ot_3.out.below hb)
    have Ow_4 := Lib.hid (Ow_3.out.below hb)
    clear Kw_3 Ot_3 Ow_3
    have Rx := Lib.hid (h3.rng)
    have Ox_4 := Lib.hid h3
    clear hb h3
    go_wp2_with fail
    refine (HI.out _ _ Ox_4.out.rd).mono ?_
    rintro e w5 ⟨a4, c4, f4, rfl, h4, hb⟩
    have HB5 := Lib.hid (HB4.out.trans (hb.mono HB4.out.size))
    have HS5 := Lib.hid hb.size
    have Kw_5 := Lib.hid (blk_below Kw_4.out hb)
    have Ot_5 := Lib.hid (Ot_4.out.below hb)
    have Ow_5 := Lib.hid (Ow_4.out.below hb)
    have Ox_5 := Lib.hid (Ox_4.out.below hb)
    clear Kw_4 Ot_4 Ow_4 Ox_4
    have Rg := Lib.hid (h4.rng)
    have Og_5 := Lib.hid h4
    clear hb h4
    go_upto_region 8 with (fail)
    obtain ⟨w6, hw⟩ : ∃ x, x = w5.alloc (.cells #[.int .i64 rr, .slice a4 rz.length c4] 28) := ⟨_, rfl⟩
    have hb : Below w5.heap.size w5 w6 := by rw [hw]; exact below_alloc1 _ _
    have hk : w6.heap[w5.heap.size]? = some (.cells #[.int .i64 rr, .slice a4 rz.length c4] 28 (0, 0)) := by rw [hw]; exact heap_alloc_new _ _
    rw [← hw]
    have HB6 := Lib.hid (HB5.out.trans (hb.mono HB5.out.size))
    have HS6 := Lib.hid (show w5.heap.size < w6.heap.size from (Array.getElem?_eq_some_iff.mp hk).1)
    have Kw_6 := Lib.hid (blk_below Kw_5.out hb)
    have Ot_6 := Lib.hid (Ot_5.out.below hb)
    have Ow_6 := Lib.hid (Ow_5.out.below hb)
    have Ox_6 := Lib.hid (Ox_5.out.below hb)
    have Og_6 := Lib.hid (Og_5.out.below hb)
    clear Kw_5 Ot_5 Ow_5 Ox_5 Og_5
    have Kg_6 := Lib.hid hk
    clear hb hk hw
    have cg0 := (cells_of_heap Kg_6.out 0 (by simp)).1
    have cg1 := (cells_of_heap Kg_6.out 1 (by simp)).1
    have cw0 := (cells_of_heap Kw_6.out 0 (by simp)).1
    have cw1 := (cells_of_heap Kw_6.out 1 (by simp)).1
    go_wp2_with fail
    refine (eqReport_same rr _ _ rz _ HE1.out (owC_rd Og_6.out) (owC_rd Ow_6.out)).mono ?_
    rintro e w7 ⟨rfl, hb⟩
    clear cg0 cg1 cw0 cw1
    have HB7 := Lib.hid (HB6.out.trans (hb.mono HB6.out.size))
    have HS7 := Lib.hid hb.size
    have Kw_7 := Lib.hid (blk_below Kw_6.out hb)
    have Kg_7 := Lib.hid (blk_below Kg_6.out hb)
    have Ot_7 := Lib.hid (Ot_6.out.below hb)
    have Ow_7 := Lib.hid (Ow_6.out.below hb)
    have Ox_7 := Lib.hid (Ox_6.out.below hb)
    have Og_7 := Lib.hid (Og_6.out.below hb)
    clear Kw_6 Kg_6 Ot_6 Ow_6 Ox_6 Og_6
    clear hb
    go_wp2_with fail
    refine (toHeldS_law _ l _ HL.out (HR.out.below HB7.out)).mono ?_
    rintro e w8 ⟨a5, c5, f5, rfl, h5, hb⟩
    have HB8 := Lib.hid (HB7.out.trans (hb.mono HB7.out.size))
    have HS8 := Lib.hid hb.size
    have Kw_8 := Lib.hid (blk_below Kw_7.out hb)
    have Kg_8 := Lib.hid (blk_below Kg_7.out hb)
    have Ot_8 := Lib.hid (Ot_7.out.below hb)
    have Ow_8 := Lib.hid (Ow_7.out.below hb)
    have Ox_8 := Lib.hid (Ox_7.out.below hb)
    have Og_8 := Lib.hid (Og_7.out.below hb)
    clear Kw_7 Kg_7 Ot_7 Ow_7 Ox_7 Og_7
    have Ry := Lib.hid (h5.rng)
    have Oy_8 := Lib.hid h5
    clear hb h5
    go_wp2_with fail
    refine (eqHeldS_same _ _ l _ HE0.out Ox_8.out.rd Oy_8.out.rd).mono ?_
    rintro e w9 ⟨rfl, hb⟩
    have HB9 := Lib.hid (HB8.out.trans (hb.mono HB8.out.size))
    have HS9 := Lib.hid hb.size
    have Kw_9 := Lib.hid (blk_below Kw_8.out hb)
    have Kg_9 := Lib.hid (blk_below Kg_8.out hb)
    have Ot_9 := Lib.hid (Ot_8.out.below hb)
    have Ow_9 := Lib.hid (Ow_8.out.below hb)
    have Ox_9 := Lib.hid (Ox_8.out.below hb)
    have Og_9 := Lib.hid (Og_8.out.below hb)
    have Oy_9 := Lib.hid (Oy_8.out.below hb)
    clear Kw_8 Kg_8 Ot_8 Ow_8 Ox_8 Og_8 Oy_8
    clear hb
    go_wp2_with fail
    refine (markHeldS_q _ _ l _ 1 qx HQX.out _ HL.out (by decide) (by decide) Ox_9.out).mono ?_
    rintro e w10 ⟨rfl, ho, ht⟩
    have HB10 := Lib.hid (HB9.out.trans (ht.below (fun b hb => by have := Rx.out b hb; have := HB3.out.size; omega) HB9.out.size))
    have HS10 := Lib.hid ht.size
    have Kw_10 := Lib.hid (blk_turn Kw_9.out ht (fun hm => by have := Rx.out _ hm; have := HS3.out; omega))
    have Kg_10 := Lib.hid (blk_turn Kg_9.out ht (fun hm => by have := Rx.out _ hm; have := HS5.out; omega))
    have Ot_10 := Lib.hid (Ot_9.out.turn ht (fun b hb hb' => by have := Rx.out b hb'; have := Rt.out b hb; have := HS2.out; have := HS3.out; omega))
    have Ow_10 := Lib.hid (Ow_9.out.turn ht (fun b hb hb' => by have := Rx.out b hb'; have := Rw.out b hb; have := HS3.out; omega))
    have Og_10 := Lib.hid (Og_9.out.turn ht (fun b hb hb' => by have := Rx.out b hb'; have := Rg.out b hb; omega))
    have Oy_10 := Lib.hid (Oy_9.out.turn ht (fun b hb hb' => by have := Rx.out b hb'; have := Ry.out b hb; have := HS5.out; have := HS6.out; have := HS7.out; omega))
    have Ox_10 := Lib.hid ho
    clear ho ht Kw_9 Kg_9 Ot_9 Ow_9 Ox_9 Og_9 Oy_9
    have cg0 := (cells_of_heap Kg_10.out 0 (by simp)).1
    have cg1 := (cells_of_heap Kg_10.out 1 (by simp)).1
    have cw0 := (cells_of_heap Kw_10.out 0 (by simp)).1
    have cw1 := (cells_of_heap Kw_10.out 1 (by simp)).1
    go_wp2_with fail
    refine (eqReport_same rr _ _ rz _ HE1.out (owC_rd Og_10.out) (owC_rd Ow_10.out)).mono ?_
    rintro e w11 ⟨rfl, hb⟩
    clear cg0 cg1 cw0 cw1
    have HB11 := Lib.hid (HB10.out.trans (hb.mono HB10.out.size))
    have HS11 := Lib.hid hb.size
    have Kw_11 := Lib.hid (blk_below Kw_10.out hb)
    have Kg_11 := Lib.hid (blk_below Kg_10.out hb)
    have Ot_11 := Lib.hid (Ot_10.out.below hb)
    have Ow_11 := Lib.hid (Ow_10.out.below hb)
    have Ox_11 := Lib.hid (Ox_10.out.below hb)
    have Og_11 := Lib.hid (Og_10.out.below hb)
    have Oy_11 := Lib.hid (Oy_10.out.below hb)
    clear Kw_10 Kg_10 Ot_10 Ow_10 Ox_10 Og_10 Oy_10
    clear hb
    have cg0 := (cells_of_heap Kg_11.out 0 (by simp)).1
    have cg1 := (cells_of_heap Kg_11.out 1 (by simp)).1
    go_wp2_with fail
    refine (markReport_q _ rr _ rz _ 1 qr HQR.out _ HE2.out (by decide) (by decide) Og_11.out).mono ?_
    rintro e w12 ⟨rfl, ho, ht⟩
    clear cg0 cg1
    have HB12 := Lib.hid (HB11.out.trans (ht.below (fun b hb => by have := Rg.out b hb; have := HB4.out.size; omega) HB11.out.size))
    have HS12 := Lib.hid ht.size
    have Kw_12 := Lib.hid (blk_turn Kw_11.out ht (fun hm => by have := Rg.out _ hm; have := HS3.out; have := HS4.out; omega))
    have Kg_12 := Lib.hid (blk_turn Kg_11.out ht (fun hm => by have := Rg.out _ hm; omega))
    have Ot_12 := Lib.hid (Ot_11.out.turn ht (fun b hb hb' => by have := Rg.out b hb'; have := Rt.out b hb; have := HS2.out; have := HS3.out; have := HS4.out; omega))
    have Ow_12 := Lib.hid (Ow_11.out.turn ht (fun b hb hb' => by have := Rg.out b hb'; have := Rw.out b hb; have := HS3.out; have := HS4.out; omega))
    have Ox_12 := Lib.hid (Ox_11.out.turn ht (fun b hb hb' => by have := Rg.out b hb'; have := Rx.out b hb; omega))
    have Oy_12 := Lib.hid (Oy_11.out.turn ht (fun b hb hb' => by have := Rg.out b hb'; have := Ry.out b hb; have := HS6.out; have := HS7.out; omega))
    have Og_12 := Lib.hid ho
    clear ho ht Kw_11 Kg_11 Ot_11 Ow_11 Ox_11 Og_11 Oy_11
    have cg0 := (cells_of_heap Kg_12.out 0 (by simp)).1
    have cg1 := (cells_of_heap Kg_12.out 1 (by simp)).1
    go_wp2_with fail
    refine (heldReport_q rr _ rz.length 1 qr HQR.out _ HE3.out (by decide) (by decide) (owC_marks Og_12.out)).mono ?_
    rintro e w13 ⟨rfl, hb⟩
    clear cg0 cg1
    have HB13 := Lib.hid (HB12.out.trans (hb.mono HB12.out.size))
    have HS13 := Lib.hid hb.size
    have Kw_13 := Lib.hid (blk_below Kw_12.out hb)
    have Kg_13 := Lib.hid (blk_below Kg_12.out hb)
    have Ot_13 := Lib.hid (Ot_12.out.below hb)
    have Ow_13 := Lib.hid (Ow_12.out.below hb)
    have Ox_13 := Lib.hid (Ox_12.out.below hb)
    have Og_13 := Lib.hid (Og_12.out.below hb)
    have Oy_13 := Lib.hid (Oy_12.out.below hb)
    clear Kw_12 Kg_12 Ot_12 Ow_12 Ox_12 Og_12 Oy_12
    clear hb
    go_wp2_with fail
    refine (toHeldS_law _ l _ HL.out (HR.out.below HB13.out)).mono ?_
    rintro e w14 ⟨a6, c6, f6, rfl, h6, hb⟩
    have HB14 := Lib.hid (HB13.out.trans (hb.mono HB13.out.size))
    have HS14 := Lib.hid hb.size
    have Kw_14 := Lib.hid (blk_below Kw_13.out hb)
    have Kg_14 := Lib.hid (blk_below Kg_13.out hb)
    have Ot_14 := Lib.hid (Ot_13.out.below hb)
    have Ow_14 := Lib.hid (Ow_13.out.below hb)
    have Ox_14 := Lib.hid (Ox_13.out.below hb)
    have Og_14 := Lib.hid (Og_13.out.below hb)
    have Oy_14 := Lib.hid (Oy_13.out.below hb)
    clear Kw_13 Kg_13 Ot_13 Ow_13 Ox_13 Og_13 Oy_13
    have Ru := Lib.hid (h6.rng)
    have Ou_14 := Lib.hid h6
    clear hb h6
    go_wp2_with fail
    refine (HI.out _ _ Ou_14.out.rd).mono ?_
    rintro e w15 ⟨a7, c7, f7, rfl, h7, hb⟩
    have HB15 := Lib.hid (HB14.out.trans (hb.mono HB14.out.size))
    have HS15 := Lib.hid hb.size
    have Kw_15 := Lib.hid (blk_below Kw_14.out hb)
    have Kg_15 := Lib.hid (blk_below Kg_14.out hb)
    have Ot_15 := Lib.hid (Ot_14.out.below hb)
    have Ow_15 := Lib.hid (Ow_14.out.below hb)
    have Ox_15 := Lib.hid (Ox_14.out.below hb)
    have Og_15 := Lib.hid (Og_14.out.below hb)
    have Oy_15 := Lib.hid (Oy_14.out.below hb)
    have Ou_15 := Lib.hid (Ou_14.out.below hb)
    clear Kw_14 Kg_14 Ot_14 Ow_14 Ox_14 Og_14 Oy_14 Ou_14
    have Rh := Lib.hid (h7.rng)
    have Oh_15 := Lib.hid h7
    clear hb h7
    go_upto_region 25 with (fail)
    obtain ⟨w16, hw⟩ : ∃ x, x = w15.alloc (.cells #[.int .i64 rr, .slice a7 rz.length c7] 28) := ⟨_, rfl⟩
    have hb : Below w15.heap.size w15 w16 := by rw [hw]; exact below_alloc1 _ _
    have hk : w16.heap[w15.heap.size]? = some (.cells #[.int .i64 rr, .slice a7 rz.length c7] 28 (0, 0)) := by rw [hw]; exact heap_alloc_new _ _
    rw [← hw]
    have HB16 := Lib.hid (HB15.out.trans (hb.mono HB15.out.size))
    have HS16 := Lib.hid (show w15.heap.size < w16.heap.size from (Array.getElem?_eq_some_iff.mp hk).1)
    have Kw_16 := Lib.hid (blk_below Kw_15.out hb)
    have Kg_16 := Lib.hid (blk_below Kg_15.out hb)
    have Ot_16 := Lib.hid (Ot_15.out.below hb)
    have Ow_16 := Lib.hid (Ow_15.out.below hb)
    have Ox_16 := Lib.hid (Ox_15.out.below hb)
    have Og_16 := Lib.hid (Og_15.out.below hb)
    have Oy_16 := Lib.hid (Oy_15.out.below hb)
    have Ou_16 := Lib.hid (Ou_15.out.below hb)
    have Oh_16 := Lib.hid (Oh_15.out.below hb)
    clear Kw_15 Kg_15 Ot_15 Ow_15 Ox_15 Og_15 Oy_15 Ou_15 Oh_15
    have Kh_16 := Lib.hid hk
    clear hb hk hw
    have ch0 := (cells_of_heap Kh_16.out 0 (by simp)).1
    have ch1 := (cells_of_heap Kh_16.out 1 (by simp)).1
    have cw0 := (cells_of_heap Kw_16.out 0 (by simp)).1
    have cw1 := (cells_of_heap Kw_16.out 1 (by simp)).1
    go_wp2_with fail
    refine (eqReport_same rr _ _ rz _ HE1.out (owC_rd Oh_16.out) (owC_rd Ow_16.out)).mono ?_
    rintro e w17 ⟨rfl, hb⟩
    clear ch0 ch1 cw0 cw1
    have HB17 := Lib.hid (HB16.out.trans (hb.mono HB16.out.size))
    have HS17 := Lib.hid hb.size
    have Kw_17 := Lib.hid (blk_below Kw_16.out hb)
    have Kg_17 := Lib.hid (blk_below Kg_16.out hb)
    have Kh_17 := Lib.hid (blk_below Kh_16.out hb)
    have Ot_17 := Lib.hid (Ot_16.out.below hb)
    have Ow_17 := Lib.hid (Ow_16.out.below hb)
    have Ox_17 := Lib.hid (Ox_16.out.below hb)
    have Og_17 := Lib.hid (Og_16.out.below hb)
    have Oy_17 := Lib.hid (Oy_16.out.below hb)
    have Ou_17 := Lib.hid (Ou_16.out.below hb)
    have Oh_17 := Lib.hid (Oh_16.out.below hb)
    clear Kw_16 Kg_16 Kh_16 Ot_16 Ow_16 Ox_16 Og_16 Oy_16 Ou_16 Oh_16
    clear hb
    have cg0 := (cells_of_heap Kg_17.out 0 (by simp)).1
    have cg1 := (cells_of_heap Kg_17.out 1 (by simp)).1
    go_wp2_with fail
    refine (heldReport_q rr _ rz.length 1 qr HQR.out _ HE3.out (by decide) (by decide) (owC_marks Og_17.out)).mono ?_
    rintro e w18 ⟨rfl, hb⟩
    clear cg0 cg1
    have HB18 := Lib.hid (HB17.out.trans (hb.mono HB17.out.size))
    have HS18 := Lib.hid hb.size
    have Kw_18 := Lib.hid (blk_below Kw_17.out hb)
    have Kg_18 := Lib.hid (blk_below Kg_17.out hb)
    have Kh_18 := Lib.hid (blk_below Kh_17.out hb)
    have Ot_18 := Lib.hid (Ot_17.out.below hb)
    have Ow_18 := Lib.hid (Ow_17.out.below hb)
    have Ox_18 := Lib.hid (Ox_17.out.below hb)
    have Og_18 := Lib.hid (Og_17.out.below hb)
    have Oy_18 := Lib.hid (Oy_17.out.below hb)
    have Ou_18 := Lib.hid (Ou_17.out.below hb)
    have Oh_18 := Lib.hid (Oh_17.out.below hb)
    clear Kw_17 Kg_17 Kh_17 Ot_17 Ow_17 Ox_17 Og_17 Oy_17 Ou_17 Oh_17
    clear hb
    go_wp2
    go_ret
    exact ⟨rfl, HB18.out⟩
  · have hsz : (if (1048576 : Int) < (l.length : Int) then -1 else (1048576 : Int) - (l.length : Int)) = -1 := if_pos (by omega)
    have HSZ := Lib.hid hsz
    clear hsz hl
    have HB0 := Lib.hid (Below.refl w.heap.size w)
    go_enter Try.func6, Try.ntmps6
    go_wp2_with fail
    refine (szHeldS_any a l.length cap 1048576 _ (by omega) (by omega) HM.out).mono ?_
    rw [HSZ.out]
    rintro e v0 ⟨rfl, rfl⟩
    go_wp2
    go_ret
    exact ⟨rfl, HB0.out⟩

end Go.Proofs.Ytghijkpcmamebaa
