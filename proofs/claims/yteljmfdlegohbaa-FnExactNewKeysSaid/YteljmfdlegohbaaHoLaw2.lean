/- DERIVED. The exact law of NewKeys, over the program's own function: called with any arguments, it returns true and changes nothing that was there. -/
import Derived.Test.YteljmfdlegohbaaHoLaw
import Derived.Test.YteljmfdlegohbaaHoNewI
import Derived.Test.YteljmfdlegohbaaRpLaw2
namespace Go.Proofs.Yteljmfdlegohbaa
open Go.RowKit

theorem lawKeyOf_fin (z : Int) (w : World) (hz : (Lit.int .u8 z).wf = true) : Calls Try.prog 13 #[.int .u8 z] w fun e w' => e = .returned (.bool true) ∧ Below w.heap.size w w' := by
  refine lawKeyOf_all z w ?_
  simp [Lit.wf, IntKind.min, IntKind.max, IntKind.signed, IntKind.bits] at hz
  omega
/-- Numbers that a call has made, with their blocks. -/
def NkC (zs : List Int) (w : World) (e : Ending) (w' : World) : Prop := ∃ a c fp, e = .returned (.slice a zs.length c) ∧ OwC w' w.heap.size (.row [.int .i64]) (.slice a zs.length c) (.row (ones zs)) fp ∧ Below w.heap.size w w'
theorem nkC {zs : List Int} {w w' : World} {e : Ending} (hl : zs.length ≤ 1048576) (h : NkO zs w e w') : NkC zs w e w' := by
  obtain ⟨a, c, he, ho, hb⟩ := h
  obtain ⟨fp, _, hc⟩ := owC_ints ho (by unfold maxLen; omega)
  exact ⟨a, c, fp, he, hc, hb⟩
theorem specNewKeys_c (r1 : Int) (u1 : Value) (z1 : List Int) (r2 : Int) (u2 : Value) (z2 : List Int) (R : List Int) (hR : R = nkV (r1, z1) (r2, z2)) (w : World) (hl1 : z1.length ≤ 1048576) (hl2 : z2.length ≤ 1048576) (hl : R.length ≤ 1048576) (h1 : Rd w u1 (z1.map (.int .i64))) (h2 : Rd w u2 (z2.map (.int .i64))) :
    Calls Try.prog 64 #[rpv r1 u1, rpv r2 u2] w (NkC R w) :=
  (specNewKeys_any r1 r2 u1 u2 z1 z2 w (by unfold maxLen; omega) hl2 h1 h2).mono fun _ _ h => nkC hl (by rw [hR]; exact h)
theorem implNewKeys_c (r1 : Int) (u1 : Value) (z1 : List Int) (r2 : Int) (u2 : Value) (z2 : List Int) (R : List Int) (hR : R = nkV (r1, z1) (r2, z2)) (w : World) (hl1 : z1.length ≤ 1048576) (hl2 : z2.length ≤ 1048576) (hl : R.length ≤ 1048576) (h1 : Rd w u1 (z1.map (.int .i64))) (h2 : Rd w u2 (z2.map (.int .i64))) :
    Calls Try.prog 66 #[rpv r1 u1, rpv r2 u2] w (NkC R w) :=
  (implNewKeys_any r1 r2 u1 u2 z1 z2 w (by unfold maxLen; omega) hl2 h1 h2).mono fun _ _ h => nkC hl (by rw [hR]; exact h)
theorem markReport_q12 (B : Nat) (r : Int) (u : Value) (zs : List Int) (fp : List Nat) (q q2 : Int) (hq : q2 = q + (zs.length : Int)) (w : World) (hn : zs.length ≤ 1099511627776) (hk : 0 ≤ q) (hk' : q ≤ 1099511627776) (h : OwC w B (.row [.int .i64]) u (.row (ones zs)) fp) :
    Calls Try.prog 69 #[rpv r u, .int .i64 q] w fun e w' => e = .returned (.int .i64 q2) ∧ OwC w' B (.row [.int .i64]) u (.row (ones (marksZ q zs.length))) fp ∧ Turn w w' fp := by
  rw [hq]; exact markReport_own B r u zs fp q w hn hk hk' h
theorem markIntS_q12 (B : Nat) (u : Value) (zs : List Int) (fp : List Nat) (q q2 : Int) (hq : q2 = q + (zs.length : Int)) (w : World) (hn : zs.length ≤ 1048576) (hk : 0 ≤ q) (hk' : q ≤ 1099511627776) (h : OwC w B (.row [.int .i64]) u (.row (ones zs)) fp) :
    Calls Try.prog 70 #[u, .int .i64 q] w fun e w' => e = .returned (.int .i64 q2) ∧ OwC w' B (.row [.int .i64]) u (.row (ones (marksZ q zs.length))) fp ∧ Turn w w' fp := by
  rw [hq]; exact markIntS_own B u zs fp q w (by omega) hk hk' h
theorem heldIntS_q12 (u : Value) (m : Nat) (q q2 : Int) (hq : q2 = q + (m : Int)) (w : World) (hn : m ≤ 1048576) (hk : 0 ≤ q) (hk' : q ≤ 1099511627776) (h : Rd w u (marks64 q m)) :
    Calls Try.prog 71 #[u, .int .i64 q] w fun e w' => e = .returned (.int .i64 q2) ∧ w = w' := by
  rw [hq]; exact heldIntS_any u m q w hn hk hk' h

set_option maxHeartbeats 4000000 in
set_option maxRecDepth 100000 in
theorem lawNewKeys_all (r1 : Int) (a1 : Option Addr) (m1 cap1 : Nat) (z1 : List Int) (r2 : Int) (a2 : Option Addr) (m2 cap2 : Nat) (z2 : List Int) (w : World) (hm1 : z1.length = m1) (hml1 : m1 ≤ maxLen) (h1 : Rd w (.slice a1 m1 cap1) (z1.map (.int .i64))) (hm2 : z2.length = m2) (hml2 : m2 ≤ maxLen) (h2 : Rd w (.slice a2 m2 cap2) (z2.map (.int .i64))) : Calls Try.prog 14 #[rpv r1 (.slice a1 m1 cap1), rpv r2 (.slice a2 m2 cap2)] w fun e w' => e = .returned (.bool true) ∧ Below w.heap.size w w' := by
  subst hm1 hm2
  have HR1 := Lib.hid h1
  have HR2 := Lib.hid h2
  clear h1 h2
  by_cases hl1 : z1.length ≤ 1048576
  · have hsz : (if (1048576 : Int) < (z1.length : Int) then -1 else (1048576 : Int) - (z1.length : Int)) = 1048576 - (z1.length : Int) := if_neg (by omega)
    have hsz0 : ¬ (1048576 : Int) - (z1.length : Int) < 0 := by omega
    have HSZ := Lib.hid hsz
    clear hsz
    by_cases hl2 : z1.length + z2.length ≤ 1048576
    · have hsq : (if (1048576 : Int) - (z1.length : Int) < (z2.length : Int) then -1 else (1048576 : Int) - (z1.length : Int) - (z2.length : Int)) = 1048576 - (z1.length : Int) - (z2.length : Int) := if_neg (by omega)
      have hsq0 : ¬ (1048576 : Int) - (z1.length : Int) - (z2.length : Int) < 0 := by omega
      have hq2 : z2.length ≤ 1048576 := by omega
      have HSQ := Lib.hid hsq
      clear hsq
      have hzl : (nkV (r1, z1) (r2, z2)).length ≤ z2.length := nkV_len _ _
      obtain ⟨R, hr⟩ : ∃ x, x = nkV (r1, z1) (r2, z2) := ⟨_, rfl⟩
      rw [← hr] at hzl
      have HRR := Lib.hid hr
      have HRl := Lib.hid (show R.length ≤ 1048576 by omega)
      obtain ⟨q1, hq1⟩ : ∃ q : Int, q = 1 + (z1.length : Int) := ⟨_, rfl⟩
      obtain ⟨q2, hqq2⟩ : ∃ q : Int, q = q1 + (z2.length : Int) := ⟨_, rfl⟩
      obtain ⟨qr, hqr⟩ : ∃ q : Int, q = 1 + (R.length : Int) := ⟨_, rfl⟩
      have hq20 : ¬ q2 < 0 := by omega
      have hqr0 : ¬ qr < 0 := by omega
      have HQ1 := Lib.hid hq1
      have HQ2 := Lib.hid hqq2
      have HQR := Lib.hid hqr
      have HQ1b := Lib.hid (show 0 ≤ q1 ∧ q1 ≤ 1099511627776 by omega)
      clear hr hzl hq1 hqq2 hqr
      obtain ⟨w0, hw0⟩ : ∃ x, x = ((w.alloc (.cells #[.int .i64 r1, .slice a1 z1.length cap1] 93)).alloc (.cells #[.int .i64 r2, .slice a2 z2.length cap2] 93)) := ⟨_, rfl⟩
      have HB0 := Lib.hid (show Below w.heap.size w w0 by rw [hw0]; exact ((Below.refl _ _).alloc (Nat.le_refl _) _).alloc (by simp) _)
      have Kd_0 := Lib.hid (show w0.heap[w.heap.size]? = some (.cells #[.int .i64 r1, .slice a1 z1.length cap1] 93 (0, 0)) by rw [hw0]; rw [Below.heap_alloc _ _ _ (by simp <;> omega)]; exact heap_alloc_new w _)
      have Ke_0 := Lib.hid (show w0.heap[w.heap.size + 1]? = some (.cells #[.int .i64 r2, .slice a2 z2.length cap2] 93 (0, 0)) by rw [hw0]; simpa using heap_alloc_new (w.alloc (.cells #[.int .i64 r1, .slice a1 z1.length cap1] 93)) _)
      have SZ0 := Lib.hid (show w0.heap.size = w.heap.size + 1 + 1 by rw [hw0]; simp)
      have HW := Lib.hid hw0
      clear hw0
      go_enter Try.func14, Try.ntmps14
      have cd0 := (cells_of_heap Kd_0.out 0 (by simp)).1
      have cd1 := (cells_of_heap Kd_0.out 1 (by simp)).1
      go_wp2_with fail
      rw [← HW.out]
      refine (szReport_any r1 a1 z1.length cap1 1048576 _ (by omega) (by omega) hml1).mono ?_
      rw [HSZ.out]
      rintro e w1 ⟨rfl, hb⟩
      clear cd0 cd1
      have HB1 := Lib.hid (HB0.out.trans (hb.mono HB0.out.size))
      have HS1 := Lib.hid hb.size
      have Kd_1 := Lib.hid (blk_below Kd_0.out hb)
      have Ke_1 := Lib.hid (blk_below Ke_0.out hb)
      clear Kd_0 Ke_0
      clear hb
      have ce0 := (cells_of_heap Ke_1.out 0 (by simp)).1
      have ce1 := (cells_of_heap Ke_1.out 1 (by simp)).1
      go_wp2_with fail
      refine (szReport_any r2 a2 z2.length cap2 (1048576 - (z1.length : Int)) _ (by omega) (by omega) hml2).mono ?_
      rw [HSQ.out]
      rintro e w2 ⟨rfl, hb⟩
      clear ce0 ce1
      have HB2 := Lib.hid (HB1.out.trans (hb.mono HB1.out.size))
      have HS2 := Lib.hid hb.size
      have Kd_2 := Lib.hid (blk_below Kd_1.out hb)
      have Ke_2 := Lib.hid (blk_below Ke_1.out hb)
      clear Kd_1 Ke_1
      clear hb
      go_upto_region 8 with (fail)
      go_cut [6] (fun sd wx => ∃ (a9 : Option Addr) (c9 : Nat) (f9 : List Nat), sd = .slice a9 R.length c9 ∧ OwC wx w2.heap.size (.row [.int .i64]) (.slice a9 R.length c9) (.row (ones R)) f9 ∧ Below w2.heap.size w2 wx)
      case first =>
        have cd0 := (cells_of_heap Kd_2.out 0 (by simp)).1
        have cd1 := (cells_of_heap Kd_2.out 1 (by simp)).1
        have ce0 := (cells_of_heap Ke_2.out 0 (by simp)).1
        have ce1 := (cells_of_heap Ke_2.out 1 (by simp)).1
        have ld : w.heap.size < w2.heap.size := (Array.getElem?_eq_some_iff.mp Kd_2.out).1
        have le : w.heap.size + 1 < w2.heap.size := (Array.getElem?_eq_some_iff.mp Ke_2.out).1
        have X0 := Lib.hid (Below.refl w2.heap.size w2)
        go_region_held3 (fun w' => w'.cell? ⟨w.heap.size, 0, none⟩ = some (.int .i64 r1) ∧ w'.cell? ⟨w.heap.size, 1, none⟩ = some (.slice a1 z1.length cap1) ∧ w'.cell? ⟨w.heap.size + 1, 0, none⟩ = some (.int .i64 r2) ∧ w'.cell? ⟨w.heap.size + 1, 1, none⟩ = some (.slice a2 z2.length cap2)) (first | go_keep)
          (first | (go_at_call 65; have z9 := X0; clear z9; refine (toReport_law r1 _ z1 _ hl1 (HR1.out.below (HB2.out.trans (Below.mono (by first | exact X0.out | exact X0.out.drew | exact X0.out.drew.drew) HB2.out.size)))).mono ?_; rintro e v1 ⟨a7, c7, f7, rfl, hy7, hb⟩; have hbr : Below w2.heap.size w2 v1 := below_via (by first | exact X0.out | exact X0.out.drew | exact X0.out.drew.drew) hb; have kcd0 := (hbr.cell (p := ⟨w.heap.size, 0, none⟩) ld).trans cd0; have kcd1 := (hbr.cell (p := ⟨w.heap.size, 1, none⟩) ld).trans cd1; have kce0 := (hbr.cell (p := ⟨w.heap.size + 1, 0, none⟩) le).trans ce0; have kce1 := (hbr.cell (p := ⟨w.heap.size + 1, 1, none⟩) le).trans ce1; have HY7 := Lib.hid (hy7); have X1 := Lib.hid hbr; clear hbr hb X0) | (go_at_call 65; have z9 := X1; clear z9; refine (toReport_law r2 _ z2 _ hq2 (HR2.out.below (HB2.out.trans (Below.mono (by first | exact X1.out | exact X1.out.drew | exact X1.out.drew.drew) HB2.out.size)))).mono ?_; rintro e v2 ⟨a8, c8, f8, rfl, hy8, hb⟩; have hbr : Below w2.heap.size w2 v2 := below_via (by first | exact X1.out | exact X1.out.drew | exact X1.out.drew.drew) hb; have kcd0 := (hbr.cell (p := ⟨w.heap.size, 0, none⟩) ld).trans cd0; have kcd1 := (hbr.cell (p := ⟨w.heap.size, 1, none⟩) ld).trans cd1; have kce0 := (hbr.cell (p := ⟨w.heap.size + 1, 0, none⟩) le).trans ce0; have kce1 := (hbr.cell (p := ⟨w.heap.size + 1, 1, none⟩) le).trans ce1; have HY8 := Lib.hid (hy8); have HB12 := Lib.hid (show Below v1.heap.size v1 v2 by first | exact hb | exact ((Below.refl _ _).drew).trans hb | exact ((Below.refl _ _).drew.drew).trans hb); have X2 := Lib.hid hbr; clear hbr hb X1) | (go_at_call 64; have z9 := X2; clear z9; refine (specNewKeys_c r1 _ z1 r2 _ z2 R HRR.out _ hl1 hq2 HRl.out (((owC_rd HY7.out).below HB12.out).below (by first | exact (Below.refl _ _) | exact (Below.refl _ _).drew | exact (Below.refl _ _).drew.drew)) ((owC_rd HY8.out).below (by first | exact (Below.refl _ _) | exact (Below.refl _ _).drew | exact (Below.refl _ _).drew.drew))).mono ?_; rintro e v3 ⟨a9, c9, f9, rfl, h9, hb⟩; have hbr : Below w2.heap.size w2 v3 := below_via (by first | exact X2.out | exact X2.out.drew | exact X2.out.drew.drew) hb; have kcd0 := (hbr.cell (p := ⟨w.heap.size, 0, none⟩) ld).trans cd0; have kcd1 := (hbr.cell (p := ⟨w.heap.size, 1, none⟩) ld).trans cd1; have kce0 := (hbr.cell (p := ⟨w.heap.size + 1, 0, none⟩) le).trans ce0; have kce1 := (hbr.cell (p := ⟨w.heap.size + 1, 1, none⟩) le).trans ce1; have H9 := Lib.hid (OwC.base _ _ _ _ h9 (show w2.heap.size ≤ _ from X2.out.size)); have X3 := Lib.hid hbr; clear hbr hb X2))
        all_goals
          go_wp2
          go_meet
          first | exact ⟨_, _, _, rfl, H9.out, X3.out⟩ | exact ⟨_, _, _, rfl, H9.out.below (Below.refl _ _).drew, X3.out.drew⟩ | exact ⟨_, _, _, rfl, H9.out.below (Below.refl _ _).drew.drew, X3.out.drew.drew⟩
      case rest =>
        obtain ⟨aw, cw, fw, rfl, hw, hb⟩ := hcut
        obtain ⟨w3, hEq⟩ : ∃ x, x = wc := ⟨_, rfl⟩
        rw [← hEq] at hw hb ⊢
        clear hEq
        have HB3 := Lib.hid (HB2.out.trans (hb.mono HB2.out.size))
        have HS3 := Lib.hid hb.size
        have Kd_3 := Lib.hid (blk_below Kd_2.out hb)
        have Ke_3 := Lib.hid (blk_below Ke_2.out hb)
        clear Kd_2 Ke_2
        have Rw := Lib.hid hw.rng
        have Ow_3 := Lib.hid hw
        clear hb hw
        have cd0 := (cells_of_heap Kd_3.out 0 (by simp)).1
        have cd1 := (cells_of_heap Kd_3.out 1 (by simp)).1
        go_wp2_with fail
        refine (toReport_law r1 _ z1 _ hl1 (HR1.out.below HB3.out)).mono ?_
        rintro e w4 ⟨a3, c3, f3, rfl, h3, hb⟩
        clear cd0 cd1
        have HB4 := Lib.hid (HB3.out.trans (hb.mono HB3.out.size))
        have HS4 := Lib.hid hb.size
        have Kd_4 := Lib.hid (blk_below Kd_3.out hb)
        have Ke_4 := Lib.hid (blk_below Ke_3.out hb)
        have Ow_4 := Lib.hid (Ow_3.out.below hb)
        clear Kd_3 Ke_3 Ow_3
        have Rx := Lib.hid (h3.rng)
        have Ox_4 := Lib.hid h3
        clear hb h3
        go_upto_region 10 with (fail)
        obtain ⟨w5, hw⟩ : ∃ x, x = w4.alloc (.cells #[.int .i64 r1, .slice a3 z1.length c3] 62) := ⟨_, rfl⟩
        have hb : Below w4.heap.size w4 w5 := by rw [hw]; exact below_alloc1 _ _
        have hk : w5.heap[w4.heap.size]? = some (.cells #[.int .i64 r1, .slice a3 z1.length c3] 62 (0, 0)) := by rw [hw]; exact heap_alloc_new _ _
        rw [← hw]
        have HB5 := Lib.hid (HB4.out.trans (hb.mono HB4.out.size))
        have HS5 := Lib.hid (show w4.heap.size < w5.heap.size from (Array.getElem?_eq_some_iff.mp hk).1)
        have Kd_5 := Lib.hid (blk_below Kd_4.out hb)
        have Ke_5 := Lib.hid (blk_below Ke_4.out hb)
        have Ow_5 := Lib.hid (Ow_4.out.below hb)
        have Ox_5 := Lib.hid (Ox_4.out.below hb)
        clear Kd_4 Ke_4 Ow_4 Ox_4
        have Kx_5 := Lib.hid hk
        clear hb hk hw
        have ce0 := (cells_of_heap Ke_5.out 0 (by simp)).1
        have ce1 := (cells_of_heap Ke_5.out 1 (by simp)).1
        go_wp2_with fail
        refine (toReport_law r2 _ z2 _ hq2 (HR2.out.below HB5.out)).mono ?_
        rintro e w6 ⟨a4, c4, f4, rfl, h4, hb⟩
        clear ce0 ce1
        have HB6 := Lib.hid (HB5.out.trans (hb.mono HB5.out.size))
        have HS6 := Lib.hid hb.size
        have Kd_6 := Lib.hid (blk_below Kd_5.out hb)
        have Ke_6 := Lib.hid (blk_below Ke_5.out hb)
        have Kx_6 := Lib.hid (blk_below Kx_5.out hb)
        have Ow_6 := Lib.hid (Ow_5.out.below hb)
        have Ox_6 := Lib.hid (Ox_5.out.below hb)
        clear Kd_5 Ke_5 Kx_5 Ow_5 Ox_5
        have Ry := Lib.hid (h4.rng)
        have Oy_6 := Lib.hid h4
        clear hb h4
        go_upto_region 11 with (fail)
        obtain ⟨w7, hw⟩ : ∃ x, x = w6.alloc (.cells #[.int .i64 r2, .slice a4 z2.length c4] 62) := ⟨_, rfl⟩
        have hb : Below w6.heap.size w6 w7 := by rw [hw]; exact below_alloc1 _ _
        have hk : w7.heap[w6.heap.size]? = some (.cells #[.int .i64 r2, .slice a4 z2.length c4] 62 (0, 0)) := by rw [hw]; exact heap_alloc_new _ _
        rw [← hw]
        have HB7 := Lib.hid (HB6.out.trans (hb.mono HB6.out.size))
        have HS7 := Lib.hid (show w6.heap.size < w7.heap.size from (Array.getElem?_eq_some_iff.mp hk).1)
        have Kd_7 := Lib.hid (blk_below Kd_6.out hb)
        have Ke_7 := Lib.hid (blk_below Ke_6.out hb)
        have Kx_7 := Lib.hid (blk_below Kx_6.out hb)
        have Ow_7 := Lib.hid (Ow_6.out.below hb)
        have Ox_7 := Lib.hid (Ox_6.out.below hb)
        have Oy_7 := Lib.hid (Oy_6.out.below hb)
        clear Kd_6 Ke_6 Kx_6 Ow_6 Ox_6 Oy_6
        have Ky_7 := Lib.hid hk
        clear hb hk hw
        have cx0 := (cells_of_heap Kx_7.out 0 (by simp)).1
        have cx1 := (cells_of_heap Kx_7.out 1 (by simp)).1
        have cy0 := (cells_of_heap Ky_7.out 0 (by simp)).1
        have cy1 := (cells_of_heap Ky_7.out 1 (by simp)).1
        go_wp2_with fail
        refine (implNewKeys_c r1 _ z1 r2 _ z2 R HRR.out _ hl1 hq2 HRl.out (owC_rd Ox_7.out) (owC_rd Oy_7.out)).mono ?_
        rintro e w8 ⟨a5, c5, f5, rfl, h5, hb⟩
        clear cx0 cx1 cy0 cy1
        have HB8 := Lib.hid (HB7.out.trans (hb.mono HB7.out.size))
        have HS8 := Lib.hid hb.size
        have Kd_8 := Lib.hid (blk_below Kd_7.out hb)
        have Ke_8 := Lib.hid (blk_below Ke_7.out hb)
        have Kx_8 := Lib.hid (blk_below Kx_7.out hb)
        have Ky_8 := Lib.hid (blk_below Ky_7.out hb)
        have Ow_8 := Lib.hid (Ow_7.out.below hb)
        have Ox_8 := Lib.hid (Ox_7.out.below hb)
        have Oy_8 := Lib.hid (Oy_7.out.below hb)
        clear Kd_7 Ke_7 Kx_7 Ky_7 Ow_7 Ox_7 Oy_7
        have Rg := Lib.hid (h5.rng)
        have Og_8 := Lib.hid h5
        clear hb h5
        go_wp2_with fail
        refine (below_post (eqIntS_same _ _ R _ (by have := HRl.out; omega) (owC_rd Og_8.out) (owC_rd Ow_8.out))).mono ?_
        rintro e w9 ⟨rfl, hb⟩
        have HB9 := Lib.hid (HB8.out.trans (hb.mono HB8.out.size))
        have HS9 := Lib.hid hb.size
        have Kd_9 := Lib.hid (blk_below Kd_8.out hb)
        have Ke_9 := Lib.hid (blk_below Ke_8.out hb)
        have Kx_9 := Lib.hid (blk_below Kx_8.out hb)
        have Ky_9 := Lib.hid (blk_below Ky_8.out hb)
        have Ow_9 := Lib.hid (Ow_8.out.below hb)
        have Ox_9 := Lib.hid (Ox_8.out.below hb)
        have Oy_9 := Lib.hid (Oy_8.out.below hb)
        have Og_9 := Lib.hid (Og_8.out.below hb)
        clear Kd_8 Ke_8 Kx_8 Ky_8 Ow_8 Ox_8 Oy_8 Og_8
        clear hb
        go_upto_region 14 with (fail)
        go_cut [44] (fun sd wx => sd = .bool false ∧ Below w9.heap.size w9 wx)
        case first =>
          have cd0 := (cells_of_heap Kd_9.out 0 (by simp)).1
          have cd1 := (cells_of_heap Kd_9.out 1 (by simp)).1
          have cx0 := (cells_of_heap Kx_9.out 0 (by simp)).1
          have cx1 := (cells_of_heap Kx_9.out 1 (by simp)).1
          have ld : w.heap.size < w9.heap.size := (Array.getElem?_eq_some_iff.mp Kd_9.out).1
          have lx : w4.heap.size < w9.heap.size := (Array.getElem?_eq_some_iff.mp Kx_9.out).1
          have X0 := Lib.hid (Below.refl w9.heap.size w9)
          go_region_held3 (fun w' => w'.cell? ⟨w.heap.size, 0, none⟩ = some (.int .i64 r1) ∧ w'.cell? ⟨w.heap.size, 1, none⟩ = some (.slice a1 z1.length cap1) ∧ w'.cell? ⟨w4.heap.size, 0, none⟩ = some (.int .i64 r1) ∧ w'.cell? ⟨w4.heap.size, 1, none⟩ = some (.slice a3 z1.length c3)) (first | go_keep)
            (first | (go_at_call 65; have z9 := X0; clear z9; refine (toReport_law r1 _ z1 _ hl1 (HR1.out.below (HB9.out.trans (Below.mono (by first | exact X0.out | exact X0.out.drew | exact X0.out.drew.drew) HB9.out.size)))).mono ?_; rintro e v1 ⟨a9, c9, f9, rfl, hy9, hb⟩; have hbr : Below w9.heap.size w9 v1 := below_via (by first | exact X0.out | exact X0.out.drew | exact X0.out.drew.drew) hb; have kcd0 := (hbr.cell (p := ⟨w.heap.size, 0, none⟩) ld).trans cd0; have kcd1 := (hbr.cell (p := ⟨w.heap.size, 1, none⟩) ld).trans cd1; have kcx0 := (hbr.cell (p := ⟨w4.heap.size, 0, none⟩) lx).trans cx0; have kcx1 := (hbr.cell (p := ⟨w4.heap.size, 1, none⟩) lx).trans cx1; have HY9 := Lib.hid (hy9); have X1 := Lib.hid hbr; clear hbr hb X0) | (go_at_call 68; have z9 := X1; clear z9; refine (eqReport_same r1 _ _ z1 _ (by omega) ((owC_rd Ox_9.out).below (by first | exact X1.out | exact X1.out.drew | exact X1.out.drew.drew)) ((owC_rd HY9.out).below (by first | exact (Below.refl _ _) | exact (Below.refl _ _).drew | exact (Below.refl _ _).drew.drew))).mono ?_; rintro e v2 ⟨rfl, hb⟩; have hbr : Below w9.heap.size w9 v2 := below_via (by first | exact X1.out | exact X1.out.drew | exact X1.out.drew.drew) hb; have kcd0 := (hbr.cell (p := ⟨w.heap.size, 0, none⟩) ld).trans cd0; have kcd1 := (hbr.cell (p := ⟨w.heap.size, 1, none⟩) ld).trans cd1; have kcx0 := (hbr.cell (p := ⟨w4.heap.size, 0, none⟩) lx).trans cx0; have kcx1 := (hbr.cell (p := ⟨w4.heap.size, 1, none⟩) lx).trans cx1; have X2 := Lib.hid hbr; clear hbr hb X1))
          all_goals
            go_wp2
            go_meet
            exact ⟨rfl, by first | exact X2.out | exact X2.out.drew | exact X2.out.drew.drew⟩
        case rest =>
          obtain ⟨rfl, hb⟩ := hcut
          obtain ⟨w10, hw⟩ : ∃ x, x = wc := ⟨_, rfl⟩
          rw [← hw] at hb ⊢
          clear hw
          have HB10 := Lib.hid (HB9.out.trans (hb.mono HB9.out.size))
          have HS10 := Lib.hid hb.size
          have Kd_10 := Lib.hid (blk_below Kd_9.out hb)
          have Ke_10 := Lib.hid (blk_below Ke_9.out hb)
          have Kx_10 := Lib.hid (blk_below Kx_9.out hb)
          have Ky_10 := Lib.hid (blk_below Ky_9.out hb)
          have Ow_10 := Lib.hid (Ow_9.out.below hb)
          have Ox_10 := Lib.hid (Ox_9.out.below hb)
          have Oy_10 := Lib.hid (Oy_9.out.below hb)
          have Og_10 := Lib.hid (Og_9.out.below hb)
          clear Kd_9 Ke_9 Kx_9 Ky_9 Ow_9 Ox_9 Oy_9 Og_9
          clear hb
          go_upto_region 16 with (fail)
          go_cut [49] (fun sd wx => sd = .bool false ∧ Below w10.heap.size w10 wx)
          case first =>
            have ce0 := (cells_of_heap Ke_10.out 0 (by simp)).1
            have ce1 := (cells_of_heap Ke_10.out 1 (by simp)).1
            have cy0 := (cells_of_heap Ky_10.out 0 (by simp)).1
            have cy1 := (cells_of_heap Ky_10.out 1 (by simp)).1
            have le : w.heap.size + 1 < w10.heap.size := (Array.getElem?_eq_some_iff.mp Ke_10.out).1
            have ly : w6.heap.size < w10.heap.size := (Array.getElem?_eq_some_iff.mp Ky_10.out).1
            have X0 := Lib.hid (Below.refl w10.heap.size w10)
            go_region_held3 (fun w' => w'.cell? ⟨w.heap.size + 1, 0, none⟩ = some (.int .i64 r2) ∧ w'.cell? ⟨w.heap.size + 1, 1, none⟩ = some (.slice a2 z2.length cap2) ∧ w'.cell? ⟨w6.heap.size, 0, none⟩ = some (.int .i64 r2) ∧ w'.cell? ⟨w6.heap.size, 1, none⟩ = some (.slice a4 z2.length c4)) (first | go_keep)
              (first | (go_at_call 65; have z9 := X0; clear z9; refine (toReport_law r2 _ z2 _ hq2 (HR2.out.below (HB10.out.trans (Below.mono (by first | exact X0.out | exact X0.out.drew | exact X0.out.drew.drew) HB10.out.size)))).mono ?_; rintro e v1 ⟨a9, c9, f9, rfl, hy9, hb⟩; have hbr : Below w10.heap.size w10 v1 := below_via (by first | exact X0.out | exact X0.out.drew | exact X0.out.drew.drew) hb; have kce0 := (hbr.cell (p := ⟨w.heap.size + 1, 0, none⟩) le).trans ce0; have kce1 := (hbr.cell (p := ⟨w.heap.size + 1, 1, none⟩) le).trans ce1; have kcy0 := (hbr.cell (p := ⟨w6.heap.size, 0, none⟩) ly).trans cy0; have kcy1 := (hbr.cell (p := ⟨w6.heap.size, 1, none⟩) ly).trans cy1; have HY9 := Lib.hid (hy9); have X1 := Lib.hid hbr; clear hbr hb X0) | (go_at_call 68; have z9 := X1; clear z9; refine (eqReport_same r2 _ _ z2 _ (by omega) ((owC_rd Oy_10.out).below (by first | exact X1.out | exact X1.out.drew | exact X1.out.drew.drew)) ((owC_rd HY9.out).below (by first | exact (Below.refl _ _) | exact (Below.refl _ _).drew | exact (Below.refl _ _).drew.drew))).mono ?_; rintro e v2 ⟨rfl, hb⟩; have hbr : Below w10.heap.size w10 v2 := below_via (by first | exact X1.out | exact X1.out.drew | exact X1.out.drew.drew) hb; have kce0 := (hbr.cell (p := ⟨w.heap.size + 1, 0, none⟩) le).trans ce0; have kce1 := (hbr.cell (p := ⟨w.heap.size + 1, 1, none⟩) le).trans ce1; have kcy0 := (hbr.cell (p := ⟨w6.heap.size, 0, none⟩) ly).trans cy0; have kcy1 := (hbr.cell (p := ⟨w6.heap.size, 1, none⟩) ly).trans cy1; have X2 := Lib.hid hbr; clear hbr hb X1))
            all_goals
              go_wp2
              go_meet
              exact ⟨rfl, by first | exact X2.out | exact X2.out.drew | exact X2.out.drew.drew⟩
          case rest =>
            obtain ⟨rfl, hb⟩ := hcut
            obtain ⟨w11, hw⟩ : ∃ x, x = wc := ⟨_, rfl⟩
            rw [← hw] at hb ⊢
            clear hw
            have HB11 := Lib.hid (HB10.out.trans (hb.mono HB10.out.size))
            have HS11 := Lib.hid hb.size
            have Kd_11 := Lib.hid (blk_below Kd_10.out hb)
            have Ke_11 := Lib.hid (blk_below Ke_10.out hb)
            have Kx_11 := Lib.hid (blk_below Kx_10.out hb)
            have Ky_11 := Lib.hid (blk_below Ky_10.out hb)
            have Ow_11 := Lib.hid (Ow_10.out.below hb)
            have Ox_11 := Lib.hid (Ox_10.out.below hb)
            have Oy_11 := Lib.hid (Oy_10.out.below hb)
            have Og_11 := Lib.hid (Og_10.out.below hb)
            clear Kd_10 Ke_10 Kx_10 Ky_10 Ow_10 Ox_10 Oy_10 Og_10
            clear hb
            have cx0 := (cells_of_heap Kx_11.out 0 (by simp)).1
            have cx1 := (cells_of_heap Kx_11.out 1 (by simp)).1
            go_wp2_with fail
            refine (markReport_q12 _ r1 _ z1 _ 1 q1 HQ1.out _ (by omega) (by decide) (by decide) Ox_11.out).mono ?_
            rintro e w12 ⟨rfl, ho, ht⟩
            clear cx0 cx1
            have HB12 := Lib.hid (HB11.out.trans (ht.below (fun b hb => by have := Rx.out b hb; have := HB3.out.size; omega) HB11.out.size))
            have HS12 := Lib.hid ht.size
            have Kd_12 := Lib.hid (blk_turn Kd_11.out ht (fun hm => by have := Rx.out _ hm; have := HS1.out; have := HS2.out; have := HS3.out; have := SZ0.out; omega))
            have Ke_12 := Lib.hid (blk_turn Ke_11.out ht (fun hm => by have := Rx.out _ hm; have := HS1.out; have := HS2.out; have := HS3.out; have := SZ0.out; omega))
            have Kx_12 := Lib.hid (blk_turn Kx_11.out ht (fun hm => by have := Rx.out _ hm; have := SZ0.out; omega))
            have Ky_12 := Lib.hid (blk_turn Ky_11.out ht (fun hm => by have := Rx.out _ hm; have := HS5.out; have := HS6.out; have := SZ0.out; omega))
            have Ow_12 := Lib.hid (Ow_11.out.turn ht (fun b hb hb' => by have := Rx.out b hb'; have := Rw.out b hb; have := SZ0.out; omega))
            have Oy_12 := Lib.hid (Oy_11.out.turn ht (fun b hb hb' => by have := Rx.out b hb'; have := Ry.out b hb; have := HS5.out; have := SZ0.out; omega))
            have Og_12 := Lib.hid (Og_11.out.turn ht (fun b hb hb' => by have := Rx.out b hb'; have := Rg.out b hb; have := HS5.out; have := HS6.out; have := HS7.out; have := SZ0.out; omega))
            have Ox_12 := Lib.hid ho
            clear ho ht Kd_11 Ke_11 Kx_11 Ky_11 Ow_11 Ox_11 Oy_11 Og_11
            have cy0 := (cells_of_heap Ky_12.out 0 (by simp)).1
            have cy1 := (cells_of_heap Ky_12.out 1 (by simp)).1
            go_wp2_with fail
            refine (markReport_q12 _ r2 _ z2 _ q1 q2 HQ2.out _ (by omega) HQ1b.out.1 HQ1b.out.2 Oy_12.out).mono ?_
            rintro e w13 ⟨rfl, ho, ht⟩
            clear cy0 cy1
            have HB13 := Lib.hid (HB12.out.trans (ht.below (fun b hb => by have := Ry.out b hb; have := HB5.out.size; omega) HB12.out.size))
            have HS13 := Lib.hid ht.size
            have Kd_13 := Lib.hid (blk_turn Kd_12.out ht (fun hm => by have := Ry.out _ hm; have := HS1.out; have := HS2.out; have := HS3.out; have := HS4.out; have := HS5.out; have := SZ0.out; omega))
            have Ke_13 := Lib.hid (blk_turn Ke_12.out ht (fun hm => by have := Ry.out _ hm; have := HS1.out; have := HS2.out; have := HS3.out; have := HS4.out; have := HS5.out; have := SZ0.out; omega))
            have Kx_13 := Lib.hid (blk_turn Kx_12.out ht (fun hm => by have := Ry.out _ hm; have := HS5.out; have := SZ0.out; omega))
            have Ky_13 := Lib.hid (blk_turn Ky_12.out ht (fun hm => by have := Ry.out _ hm; have := SZ0.out; omega))
            have Ow_13 := Lib.hid (Ow_12.out.turn ht (fun b hb hb' => by have := Ry.out b hb'; have := Rw.out b hb; have := HS4.out; have := HS5.out; have := SZ0.out; omega))
            have Ox_13 := Lib.hid (Ox_12.out.turn ht (fun b hb hb' => by have := Ry.out b hb'; have := Rx.out b hb; have := HS5.out; have := SZ0.out; omega))
            have Og_13 := Lib.hid (Og_12.out.turn ht (fun b hb hb' => by have := Ry.out b hb'; have := Rg.out b hb; have := HS7.out; have := SZ0.out; omega))
            have Oy_13 := Lib.hid ho
            clear ho ht Kd_12 Ke_12 Kx_12 Ky_12 Ow_12 Ox_12 Oy_12 Og_12
            go_wp2_with fail
            refine (below_post (eqIntS_same _ _ R _ (by have := HRl.out; omega) (owC_rd Og_13.out) (owC_rd Ow_13.out))).mono ?_
            rintro e w14 ⟨rfl, hb⟩
            have HB14 := Lib.hid (HB13.out.trans (hb.mono HB13.out.size))
            have HS14 := Lib.hid hb.size
            have Kd_14 := Lib.hid (blk_below Kd_13.out hb)
            have Ke_14 := Lib.hid (blk_below Ke_13.out hb)
            have Kx_14 := Lib.hid (blk_below Kx_13.out hb)
            have Ky_14 := Lib.hid (blk_below Ky_13.out hb)
            have Ow_14 := Lib.hid (Ow_13.out.below hb)
            have Ox_14 := Lib.hid (Ox_13.out.below hb)
            have Oy_14 := Lib.hid (Oy_13.out.below hb)
            have Og_14 := Lib.hid (Og_13.out.below hb)
            clear Kd_13 Ke_13 Kx_13 Ky_13 Ow_13 Ox_13 Oy_13 Og_13
            clear hb
            go_wp2_with fail
            refine (markIntS_q12 _ _ R _ 1 qr HQR.out _ HRl.out (by decide) (by decide) Og_14.out).mono ?_
            rintro e w15 ⟨rfl, ho, ht⟩
            have HB15 := Lib.hid (HB14.out.trans (ht.below (fun b hb => by have := Rg.out b hb; have := HB7.out.size; omega) HB14.out.size))
            have HS15 := Lib.hid ht.size
            have Kd_15 := Lib.hid (blk_turn Kd_14.out ht (fun hm => by have := Rg.out _ hm; have := HS1.out; have := HS2.out; have := HS3.out; have := HS4.out; have := HS5.out; have := HS6.out; have := HS7.out; have := SZ0.out; omega))
            have Ke_15 := Lib.hid (blk_turn Ke_14.out ht (fun hm => by have := Rg.out _ hm; have := HS1.out; have := HS2.out; have := HS3.out; have := HS4.out; have := HS5.out; have := HS6.out; have := HS7.out; have := SZ0.out; omega))
            have Kx_15 := Lib.hid (blk_turn Kx_14.out ht (fun hm => by have := Rg.out _ hm; have := HS5.out; have := HS6.out; have := HS7.out; have := SZ0.out; omega))
            have Ky_15 := Lib.hid (blk_turn Ky_14.out ht (fun hm => by have := Rg.out _ hm; have := HS7.out; have := SZ0.out; omega))
            have Ow_15 := Lib.hid (Ow_14.out.turn ht (fun b hb hb' => by have := Rg.out b hb'; have := Rw.out b hb; have := HS4.out; have := HS5.out; have := HS6.out; have := HS7.out; have := SZ0.out; omega))
            have Ox_15 := Lib.hid (Ox_14.out.turn ht (fun b hb hb' => by have := Rg.out b hb'; have := Rx.out b hb; have := HS5.out; have := HS6.out; have := HS7.out; have := SZ0.out; omega))
            have Oy_15 := Lib.hid (Oy_14.out.turn ht (fun b hb hb' => by have := Rg.out b hb'; have := Ry.out b hb; have := HS7.out; have := SZ0.out; omega))
            have Og_15 := Lib.hid ho
            clear ho ht Kd_14 Ke_14 Kx_14 Ky_14 Ow_14 Ox_14 Oy_14 Og_14
            go_wp2_with fail
            refine (heldIntS_q12 _ R.length 1 qr HQR.out _ HRl.out (by decide) (by decide) (owC_marks Og_15.out)).mono ?_
            rintro e v0 ⟨rfl, rfl⟩
            go_upto_region 31 with (fail)
            go_cut [13] (fun sd wx => ∃ (a9 : Option Addr) (c9 : Nat) (f9 : List Nat), sd = .slice a9 R.length c9 ∧ OwC wx w15.heap.size (.row [.int .i64]) (.slice a9 R.length c9) (.row (ones R)) f9 ∧ Below w15.heap.size w15 wx)
            case first =>
              have cd0 := (cells_of_heap Kd_15.out 0 (by simp)).1
              have cd1 := (cells_of_heap Kd_15.out 1 (by simp)).1
              have ce0 := (cells_of_heap Ke_15.out 0 (by simp)).1
              have ce1 := (cells_of_heap Ke_15.out 1 (by simp)).1
              have ld : w.heap.size < w15.heap.size := (Array.getElem?_eq_some_iff.mp Kd_15.out).1
              have le : w.heap.size + 1 < w15.heap.size := (Array.getElem?_eq_some_iff.mp Ke_15.out).1
              have X0 := Lib.hid (Below.refl w15.heap.size w15)
              go_region_held3 (fun w' => w'.cell? ⟨w.heap.size, 0, none⟩ = some (.int .i64 r1) ∧ w'.cell? ⟨w.heap.size, 1, none⟩ = some (.slice a1 z1.length cap1) ∧ w'.cell? ⟨w.heap.size + 1, 0, none⟩ = some (.int .i64 r2) ∧ w'.cell? ⟨w.heap.size + 1, 1, none⟩ = some (.slice a2 z2.length cap2)) (first | go_keep)
                (first | (go_at_call 65; have z9 := X0; clear z9; refine (toReport_law r1 _ z1 _ hl1 (HR1.out.below (HB15.out.trans (Below.mono (by first | exact X0.out | exact X0.out.drew | exact X0.out.drew.drew) HB15.out.size)))).mono ?_; rintro e v1 ⟨a7, c7, f7, rfl, hy7, hb⟩; have hbr : Below w15.heap.size w15 v1 := below_via (by first | exact X0.out | exact X0.out.drew | exact X0.out.drew.drew) hb; have kcd0 := (hbr.cell (p := ⟨w.heap.size, 0, none⟩) ld).trans cd0; have kcd1 := (hbr.cell (p := ⟨w.heap.size, 1, none⟩) ld).trans cd1; have kce0 := (hbr.cell (p := ⟨w.heap.size + 1, 0, none⟩) le).trans ce0; have kce1 := (hbr.cell (p := ⟨w.heap.size + 1, 1, none⟩) le).trans ce1; have HY7 := Lib.hid (hy7); have X1 := Lib.hid hbr; clear hbr hb X0) | (go_at_call 65; have z9 := X1; clear z9; refine (toReport_law r2 _ z2 _ hq2 (HR2.out.below (HB15.out.trans (Below.mono (by first | exact X1.out | exact X1.out.drew | exact X1.out.drew.drew) HB15.out.size)))).mono ?_; rintro e v2 ⟨a8, c8, f8, rfl, hy8, hb⟩; have hbr : Below w15.heap.size w15 v2 := below_via (by first | exact X1.out | exact X1.out.drew | exact X1.out.drew.drew) hb; have kcd0 := (hbr.cell (p := ⟨w.heap.size, 0, none⟩) ld).trans cd0; have kcd1 := (hbr.cell (p := ⟨w.heap.size, 1, none⟩) ld).trans cd1; have kce0 := (hbr.cell (p := ⟨w.heap.size + 1, 0, none⟩) le).trans ce0; have kce1 := (hbr.cell (p := ⟨w.heap.size + 1, 1, none⟩) le).trans ce1; have HY8 := Lib.hid (hy8); have HB12 := Lib.hid (show Below v1.heap.size v1 v2 by first | exact hb | exact ((Below.refl _ _).drew).trans hb | exact ((Below.refl _ _).drew.drew).trans hb); have X2 := Lib.hid hbr; clear hbr hb X1) | (go_at_call 66; have z9 := X2; clear z9; refine (implNewKeys_c r1 _ z1 r2 _ z2 R HRR.out _ hl1 hq2 HRl.out (((owC_rd HY7.out).below HB12.out).below (by first | exact (Below.refl _ _) | exact (Below.refl _ _).drew | exact (Below.refl _ _).drew.drew)) ((owC_rd HY8.out).below (by first | exact (Below.refl _ _) | exact (Below.refl _ _).drew | exact (Below.refl _ _).drew.drew))).mono ?_; rintro e v3 ⟨a9, c9, f9, rfl, h9, hb⟩; have hbr : Below w15.heap.size w15 v3 := below_via (by first | exact X2.out | exact X2.out.drew | exact X2.out.drew.drew) hb; have kcd0 := (hbr.cell (p := ⟨w.heap.size, 0, none⟩) ld).trans cd0; have kcd1 := (hbr.cell (p := ⟨w.heap.size, 1, none⟩) ld).trans cd1; have kce0 := (hbr.cell (p := ⟨w.heap.size + 1, 0, none⟩) le).trans ce0; have kce1 := (hbr.cell (p := ⟨w.heap.size + 1, 1, none⟩) le).trans ce1; have H9 := Lib.hid (OwC.base _ _ _ _ h9 (show w15.heap.size ≤ _ from X2.out.size)); have X3 := Lib.hid hbr; clear hbr hb X2))
              all_goals
                go_wp2
                go_meet
                first | exact ⟨_, _, _, rfl, H9.out, X3.out⟩ | exact ⟨_, _, _, rfl, H9.out.below (Below.refl _ _).drew, X3.out.drew⟩ | exact ⟨_, _, _, rfl, H9.out.below (Below.refl _ _).drew.drew, X3.out.drew.drew⟩
            case rest =>
              obtain ⟨ah, ch, fh, rfl, hh, hb⟩ := hcut
              obtain ⟨w16, hEq⟩ : ∃ x, x = wc := ⟨_, rfl⟩
              rw [← hEq] at hh hb ⊢
              clear hEq
              have HB16 := Lib.hid (HB15.out.trans (hb.mono HB15.out.size))
              have HS16 := Lib.hid hb.size
              have Kd_16 := Lib.hid (blk_below Kd_15.out hb)
              have Ke_16 := Lib.hid (blk_below Ke_15.out hb)
              have Kx_16 := Lib.hid (blk_below Kx_15.out hb)
              have Ky_16 := Lib.hid (blk_below Ky_15.out hb)
              have Ow_16 := Lib.hid (Ow_15.out.below hb)
              have Ox_16 := Lib.hid (Ox_15.out.below hb)
              have Oy_16 := Lib.hid (Oy_15.out.below hb)
              have Og_16 := Lib.hid (Og_15.out.below hb)
              clear Kd_15 Ke_15 Kx_15 Ky_15 Ow_15 Ox_15 Oy_15 Og_15
              have Rh := Lib.hid hh.rng
              have Oh_16 := Lib.hid hh
              clear hb hh
              go_wp2_with fail
              refine (below_post (eqIntS_same _ _ R _ (by have := HRl.out; omega) (owC_rd Oh_16.out) (owC_rd Ow_16.out))).mono ?_
              rintro e w17 ⟨rfl, hb⟩
              have HB17 := Lib.hid (HB16.out.trans (hb.mono HB16.out.size))
              have HS17 := Lib.hid hb.size
              have Kd_17 := Lib.hid (blk_below Kd_16.out hb)
              have Ke_17 := Lib.hid (blk_below Ke_16.out hb)
              have Kx_17 := Lib.hid (blk_below Kx_16.out hb)
              have Ky_17 := Lib.hid (blk_below Ky_16.out hb)
              have Ow_17 := Lib.hid (Ow_16.out.below hb)
              have Ox_17 := Lib.hid (Ox_16.out.below hb)
              have Oy_17 := Lib.hid (Oy_16.out.below hb)
              have Og_17 := Lib.hid (Og_16.out.below hb)
              have Oh_17 := Lib.hid (Oh_16.out.below hb)
              clear Kd_16 Ke_16 Kx_16 Ky_16 Ow_16 Ox_16 Oy_16 Og_16 Oh_16
              clear hb
              go_wp2_with fail
              refine (heldIntS_q12 _ R.length 1 qr HQR.out _ HRl.out (by decide) (by decide) (owC_marks Og_17.out)).mono ?_
              rintro e v0 ⟨rfl, rfl⟩
              go_wp2
              go_ret
              exact ⟨rfl, HB17.out⟩
    · have hsq : (if (1048576 : Int) - (z1.length : Int) < (z2.length : Int) then -1 else (1048576 : Int) - (z1.length : Int) - (z2.length : Int)) = -1 := if_pos (by omega)
      have HSQ := Lib.hid hsq
      clear hsq
      obtain ⟨w0, hw0⟩ : ∃ x, x = ((w.alloc (.cells #[.int .i64 r1, .slice a1 z1.length cap1] 93)).alloc (.cells #[.int .i64 r2, .slice a2 z2.length cap2] 93)) := ⟨_, rfl⟩
      have HB0 := Lib.hid (show Below w.heap.size w w0 by rw [hw0]; exact ((Below.refl _ _).alloc (Nat.le_refl _) _).alloc (by simp) _)
      have Kd_0 := Lib.hid (show w0.heap[w.heap.size]? = some (.cells #[.int .i64 r1, .slice a1 z1.length cap1] 93 (0, 0)) by rw [hw0]; rw [Below.heap_alloc _ _ _ (by simp <;> omega)]; exact heap_alloc_new w _)
      have Ke_0 := Lib.hid (show w0.heap[w.heap.size + 1]? = some (.cells #[.int .i64 r2, .slice a2 z2.length cap2] 93 (0, 0)) by rw [hw0]; simpa using heap_alloc_new (w.alloc (.cells #[.int .i64 r1, .slice a1 z1.length cap1] 93)) _)
      have SZ0 := Lib.hid (show w0.heap.size = w.heap.size + 1 + 1 by rw [hw0]; simp)
      have HW := Lib.hid hw0
      clear hw0
      go_enter Try.func14, Try.ntmps14
      have cd0 := (cells_of_heap Kd_0.out 0 (by simp)).1
      have cd1 := (cells_of_heap Kd_0.out 1 (by simp)).1
      go_wp2_with fail
      rw [← HW.out]
      refine (szReport_any r1 a1 z1.length cap1 1048576 _ (by omega) (by omega) hml1).mono ?_
      rw [HSZ.out]
      rintro e w1 ⟨rfl, hb⟩
      clear cd0 cd1
      have HB1 := Lib.hid (HB0.out.trans (hb.mono HB0.out.size))
      have HS1 := Lib.hid hb.size
      have Kd_1 := Lib.hid (blk_below Kd_0.out hb)
      have Ke_1 := Lib.hid (blk_below Ke_0.out hb)
      clear Kd_0 Ke_0
      clear hb
      have ce0 := (cells_of_heap Ke_1.out 0 (by simp)).1
      have ce1 := (cells_of_heap Ke_1.out 1 (by simp)).1
      go_wp2_with fail
      refine (szReport_any r2 a2 z2.length cap2 (1048576 - (z1.length : Int)) _ (by omega) (by omega) hml2).mono ?_
      rw [HSQ.out]
      rintro e w2 ⟨rfl, hb⟩
      clear ce0 ce1
      have HB2 := Lib.hid (HB1.out.trans (hb.mono HB1.out.size))
      have HS2 := Lib.hid hb.size
      have Kd_2 := Lib.hid (blk_below Kd_1.out hb)
      have Ke_2 := Lib.hid (blk_below Ke_1.out hb)
      clear Kd_1 Ke_1
      clear hb
      go_wp2
      go_ret
      exact ⟨rfl, HB2.out⟩
  · have hsz : (if (1048576 : Int) < (z1.length : Int) then -1 else (1048576 : Int) - (z1.length : Int)) = -1 := if_pos (by omega)
    have HSZ := Lib.hid hsz
    clear hsz
    clear hl1
    obtain ⟨w0, hw0⟩ : ∃ x, x = ((w.alloc (.cells #[.int .i64 r1, .slice a1 z1.length cap1] 93)).alloc (.cells #[.int .i64 r2, .slice a2 z2.length cap2] 93)) := ⟨_, rfl⟩
    have HB0 := Lib.hid (show Below w.heap.size w w0 by rw [hw0]; exact ((Below.refl _ _).alloc (Nat.le_refl _) _).alloc (by simp) _)
    have Kd_0 := Lib.hid (show w0.heap[w.heap.size]? = some (.cells #[.int .i64 r1, .slice a1 z1.length cap1] 93 (0, 0)) by rw [hw0]; rw [Below.heap_alloc _ _ _ (by simp <;> omega)]; exact heap_alloc_new w _)
    have Ke_0 := Lib.hid (show w0.heap[w.heap.size + 1]? = some (.cells #[.int .i64 r2, .slice a2 z2.length cap2] 93 (0, 0)) by rw [hw0]; simpa using heap_alloc_new (w.alloc (.cells #[.int .i64 r1, .slice a1 z1.length cap1] 93)) _)
    have SZ0 := Lib.hid (show w0.heap.size = w.heap.size + 1 + 1 by rw [hw0]; simp)
    have HW := Lib.hid hw0
    clear hw0
    go_enter Try.func14, Try.ntmps14
    have cd0 := (cells_of_heap Kd_0.out 0 (by simp)).1
    have cd1 := (cells_of_heap Kd_0.out 1 (by simp)).1
    go_wp2_with fail
    rw [← HW.out]
    refine (szReport_any r1 a1 z1.length cap1 1048576 _ (by omega) (by omega) hml1).mono ?_
    rw [HSZ.out]
    rintro e w1 ⟨rfl, hb⟩
    clear cd0 cd1
    have HB1 := Lib.hid (HB0.out.trans (hb.mono HB0.out.size))
    have HS1 := Lib.hid hb.size
    have Kd_1 := Lib.hid (blk_below Kd_0.out hb)
    have Ke_1 := Lib.hid (blk_below Ke_0.out hb)
    clear Kd_0 Ke_0
    clear hb
    go_wp2
    go_ret
    exact ⟨rfl, HB1.out⟩

end Go.Proofs.Yteljmfdlegohbaa
