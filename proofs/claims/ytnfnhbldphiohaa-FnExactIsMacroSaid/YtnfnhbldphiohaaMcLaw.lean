/- DERIVED. The exact laws of IsMacro and MacroReports: each, called with any arguments, returns true and changes nothing that was there; what the program's function does is a premise. -/
import Derived.Test.YtnfnhbldphiohaaRpsLaw
import Derived.Test.YtnfnhbldphiohaaMcRep
namespace Go.Proofs.Ytnfnhbldphiohaa
open Go.RowKit

/-- Reports in memory of the caller's own, however long the row's block is. -/
def MrZ (L : List Rv) (w : World) (e : Ending) (w' : World) : Prop := ∃ a c fp, e = .returned (.slice a L.length c) ∧ OwZ rpF w' w.heap.size 1 (.slice a L.length c) L fp ∧ Below w.heap.size w w'
theorem specMacroReports_low (v vs : Value) (l : List Hd) (s : List St) (w : World) (hl : l.length ≤ maxLen) (hs : s.length ≤ 1048576) (h : RdN w v l.length (flatHd l)) (h2 : RdN w vs s.length (flatSt s)) :
    Calls Try.prog 11 #[v, vs] w (MrZ (mrP l s) w) :=
  (specMacroReports_any v vs l s w hl hs h h2).mono fun _ _ ⟨a, c, fp, he, ho, hb⟩ => ⟨a, c, fp, he, ho.low, hb⟩
theorem lenQ_le {L : List Rv} (h : ∀ r ∈ L, r.2.length ≤ 56) : ∀ j, lenQ L j ≤ j * 57
  | 0 => Nat.le_refl _
  | j + 1 => by rw [lenQ]; have := lenQ_le h j; have := qD_le h j; omega
theorem toStepS_law (v : Value) (l : List St) (w : World) (hl : l.length ≤ 1048576) (h : RdN w v l.length (flatSt l)) :
    Calls Try.prog 7 #[v] w fun e w' => ∃ a c fp, e = .returned (.slice a l.length c) ∧ OwF w' w.heap.size 42 3 (.slice a l.length c) l.length (flatSt l) fp ∧ Below w.heap.size w w' :=
  (toStepS_any v l w hl h).mono fun e w' ⟨u, he, ho, hb⟩ => by
    obtain ⟨a, c, fp, rfl, h⟩ := OwF.shape ho
    exact ⟨a, c, fp, he, h, hb⟩
theorem markStepS_q (B : Nat) (v : Value) (l : List St) (fp : List Nat) (q q2 : Int) (hq : q2 = q + ((l.length * 3 : Nat) : Int)) (w : World) (hn : l.length ≤ 1048576) (hk : 0 ≤ q) (hk' : q ≤ 1099511627776) (h : OwF w B 42 3 v l.length (flatSt l) fp) :
    Calls Try.prog 17 #[v, .int .i64 q] w fun e w' => e = .returned (.int .i64 q2) ∧ OwF w' B 42 3 v l.length (flatSt (marksSt q l.length)) fp ∧ Turn w w' fp := by
  rw [hq]
  exact (markStepS_any B v l.length (flatSt l) q w hn hk hk' h.1).mono fun _ _ ⟨he, ho, hg⟩ => ⟨he, (h.marked ho hg).1, (h.marked ho hg).2⟩
theorem markReportS_q (B : Nat) (v : Value) (L : List Rv) (fp : List Nat) (q q2 : Int) (hq : q2 = q + (lenQ L L.length : Int)) (w : World) (hn : L.length ≤ 1048576) (ht : lenQ L L.length ≤ 1048576) (hk : 0 ≤ q) (hk' : q ≤ 1000000) (h : OwZ rpF w B 1 v L fp) :
    Calls Try.prog 18 #[v, .int .i64 q] w fun e w' => e = .returned (.int .i64 q2) ∧ OwZ rpF w' B 1 v (mkQ q L L.length) fp ∧ Turn w w' fp := by
  rw [hq]; exact markReportS_own B v L fp q w hn ht hk hk' h
theorem heldReportS_q (v : Value) (L : List Rv) (q q2 : Int) (hq : q2 = q + (lenQ L L.length : Int)) (w : World) (hn : L.length ≤ 1048576) (ht : lenQ L L.length ≤ 1048576) (hk : 0 ≤ q) (hk' : q ≤ 1000000) (h : RdQ rpF w v (mkQ q L L.length)) :
    Calls Try.prog 19 #[v, .int .i64 q] w fun e w' => e = .returned (.int .i64 q2) ∧ w = w' := by
  rw [hq]; exact heldReportS_any v L q w hn ht hk hk' h

set_option maxHeartbeats 1000000 in
set_option maxRecDepth 100000 in
theorem lawIsMacro_walk (a : Option Addr) (n cap : Nat) (s : List St) (w : World) (hn : s.length = n) (hm : n ≤ maxLen) (h : RdN w (.slice a n cap) s.length (flatSt s)) (hI : ∀ (v : Value) (s : List St) (w : World), s.length ≤ 1048576 → RdN w v s.length (flatSt s) → Calls Try.prog 8 #[v] w fun e w' => e = .returned (.bool (okMc s)) ∧ Below w.heap.size w w') : Calls Try.prog 3 #[.slice a n cap] w fun e w' => e = .returned (.bool true) ∧ Below w.heap.size w w' := by
  subst hn
  have HR2 := Lib.hid h
  have HM := Lib.hid hm
  have HI := Lib.hid hI
  clear h hm hI
  by_cases hl : s.length ≤ 1048576
  · have hsz : (if (1048576 : Int) < (s.length : Int) then -1 else (1048576 : Int) - (s.length : Int)) = 1048576 - (s.length : Int) := if_neg (by omega)
    have hsz0 : ¬ (1048576 : Int) - (s.length : Int) < 0 := by omega
    have HSZ := Lib.hid hsz
    have HSl := Lib.hid hl
    clear hsz hl
    obtain ⟨r, hR⟩ : ∃ x, okMc s = x := ⟨_, rfl⟩
    have HRR := Lib.hid hR
    clear hR
    have HB0 := Lib.hid (Below.refl w.heap.size w)
    go_enter Try.func3, Try.ntmps3
    go_wp2_with fail
    refine (szStepS_any a s.length cap 1048576 _ (by omega) (by omega) HM.out).mono ?_
    rw [HSZ.out]
    rintro e v0 ⟨rfl, rfl⟩
    go_wp2_with fail
    refine (toStepS_law _ s _ HSl.out (HR2.out.below HB0.out)).mono ?_
    rintro e w1 ⟨a1, c1, f1, rfl, h1, hb⟩
    have HB1 := Lib.hid (HB0.out.trans (hb.mono HB0.out.size))
    have HS1 := Lib.hid hb.size
    have Rt := Lib.hid (h1.rng)
    have Ot_1 := Lib.hid h1
    clear hb h1
    go_wp2_with fail
    refine (specIsMacro_any _ s _ HSl.out Ot_1.out.rd).mono ?_
    rw [HRR.out]
    rintro e w2 ⟨rfl, hb⟩
    have HB2 := Lib.hid (HB1.out.trans (hb.mono HB1.out.size))
    have HS2 := Lib.hid hb.size
    have Ot_2 := Lib.hid (Ot_1.out.below hb)
    clear Ot_1
    clear hb
    go_wp2_with fail
    refine (toStepS_law _ s _ HSl.out (HR2.out.below HB2.out)).mono ?_
    rintro e w3 ⟨a2, c2, f2, rfl, h2, hb⟩
    have HB3 := Lib.hid (HB2.out.trans (hb.mono HB2.out.size))
    have HS3 := Lib.hid hb.size
    have Ot_3 := Lib.hid (Ot_2.out.below hb)
    clear Ot_2
    have Rx := Lib.hid (h2.rng)
    have Ox_3 := Lib.hid h2
    clear hb h2
    go_wp2_with fail
    refine (HI.out _ s _ HSl.out Ox_3.out.rd).mono ?_
    rw [HRR.out]
    rintro e w4 ⟨rfl, hb⟩
    have HB4 := Lib.hid (HB3.out.trans (hb.mono HB3.out.size))
    have HS4 := Lib.hid hb.size
    have Ot_4 := Lib.hid (Ot_3.out.below hb)
    have Ox_4 := Lib.hid (Ox_3.out.below hb)
    clear Ot_3 Ox_3
    clear hb
    go_wp2_with fail
    refine (toStepS_law _ s _ HSl.out (HR2.out.below HB4.out)).mono ?_
    rintro e w5 ⟨a3, c3, f3, rfl, h3, hb⟩
    have HB5 := Lib.hid (HB4.out.trans (hb.mono HB4.out.size))
    have HS5 := Lib.hid hb.size
    have Ot_5 := Lib.hid (Ot_4.out.below hb)
    have Ox_5 := Lib.hid (Ox_4.out.below hb)
    clear Ot_4 Ox_4
    have Ry := Lib.hid (h3.rng)
    have Oy_5 := Lib.hid h3
    clear hb h3
    go_wp2_with fail
    refine (eqStepS_same _ _ s _ (by have := HSl.out; omega) Ox_5.out.rd Oy_5.out.rd).mono ?_
    rintro e w6 ⟨rfl, hb⟩
    have HB6 := Lib.hid (HB5.out.trans (hb.mono HB5.out.size))
    have HS6 := Lib.hid hb.size
    have Ot_6 := Lib.hid (Ot_5.out.below hb)
    have Ox_6 := Lib.hid (Ox_5.out.below hb)
    have Oy_6 := Lib.hid (Oy_5.out.below hb)
    clear Ot_5 Ox_5 Oy_5
    clear hb
    go_wp2
    go_ret
    exact ⟨rfl, HB6.out⟩
  · have hsz : (if (1048576 : Int) < (s.length : Int) then -1 else (1048576 : Int) - (s.length : Int)) = -1 := if_pos (by omega)
    have HSZ := Lib.hid hsz
    clear hsz hl
    have HB0 := Lib.hid (Below.refl w.heap.size w)
    go_enter Try.func3, Try.ntmps3
    go_wp2_with fail
    refine (szStepS_any a s.length cap 1048576 _ (by omega) (by omega) HM.out).mono ?_
    rw [HSZ.out]
    rintro e v0 ⟨rfl, rfl⟩
    go_wp2
    go_ret
    exact ⟨rfl, HB0.out⟩

set_option maxHeartbeats 1000000 in
set_option maxRecDepth 100000 in
theorem lawMacroReports_walk (a : Option Addr) (n cap : Nat) (l : List Hd) (b : Option Addr) (m cap2 : Nat) (s : List St) (w : World) (hn : l.length = n) (hm : n ≤ maxLen) (h : RdN w (.slice a n cap) l.length (flatHd l)) (hn2 : s.length = m) (hm2 : m ≤ maxLen) (h2 : RdN w (.slice b m cap2) s.length (flatSt s)) (hI : ∀ (v vs : Value) (l : List Hd) (s : List St) (w : World), l.length ≤ 1048576 → s.length ≤ 1048576 → RdN w v l.length (flatHd l) → RdN w vs s.length (flatSt s) → Calls Try.prog 13 #[v, vs] w (MrZ (mrP l s) w)) : Calls Try.prog 4 #[.slice a n cap, .slice b m cap2] w fun e w' => e = .returned (.bool true) ∧ Below w.heap.size w w' := by
  subst hn
  subst hn2
  have HR := Lib.hid h
  have HR2 := Lib.hid h2
  have HM := Lib.hid hm
  have HM2 := Lib.hid hm2
  have HI := Lib.hid hI
  clear h h2 hm hm2 hI
  by_cases hl : l.length ≤ 1048576
  · obtain ⟨r1, hr1⟩ : ∃ x : Int, x = 1048576 - (l.length : Int) := ⟨_, rfl⟩
    have hsz : (if (1048576 : Int) < (l.length : Int) then -1 else (1048576 : Int) - (l.length : Int)) = r1 := by rw [hr1]; exact if_neg (by omega)
    have h10 : ¬ r1 < 0 := by omega
    have HSZ := Lib.hid hsz
    have HLl := Lib.hid hl
    have HR1 := Lib.hid (show 0 ≤ r1 ∧ r1 ≤ 1099511627776 by omega)
    by_cases hl2 : (s.length : Int) ≤ r1
    · obtain ⟨r2, hr2⟩ : ∃ x : Int, x = r1 - (s.length : Int) := ⟨_, rfl⟩
      have hsz2 : (if r1 < (s.length : Int) then -1 else r1 - (s.length : Int)) = r2 := by rw [hr2]; exact if_neg (by omega)
      have h20 : ¬ r2 < 0 := by omega
      have HSZ2 := Lib.hid hsz2
      have HSl := Lib.hid (show s.length ≤ 1048576 by omega)
      have hlen := mrP_len_any l s
      have hkeys := mrP_keys l s
      obtain ⟨R, hR⟩ : ∃ x, x = mrP l s := ⟨_, rfl⟩
      rw [← hR] at hlen hkeys
      have hlq := lenQ_le hkeys R.length
      have HSp := Lib.hid (show ∀ (v vs : Value) (w : World), RdN w v l.length (flatHd l) → RdN w vs s.length (flatSt s) → Calls Try.prog 11 #[v, vs] w (MrZ R w) from fun v vs w h1 h2 => by rw [hR]; exact specMacroReports_low v vs l s w (by have := HLl.out; unfold maxLen; omega) HSl.out h1 h2)
      have HIm := Lib.hid (show ∀ (v vs : Value) (w : World), RdN w v l.length (flatHd l) → RdN w vs s.length (flatSt s) → Calls Try.prog 13 #[v, vs] w (MrZ R w) from fun v vs w h1 h2 => by rw [hR]; exact HI.out v vs l s w HLl.out HSl.out h1 h2)
      have HE1 := Lib.hid (show R.length ≤ 1000000000000 by omega)
      have HE2 := Lib.hid (show ∀ r ∈ R, r.2.length ≤ 1000000000000 from fun r hr => Nat.le_trans (hkeys r hr) (by decide))
      have HE3 := Lib.hid (show R.length ≤ 1048576 by omega)
      have HE4 := Lib.hid (show lenQ R R.length ≤ 1048576 by omega)
      obtain ⟨qx, hqx⟩ : ∃ q : Int, q = 1 + ((l.length * 5 : Nat) : Int) := ⟨_, rfl⟩
      obtain ⟨qy, hqy⟩ : ∃ q : Int, q = qx + ((s.length * 3 : Nat) : Int) := ⟨_, rfl⟩
      obtain ⟨qr, hqr⟩ : ∃ q : Int, q = 1 + (lenQ R R.length : Int) := ⟨_, rfl⟩
      have hqy0 : ¬ qy < 0 := by omega
      have hqr0 : ¬ qr < 0 := by omega
      have HQX := Lib.hid hqx
      have HQY := Lib.hid hqy
      have HQR := Lib.hid hqr
      have HQX1 := Lib.hid (show 0 ≤ qx ∧ qx ≤ 1099511627776 by omega)
      have HEl := Lib.hid (show l.length ≤ 1000000000000 by omega)
      have HEs := Lib.hid (show s.length ≤ 1000000000000 by omega)
      clear hsz hsz2 hr1 hr2 hl hl2 hlen hkeys hR hlq hqx hqy hqr HI
      have HB0 := Lib.hid (Below.refl w.heap.size w)
      go_enter Try.func4, Try.ntmps4
      go_wp2_with fail
      refine (szHeldS_any a l.length cap 1048576 _ (by omega) (by omega) HM.out).mono ?_
      rw [HSZ.out]
      rintro e v0 ⟨rfl, rfl⟩
      go_wp2_with fail
      refine (szStepS_any b s.length cap2 r1 _ HR1.out.1 HR1.out.2 HM2.out).mono ?_
      rw [HSZ2.out]
      rintro e v0 ⟨rfl, rfl⟩
      go_wp2_with fail
      refine (toHeldS_law _ l _ HLl.out (HR.out.below HB0.out)).mono ?_
      rintro e w1 ⟨a1, c1, f1, rfl, h1, hb⟩
      have HB1 := Lib.hid (HB0.out.trans (hb.mono HB0.out.size))
      have HS1 := Lib.hid hb.size
      have Rt := Lib.hid (h1.rng)
      have Ot_1 := Lib.hid h1
      clear hb h1
      go_wp2_with fail
      refine (toStepS_law _ s _ HSl.out (HR2.out.below HB1.out)).mono ?_
      rintro e w2 ⟨a2, c2, f2, rfl, h2, hb⟩
      have HB2 := Lib.hid (HB1.out.trans (hb.mono HB1.out.size))
      have HS2 := Lib.hid hb.size
      have Ot_2 := Lib.hid (Ot_1.out.below hb)
      clear Ot_1
      have Ru := Lib.hid (h2.rng)
      have Ou_2 := Lib.hid h2
      clear hb h2
      go_wp2_with fail
      refine (HSp.out _ _ _ Ot_2.out.rd Ou_2.out.rd).mono ?_
      rintro e w3 ⟨a3, c3, f3, rfl, h3, hb⟩
      have HB3 := Lib.hid (HB2.out.trans (hb.mono HB2.out.size))
      have HS3 := Lib.hid hb.size
      have Ot_3 := Lib.hid (Ot_2.out.below hb)
      have Ou_3 := Lib.hid (Ou_2.out.below hb)
      clear Ot_2 Ou_2
      have Rw := Lib.hid (h3.rng)
      have Ow_3 := Lib.hid h3
      clear hb h3
      go_wp2_with fail
      refine (toHeldS_law _ l _ HLl.out (HR.out.below HB3.out)).mono ?_
      rintro e w4 ⟨a4, c4, f4, rfl, h4, hb⟩
      have HB4 := Lib.hid (HB3.out.trans (hb.mono HB3.out.size))
      have HS4 := Lib.hid hb.size
      have Ot_4 := Lib.hid (Ot_3.out.below hb)
      have Ou_4 := Lib.hid (Ou_3.out.below hb)
      have Ow_4 := Lib.hid (Ow_3.out.below hb)
      clear Ot_3 Ou_3 Ow_3
      have Rx := Lib.hid (h4.rng)
      have Ox_4 := Lib.hid h4
      clear hb h4
      go_wp2_with fail
      refine (toStepS_law _ s _ HSl.out (HR2.out.below HB4.out)).mono ?_
      rintro e w5 ⟨a5, c5, f5, rfl, h5, hb⟩
      have HB5 := Lib.hid (HB4.out.trans (hb.mono HB4.out.size))
      have HS5 := Lib.hid hb.size
      have Ot_5 := Lib.hid (Ot_4.out.below hb)
      have Ou_5 := Lib.hid (Ou_4.out.below hb)
      have Ow_5 := Lib.hid (Ow_4.out.below hb)
      have Ox_5 := Lib.hid (Ox_4.out.below hb)
      clear Ot_4 Ou_4 Ow_4 Ox_4
      have Ry := Lib.hid (h5.rng)
      have Oy_5 := Lib.hid h5
      clear hb h5
      go_wp2_with fail
      refine (HIm.out _ _ _ Ox_5.out.rd Oy_5.out.rd).mono ?_
      rintro e w6 ⟨a6, c6, f6, rfl, h6, hb⟩
      have HB6 := Lib.hid (HB5.out.trans (hb.mono HB5.out.size))
      have HS6 := Lib.hid hb.size
      have Ot_6 := Lib.hid (Ot_5.out.below hb)
      have Ou_6 := Lib.hid (Ou_5.out.below hb)
      have Ow_6 := Lib.hid (Ow_5.out.below hb)
      have Ox_6 := Lib.hid (Ox_5.out.below hb)
      have Oy_6 := Lib.hid (Oy_5.out.below hb)
      clear Ot_5 Ou_5 Ow_5 Ox_5 Oy_5
      have Rg := Lib.hid (h6.rng)
      have Og_6 := Lib.hid h6
      clear hb h6
      go_wp2_with fail
      refine (eqReportS_same _ _ R _ HE1.out HE2.out Og_6.out.rd Ow_6.out.rd).mono ?_
      rintro e w7 ⟨rfl, hb⟩
      have HB7 := Lib.hid (HB6.out.trans (hb.mono HB6.out.size))
      have HS7 := Lib.hid hb.size
      have Ot_7 := Lib.hid (Ot_6.out.below hb)
      have Ou_7 := Lib.hid (Ou_6.out.below hb)
      have Ow_7 := Lib.hid (Ow_6.out.below hb)
      have Ox_7 := Lib.hid (Ox_6.out.below hb)
      have Oy_7 := Lib.hid (Oy_6.out.below hb)
      have Og_7 := Lib.hid (Og_6.out.below hb)
      clear Ot_6 Ou_6 Ow_6 Ox_6 Oy_6 Og_6
      clear hb
      go_wp2_with fail
      refine (toHeldS_law _ l _ HLl.out (HR.out.below HB7.out)).mono ?_
      rintro e w8 ⟨a7, c7, f7, rfl, h7, hb⟩
      have HB8 := Lib.hid (HB7.out.trans (hb.mono HB7.out.size))
      have HS8 := Lib.hid hb.size
      have Ot_8 := Lib.hid (Ot_7.out.below hb)
      have Ou_8 := Lib.hid (Ou_7.out.below hb)
      have Ow_8 := Lib.hid (Ow_7.out.below hb)
      have Ox_8 := Lib.hid (Ox_7.out.below hb)
      have Oy_8 := Lib.hid (Oy_7.out.below hb)
      have Og_8 := Lib.hid (Og_7.out.below hb)
      clear Ot_7 Ou_7 Ow_7 Ox_7 Oy_7 Og_7
      have Rp := Lib.hid (h7.rng)
      have Op_8 := Lib.hid h7
      clear hb h7
      go_wp2_with fail
      refine (eqHeldS_same _ _ l _ HEl.out Ox_8.out.rd Op_8.out.rd).mono ?_
      rintro e w9 ⟨rfl, hb⟩
      have HB9 := Lib.hid (HB8.out.trans (hb.mono HB8.out.size))
      have HS9 := Lib.hid hb.size
      have Ot_9 := Lib.hid (Ot_8.out.below hb)
      have Ou_9 := Lib.hid (Ou_8.out.below hb)
      have Ow_9 := Lib.hid (Ow_8.out.below hb)
      have Ox_9 := Lib.hid (Ox_8.out.below hb)
      have Oy_9 := Lib.hid (Oy_8.out.below hb)
      have Og_9 := Lib.hid (Og_8.out.below hb)
      have Op_9 := Lib.hid (Op_8.out.below hb)
      clear Ot_8 Ou_8 Ow_8 Ox_8 Oy_8 Og_8 Op_8
      clear hb
      go_wp2_with fail
      refine (toStepS_law _ s _ HSl.out (HR2.out.below HB9.out)).mono ?_
      rintro e w10 ⟨a8, c8, f8, rfl, h8, hb⟩
      have HB10 := Lib.hid (HB9.out.trans (hb.mono HB9.out.size))
      have HS10 := Lib.hid hb.size
      have Ot_10 := Lib.hid (Ot_9.out.below hb)
      have Ou_10 := Lib.hid (Ou_9.out.below hb)
      have Ow_10 := Lib.hid (Ow_9.out.below hb)
      have Ox_10 := Lib.hid (Ox_9.out.below hb)
      have Oy_10 := Lib.hid (Oy_9.out.below hb)
      have Og_10 := Lib.hid (Og_9.out.below hb)
      have Op_10 := Lib.hid (Op_9.out.below hb)
      clear Ot_9 Ou_9 Ow_9 Ox_9 Oy_9 Og_9 Op_9
      have Rq := Lib.hid (h8.rng)
      have Oq_10 := Lib.hid h8
      clear hb h8
      go_wp2_with fail
      refine (eqStepS_same _ _ s _ HEs.out Oy_10.out.rd Oq_10.out.rd).mono ?_
      rintro e w11 ⟨rfl, hb⟩
      have HB11 := Lib.hid (HB10.out.trans (hb.mono HB10.out.size))
      have HS11 := Lib.hid hb.size
      have Ot_11 := Lib.hid (Ot_10.out.below hb)
      have Ou_11 := Lib.hid (Ou_10.out.below hb)
      have Ow_11 := Lib.hid (Ow_10.out.below hb)
      have Ox_11 := Lib.hid (Ox_10.out.below hb)
      have Oy_11 := Lib.hid (Oy_10.out.below hb)
      have Og_11 := Lib.hid (Og_10.out.below hb)
      have Op_11 := Lib.hid (Op_10.out.below hb)
      have Oq_11 := Lib.hid (Oq_10.out.below hb)
      clear Ot_10 Ou_10 Ow_10 Ox_10 Oy_10 Og_10 Op_10 Oq_10
      clear hb
      go_wp2_with fail
      refine (markHeldS_q _ _ l _ 1 qx HQX.out _ HLl.out (by decide) (by decide) Ox_11.out).mono ?_
      rintro e w12 ⟨rfl, ho, ht⟩
      have HB12 := Lib.hid (HB11.out.trans (ht.below (fun b hb => by have := Rx.out b hb; have := HB3.out.size; omega) HB11.out.size))
      have HS12 := Lib.hid ht.size
      have Ot_12 := Lib.hid (Ot_11.out.turn ht (fun b hb hb' => by have := Rx.out b hb'; have := Rt.out b hb; have := HS2.out; have := HS3.out; omega))
      have Ou_12 := Lib.hid (Ou_11.out.turn ht (fun b hb hb' => by have := Rx.out b hb'; have := Ru.out b hb; have := HS3.out; omega))
      have Ow_12 := Lib.hid (Ow_11.out.turn ht (fun b hb hb' => by have := Rx.out b hb'; have := Rw.out b hb; omega))
      have Oy_12 := Lib.hid (Oy_11.out.turn ht (fun b hb hb' => by have := Rx.out b hb'; have := Ry.out b hb; omega))
      have Og_12 := Lib.hid (Og_11.out.turn ht (fun b hb hb' => by have := Rx.out b hb'; have := Rg.out b hb; have := HS5.out; omega))
      have Op_12 := Lib.hid (Op_11.out.turn ht (fun b hb hb' => by have := Rx.out b hb'; have := Rp.out b hb; have := HS5.out; have := HS6.out; have := HS7.out; omega))
      have Oq_12 := Lib.hid (Oq_11.out.turn ht (fun b hb hb' => by have := Rx.out b hb'; have := Rq.out b hb; have := HS5.out; have := HS6.out; have := HS7.out; have := HS8.out; have := HS9.out; omega))
      have Ox_12 := Lib.hid ho
      clear ho ht Ot_11 Ou_11 Ow_11 Ox_11 Oy_11 Og_11 Op_11 Oq_11
      go_wp2_with fail
      refine (markStepS_q _ _ s _ qx qy HQY.out _ HSl.out HQX1.out.1 HQX1.out.2 Oy_12.out).mono ?_
      rintro e w13 ⟨rfl, ho, ht⟩
      have HB13 := Lib.hid (HB12.out.trans (ht.below (fun b hb => by have := Ry.out b hb; have := HB4.out.size; omega) HB12.out.size))
      have HS13 := Lib.hid ht.size
      have Ot_13 := Lib.hid (Ot_12.out.turn ht (fun b hb hb' => by have := Ry.out b hb'; have := Rt.out b hb; have := HS2.out; have := HS3.out; have := HS4.out; omega))
      have Ou_13 := Lib.hid (Ou_12.out.turn ht (fun b hb hb' => by have := Ry.out b hb'; have := Ru.out b hb; have := HS3.out; have := HS4.out; omega))
      have Ow_13 := Lib.hid (Ow_12.out.turn ht (fun b hb hb' => by have := Ry.out b hb'; have := Rw.out b hb; have := HS4.out; omega))
      have Ox_13 := Lib.hid (Ox_12.out.turn ht (fun b hb hb' => by have := Ry.out b hb'; have := Rx.out b hb; omega))
      have Og_13 := Lib.hid (Og_12.out.turn ht (fun b hb hb' => by have := Ry.out b hb'; have := Rg.out b hb; omega))
      have Op_13 := Lib.hid (Op_12.out.turn ht (fun b hb hb' => by have := Ry.out b hb'; have := Rp.out b hb; have := HS6.out; have := HS7.out; omega))
      have Oq_13 := Lib.hid (Oq_12.out.turn ht (fun b hb hb' => by have := Ry.out b hb'; have := Rq.out b hb; have := HS6.out; have := HS7.out; have := HS8.out; have := HS9.out; omega))
      have Oy_13 := Lib.hid ho
      clear ho ht Ot_12 Ou_12 Ow_12 Ox_12 Oy_12 Og_12 Op_12 Oq_12
      go_wp2_with fail
      refine (eqReportS_same _ _ R _ HE1.out HE2.out Og_13.out.rd Ow_13.out.rd).mono ?_
      rintro e w14 ⟨rfl, hb⟩
      have HB14 := Lib.hid (HB13.out.trans (hb.mono HB13.out.size))
      have HS14 := Lib.hid hb.size
      have Ot_14 := Lib.hid (Ot_13.out.below hb)
      have Ou_14 := Lib.hid (Ou_13.out.below hb)
      have Ow_14 := Lib.hid (Ow_13.out.below hb)
      have Ox_14 := Lib.hid (Ox_13.out.below hb)
      have Oy_14 := Lib.hid (Oy_13.out.below hb)
      have Og_14 := Lib.hid (Og_13.out.below hb)
      have Op_14 := Lib.hid (Op_13.out.below hb)
      have Oq_14 := Lib.hid (Oq_13.out.below hb)
      clear Ot_13 Ou_13 Ow_13 Ox_13 Oy_13 Og_13 Op_13 Oq_13
      clear hb
      go_wp2_with fail
      refine (markReportS_q _ _ R _ 1 qr HQR.out _ HE3.out HE4.out (by decide) (by decide) Og_14.out).mono ?_
      rintro e w15 ⟨rfl, ho, ht⟩
      have HB15 := Lib.hid (HB14.out.trans (ht.below (fun b hb => by have := Rg.out b hb; have := HB5.out.size; omega) HB14.out.size))
      have HS15 := Lib.hid ht.size
      have Ot_15 := Lib.hid (Ot_14.out.turn ht (fun b hb hb' => by have := Rg.out b hb'; have := Rt.out b hb; have := HS2.out; have := HS3.out; have := HS4.out; have := HS5.out; omega))
      have Ou_15 := Lib.hid (Ou_14.out.turn ht (fun b hb hb' => by have := Rg.out b hb'; have := Ru.out b hb; have := HS3.out; have := HS4.out; have := HS5.out; omega))
      have Ow_15 := Lib.hid (Ow_14.out.turn ht (fun b hb hb' => by have := Rg.out b hb'; have := Rw.out b hb; have := HS4.out; have := HS5.out; omega))
      have Ox_15 := Lib.hid (Ox_14.out.turn ht (fun b hb hb' => by have := Rg.out b hb'; have := Rx.out b hb; have := HS5.out; omega))
      have Oy_15 := Lib.hid (Oy_14.out.turn ht (fun b hb hb' => by have := Rg.out b hb'; have := Ry.out b hb; omega))
      have Op_15 := Lib.hid (Op_14.out.turn ht (fun b hb hb' => by have := Rg.out b hb'; have := Rp.out b hb; have := HS7.out; omega))
      have Oq_15 := Lib.hid (Oq_14.out.turn ht (fun b hb hb' => by have := Rg.out b hb'; have := Rq.out b hb; have := HS7.out; have := HS8.out; have := HS9.out; omega))
      have Og_15 := Lib.hid ho
      clear ho ht Ot_14 Ou_14 Ow_14 Ox_14 Oy_14 Og_14 Op_14 Oq_14
      go_wp2_with fail
      refine (heldReportS_q _ R 1 qr HQR.out _ HE3.out HE4.out (by decide) (by decide) Og_15.out.rd).mono ?_
      rintro e v0 ⟨rfl, rfl⟩
      go_wp2_with fail
      refine (toHeldS_law _ l _ HLl.out (HR.out.below HB15.out)).mono ?_
      rintro e w16 ⟨a9, c9, f9, rfl, h9, hb⟩
      have HB16 := Lib.hid (HB15.out.trans (hb.mono HB15.out.size))
      have HS16 := Lib.hid hb.size
      have Ot_16 := Lib.hid (Ot_15.out.below hb)
      have Ou_16 := Lib.hid (Ou_15.out.below hb)
      have Ow_16 := Lib.hid (Ow_15.out.below hb)
      have Ox_16 := Lib.hid (Ox_15.out.below hb)
      have Oy_16 := Lib.hid (Oy_15.out.below hb)
      have Og_16 := Lib.hid (Og_15.out.below hb)
      have Op_16 := Lib.hid (Op_15.out.below hb)
      have Oq_16 := Lib.hid (Oq_15.out.below hb)
      clear Ot_15 Ou_15 Ow_15 Ox_15 Oy_15 Og_15 Op_15 Oq_15
      have Rr := Lib.hid (h9.rng)
      have Or_16 := Lib.hid h9
      clear hb h9
      go_wp2_with fail
      refine (toStepS_law _ s _ HSl.out (HR2.out.below HB16.out)).mono ?_
      rintro e w17 ⟨a10, c10, f10, rfl, h10, hb⟩
      have HB17 := Lib.hid (HB16.out.trans (hb.mono HB16.out.size))
      have HS17 := Lib.hid hb.size
      have Ot_17 := Lib.hid (Ot_16.out.below hb)
      have Ou_17 := Lib.hid (Ou_16.out.below hb)
      have Ow_17 := Lib.hid (Ow_16.out.below hb)
      have Ox_17 := Lib.hid (Ox_16.out.below hb)
      have Oy_17 := Lib.hid (Oy_16.out.below hb)
      have Og_17 := Lib.hid (Og_16.out.below hb)
      have Op_17 := Lib.hid (Op_16.out.below hb)
      have Oq_17 := Lib.hid (Oq_16.out.below hb)
      have Or_17 := Lib.hid (Or_16.out.below hb)
      clear Ot_16 Ou_16 Ow_16 Ox_16 Oy_16 Og_16 Op_16 Oq_16 Or_16
      have Rs := Lib.hid (h10.rng)
      have Os_17 := Lib.hid h10
      clear hb h10
      go_wp2_with fail
      refine (HIm.out _ _ _ Or_17.out.rd Os_17.out.rd).mono ?_
      rintro e w18 ⟨a11, c11, f11, rfl, h11, hb⟩
      have HB18 := Lib.hid (HB17.out.trans (hb.mono HB17.out.size))
      have HS18 := Lib.hid hb.size
      have Ot_18 := Lib.hid (Ot_17.out.below hb)
      have Ou_18 := Lib.hid (Ou_17.out.below hb)
      have Ow_18 := Lib.hid (Ow_17.out.below hb)
      have Ox_18 := Lib.hid (Ox_17.out.below hb)
      have Oy_18 := Lib.hid (Oy_17.out.below hb)
      have Og_18 := Lib.hid (Og_17.out.below hb)
      have Op_18 := Lib.hid (Op_17.out.below hb)
      have Oq_18 := Lib.hid (Oq_17.out.below hb)
      have Or_18 := Lib.hid (Or_17.out.below hb)
      have Os_18 := Lib.hid (Os_17.out.below hb)
      clear Ot_17 Ou_17 Ow_17 Ox_17 Oy_17 Og_17 Op_17 Oq_17 Or_17 Os_17
      have Rh := Lib.hid (h11.rng)
      have Oh_18 := Lib.hid h11
      clear hb h11
      go_wp2_with fail
      refine (eqReportS_same _ _ R _ HE1.out HE2.out Oh_18.out.rd Ow_18.out.rd).mono ?_
      rintro e w19 ⟨rfl, hb⟩
      have HB19 := Lib.hid (HB18.out.trans (hb.mono HB18.out.size))
      have HS19 := Lib.hid hb.size
      have Ot_19 := Lib.hid (Ot_18.out.below hb)
      have Ou_19 := Lib.hid (Ou_18.out.below hb)
      have Ow_19 := Lib.hid (Ow_18.out.below hb)
      have Ox_19 := Lib.hid (Ox_18.out.below hb)
      have Oy_19 := Lib.hid (Oy_18.out.below hb)
      have Og_19 := Lib.hid (Og_18.out.below hb)
      have Op_19 := Lib.hid (Op_18.out.below hb)
      have Oq_19 := Lib.hid (Oq_18.out.below hb)
      have Or_19 := Lib.hid (Or_18.out.below hb)
      have Os_19 := Lib.hid (Os_18.out.below hb)
      have Oh_19 := Lib.hid (Oh_18.out.below hb)
      clear Ot_18 Ou_18 Ow_18 Ox_18 Oy_18 Og_18 Op_18 Oq_18 Or_18 Os_18 Oh_18
      clear hb
      go_wp2_with fail
      refine (heldReportS_q _ R 1 qr HQR.out _ HE3.out HE4.out (by decide) (by decide) Og_19.out.rd).mono ?_
      rintro e v0 ⟨rfl, rfl⟩
      go_wp2
      go_ret
      exact ⟨rfl, HB19.out⟩
    · have hsz2 : (if r1 < (s.length : Int) then -1 else r1 - (s.length : Int)) = -1 := if_pos (by omega)
      have HSZ2 := Lib.hid hsz2
      clear hsz hsz2 hr1 hl hl2
      have HB0 := Lib.hid (Below.refl w.heap.size w)
      go_enter Try.func4, Try.ntmps4
      go_wp2_with fail
      refine (szHeldS_any a l.length cap 1048576 _ (by omega) (by omega) HM.out).mono ?_
      rw [HSZ.out]
      rintro e v0 ⟨rfl, rfl⟩
      go_wp2_with fail
      refine (szStepS_any b s.length cap2 r1 _ HR1.out.1 HR1.out.2 HM2.out).mono ?_
      rw [HSZ2.out]
      rintro e v0 ⟨rfl, rfl⟩
      go_wp2
      go_ret
      exact ⟨rfl, HB0.out⟩
  · have hsz : (if (1048576 : Int) < (l.length : Int) then -1 else (1048576 : Int) - (l.length : Int)) = -1 := if_pos (by omega)
    have HSZ := Lib.hid hsz
    clear hsz hl
    have HB0 := Lib.hid (Below.refl w.heap.size w)
    go_enter Try.func4, Try.ntmps4
    go_wp2_with fail
    refine (szHeldS_any a l.length cap 1048576 _ (by omega) (by omega) HM.out).mono ?_
    rw [HSZ.out]
    rintro e v0 ⟨rfl, rfl⟩
    go_wp2
    go_ret
    exact ⟨rfl, HB0.out⟩

end Go.Proofs.Ytnfnhbldphiohaa
