/- DERIVED. The exact laws of CharOf, KeyOf, TextMacro and TextReports, over the program's own functions: each, called with any argument, returns true and changes nothing that was there. -/
import Derived.Test.YteljmfdlegohbaaHoTxtI
namespace Go.Proofs.Yteljmfdlegohbaa
open Go.RowKit

def StR12 (z : List St) (b : Bool) (w : World) (e : Ending) (w' : World) : Prop := ∃ a c fp, e = .returned (.tuple #[.slice a z.length c, .bool b]) ∧ OwF w' w.heap.size 136 3 (.slice a z.length c) z.length (flatSt z) fp ∧ Below w.heap.size w w'
theorem stR12 {z : List St} {b : Bool} {w w' : World} {e : Ending} (h : StT (z, b) w e w') : StR12 z b w e w' := by
  obtain ⟨a, c, he, ho, hb⟩ := h
  exact ⟨a, c, _, he, OwF.mk' ho, hb⟩
def RpR12 (z : List Rv) (b : Bool) (w : World) (e : Ending) (w' : World) : Prop := ∃ a c fp, e = .returned (.tuple #[.slice a z.length c, .bool b]) ∧ OwZ rpF w' w.heap.size 1 (.slice a z.length c) z fp ∧ Below w.heap.size w w'
theorem rpR12 {z : List Rv} {b : Bool} {w w' : World} {e : Ending} (h : RpT (z, b) w e w') : RpR12 z b w e w' := by
  obtain ⟨a, c, fp, he, ho, hb⟩ := h
  exact ⟨a, c, fp, he, ho.low, hb⟩
theorem tpV_len (s : ByteArray) : (tpV 8 s).1.length ≤ 8 := by
  rw [tpV]; split
  · rename_i h; exact Nat.le_trans (Nat.le_of_eq (stTx_len _ _)) h.1
  · simp
theorem trV_len (s : ByteArray) : (trV s).1.length ≤ 120 := by
  rw [trV]; split
  · rename_i h; show (rpTx s s.size).length ≤ 120; rw [rpTx_len]; omega
  · simp
theorem rpTx_keys (s : ByteArray) (j : Nat) : ∀ r ∈ rpTx s j, r.2.length ≤ 56 := by
  intro r hr
  rw [rpTx, List.mem_flatMap] at hr
  obtain ⟨i, _, hi⟩ := hr
  simp only [List.mem_cons, List.not_mem_nil, or_false] at hi
  rcases hi with rfl | rfl <;> simp
theorem trV_keys (s : ByteArray) : ∀ r ∈ (trV s).1, r.2.length ≤ 56 := by
  intro r hr
  rw [trV] at hr
  split at hr
  · exact rpTx_keys s _ r hr
  · simp at hr
theorem lenQ_le12 {L : List Rv} (h : ∀ r ∈ L, r.2.length ≤ 56) : ∀ j, lenQ L j ≤ j * 57
  | 0 => Nat.le_refl _
  | j + 1 => by rw [lenQ]; have := lenQ_le12 h j; have := qD_le h j; omega
theorem markStepS_q12 (B : Nat) (v : Value) (l : List St) (fp : List Nat) (q q2 : Int) (hq : q2 = q + ((l.length * 3 : Nat) : Int)) (w : World) (hn : l.length ≤ 1048576) (hk : 0 ≤ q) (hk' : q ≤ 1099511627776) (h : OwF w B 136 3 v l.length (flatSt l) fp) :
    Calls Try.prog 81 #[v, .int .i64 q] w fun e w' => e = .returned (.int .i64 q2) ∧ OwF w' B 136 3 v l.length (flatSt (marksSt q l.length)) fp ∧ Turn w w' fp := by
  rw [hq]
  exact (markStepS_any B v l.length (flatSt l) q w hn hk hk' h.1).mono fun _ _ ⟨he, ho, hg⟩ => ⟨he, (h.marked ho hg).1, (h.marked ho hg).2⟩
theorem heldStepS_q12 (v : Value) (n : Nat) (q q2 : Int) (hq : q2 = q + ((n * 3 : Nat) : Int)) (w : World) (hn : n ≤ 1048576) (hk : 0 ≤ q) (hk' : q ≤ 1099511627776) (h : RdN w v n (flatSt (marksSt q n))) :
    Calls Try.prog 82 #[v, .int .i64 q] w fun e w' => e = .returned (.int .i64 q2) ∧ w = w' := by
  rw [hq]; exact heldStepS_any v n q w hn hk hk' h
theorem markReportS_q12 (B : Nat) (v : Value) (L : List Rv) (fp : List Nat) (q q2 : Int) (hq : q2 = q + (lenQ L L.length : Int)) (w : World) (hn : L.length ≤ 1048576) (ht : lenQ L L.length ≤ 1048576) (hk : 0 ≤ q) (hk' : q ≤ 1000000) (h : OwZ rpF w B 1 v L fp) :
    Calls Try.prog 77 #[v, .int .i64 q] w fun e w' => e = .returned (.int .i64 q2) ∧ OwZ rpF w' B 1 v (mkQ q L L.length) fp ∧ Turn w w' fp := by
  rw [hq]; exact markReportS_own B v L fp q w hn ht hk (by omega) h
theorem heldReportS_q12 (v : Value) (L : List Rv) (q q2 : Int) (hq : q2 = q + (lenQ L L.length : Int)) (w : World) (hn : L.length ≤ 1048576) (ht : lenQ L L.length ≤ 1048576) (hk : 0 ≤ q) (hk' : q ≤ 1000000) (h : RdQ rpF w v (mkQ q L L.length)) :
    Calls Try.prog 78 #[v, .int .i64 q] w fun e w' => e = .returned (.int .i64 q2) ∧ w = w' := by
  rw [hq]; exact heldReportS_any v L q w hn ht hk (by omega) h

set_option maxHeartbeats 1000000 in
set_option maxRecDepth 100000 in
theorem lawCharOf_all (c m : Int) (w : World)  : Calls Try.prog 12 #[.int .i64 c, .int .i64 m] w fun e w' => e = .returned (.bool true) ∧ Below w.heap.size w w' := by
  obtain ⟨T, hT⟩ : ∃ T, hoV c m = T := ⟨_, rfl⟩
  have HT := Lib.hid hT
  clear hT
  have hb0 : (!(T.toList == T.toList)) = false := by simp
  have HB0 := Lib.hid (Below.refl w.heap.size w)
  go_enter Try.func12, Try.ntmps12
  go_wp2_with fail
  refine (specCharOf_any c m _).mono ?_
  rw [HT.out]
  rintro e w1 ⟨rfl, hb⟩
  have HB1 := Lib.hid (HB0.out.trans (hb.mono HB0.out.size))
  have HS1 := Lib.hid hb.size
  clear hb
  go_wp2_with fail
  refine (implCharOf_any c m _).mono ?_
  rw [HT.out]
  rintro e v0 ⟨rfl, rfl⟩
  go_wp2
  go_ret
  exact ⟨rfl, HB1.out⟩

set_option maxHeartbeats 1000000 in
set_option maxRecDepth 100000 in
theorem lawKeyOf_all (z : Int) (w : World) (hz : 0 ≤ z ∧ z < 256) : Calls Try.prog 13 #[.int .u8 z] w fun e w' => e = .returned (.bool true) ∧ Below w.heap.size w w' := by
  obtain ⟨x, hx⟩ : ∃ x : UInt8, z = (x.toNat : Int) := ⟨UInt8.ofNat z.toNat, by rw [UInt8.toNat_ofNat', Nat.mod_eq_of_lt (show z.toNat < 2 ^ 8 by omega)]; omega⟩
  obtain ⟨r, hr⟩ : ∃ r, koP x = r := ⟨_, rfl⟩
  obtain ⟨r1, r2⟩ := r
  have HR := Lib.hid hr
  have HX := Lib.hid hx
  clear hr hx hz
  have HB0 := Lib.hid (Below.refl w.heap.size w)
  go_enter Try.func13, Try.ntmps13
  go_wp2_with fail
  refine (specKeyOf_q x z r1 r2 HX.out HR.out _).mono ?_
  rintro e w1 ⟨rfl, hb⟩
  have HB1 := Lib.hid (HB0.out.trans (hb.mono HB0.out.size))
  have HS1 := Lib.hid hb.size
  clear hb
  go_wp2_with fail
  refine (implKeyOf_q x z r1 r2 HX.out HR.out _).mono ?_
  rintro e v0 ⟨rfl, rfl⟩
  go_wp2
  go_ret
  exact ⟨rfl, HB1.out⟩

set_option maxHeartbeats 1000000 in
set_option maxRecDepth 100000 in
theorem lawTextMacro_all (s : ByteArray) (w : World)  : Calls Try.prog 17 #[.string s] w fun e w' => e = .returned (.bool true) ∧ Below w.heap.size w w' := by
  by_cases hl : s.size ≤ 1048576
  · have hl2 : ¬ (1048576 : Int) < (s.size : Int) := by omega
    have hlen : (tpV 8 s).1.length ≤ 8 := tpV_len s
    obtain ⟨⟨z, rb⟩, hR⟩ : ∃ x, tpV 8 s = x := ⟨_, rfl⟩
    rw [hR] at hlen
    replace hlen : z.length ≤ 8 := hlen
    have HE1 := Lib.hid (show z.length ≤ 1000000000000 by omega)
    have HE3 := Lib.hid (show z.length ≤ 1048576 by omega)
    obtain ⟨qr, hqr⟩ : ∃ q : Int, q = 1 + ((z.length * 3 : Nat) : Int) := ⟨_, rfl⟩
    have HL := Lib.hid hl
    have HSp := Lib.hid (show ∀ w' : World, Calls Try.prog 79 #[.string s] w' (StR12 z rb w') from fun w' => (specTextMacro_any s w' hl).mono fun _ _ h => stR12 (hR ▸ h))
    have HI := Lib.hid (show ∀ w' : World, Calls Try.prog 34 #[.string s] w' (StR12 z rb w') from fun w' => (implTextMacro_any s w' hl).mono fun _ _ h => stR12 (hR ▸ h))
    have hqr0 : ¬ qr < 0 := by omega
    have HQR := Lib.hid hqr
    clear hqr hR hl
    have HB0 := Lib.hid (Below.refl w.heap.size w)
    go_enter Try.func17, Try.ntmps17
    go_wp2_with fail
    refine (HSp.out _).mono ?_
    rintro e w1 ⟨a1, c1, f1, rfl, h1, hb⟩
    have HB1 := Lib.hid (HB0.out.trans (hb.mono HB0.out.size))
    have HS1 := Lib.hid hb.size
    have Rw := Lib.hid (h1.rng)
    have Ow_1 := Lib.hid h1
    clear hb h1
    go_wp2_with fail
    refine (HI.out _).mono ?_
    rintro e w2 ⟨a2, c2, f2, rfl, h2, hb⟩
    have HB2 := Lib.hid (HB1.out.trans (hb.mono HB1.out.size))
    have HS2 := Lib.hid hb.size
    have Ow_2 := Lib.hid (Ow_1.out.below hb)
    clear Ow_1
    have Rg := Lib.hid (h2.rng)
    have Og_2 := Lib.hid h2
    clear hb h2
    go_wp2_with fail
    refine (eqStepS_same _ _ z _ HE1.out Og_2.out.rd Ow_2.out.rd).mono ?_
    rintro e w3 ⟨rfl, hb⟩
    have HB3 := Lib.hid (HB2.out.trans (hb.mono HB2.out.size))
    have HS3 := Lib.hid hb.size
    have Ow_3 := Lib.hid (Ow_2.out.below hb)
    have Og_3 := Lib.hid (Og_2.out.below hb)
    clear Ow_2 Og_2
    clear hb
    go_wp2_with fail
    refine (markStepS_q12 _ _ z _ 1 qr HQR.out _ HE3.out (by decide) (by decide) Og_3.out).mono ?_
    rintro e w4 ⟨rfl, ho, ht⟩
    have HB4 := Lib.hid (HB3.out.trans (ht.below (fun b hb => by have := Rg.out b hb; have := HB1.out.size; omega) HB3.out.size))
    have HS4 := Lib.hid ht.size
    have Ow_4 := Lib.hid (Ow_3.out.turn ht (fun b hb hb' => by have := Rg.out b hb'; have := Rw.out b hb; omega))
    have Og_4 := Lib.hid ho
    clear ho ht Ow_3 Og_3
    go_wp2_with fail
    refine (heldStepS_q12 _ z.length 1 qr HQR.out _ HE3.out (by decide) (by decide) (by have h := Og_4.out.rd; exact h)).mono ?_
    rintro e v0 ⟨rfl, rfl⟩
    go_wp2_with fail
    refine (HI.out _).mono ?_
    rintro e w5 ⟨a3, c3, f3, rfl, h3, hb⟩
    have HB5 := Lib.hid (HB4.out.trans (hb.mono HB4.out.size))
    have HS5 := Lib.hid hb.size
    have Ow_5 := Lib.hid (Ow_4.out.below hb)
    have Og_5 := Lib.hid (Og_4.out.below hb)
    clear Ow_4 Og_4
    have Rh := Lib.hid (h3.rng)
    have Oh_5 := Lib.hid h3
    clear hb h3
    go_wp2_with fail
    refine (eqStepS_same _ _ z _ HE1.out Oh_5.out.rd Ow_5.out.rd).mono ?_
    rintro e w6 ⟨rfl, hb⟩
    have HB6 := Lib.hid (HB5.out.trans (hb.mono HB5.out.size))
    have HS6 := Lib.hid hb.size
    have Ow_6 := Lib.hid (Ow_5.out.below hb)
    have Og_6 := Lib.hid (Og_5.out.below hb)
    have Oh_6 := Lib.hid (Oh_5.out.below hb)
    clear Ow_5 Og_5 Oh_5
    clear hb
    go_wp2_with fail
    refine (heldStepS_q12 _ z.length 1 qr HQR.out _ HE3.out (by decide) (by decide) (by have h := Og_6.out.rd; exact h)).mono ?_
    rintro e v0 ⟨rfl, rfl⟩
    go_wp2
    go_ret
    exact ⟨rfl, HB6.out⟩
  · have hl' : (1048576 : Int) < (s.size : Int) := by omega
    clear hl
    go_enter Try.func17, Try.ntmps17
    go_wp2
    go_ret
    exact ⟨rfl, Below.refl _ _⟩

set_option maxHeartbeats 1000000 in
set_option maxRecDepth 100000 in
theorem lawTextReports_all (s : ByteArray) (w : World)  : Calls Try.prog 16 #[.string s] w fun e w' => e = .returned (.bool true) ∧ Below w.heap.size w w' := by
  by_cases hl : s.size ≤ 1048576
  · have hl2 : ¬ (1048576 : Int) < (s.size : Int) := by omega
    have hlen : (trV s).1.length ≤ 120 := trV_len s
    have hkeys : ∀ r ∈ (trV s).1, r.2.length ≤ 56 := trV_keys s
    obtain ⟨⟨z, rb⟩, hR⟩ : ∃ x, trV s = x := ⟨_, rfl⟩
    rw [hR] at hlen hkeys
    replace hlen : z.length ≤ 120 := hlen
    replace hkeys : ∀ r ∈ z, r.2.length ≤ 56 := hkeys
    have hlq := lenQ_le12 hkeys z.length
    have HE1 := Lib.hid (show z.length ≤ 1000000000000 by omega)
    have HE2 := Lib.hid (show ∀ r ∈ z, r.2.length ≤ 1000000000000 from fun r hr => Nat.le_trans (hkeys r hr) (by decide))
    have HE3 := Lib.hid (show z.length ≤ 1048576 by omega)
    have HE4 := Lib.hid (show lenQ z z.length ≤ 1048576 by omega)
    obtain ⟨qr, hqr⟩ : ∃ q : Int, q = 1 + (lenQ z z.length : Int) := ⟨_, rfl⟩
    clear hlen hkeys hlq
    have HL := Lib.hid hl
    have HSp := Lib.hid (show ∀ w' : World, Calls Try.prog 76 #[.string s] w' (RpR12 z rb w') from fun w' => (specTextReports_any s w' hl).mono fun _ _ h => rpR12 (hR ▸ h))
    have HI := Lib.hid (show ∀ w' : World, Calls Try.prog 33 #[.string s] w' (RpR12 z rb w') from fun w' => (implTextReports_any s w' hl).mono fun _ _ h => rpR12 (hR ▸ h))
    have hqr0 : ¬ qr < 0 := by omega
    have HQR := Lib.hid hqr
    clear hqr hR hl
    have HB0 := Lib.hid (Below.refl w.heap.size w)
    go_enter Try.func16, Try.ntmps16
    go_wp2_with fail
    refine (HSp.out _).mono ?_
    rintro e w1 ⟨a1, c1, f1, rfl, h1, hb⟩
    have HB1 := Lib.hid (HB0.out.trans (hb.mono HB0.out.size))
    have HS1 := Lib.hid hb.size
    have Rw := Lib.hid (h1.rng)
    have Ow_1 := Lib.hid h1
    clear hb h1
    go_wp2_with fail
    refine (HI.out _).mono ?_
    rintro e w2 ⟨a2, c2, f2, rfl, h2, hb⟩
    have HB2 := Lib.hid (HB1.out.trans (hb.mono HB1.out.size))
    have HS2 := Lib.hid hb.size
    have Ow_2 := Lib.hid (Ow_1.out.below hb)
    clear Ow_1
    have Rg := Lib.hid (h2.rng)
    have Og_2 := Lib.hid h2
    clear hb h2
    go_wp2_with fail
    refine (eqReportS_same _ _ z _ HE1.out HE2.out Og_2.out.rd Ow_2.out.rd).mono ?_
    rintro e w3 ⟨rfl, hb⟩
    have HB3 := Lib.hid (HB2.out.trans (hb.mono HB2.out.size))
    have HS3 := Lib.hid hb.size
    have Ow_3 := Lib.hid (Ow_2.out.below hb)
    have Og_3 := Lib.hid (Og_2.out.below hb)
    clear Ow_2 Og_2
    clear hb
    go_wp2_with fail
    refine (markReportS_q12 _ _ z _ 1 qr HQR.out _ HE3.out HE4.out (by decide) (by decide) Og_3.out).mono ?_
    rintro e w4 ⟨rfl, ho, ht⟩
    have HB4 := Lib.hid (HB3.out.trans (ht.below (fun b hb => by have := Rg.out b hb; have := HB1.out.size; omega) HB3.out.size))
    have HS4 := Lib.hid ht.size
    have Ow_4 := Lib.hid (Ow_3.out.turn ht (fun b hb hb' => by have := Rg.out b hb'; have := Rw.out b hb; omega))
    have Og_4 := Lib.hid ho
    clear ho ht Ow_3 Og_3
    go_wp2_with fail
    refine (heldReportS_q12 _ z 1 qr HQR.out _ HE3.out HE4.out (by decide) (by decide) Og_4.out.rd).mono ?_
    rintro e v0 ⟨rfl, rfl⟩
    go_wp2_with fail
    refine (HI.out _).mono ?_
    rintro e w5 ⟨a3, c3, f3, rfl, h3, hb⟩
    have HB5 := Lib.hid (HB4.out.trans (hb.mono HB4.out.size))
    have HS5 := Lib.hid hb.size
    have Ow_5 := Lib.hid (Ow_4.out.below hb)
    have Og_5 := Lib.hid (Og_4.out.below hb)
    clear Ow_4 Og_4
    have Rh := Lib.hid (h3.rng)
    have Oh_5 := Lib.hid h3
    clear hb h3
    go_wp2_with fail
    refine (eqReportS_same _ _ z _ HE1.out HE2.out Oh_5.out.rd Ow_5.out.rd).mono ?_
    rintro e w6 ⟨rfl, hb⟩
    have HB6 := Lib.hid (HB5.out.trans (hb.mono HB5.out.size))
    have HS6 := Lib.hid hb.size
    have Ow_6 := Lib.hid (Ow_5.out.below hb)
    have Og_6 := Lib.hid (Og_5.out.below hb)
    have Oh_6 := Lib.hid (Oh_5.out.below hb)
    clear Ow_5 Og_5 Oh_5
    clear hb
    go_wp2_with fail
    refine (heldReportS_q12 _ z 1 qr HQR.out _ HE3.out HE4.out (by decide) (by decide) Og_6.out.rd).mono ?_
    rintro e v0 ⟨rfl, rfl⟩
    go_wp2
    go_ret
    exact ⟨rfl, HB6.out⟩
  · have hl' : (1048576 : Int) < (s.size : Int) := by omega
    clear hl
    go_enter Try.func16, Try.ntmps16
    go_wp2
    go_ret
    exact ⟨rfl, Below.refl _ _⟩

end Go.Proofs.Yteljmfdlegohbaa
