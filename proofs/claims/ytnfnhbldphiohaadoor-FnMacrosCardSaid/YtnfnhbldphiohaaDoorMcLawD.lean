/- DERIVED. The exact laws of FormatMacro and ParseMacro: each, called with any argument, returns true and changes nothing that was there; what the program's function does is a premise. -/
import Derived.Test.YtnfnhbldphiohaaDoorMcTx
namespace Go.Proofs.YtnfnhbldphiohaaDoor
open Go.RowKit

/-- Steps in memory of the caller's own, with their blocks, and whether there are. -/
def StQ (x : List St × Bool) (w : World) (e : Ending) (w' : World) : Prop := ∃ a c fp, e = .returned (.tuple #[.slice a x.1.length c, .bool x.2]) ∧ OwF w' w.heap.size 39 3 (.slice a x.1.length c) x.1.length (flatSt x.1) fp ∧ Below w.heap.size w w'
def StR (z : List St) (b : Bool) (w : World) (e : Ending) (w' : World) : Prop := ∃ a c fp, e = .returned (.tuple #[.slice a z.length c, .bool b]) ∧ OwF w' w.heap.size 39 3 (.slice a z.length c) z.length (flatSt z) fp ∧ Below w.heap.size w w'
theorem stR {z : List St} {b : Bool} {w w' : World} {e : Ending} (h : StQ (z, b) w e w') : StR z b w e w' := h
theorem stQ {x : List St × Bool} {w w' : World} {e : Ending} (h : StO x w e w') : StQ x w e w' := by
  obtain ⟨a, c, he, ho, hb⟩ := h
  exact ⟨a, c, _, he, OwF.mk' ho, hb⟩
theorem mqV_le (s : ByteArray) : (mqV s).1.length ≤ 8 := by
  rw [mqV]; split
  · simp
  · split
    · rename_i h
      rw [mqO_len _ _ (Nat.le_refl _)]; exact h.1
    · simp
theorem specFormatMacro_q (v : Value) (l : List St) (T : ByteArray) (hT : T = fmV l) (w : World) (hl : l.length ≤ 1048576) (h : RdN w v l.length (flatSt l)) :
    Calls Tryd.prog 18 #[v] w fun e w' => e = .returned (.string T) ∧ Below w.heap.size w w' := by
  rw [hT]; exact specFormatMacro_any v l w hl h
theorem toStepS_lawD (v : Value) (l : List St) (w : World) (hl : l.length ≤ 1048576) (h : RdN w v l.length (flatSt l)) :
    Calls Tryd.prog 19 #[v] w fun e w' => ∃ a c fp, e = .returned (.slice a l.length c) ∧ OwF w' w.heap.size 39 3 (.slice a l.length c) l.length (flatSt l) fp ∧ Below w.heap.size w w' :=
  (toStepS_any v l w hl h).mono fun e w' ⟨u, he, ho, hb⟩ => by
    obtain ⟨a, c, fp, rfl, h⟩ := OwF.shape ho
    exact ⟨a, c, fp, he, h, hb⟩
theorem markStepS_qD (B : Nat) (v : Value) (l : List St) (fp : List Nat) (q q2 : Int) (hq : q2 = q + ((l.length * 3 : Nat) : Int)) (w : World) (hn : l.length ≤ 1048576) (hk : 0 ≤ q) (hk' : q ≤ 1099511627776) (h : OwF w B 39 3 v l.length (flatSt l) fp) :
    Calls Tryd.prog 22 #[v, .int .i64 q] w fun e w' => e = .returned (.int .i64 q2) ∧ OwF w' B 39 3 v l.length (flatSt (marksSt q l.length)) fp ∧ Turn w w' fp := by
  rw [hq]
  exact (markStepS_any B v l.length (flatSt l) q w hn hk hk' h.1).mono fun _ _ ⟨he, ho, hg⟩ => ⟨he, (h.marked ho hg).1, (h.marked ho hg).2⟩
theorem heldStepS_q (v : Value) (n : Nat) (q q2 : Int) (hq : q2 = q + ((n * 3 : Nat) : Int)) (w : World) (hn : n ≤ 1048576) (hk : 0 ≤ q) (hk' : q ≤ 1099511627776) (h : RdN w v n (flatSt (marksSt q n))) :
    Calls Tryd.prog 23 #[v, .int .i64 q] w fun e w' => e = .returned (.int .i64 q2) ∧ w = w' := by
  rw [hq]; exact heldStepS_any v n q w hn hk hk' h

set_option maxHeartbeats 1000000 in
set_option maxRecDepth 100000 in
theorem lawFormatMacro_walk (a : Option Addr) (n cap : Nat) (s : List St) (w : World) (hn : s.length = n) (hm : n ≤ maxLen) (h : RdN w (.slice a n cap) s.length (flatSt s)) (hI : ∀ (v : Value) (s : List St) (w' : World), Below w.heap.size w w' → s.length ≤ 1048576 → RdN w' v s.length (flatSt s) → Calls Tryd.prog 11 #[v] w' fun e w'' => e = .returned (.string (fmV s)) ∧ Below w'.heap.size w' w'') : Calls Tryd.prog 4 #[.slice a n cap] w fun e w' => e = .returned (.bool true) ∧ Below w.heap.size w w' := by
  subst hn
  have HR2 := Lib.hid h
  have HM := Lib.hid hm
  have hI := hI
  obtain ⟨T, hT⟩ : ∃ x, x = fmV s := ⟨_, rfl⟩
  have HI := Lib.hid (show ∀ (v : Value) (w' : World), Below w.heap.size w w' → s.length ≤ 1048576 → RdN w' v s.length (flatSt s) → Calls Tryd.prog 11 #[v] w' fun e w'' => e = .returned (.string T) ∧ Below w'.heap.size w' w'' from fun v w' hb hl hr => by rw [hT]; exact hI v s w' hb hl hr)
  have HT := Lib.hid hT
  clear h hm hI hT
  have hb0 : (!(T.toList == T.toList)) = false := by simp
  by_cases hl : s.length ≤ 1048576
  · have hsz : (if (1048576 : Int) < (s.length : Int) then -1 else (1048576 : Int) - (s.length : Int)) = 1048576 - (s.length : Int) := if_neg (by omega)
    have hsz0 : ¬ (1048576 : Int) - (s.length : Int) < 0 := by omega
    have HSZ := Lib.hid hsz
    have HSl := Lib.hid hl
    clear hsz hl
    have HB0 := Lib.hid (Below.refl w.heap.size w)
    go_enter Tryd.func4, Tryd.ntmps4
    go_wp2_with fail
    refine (szStepS_any a s.length cap 1048576 _ (by omega) (by omega) HM.out).mono ?_
    rw [HSZ.out]
    rintro e v0 ⟨rfl, rfl⟩
    go_wp2_with fail
    refine (toStepS_lawD _ s _ HSl.out (HR2.out.below HB0.out)).mono ?_
    rintro e w1 ⟨a1, c1, f1, rfl, h1, hb⟩
    have HB1 := Lib.hid (HB0.out.trans (hb.mono HB0.out.size))
    have HS1 := Lib.hid hb.size
    have Rt := Lib.hid (h1.rng)
    have Ot_1 := Lib.hid h1
    clear hb h1
    go_wp2_with fail
    refine (specFormatMacro_q _ s T HT.out _ HSl.out Ot_1.out.rd).mono ?_
    rintro e w2 ⟨rfl, hb⟩
    have HB2 := Lib.hid (HB1.out.trans (hb.mono HB1.out.size))
    have HS2 := Lib.hid hb.size
    have Ot_2 := Lib.hid (Ot_1.out.below hb)
    clear Ot_1
    clear hb
    go_wp2_with fail
    refine (toStepS_lawD _ s _ HSl.out (HR2.out.below HB2.out)).mono ?_
    rintro e w3 ⟨a2, c2, f2, rfl, h2, hb⟩
    have HB3 := Lib.hid (HB2.out.trans (hb.mono HB2.out.size))
    have HS3 := Lib.hid hb.size
    have Ot_3 := Lib.hid (Ot_2.out.below hb)
    clear Ot_2
    have Rx := Lib.hid (h2.rng)
    have Ox_3 := Lib.hid h2
    clear hb h2
    go_wp2_with fail
    refine (HI.out _ _ HB3.out HSl.out Ox_3.out.rd).mono ?_
    rintro e w4 ⟨rfl, hb⟩
    have HB4 := Lib.hid (HB3.out.trans (hb.mono HB3.out.size))
    have HS4 := Lib.hid hb.size
    have Ot_4 := Lib.hid (Ot_3.out.below hb)
    have Ox_4 := Lib.hid (Ox_3.out.below hb)
    clear Ot_3 Ox_3
    clear hb
    go_wp2_with fail
    refine (toStepS_lawD _ s _ HSl.out (HR2.out.below HB4.out)).mono ?_
    rintro e w5 ⟨a3, c3, f3, rfl, h3, hb⟩
    have HB5 := Lib.hid (HB4.out.trans (hb.mono HB4.out.size))
    have HS5 := Lib.hid hb.size
    have Ot_5 := Lib.hid (Ot_4.out.below hb)
    have Ox_5 := Lib.hid (Ox_4.out.below hb)
    clear Ot_4 Ox_4
    have Ry := Lib.hid (h3.rng)
    have Oy_5 := Lib.hid h3
    clear hb h3
    go_wp2_with fail
    refine (eqStepS_same _ _ s _ (by have := HSl.out; omega) Ox_5.out.rd Oy_5.out.rd).mono ?_
    rintro e w6 ⟨rfl, hb⟩
    have HB6 := Lib.hid (HB5.out.trans (hb.mono HB5.out.size))
    have HS6 := Lib.hid hb.size
    have Ot_6 := Lib.hid (Ot_5.out.below hb)
    have Ox_6 := Lib.hid (Ox_5.out.below hb)
    have Oy_6 := Lib.hid (Oy_5.out.below hb)
    clear Ot_5 Ox_5 Oy_5
    clear hb
    go_wp2
    go_ret
    exact ⟨rfl, HB6.out⟩
  · have hsz : (if (1048576 : Int) < (s.length : Int) then -1 else (1048576 : Int) - (s.length : Int)) = -1 := if_pos (by omega)
    have HSZ := Lib.hid hsz
    clear hsz hl
    have HB0 := Lib.hid (Below.refl w.heap.size w)
    go_enter Tryd.func4, Tryd.ntmps4
    go_wp2_with fail
    refine (szStepS_any a s.length cap 1048576 _ (by omega) (by omega) HM.out).mono ?_
    rw [HSZ.out]
    rintro e v0 ⟨rfl, rfl⟩
    go_wp2
    go_ret
    exact ⟨rfl, HB0.out⟩

set_option maxHeartbeats 1000000 in
set_option maxRecDepth 100000 in
theorem lawParseMacro_walk (s : ByteArray) (w : World) (hI : ∀ (s : ByteArray) (w' : World), Below w.heap.size w w' → s.size ≤ 1048576 → Calls Tryd.prog 10 #[.string s] w' (StQ (mqV s) w')) : Calls Tryd.prog 5 #[.string s] w fun e w' => e = .returned (.bool true) ∧ Below w.heap.size w w' := by
  by_cases hl : s.size ≤ 1048576
  · have hl2 : ¬ (1048576 : Int) < (s.size : Int) := by omega
    have hlen := mqV_le s
    obtain ⟨⟨z, rb⟩, hR⟩ : ∃ x, mqV s = x := ⟨_, rfl⟩
    rw [hR] at hlen
    replace hlen : z.length ≤ 8 := hlen
    have HI := Lib.hid (show ∀ w' : World, Below w.heap.size w w' → Calls Tryd.prog 10 #[.string s] w' (StR z rb w') from fun w' hb => (hI s w' hb hl).mono fun _ _ h => stR (hR ▸ h))
    have HE1 := Lib.hid (show z.length ≤ 1000000000000 by omega)
    have HE3 := Lib.hid (show z.length ≤ 1048576 by omega)
    have HL := Lib.hid hl
    have HSp := Lib.hid (show ∀ w' : World, Calls Tryd.prog 21 #[.string s] w' (StR z rb w') from fun w' => (specParseMacro_any s _ hR.symm w' hl).mono fun _ _ h => stR (stQ h))
    obtain ⟨qr, hqr⟩ : ∃ q : Int, q = 1 + ((z.length * 3 : Nat) : Int) := ⟨_, rfl⟩
    have hqr0 : ¬ qr < 0 := by omega
    have HQR := Lib.hid hqr
    clear hqr hI hR hlen hl
    have HB0 := Lib.hid (Below.refl w.heap.size w)
    go_enter Tryd.func5, Tryd.ntmps5
    go_wp2_with fail
    refine (HSp.out _).mono ?_
    rintro e w1 ⟨a1, c1, f1, rfl, h1, hb⟩
    have HB1 := Lib.hid (HB0.out.trans (hb.mono HB0.out.size))
    have HS1 := Lib.hid hb.size
    have Rw := Lib.hid (h1.rng)
    have Ow_1 := Lib.hid h1
    clear hb h1
    go_wp2_with fail
    refine (HI.out _ HB1.out).mono ?_
    rintro e w2 ⟨a2, c2, f2, rfl, h2, hb⟩
    have HB2 := Lib.hid (HB1.out.trans (hb.mono HB1.out.size))
    have HS2 := Lib.hid hb.size
    have Ow_2 := Lib.hid (Ow_1.out.below hb)
    clear Ow_1
    have Rg := Lib.hid (h2.rng)
    have Og_2 := Lib.hid h2
    clear hb h2
    go_wp2_with fail
    refine (eqStepS_same _ _ z _ HE1.out Og_2.out.rd Ow_2.out.rd).mono ?_
    rintro e w3 ⟨rfl, hb⟩
    have HB3 := Lib.hid (HB2.out.trans (hb.mono HB2.out.size))
    have HS3 := Lib.hid hb.size
    have Ow_3 := Lib.hid (Ow_2.out.below hb)
    have Og_3 := Lib.hid (Og_2.out.below hb)
    clear Ow_2 Og_2
    clear hb
    go_wp2_with fail
    refine (markStepS_qD _ _ z _ 1 qr HQR.out _ HE3.out (by decide) (by decide) Og_3.out).mono ?_
    rintro e w4 ⟨rfl, ho, ht⟩
    have HB4 := Lib.hid (HB3.out.trans (ht.below (fun b hb => by have := Rg.out b hb; have := HB1.out.size; omega) HB3.out.size))
    have HS4 := Lib.hid ht.size
    have Ow_4 := Lib.hid (Ow_3.out.turn ht (fun b hb hb' => by have := Rg.out b hb'; have := Rw.out b hb; omega))
    have Og_4 := Lib.hid ho
    clear ho ht Ow_3 Og_3
    go_wp2_with fail
    refine (heldStepS_q _ z.length 1 qr HQR.out _ HE3.out (by decide) (by decide) (by have h := Og_4.out.rd; exact h)).mono ?_
    rintro e v0 ⟨rfl, rfl⟩
    go_wp2_with fail
    refine (HI.out _ HB4.out).mono ?_
    rintro e w5 ⟨a3, c3, f3, rfl, h3, hb⟩
    have HB5 := Lib.hid (HB4.out.trans (hb.mono HB4.out.size))
    have HS5 := Lib.hid hb.size
    have Ow_5 := Lib.hid (Ow_4.out.below hb)
    have Og_5 := Lib.hid (Og_4.out.below hb)
    clear Ow_4 Og_4
    have Rh := Lib.hid (h3.rng)
    have Oh_5 := Lib.hid h3
    clear hb h3
    go_wp2_with fail
    refine (eqStepS_same _ _ z _ HE1.out Oh_5.out.rd Ow_5.out.rd).mono ?_
    rintro e w6 ⟨rfl, hb⟩
    have HB6 := Lib.hid (HB5.out.trans (hb.mono HB5.out.size))
    have HS6 := Lib.hid hb.size
    have Ow_6 := Lib.hid (Ow_5.out.below hb)
    have Og_6 := Lib.hid (Og_5.out.below hb)
    have Oh_6 := Lib.hid (Oh_5.out.below hb)
    clear Ow_5 Og_5 Oh_5
    clear hb
    go_wp2_with fail
    refine (heldStepS_q _ z.length 1 qr HQR.out _ HE3.out (by decide) (by decide) (by have h := Og_6.out.rd; exact h)).mono ?_
    rintro e v0 ⟨rfl, rfl⟩
    go_wp2
    go_ret
    exact ⟨rfl, HB6.out⟩
  · have hl' : (1048576 : Int) < (s.size : Int) := by omega
    clear hl hI
    go_enter Tryd.func5, Tryd.ntmps5
    go_wp2
    go_ret
    exact ⟨rfl, Below.refl _ _⟩

end Go.Proofs.YtnfnhbldphiohaaDoor
