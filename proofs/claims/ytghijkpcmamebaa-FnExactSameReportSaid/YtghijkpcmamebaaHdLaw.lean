/- DERIVED. The exact laws of chapter 7 that only read held keys: each, called with any held keys, returns true and changes nothing that was there; what the program's function does is a premise. -/
import Derived.Test.YtghijkpcmamebaaHdSpec2
import Derived.Test.YtghijkpcmamebaaLawBits
namespace Go.Proofs.Ytghijkpcmamebaa
open Go.RowKit

theorem toHeldS_law (v : Value) (l : List Hd) (w : World) (hl : l.length ≤ 1048576) (h : RdN w v l.length (flatHd l)) :
    Calls Try.prog 21 #[v] w fun e w' => ∃ a c fp, e = .returned (.slice a l.length c) ∧ OwF w' w.heap.size 33 5 (.slice a l.length c) l.length (flatHd l) fp ∧ Below w.heap.size w w' :=
  (toHeldS_any v l w hl h).mono fun e w' ⟨u, he, ho, hb⟩ => by
    obtain ⟨a, c, fp, rfl, h⟩ := OwF.shape ho
    exact ⟨a, c, fp, he, h, hb⟩
theorem markHeldS_law (B : Nat) (v : Value) (l : List Hd) (fp : List Nat) (q : Int) (w : World) (hn : l.length ≤ 1048576) (hk : 0 ≤ q) (hk' : q ≤ 1099511627776) (h : OwF w B 33 5 v l.length (flatHd l) fp) :
    Calls Try.prog 26 #[v, .int .i64 q] w fun e w' => e = .returned (.int .i64 (q + ((l.length * 5 : Nat) : Int))) ∧ OwF w' B 33 5 v l.length (flatHd (marksHd q l.length)) fp ∧ Turn w w' fp :=
  (markHeldS_any B v l.length (flatHd l) q w hn hk hk' h.1).mono fun _ _ ⟨he, ho, hg⟩ => ⟨he, (h.marked ho hg).1, (h.marked ho hg).2⟩

set_option maxHeartbeats 1000000 in
set_option maxRecDepth 100000 in
theorem lawIsHeld_walk (a : Option Addr) (n cap : Nat) (l : List Hd) (w : World) (hn : l.length = n) (hm : n ≤ maxLen) (h : RdN w (.slice a n cap) l.length (flatHd l)) (hI : ∀ (v : Value) (l : List Hd) (w : World), l.length ≤ maxLen → RdN w v l.length (flatHd l) → Calls Try.prog 15 #[v] w fun e w' => e = .returned (.bool (okHd l)) ∧ Below w.heap.size w w') : Calls Try.prog 4 #[.slice a n cap] w fun e w' => e = .returned (.bool true) ∧ Below w.heap.size w w' := by
  subst hn
  have HR := Lib.hid h
  have HM := Lib.hid hm
  have HI := Lib.hid hI
  clear h hm hI
  by_cases hl : l.length ≤ 1048576
  · have hsz : (if (1048576 : Int) < (l.length : Int) then -1 else (1048576 : Int) - (l.length : Int)) = 1048576 - (l.length : Int) := if_neg (by omega)
    have hsz0 : ¬ (1048576 : Int) - (l.length : Int) < 0 := by omega
    have HSZ := Lib.hid hsz
    have HLM := Lib.hid (show l.length ≤ maxLen by unfold maxLen; omega)
    clear hsz
    obtain ⟨r, hR⟩ : ∃ x, okHd l = x := ⟨_, rfl⟩
    have HRR := Lib.hid hR
    clear hR
    have HB0 := Lib.hid (Below.refl w.heap.size w)
    go_enter Try.func4, Try.ntmps4
    go_wp2_with fail
    refine (szHeldS_any a l.length cap 1048576 _ (by omega) (by omega) HM.out).mono ?_
    rw [HSZ.out]
    rintro e v0 ⟨rfl, rfl⟩
    go_wp2_with fail
    refine (toHeldS_law _ l _ hl (HR.out.below HB0.out)).mono ?_
    rintro e w1 ⟨a1, c1, f1, rfl, h1, hb⟩
    have HB1 := Lib.hid (HB0.out.trans (hb.mono HB0.out.size))
    have HS1 := Lib.hid hb.size
    have Rt := Lib.hid (h1.rng)
    have Ot_1 := Lib.hid h1
    clear hb h1
    go_wp2_with fail
    refine (specIsHeld_any _ l _ HLM.out Ot_1.out.rd).mono ?_
    rw [HRR.out]
    rintro e w2 ⟨rfl, hb⟩
    have HB2 := Lib.hid (HB1.out.trans (hb.mono HB1.out.size))
    have HS2 := Lib.hid hb.size
    have Ot_2 := Lib.hid (Ot_1.out.below hb)
    clear Ot_1
    clear hb
    go_wp2_with fail
    refine (toHeldS_law _ l _ hl (HR.out.below HB2.out)).mono ?_
    rintro e w3 ⟨a2, c2, f2, rfl, h2, hb⟩
    have HB3 := Lib.hid (HB2.out.trans (hb.mono HB2.out.size))
    have HS3 := Lib.hid hb.size
    have Ot_3 := Lib.hid (Ot_2.out.below hb)
    clear Ot_2
    have Rx := Lib.hid (h2.rng)
    have Ox_3 := Lib.hid h2
    clear hb h2
    go_wp2_with fail
    refine (HI.out _ l _ HLM.out Ox_3.out.rd).mono ?_
    rw [HRR.out]
    rintro e w4 ⟨rfl, hb⟩
    have HB4 := Lib.hid (HB3.out.trans (hb.mono HB3.out.size))
    have HS4 := Lib.hid hb.size
    have Ot_4 := Lib.hid (Ot_3.out.below hb)
    have Ox_4 := Lib.hid (Ox_3.out.below hb)
    clear Ot_3 Ox_3
    clear hb
    go_wp2_with fail
    refine (toHeldS_law _ l _ hl (HR.out.below HB4.out)).mono ?_
    rintro e w5 ⟨a3, c3, f3, rfl, h3, hb⟩
    have HB5 := Lib.hid (HB4.out.trans (hb.mono HB4.out.size))
    have HS5 := Lib.hid hb.size
    have Ot_5 := Lib.hid (Ot_4.out.below hb)
    have Ox_5 := Lib.hid (Ox_4.out.below hb)
    clear Ot_4 Ox_4
    have Ry := Lib.hid (h3.rng)
    have Oy_5 := Lib.hid h3
    clear hb h3
    go_wp2_with fail
    refine (eqHeldS_same _ _ l _ (by omega) Ox_5.out.rd Oy_5.out.rd).mono ?_
    rintro e w6 ⟨rfl, hb⟩
    have HB6 := Lib.hid (HB5.out.trans (hb.mono HB5.out.size))
    have HS6 := Lib.hid hb.size
    have Ot_6 := Lib.hid (Ot_5.out.below hb)
    have Ox_6 := Lib.hid (Ox_5.out.below hb)
    have Oy_6 := Lib.hid (Oy_5.out.below hb)
    clear Ot_5 Ox_5 Oy_5
    clear hb
    go_wp2
    go_ret
    exact ⟨rfl, HB6.out⟩
  · have hsz : (if (1048576 : Int) < (l.length : Int) then -1 else (1048576 : Int) - (l.length : Int)) = -1 := if_pos (by omega)
    have HSZ := Lib.hid hsz
    clear hsz hl
    have HB0 := Lib.hid (Below.refl w.heap.size w)
    go_enter Try.func4, Try.ntmps4
    go_wp2_with fail
    refine (szHeldS_any a l.length cap 1048576 _ (by omega) (by omega) HM.out).mono ?_
    rw [HSZ.out]
    rintro e v0 ⟨rfl, rfl⟩
    go_wp2
    go_ret
    exact ⟨rfl, HB0.out⟩

set_option maxHeartbeats 1000000 in
set_option maxRecDepth 100000 in
theorem lawLayersOn_walk (fixed : Int) (a : Option Addr) (n cap : Nat) (l : List Hd) (w : World) (hn : l.length = n) (hm : n ≤ maxLen) (h : RdN w (.slice a n cap) l.length (flatHd l)) (hI : ∀ (v : Value) (l : List Hd) (w : World), l.length ≤ maxLen → RdN w v l.length (flatHd l) → Calls Try.prog 18 #[.int .i64 fixed, v] w fun e w' => e = .returned (.int .i64 (onV fixed l : Nat)) ∧ Below w.heap.size w w') : Calls Try.prog 5 #[.int .i64 fixed, .slice a n cap] w fun e w' => e = .returned (.bool true) ∧ Below w.heap.size w w' := by
  subst hn
  have HR := Lib.hid h
  have HM := Lib.hid hm
  have HI := Lib.hid hI
  clear h hm hI
  by_cases hl : l.length ≤ 1048576
  · have hsz : (if (1048576 : Int) < (l.length : Int) then -1 else (1048576 : Int) - (l.length : Int)) = 1048576 - (l.length : Int) := if_neg (by omega)
    have hsz0 : ¬ (1048576 : Int) - (l.length : Int) < 0 := by omega
    have HSZ := Lib.hid hsz
    have HLM := Lib.hid (show l.length ≤ maxLen by unfold maxLen; omega)
    clear hsz
    obtain ⟨r, hR⟩ : ∃ x, onV fixed l = x := ⟨_, rfl⟩
    have HRR := Lib.hid hR
    clear hR
    have HB0 := Lib.hid (Below.refl w.heap.size w)
    go_enter Try.func5, Try.ntmps5
    go_wp2_with fail
    refine (szHeldS_any a l.length cap 1048576 _ (by omega) (by omega) HM.out).mono ?_
    rw [HSZ.out]
    rintro e v0 ⟨rfl, rfl⟩
    go_wp2_with fail
    refine (toHeldS_law _ l _ hl (HR.out.below HB0.out)).mono ?_
    rintro e w1 ⟨a1, c1, f1, rfl, h1, hb⟩
    have HB1 := Lib.hid (HB0.out.trans (hb.mono HB0.out.size))
    have HS1 := Lib.hid hb.size
    have Rt := Lib.hid (h1.rng)
    have Ot_1 := Lib.hid h1
    clear hb h1
    go_wp2_with fail
    refine (specLayersOn_any fixed _ l _ HLM.out Ot_1.out.rd).mono ?_
    rw [HRR.out]
    rintro e w2 ⟨rfl, hb⟩
    have HB2 := Lib.hid (HB1.out.trans (hb.mono HB1.out.size))
    have HS2 := Lib.hid hb.size
    have Ot_2 := Lib.hid (Ot_1.out.below hb)
    clear Ot_1
    clear hb
    go_wp2_with fail
    refine (toHeldS_law _ l _ hl (HR.out.below HB2.out)).mono ?_
    rintro e w3 ⟨a2, c2, f2, rfl, h2, hb⟩
    have HB3 := Lib.hid (HB2.out.trans (hb.mono HB2.out.size))
    have HS3 := Lib.hid hb.size
    have Ot_3 := Lib.hid (Ot_2.out.below hb)
    clear Ot_2
    have Rx := Lib.hid (h2.rng)
    have Ox_3 := Lib.hid h2
    clear hb h2
    go_wp2_with fail
    refine (HI.out _ l _ HLM.out Ox_3.out.rd).mono ?_
    rw [HRR.out]
    rintro e w4 ⟨rfl, hb⟩
    have HB4 := Lib.hid (HB3.out.trans (hb.mono HB3.out.size))
    have HS4 := Lib.hid hb.size
    have Ot_4 := Lib.hid (Ot_3.out.below hb)
    have Ox_4 := Lib.hid (Ox_3.out.below hb)
    clear Ot_3 Ox_3
    clear hb
    go_wp2_with fail
    refine (toHeldS_law _ l _ hl (HR.out.below HB4.out)).mono ?_
    rintro e w5 ⟨a3, c3, f3, rfl, h3, hb⟩
    have HB5 := Lib.hid (HB4.out.trans (hb.mono HB4.out.size))
    have HS5 := Lib.hid hb.size
    have Ot_5 := Lib.hid (Ot_4.out.below hb)
    have Ox_5 := Lib.hid (Ox_4.out.below hb)
    clear Ot_4 Ox_4
    have Ry := Lib.hid (h3.rng)
    have Oy_5 := Lib.hid h3
    clear hb h3
    go_wp2_with fail
    refine (eqHeldS_same _ _ l _ (by omega) Ox_5.out.rd Oy_5.out.rd).mono ?_
    rintro e w6 ⟨rfl, hb⟩
    have HB6 := Lib.hid (HB5.out.trans (hb.mono HB5.out.size))
    have HS6 := Lib.hid hb.size
    have Ot_6 := Lib.hid (Ot_5.out.below hb)
    have Ox_6 := Lib.hid (Ox_5.out.below hb)
    have Oy_6 := Lib.hid (Oy_5.out.below hb)
    clear Ot_5 Ox_5 Oy_5
    clear hb
    go_wp2
    go_ret
    exact ⟨rfl, HB6.out⟩
  · have hsz : (if (1048576 : Int) < (l.length : Int) then -1 else (1048576 : Int) - (l.length : Int)) = -1 := if_pos (by omega)
    have HSZ := Lib.hid hsz
    clear hsz hl
    have HB0 := Lib.hid (Below.refl w.heap.size w)
    go_enter Try.func5, Try.ntmps5
    go_wp2_with fail
    refine (szHeldS_any a l.length cap 1048576 _ (by omega) (by omega) HM.out).mono ?_
    rw [HSZ.out]
    rintro e v0 ⟨rfl, rfl⟩
    go_wp2
    go_ret
    exact ⟨rfl, HB0.out⟩

end Go.Proofs.Ytghijkpcmamebaa
