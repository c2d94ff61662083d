/- DERIVED. The laws' own functions on combinations and on what is active, as the laws call them; the exact law of IsCombos. -/
import Derived.Test.YtagmdkblcgnddaaCbSpec
import Derived.Test.YtagmdkblcgnddaaCbImpl
namespace Go.Proofs.Ytagmdkblcgnddaa
open Go.RowKit

theorem toComboS_law (v : Value) (l : List Cb) (w : World) (hl : l.length ≤ 1048576) (h : RdN w v l.length (flatCb l)) :
    Calls Try.prog 41 #[v] w fun e w' => ∃ a c fp, e = .returned (.slice a l.length c) ∧ OwF w' w.heap.size 94 2 (.slice a l.length c) l.length (flatCb l) fp ∧ Below w.heap.size w w' :=
  (toComboS_any v l w hl h).mono fun e w' ⟨u, he, ho, hb⟩ => by
    obtain ⟨a, c, fp, rfl, h⟩ := OwF.shape ho
    exact ⟨a, c, fp, he, h, hb⟩
theorem markComboS_q (B : Nat) (v : Value) (l : List Cb) (fp : List Nat) (q q2 : Int) (hq : q2 = q + ((l.length * 2 : Nat) : Int)) (w : World) (hn : l.length ≤ 1048576) (hk : 0 ≤ q) (hk' : q ≤ 1099511627776) (h : OwF w B 94 2 v l.length (flatCb l) fp) :
    Calls Try.prog 49 #[v, .int .i64 q] w fun e w' => e = .returned (.int .i64 q2) ∧ OwF w' B 94 2 v l.length (flatCb (marksCb q l.length)) fp ∧ Turn w w' fp := by
  rw [hq]
  exact (markComboS_any B v l.length (flatCb l) q w hn hk hk' h.1).mono fun _ _ ⟨he, ho, hg⟩ => ⟨he, (h.marked ho hg).1, (h.marked ho hg).2⟩
theorem heldComboS_q (v : Value) (n : Nat) (q q2 : Int) (hq : q2 = q + ((n * 2 : Nat) : Int)) (w : World) (hn : n ≤ 1048576) (hk : 0 ≤ q) (hk' : q ≤ 1099511627776) (h : RdN w v n (flatCb (marksCb q n))) :
    Calls Try.prog 111 #[v, .int .i64 q] w fun e w' => e = .returned (.int .i64 q2) ∧ w = w' := by
  rw [hq]; exact heldComboS_any v n q w hn hk hk' h
theorem toActiveS_law (v : Value) (l : List Av) (w : World) (hl : l.length ≤ 1048576) (h : RdN w v l.length (flatAv l)) :
    Calls Try.prog 107 #[v] w fun e w' => ∃ a c fp, e = .returned (.slice a l.length c) ∧ OwF w' w.heap.size 97 3 (.slice a l.length c) l.length (flatAv l) fp ∧ Below w.heap.size w w' :=
  (toActiveS_any v l w hl h).mono fun e w' ⟨u, he, ho, hb⟩ => by
    obtain ⟨a, c, fp, rfl, h⟩ := OwF.shape ho
    exact ⟨a, c, fp, he, h, hb⟩
theorem markActiveS_q (B : Nat) (v : Value) (l : List Av) (fp : List Nat) (q q2 : Int) (hq : q2 = q + ((l.length * 3 : Nat) : Int)) (w : World) (hn : l.length ≤ 1048576) (hk : 0 ≤ q) (hk' : q ≤ 1099511627776) (h : OwF w B 97 3 v l.length (flatAv l) fp) :
    Calls Try.prog 110 #[v, .int .i64 q] w fun e w' => e = .returned (.int .i64 q2) ∧ OwF w' B 97 3 v l.length (flatAv (marksAv q l.length)) fp ∧ Turn w w' fp := by
  rw [hq]
  exact (markActiveS_any B v l.length (flatAv l) q w hn hk hk' h.1).mono fun _ _ ⟨he, ho, hg⟩ => ⟨he, (h.marked ho hg).1, (h.marked ho hg).2⟩
theorem heldActiveS_q (v : Value) (n : Nat) (q q2 : Int) (hq : q2 = q + ((n * 3 : Nat) : Int)) (w : World) (hn : n ≤ 1048576) (hk : 0 ≤ q) (hk' : q ≤ 1099511627776) (h : RdN w v n (flatAv (marksAv q n))) :
    Calls Try.prog 112 #[v, .int .i64 q] w fun e w' => e = .returned (.int .i64 q2) ∧ w = w' := by
  rw [hq]; exact heldActiveS_any v n q w hn hk hk' h
theorem toEventS_l (v : Value) (l : List Ev) (w : World) (hl : l.length ≤ 1048576) (h : RdN w v l.length (flatEv l)) :
    Calls Try.prog 54 #[v] w fun e w' => ∃ a c fp, e = .returned (.slice a l.length c) ∧ OwF w' w.heap.size 36 3 (.slice a l.length c) l.length (flatEv l) fp ∧ Below w.heap.size w w' :=
  (toEventS_any v l w hl h).mono fun e w' ⟨u, he, ho, hb⟩ => by
    obtain ⟨a, c, fp, rfl, h⟩ := OwF.shape ho
    exact ⟨a, c, fp, he, h, hb⟩
theorem markEventS_q (B : Nat) (v : Value) (l : List Ev) (fp : List Nat) (q q2 : Int) (hq : q2 = q + ((l.length * 3 : Nat) : Int)) (w : World) (hn : l.length ≤ 1048576) (hk : 0 ≤ q) (hk' : q ≤ 1099511627776) (h : OwF w B 36 3 v l.length (flatEv l) fp) :
    Calls Try.prog 57 #[v, .int .i64 q] w fun e w' => e = .returned (.int .i64 q2) ∧ OwF w' B 36 3 v l.length (flatEv (marksEv q l.length)) fp ∧ Turn w w' fp := by
  rw [hq]
  exact (markEventS_any B v l.length (flatEv l) q w hn hk hk' h.1).mono fun _ _ ⟨he, ho, hg⟩ => ⟨he, (h.marked ho hg).1, (h.marked ho hg).2⟩
theorem heldEventS_q (v : Value) (n : Nat) (q q2 : Int) (hq : q2 = q + ((n * 3 : Nat) : Int)) (w : World) (hn : n ≤ 1048576) (hk : 0 ≤ q) (hk' : q ≤ 1099511627776) (h : RdN w v n (flatEv (marksEv q n))) :
    Calls Try.prog 58 #[v, .int .i64 q] w fun e w' => e = .returned (.int .i64 q2) ∧ w = w' := by
  rw [hq]; exact heldEventS_any v n q w hn hk hk' h

set_option maxHeartbeats 1000000 in
set_option maxRecDepth 100000 in
theorem lawIsCombos_all (a : Option Addr) (n cap : Nat) (l : List Cb) (w : World) (hn : l.length = n) (hm : n ≤ maxLen) (h : RdN w (.slice a n cap) l.length (flatCb l)) : Calls Try.prog 9 #[.slice a n cap] w fun e w' => e = .returned (.bool true) ∧ Below w.heap.size w w' := by
  subst hn
  have HR := Lib.hid h
  have HM := Lib.hid hm
  clear h hm
  by_cases hl : l.length ≤ 1048576
  · have hsz : (if (1048576 : Int) < (l.length : Int) then -1 else (1048576 : Int) - (l.length : Int)) = 1048576 - (l.length : Int) := if_neg (by omega)
    have hsz0 : ¬ (1048576 : Int) - (l.length : Int) < 0 := by omega
    have HSZ := Lib.hid hsz
    have HLM := Lib.hid (show l.length ≤ maxLen by unfold maxLen; omega)
    clear hsz
    obtain ⟨r, hR⟩ : ∃ x, x = okCbs l := ⟨_, rfl⟩
    have HRR := Lib.hid hR
    clear hR
    have HB0 := Lib.hid (Below.refl w.heap.size w)
    go_enter Try.func9, Try.ntmps9
    go_wp2_with fail
    refine (szComboS_any a l.length cap 1048576 _ (by omega) (by omega) HM.out).mono ?_
    rw [HSZ.out]
    rintro e v0 ⟨rfl, rfl⟩
    go_wp2_with fail
    refine (toComboS_law _ l _ hl (HR.out.below HB0.out)).mono ?_
    rintro e w1 ⟨a1, c1, f1, rfl, h1, hb⟩
    have HB1 := Lib.hid (HB0.out.trans (hb.mono HB0.out.size))
    have HS1 := Lib.hid hb.size
    have Rt := Lib.hid (h1.rng)
    have Ot_1 := Lib.hid h1
    clear hb h1
    go_wp2_with fail
    refine (specIsCombos_q _ l r HRR.out _ HLM.out Ot_1.out.rd).mono ?_
    rintro e w2 ⟨rfl, hb⟩
    have HB2 := Lib.hid (HB1.out.trans (hb.mono HB1.out.size))
    have HS2 := Lib.hid hb.size
    have Ot_2 := Lib.hid (Ot_1.out.below hb)
    clear Ot_1
    clear hb
    go_wp2_with fail
    refine (toComboS_law _ l _ hl (HR.out.below HB2.out)).mono ?_
    rintro e w3 ⟨a2, c2, f2, rfl, h2, hb⟩
    have HB3 := Lib.hid (HB2.out.trans (hb.mono HB2.out.size))
    have HS3 := Lib.hid hb.size
    have Ot_3 := Lib.hid (Ot_2.out.below hb)
    clear Ot_2
    have Rx := Lib.hid (h2.rng)
    have Ox_3 := Lib.hid h2
    clear hb h2
    go_wp2_with fail
    refine (implIsCombos_q _ l r HRR.out _ HLM.out (capLe_of Ox_3.out.1) Ox_3.out.rd).mono ?_
    rintro e w4 ⟨rfl, hb⟩
    have HB4 := Lib.hid (HB3.out.trans (hb.mono HB3.out.size))
    have HS4 := Lib.hid hb.size
    have Ot_4 := Lib.hid (Ot_3.out.below hb)
    have Ox_4 := Lib.hid (Ox_3.out.below hb)
    clear Ot_3 Ox_3
    clear hb
    go_wp2_with fail
    refine (toComboS_law _ l _ hl (HR.out.below HB4.out)).mono ?_
    rintro e w5 ⟨a3, c3, f3, rfl, h3, hb⟩
    have HB5 := Lib.hid (HB4.out.trans (hb.mono HB4.out.size))
    have HS5 := Lib.hid hb.size
    have Ot_5 := Lib.hid (Ot_4.out.below hb)
    have Ox_5 := Lib.hid (Ox_4.out.below hb)
    clear Ot_4 Ox_4
    have Ry := Lib.hid (h3.rng)
    have Oy_5 := Lib.hid h3
    clear hb h3
    go_wp2_with fail
    refine (eqComboS_same _ _ l _ (by omega) Ox_5.out.rd Oy_5.out.rd).mono ?_
    rintro e w6 ⟨rfl, hb⟩
    have HB6 := Lib.hid (HB5.out.trans (hb.mono HB5.out.size))
    have HS6 := Lib.hid hb.size
    have Ot_6 := Lib.hid (Ot_5.out.below hb)
    have Ox_6 := Lib.hid (Ox_5.out.below hb)
    have Oy_6 := Lib.hid (Oy_5.out.below hb)
    clear Ot_5 Ox_5 Oy_5
    clear hb
    go_wp2
    go_ret
    exact ⟨rfl, HB6.out⟩
  · have hsz : (if (1048576 : Int) < (l.length : Int) then -1 else (1048576 : Int) - (l.length : Int)) = -1 := if_pos (by omega)
    have HSZ := Lib.hid hsz
    clear hsz hl
    have HB0 := Lib.hid (Below.refl w.heap.size w)
    go_enter Try.func9, Try.ntmps9
    go_wp2_with fail
    refine (szComboS_any a l.length cap 1048576 _ (by omega) (by omega) HM.out).mono ?_
    rw [HSZ.out]
    rintro e v0 ⟨rfl, rfl⟩
    go_wp2
    go_ret
    exact ⟨rfl, HB0.out⟩

end Go.Proofs.Ytagmdkblcgnddaa
