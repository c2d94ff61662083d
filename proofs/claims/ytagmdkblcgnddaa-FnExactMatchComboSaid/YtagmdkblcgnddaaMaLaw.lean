/- DERIVED. The exact law of MatchCombo: called with any arguments, it returns true and changes nothing that was there. -/
import Derived.Test.YtagmdkblcgnddaaMaSpec2
import Derived.Test.YtagmdkblcgnddaaMaImpl
import Derived.Test.YtagmdkblcgnddaaCbOpen
namespace Go.Proofs.Ytagmdkblcgnddaa
open Go.RowKit

set_option maxHeartbeats 1000000 in
set_option maxRecDepth 100000 in
theorem lawMatchCombo_all (a : Option Addr) (n cap : Nat) (l : List Cb) (t : Int) (a2 : Option Addr) (n2 cap2 : Nat) (Q : List Ev) (now : Int) (w : World) (hn : l.length = n) (hm : n ≤ maxLen) (h : RdN w (.slice a n cap) l.length (flatCb l)) (hn2 : Q.length = n2) (hm2 : n2 ≤ maxLen) (h2 : RdN w (.slice a2 n2 cap2) Q.length (flatEv Q)) : Calls Try.prog 12 #[.slice a n cap, .int .i64 t, .slice a2 n2 cap2, .int .i64 now] w fun e w' => e = .returned (.bool true) ∧ Below w.heap.size w w' := by
  subst hn
  subst hn2
  have HR := Lib.hid h
  have HM := Lib.hid hm
  have HR2 := Lib.hid h2
  have HM2 := Lib.hid hm2
  clear h hm h2 hm2
  by_cases hl : l.length ≤ 1048576
  · obtain ⟨X, hX⟩ : ∃ X : Nat, X = 1048576 - l.length := ⟨_, rfl⟩
    have HXX := Lib.hid (show X + l.length = 1048576 by omega)
    have hsz : (if (1048576 : Int) < (l.length : Int) then -1 else (1048576 : Int) - (l.length : Int)) = (X : Int) := by rw [if_neg (by omega)]; omega
    have HSZ := Lib.hid hsz
    have HL := Lib.hid hl
    clear hsz hX
    by_cases hq : Q.length ≤ X
    · have hsz2 : (if (X : Int) < (Q.length : Int) then -1 else (X : Int) - (Q.length : Int)) = (X : Int) - (Q.length : Int) := if_neg (by omega)
      have hsz0 : ¬ (X : Int) - (Q.length : Int) < 0 := by omega
      have HSZ2 := Lib.hid hsz2
      have HQ := Lib.hid (show Q.length ≤ 1048576 by have := HXX.out; omega)
      have HLM := Lib.hid (show l.length ≤ maxLen by unfold maxLen; omega)
      obtain ⟨x1, x2, x3, hx⟩ : ∃ x1 x2 x3, matV l t Q now = (x1, x2, x3) := ⟨_, _, _, rfl⟩
      have HX := Lib.hid hx
      clear hsz2 hx hl hq
      have HB0 := Lib.hid (Below.refl w.heap.size w)
      go_enter Try.func12, Try.ntmps12
      go_wp2_with fail
      refine (szComboS_any a l.length cap 1048576 _ (by omega) (by omega) HM.out).mono ?_
      rw [HSZ.out]
      rintro e v0 ⟨rfl, rfl⟩
      go_wp2_with fail
      refine (szEventS_any a2 Q.length cap2 (X : Int) _ (by omega) (by have := HXX.out; omega) HM2.out).mono ?_
      rw [HSZ2.out]
      rintro e v0 ⟨rfl, rfl⟩
      go_wp2_with fail
      refine (toComboS_law _ l _ HL.out (HR.out.below HB0.out)).mono ?_
      rintro e w1 ⟨at1, qt1, ft1, rfl, ht1, hb⟩
      have HB1 := Lib.hid (HB0.out.trans (hb.mono HB0.out.size))
      have HS1 := Lib.hid hb.size
      have Rt1 := Lib.hid (ht1.rng)
      have Ot1_1 := Lib.hid ht1
      clear hb ht1
      go_wp2_with fail
      refine (toEventS_l _ Q _ HQ.out (HR2.out.below HB1.out)).mono ?_
      rintro e w2 ⟨at2, qt2, ft2, rfl, ht2, hb⟩
      have HB2 := Lib.hid (HB1.out.trans (hb.mono HB1.out.size))
      have HS2 := Lib.hid hb.size
      have Ot1_2 := Lib.hid (Ot1_1.out.below hb)
      clear Ot1_1
      have Rt2 := Lib.hid (ht2.rng)
      have Ot2_2 := Lib.hid ht2
      clear hb ht2
      go_wp2_with fail
      refine (specMatchCombo_q _ l t _ Q now x1 x2 x3 HX.out _ HLM.out HQ.out Ot1_2.out.rd Ot2_2.out.rd).mono ?_
      rintro e w3 ⟨rfl, hb⟩
      have HB3 := Lib.hid (HB2.out.trans (hb.mono HB2.out.size))
      have HS3 := Lib.hid hb.size
      have Ot1_3 := Lib.hid (Ot1_2.out.below hb)
      have Ot2_3 := Lib.hid (Ot2_2.out.below hb)
      clear Ot1_2 Ot2_2
      clear hb
      go_wp2_with fail
      refine (toComboS_law _ l _ HL.out (HR.out.below HB3.out)).mono ?_
      rintro e w4 ⟨ax, qx, fx, rfl, hx, hb⟩
      have HB4 := Lib.hid (HB3.out.trans (hb.mono HB3.out.size))
      have HS4 := Lib.hid hb.size
      have Ot1_4 := Lib.hid (Ot1_3.out.below hb)
      have Ot2_4 := Lib.hid (Ot2_3.out.below hb)
      clear Ot1_3 Ot2_3
      have Rx := Lib.hid (hx.rng)
      have Ox_4 := Lib.hid hx
      clear hb hx
      go_wp2_with fail
      refine (toEventS_l _ Q _ HQ.out (HR2.out.below HB4.out)).mono ?_
      rintro e w5 ⟨ay, qy, fy, rfl, hy, hb⟩
      have HB5 := Lib.hid (HB4.out.trans (hb.mono HB4.out.size))
      have HS5 := Lib.hid hb.size
      have Ot1_5 := Lib.hid (Ot1_4.out.below hb)
      have Ot2_5 := Lib.hid (Ot2_4.out.below hb)
      have Ox_5 := Lib.hid (Ox_4.out.below hb)
      clear Ot1_4 Ot2_4 Ox_4
      have Ry := Lib.hid (hy.rng)
      have Oy_5 := Lib.hid hy
      clear hb hy
      go_wp2_with fail
      refine (implMatchCombo_q _ l t _ Q now x1 x2 x3 HX.out _ HLM.out HQ.out (capLe_of Ox_5.out.1) (capLe_of Oy_5.out.1) Ox_5.out.rd Oy_5.out.rd).mono ?_
      rintro e w6 ⟨rfl, hb⟩
      have HB6 := Lib.hid (HB5.out.trans (hb.mono HB5.out.size))
      have HS6 := Lib.hid hb.size
      have Ot1_6 := Lib.hid (Ot1_5.out.below hb)
      have Ot2_6 := Lib.hid (Ot2_5.out.below hb)
      have Ox_6 := Lib.hid (Ox_5.out.below hb)
      have Oy_6 := Lib.hid (Oy_5.out.below hb)
      clear Ot1_5 Ot2_5 Ox_5 Oy_5
      clear hb
      go_wp2_with fail
      refine (toComboS_law _ l _ HL.out (HR.out.below HB6.out)).mono ?_
      rintro e w7 ⟨au, qu, fu, rfl, hu, hb⟩
      have HB7 := Lib.hid (HB6.out.trans (hb.mono HB6.out.size))
      have HS7 := Lib.hid hb.size
      have Ot1_7 := Lib.hid (Ot1_6.out.below hb)
      have Ot2_7 := Lib.hid (Ot2_6.out.below hb)
      have Ox_7 := Lib.hid (Ox_6.out.below hb)
      have Oy_7 := Lib.hid (Oy_6.out.below hb)
      clear Ot1_6 Ot2_6 Ox_6 Oy_6
      have Ru := Lib.hid (hu.rng)
      have Ou_7 := Lib.hid hu
      clear hb hu
      go_wp2_with fail
      refine (eqComboS_same _ _ l _ (by have := HL.out; omega) Ox_7.out.rd Ou_7.out.rd).mono ?_
      rintro e w8 ⟨rfl, hb⟩
      have HB8 := Lib.hid (HB7.out.trans (hb.mono HB7.out.size))
      have HS8 := Lib.hid hb.size
      have Ot1_8 := Lib.hid (Ot1_7.out.below hb)
      have Ot2_8 := Lib.hid (Ot2_7.out.below hb)
      have Ox_8 := Lib.hid (Ox_7.out.below hb)
      have Oy_8 := Lib.hid (Oy_7.out.below hb)
      have Ou_8 := Lib.hid (Ou_7.out.below hb)
      clear Ot1_7 Ot2_7 Ox_7 Oy_7 Ou_7
      clear hb
      go_wp2_with fail
      refine (toEventS_l _ Q _ HQ.out (HR2.out.below HB8.out)).mono ?_
      rintro e w9 ⟨av, qv, fv, rfl, hv, hb⟩
      have HB9 := Lib.hid (HB8.out.trans (hb.mono HB8.out.size))
      have HS9 := Lib.hid hb.size
      have Ot1_9 := Lib.hid (Ot1_8.out.below hb)
      have Ot2_9 := Lib.hid (Ot2_8.out.below hb)
      have Ox_9 := Lib.hid (Ox_8.out.below hb)
      have Oy_9 := Lib.hid (Oy_8.out.below hb)
      have Ou_9 := Lib.hid (Ou_8.out.below hb)
      clear Ot1_8 Ot2_8 Ox_8 Oy_8 Ou_8
      have Rv := Lib.hid (hv.rng)
      have Ov_9 := Lib.hid hv
      clear hb hv
      go_wp2_with fail
      refine (eqEventS_same _ _ Q _ (by have := HQ.out; omega) Oy_9.out.rd Ov_9.out.rd).mono ?_
      rintro e w10 ⟨rfl, hb⟩
      have HB10 := Lib.hid (HB9.out.trans (hb.mono HB9.out.size))
      have HS10 := Lib.hid hb.size
      have Ot1_10 := Lib.hid (Ot1_9.out.below hb)
      have Ot2_10 := Lib.hid (Ot2_9.out.below hb)
      have Ox_10 := Lib.hid (Ox_9.out.below hb)
      have Oy_10 := Lib.hid (Oy_9.out.below hb)
      have Ou_10 := Lib.hid (Ou_9.out.below hb)
      have Ov_10 := Lib.hid (Ov_9.out.below hb)
      clear Ot1_9 Ot2_9 Ox_9 Oy_9 Ou_9 Ov_9
      clear hb
      go_wp2
      go_ret
      exact ⟨rfl, HB10.out⟩
    · have hsz2 : (if (X : Int) < (Q.length : Int) then -1 else (X : Int) - (Q.length : Int)) = -1 := if_pos (by omega)
      have HSZ2 := Lib.hid hsz2
      clear hsz2 hl hq
      have HB0 := Lib.hid (Below.refl w.heap.size w)
      go_enter Try.func12, Try.ntmps12
      go_wp2_with fail
      refine (szComboS_any a l.length cap 1048576 _ (by omega) (by omega) HM.out).mono ?_
      rw [HSZ.out]
      rintro e v0 ⟨rfl, rfl⟩
      go_wp2_with fail
      refine (szEventS_any a2 Q.length cap2 (X : Int) _ (by omega) (by have := HXX.out; omega) HM2.out).mono ?_
      rw [HSZ2.out]
      rintro e v0 ⟨rfl, rfl⟩
      go_wp2
      go_ret
      exact ⟨rfl, HB0.out⟩
  · have hsz : (if (1048576 : Int) < (l.length : Int) then -1 else (1048576 : Int) - (l.length : Int)) = -1 := if_pos (by omega)
    have HSZ := Lib.hid hsz
    clear hsz hl
    have HB0 := Lib.hid (Below.refl w.heap.size w)
    go_enter Try.func12, Try.ntmps12
    go_wp2_with fail
    refine (szComboS_any a l.length cap 1048576 _ (by omega) (by omega) HM.out).mono ?_
    rw [HSZ.out]
    rintro e v0 ⟨rfl, rfl⟩
    go_wp2
    go_ret
    exact ⟨rfl, HB0.out⟩

end Go.Proofs.Ytagmdkblcgnddaa
