/- DERIVED. The exact law of SameSent, over the program's own function: called with any arguments, it returns true and changes nothing that was there. -/
import Derived.Test.YteljmfdlegohbaaSnI
import Derived.Test.YteljmfdlegohbaaSnOpen
namespace Go.Proofs.Yteljmfdlegohbaa
open Go.RowKit

theorem specSameSent_v (va vb : Value) (L M : List Sv) (V : Bool) (hV : V = smV L M) (w : World) (hl : L.length ≤ 1048576) (hm : M.length ≤ 1048576) (hr : ∀ r ∈ L, r.2.length ≤ 1048576) (ha : RdQ snF w va L) (hb : RdQ snF w vb M) :
    Calls Try.prog 43 #[va, vb] w fun e w' => e = .returned (.bool V) ∧ Below w.heap.size w w' := by
  rw [hV]; exact specSameSent_any va vb L M w hl hm hr ha hb
theorem implSameSent_v (va vb : Value) (L M : List Sv) (V : Bool) (hV : V = smV L M) (w : World) (hl : L.length ≤ 1048576) (hm : M.length ≤ 1048576) (hr : ∀ r ∈ L, r.2.length ≤ 1048576) (ha : RdQ snF w va L) (hb : RdQ snF w vb M) :
    Calls Try.prog 45 #[va, vb] w fun e w' => e = .returned (.bool V) ∧ Below w.heap.size w w' := by
  rw [hV]; exact implSameSent_any va vb L M w hl hm hr ha hb

set_option maxHeartbeats 4000000 in
set_option maxRecDepth 100000 in
theorem lawSameSent_all (va vb : Value) (L M : List Sv) (w : World) (hL : L.length ≤ maxLen ∧ ∀ r ∈ L, r.2.length ≤ maxLen) (h1 : RdQ snF w va L) (hM : M.length ≤ maxLen ∧ ∀ r ∈ M, r.2.length ≤ maxLen) (h2 : RdQ snF w vb M) : Calls Try.prog 8 #[va, vb] w fun e w' => e = .returned (.bool true) ∧ Below w.heap.size w w' := by
  have HR1 := Lib.hid h1
  have HR2 := Lib.hid h2
  have HLm := Lib.hid hL
  have HMm := Lib.hid hM
  clear h1 h2 hL hM
  obtain ⟨V, hV⟩ : ∃ x, x = smV L M := ⟨_, rfl⟩
  have HV := Lib.hid hV
  clear hV
  have hb0 : (V != V) = false := by cases V <;> rfl
  have HB0 := Lib.hid (Below.refl w.heap.size w)
  go_enter Try.func8, Try.ntmps8
  go_wp2_with fail
  refine (szSentS_any 1048576 (by decide) (by decide) va L _ HLm.out.1 HLm.out.2 (HR1.out.below HB0.out)).mono ?_
  rintro e w1 ⟨y1, rfl, hy1, hb⟩
  have HB1 := Lib.hid (HB0.out.trans (hb.mono HB0.out.size))
  have HS1 := Lib.hid hb.size
  clear hb
  by_cases hn1 : y1 < 0
  · clear hy1
    go_wp2
    go_ret
    exact ⟨rfl, HB1.out⟩
  · have hz1 := hy1.resolve_left hn1
    have hlq : lenW L L.length ≤ 1048576 := by omega
    have HLl := Lib.hid (show L.length ≤ 1048576 from Nat.le_trans (lenW_ge L _) hlq)
    have HLk := Lib.hid (keysW_le hlq)
    have HY1 := Lib.hid (show 0 ≤ y1 ∧ y1 ≤ 1048576 by omega)
    clear hy1 hz1 hlq
    go_wp2_with fail
    refine (szSentS_any y1 HY1.out.1 HY1.out.2 vb M _ HMm.out.1 HMm.out.2 (HR2.out.below HB1.out)).mono ?_
    rintro e w2 ⟨y2, rfl, hy2, hb⟩
    have HB2 := Lib.hid (HB1.out.trans (hb.mono HB1.out.size))
    have HS2 := Lib.hid hb.size
    clear hb
    by_cases hn2 : y2 < 0
    · clear hy2
      go_wp2
      go_ret
      exact ⟨rfl, HB2.out⟩
    · have hz2 := hy2.resolve_left hn2
      have hlq : lenW M M.length ≤ 1048576 := by have := HY1.out; omega
      have HMl := Lib.hid (show M.length ≤ 1048576 from Nat.le_trans (lenW_ge M _) hlq)
      have HMk := Lib.hid (keysW_le hlq)
      clear hy2 hz2 hlq
      go_wp2_with fail
      refine (toSentS_any _ L _ HLl.out HLk.out (HR1.out.below HB2.out)).mono ?_
      rintro e w3 ⟨a1, c1, f1, rfl, h1, hb⟩
      have HB3 := Lib.hid (HB2.out.trans (hb.mono HB2.out.size))
      have HS3 := Lib.hid hb.size
      have Rt := Lib.hid (h1.rng)
      have Ot_3 := Lib.hid h1
      clear hb h1
      go_wp2_with fail
      refine (toSentS_any _ M _ HMl.out HMk.out (HR2.out.below HB3.out)).mono ?_
      rintro e w4 ⟨a2, c2, f2, rfl, h2, hb⟩
      have HB4 := Lib.hid (HB3.out.trans (hb.mono HB3.out.size))
      have HS4 := Lib.hid hb.size
      have Ot_4 := Lib.hid (Ot_3.out.below hb)
      clear Ot_3
      have Ru := Lib.hid (h2.rng)
      have Ou_4 := Lib.hid h2
      clear hb h2
      go_wp2_with fail
      refine (specSameSent_v _ _ L M V HV.out _ HLl.out HMl.out HLk.out Ot_4.out.rd Ou_4.out.rd).mono ?_
      rintro e w5 ⟨rfl, hb⟩
      have HB5 := Lib.hid (HB4.out.trans (hb.mono HB4.out.size))
      have HS5 := Lib.hid hb.size
      have Ot_5 := Lib.hid (Ot_4.out.below hb)
      have Ou_5 := Lib.hid (Ou_4.out.below hb)
      clear Ot_4 Ou_4
      clear hb
      go_wp2_with fail
      refine (toSentS_any _ L _ HLl.out HLk.out (HR1.out.below HB5.out)).mono ?_
      rintro e w6 ⟨a3, c3, f3, rfl, h3, hb⟩
      have HB6 := Lib.hid (HB5.out.trans (hb.mono HB5.out.size))
      have HS6 := Lib.hid hb.size
      have Ot_6 := Lib.hid (Ot_5.out.below hb)
      have Ou_6 := Lib.hid (Ou_5.out.below hb)
      clear Ot_5 Ou_5
      have Rx := Lib.hid (h3.rng)
      have Ox_6 := Lib.hid h3
      clear hb h3
      go_wp2_with fail
      refine (toSentS_any _ M _ HMl.out HMk.out (HR2.out.below HB6.out)).mono ?_
      rintro e w7 ⟨a4, c4, f4, rfl, h4, hb⟩
      have HB7 := Lib.hid (HB6.out.trans (hb.mono HB6.out.size))
      have HS7 := Lib.hid hb.size
      have Ot_7 := Lib.hid (Ot_6.out.below hb)
      have Ou_7 := Lib.hid (Ou_6.out.below hb)
      have Ox_7 := Lib.hid (Ox_6.out.below hb)
      clear Ot_6 Ou_6 Ox_6
      have Ry := Lib.hid (h4.rng)
      have Oy_7 := Lib.hid h4
      clear hb h4
      go_wp2_with fail
      refine (implSameSent_v _ _ L M V HV.out _ HLl.out HMl.out HLk.out Ox_7.out.rd Oy_7.out.rd).mono ?_
      rintro e w8 ⟨rfl, hb⟩
      have HB8 := Lib.hid (HB7.out.trans (hb.mono HB7.out.size))
      have HS8 := Lib.hid hb.size
      have Ot_8 := Lib.hid (Ot_7.out.below hb)
      have Ou_8 := Lib.hid (Ou_7.out.below hb)
      have Ox_8 := Lib.hid (Ox_7.out.below hb)
      have Oy_8 := Lib.hid (Oy_7.out.below hb)
      clear Ot_7 Ou_7 Ox_7 Oy_7
      clear hb
      go_wp2_with fail
      refine (toSentS_any _ L _ HLl.out HLk.out (HR1.out.below HB8.out)).mono ?_
      rintro e w9 ⟨a5, c5, f5, rfl, h5, hb⟩
      have HB9 := Lib.hid (HB8.out.trans (hb.mono HB8.out.size))
      have HS9 := Lib.hid hb.size
      have Ot_9 := Lib.hid (Ot_8.out.below hb)
      have Ou_9 := Lib.hid (Ou_8.out.below hb)
      have Ox_9 := Lib.hid (Ox_8.out.below hb)
      have Oy_9 := Lib.hid (Oy_8.out.below hb)
      clear Ot_8 Ou_8 Ox_8 Oy_8
      have Rp := Lib.hid (h5.rng)
      have Op_9 := Lib.hid h5
      clear hb h5
      go_wp2_with fail
      refine (eqSentS_same _ _ L _ (by have := HLl.out; omega) (fun r hr => Nat.le_trans (HLk.out r hr) (by decide)) Ox_9.out.rd Op_9.out.rd).mono ?_
      rintro e w10 ⟨rfl, hb⟩
      have HB10 := Lib.hid (HB9.out.trans (hb.mono HB9.out.size))
      have HS10 := Lib.hid hb.size
      have Ot_10 := Lib.hid (Ot_9.out.below hb)
      have Ou_10 := Lib.hid (Ou_9.out.below hb)
      have Ox_10 := Lib.hid (Ox_9.out.below hb)
      have Oy_10 := Lib.hid (Oy_9.out.below hb)
      have Op_10 := Lib.hid (Op_9.out.below hb)
      clear Ot_9 Ou_9 Ox_9 Oy_9 Op_9
      clear hb
      go_wp2_with fail
      refine (toSentS_any _ M _ HMl.out HMk.out (HR2.out.below HB10.out)).mono ?_
      rintro e w11 ⟨a6, c6, f6, rfl, h6, hb⟩
      have HB11 := Lib.hid (HB10.out.trans (hb.mono HB10.out.size))
      have HS11 := Lib.hid hb.size
      have Ot_11 := Lib.hid (Ot_10.out.below hb)
      have Ou_11 := Lib.hid (Ou_10.out.below hb)
      have Ox_11 := Lib.hid (Ox_10.out.below hb)
      have Oy_11 := Lib.hid (Oy_10.out.below hb)
      have Op_11 := Lib.hid (Op_10.out.below hb)
      clear Ot_10 Ou_10 Ox_10 Oy_10 Op_10
      have Rq := Lib.hid (h6.rng)
      have Oq_11 := Lib.hid h6
      clear hb h6
      go_wp2_with fail
      refine (eqSentS_same _ _ M _ (by have := HMl.out; omega) (fun r hr => Nat.le_trans (HMk.out r hr) (by decide)) Oy_11.out.rd Oq_11.out.rd).mono ?_
      rintro e w12 ⟨rfl, hb⟩
      have HB12 := Lib.hid (HB11.out.trans (hb.mono HB11.out.size))
      have HS12 := Lib.hid hb.size
      have Ot_12 := Lib.hid (Ot_11.out.below hb)
      have Ou_12 := Lib.hid (Ou_11.out.below hb)
      have Ox_12 := Lib.hid (Ox_11.out.below hb)
      have Oy_12 := Lib.hid (Oy_11.out.below hb)
      have Op_12 := Lib.hid (Op_11.out.below hb)
      have Oq_12 := Lib.hid (Oq_11.out.below hb)
      clear Ot_11 Ou_11 Ox_11 Oy_11 Op_11 Oq_11
      clear hb
      go_wp2
      go_ret
      exact ⟨rfl, HB12.out⟩

end Go.Proofs.Yteljmfdlegohbaa
