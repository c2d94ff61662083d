/- DERIVED. The laws FnReadings and FnAccepted: each, called with any slice of bytes, returns true and changes nothing that was there. -/
import Derived.Test.YtcemachikghinaaMxImpl3
import Derived.Test.YtcemachikghinaaMxPure2
import Derived.Test.YtcemachikghinaaMxDraw
namespace Go.Proofs.Ytcemachikghinaa
open Go.RowKit

theorem big_any (a : Option Addr) (n cap : Nat) (w : World) : Calls Try.prog 14 #[.slice a n cap] w fun e w' => e = .returned (.bool (decide ((1048576 : Int) < n))) ∧ w = w' := by
  go_enter Try.func14, Try.ntmps14
  go_wp2
  go_ret
  exact ⟨rfl, rfl⟩

theorem count_any (m : Nat) (hm : m < 2 ^ 62) (w : World) : Calls Try.prog 19 #[.int .i64 m] w fun e w' => e = .returned (.int .i64 (cnt m 40 : Nat)) ∧ w = w' := by
  go_enter Try.func19, Try.ntmps19
  go_wp2
  go_loop [3, 4] (fun t i => ∃ k : Nat, k ≤ 40 ∧ i = .int .i64 k ∧ t = .int .i64 (cnt m k : Nat)) (fun _ i => 40 - (intOf i).toNat)
  case atStart => exact ⟨0, by omega, rfl, rfl⟩
  case round =>
    obtain ⟨k, hk, rfl, rfl⟩ := hrel
    have hle := cnt_le m k
    obtain ⟨y, hy⟩ : ∃ y, y = cnt m k := ⟨_, rfl⟩
    rw [← hy] at hle ⊢
    by_cases hlt : k < 40
    · have hbit := bit_nat m k hm
      obtain ⟨t, ht⟩ : ∃ t, t = m.testBit k := ⟨_, rfl⟩
      rw [← ht] at hbit
      have hnext : cnt m (k + 1) = y + if t = true then 1 else 0 := by rw [cnt, hy, ht]
      have HN := Lib.hid hnext
      clear hnext hy ht
      cases t
      · have hb0 : bits .and .i64 ((m : Int) / 2 ^ k) 1 = 0 := by rw [hbit]; rfl
        clear hbit
        go_wp2
        go_round
        case rel => exact ⟨k + 1, by omega, by go_num, by rw [HN.out]; rfl⟩
        case measure => simp [intOf]; omega
      · have hb0 : bits .and .i64 ((m : Int) / 2 ^ k) 1 = 1 := by rw [hbit]; rfl
        clear hbit
        go_wp2
        go_round
        case rel => exact ⟨k + 1, by omega, by go_num, by rw [HN.out]; rfl⟩
        case measure => simp [intOf]; omega
    · obtain rfl : k = 40 := by omega
      have HY := Lib.hid hy
      clear hy
      go_wp2
      go_ret
      exact ⟨ret_int (by rw [HY.out]), rfl⟩

theorem wf_byte {n : Int} (h : (Lit.int .u8 n).wf = true) : 0 ≤ n ∧ n < 256 := by
  simp [Lit.wf, IntKind.min, IntKind.max, IntKind.signed, IntKind.bits] at h
  omega

set_option maxHeartbeats 2000000 in
set_option maxRecDepth 100000 in
theorem lawReadings_walk (a0 : Option Addr) (len cap : Nat) (zs : List Int) (w : World) (hlen : zs.length = len) (hz : ∀ z ∈ zs, (Lit.int .u8 z).wf = true) (h : Rd w (.slice a0 len cap) (zs.map (.int .u8))) :
    Calls Try.prog 3 #[.slice a0 len cap] w fun e w' => e = .returned (.bool true) ∧ Below w.heap.size w w' := by
  by_cases hbig : (1048576 : Int) < len
  · go_enter Try.func3, Try.ntmps3
    go_wp2_with fail
    refine (big_any a0 len cap _).mono ?_
    rw [decide_eq_true hbig]
    rintro e w0 ⟨rfl, rfl⟩
    go_wp2
    go_ret
    exact ⟨rfl, Below.refl _ _⟩
  · have HZ := Lib.hid (fun z (m : z ∈ zs) => wf_byte (hz z m))
    have HL := Lib.hid (show zs.length ≤ 1099511627776 by omega)
    have HR := Lib.hid h
    have HBG := Lib.hid (decide_eq_false hbig)
    clear hz hlen h hbig
    go_enter Try.func3, Try.ntmps3
    go_wp2_with fail
    refine (big_any a0 len cap _).mono ?_
    rw [HBG.out]
    rintro e w0 ⟨rfl, rfl⟩
    go_wp2_with fail
    refine (MakeMatrix_draw _ zs _ HL.out HZ.out HR.out).mono ?_
    rintro e w1 ⟨r, c, a, d, D, rfl, h1, h2, h3, h4, ha, hd, hb⟩
    have had : a ||| d < 2 ^ (r * c) := Nat.or_lt_two_pow ha hd
    have hxlt := readM_lt D ha
    have hoka := okMask_mk h1 h2 h3 h4 ha
    have hokb := okMask_mk h1 h2 h3 h4 had
    have hokx := okMask_mk h1 h2 h3 h4 hxlt
    have hva := readV_nat D hoka
    have hvb := readV_nat D hokb
    have hvx := readV_nat D hokx
    rw [readM_idem D h1 h2 h3 ha] at hvx
    have hga := ghostV_nat D hoka
    have hrx : readB r c D (readM r c D a : Nat) = true := by rw [readB, hokx, hvx]; simp
    have e1 := and_nat (readM r c D a) a (lt62 h2 h4 hxlt) (lt62 h2 h4 ha)
    rw [sub_and (readM_sup D h3 ha)] at e1
    have e2 := dif_nat (readM r c D a) (readM r c D (a ||| d)) (lt62 h2 h4 hxlt) (lt62 h2 h4 (readM_lt D had))
    rw [sub_dif (readM_sub D h1 h2 h3 ha (fun i hi => by rw [Nat.testBit_or, hi]; rfl))] at e2
    have e3 := dif_nat (readM r c D a) a (lt62 h2 h4 hxlt) (lt62 h2 h4 ha)
    have hfew := readM_few D h2 h4 h3 ha
    have hdio : D = true → readM r c D a = a := fun hD => by rw [hD]; rfl
    obtain ⟨x, hx⟩ : ∃ x, x = readM r c D a := ⟨_, rfl⟩
    obtain ⟨y, hy⟩ : ∃ y, y = readM r c D (a ||| d) := ⟨_, rfl⟩
    obtain ⟨g, hg⟩ : ∃ g, g = dif (readM r c D a) a := ⟨_, rfl⟩
    rw [← hx] at hg
    rw [← hx, ← hg] at e3 hga
    rw [← hx] at hva hvx hokx hrx e1 hfew hdio
    rw [← hx, ← hy] at e2
    rw [← hy] at hvb
    obtain ⟨b, hbd⟩ : ∃ b, b = a ||| d := ⟨_, rfl⟩
    rw [← hbd] at hokb hvb ⊢
    obtain ⟨q, hq⟩ : ∃ q, q = cnt a 40 := ⟨_, rfl⟩
    rw [← hq] at hfew
    have ha62 := lt62 h2 h4 ha
    have HOA := Lib.hid hoka
    have HOB := Lib.hid hokb
    have HOX := Lib.hid hokx
    have HVA := Lib.hid hva
    have HVB := Lib.hid hvb
    have HVX := Lib.hid hvx
    have HGA := Lib.hid hga
    have HRX := Lib.hid hrx
    have HQ := Lib.hid hq
    have HF := Lib.hid hfew
    have HI := Lib.hid hdio
    have HA62 := Lib.hid ha62
    have HB0 := Lib.hid hb
    have hbx := boxed_new w1 r c D 25
    obtain ⟨W, hW⟩ : ∃ W, W = w1.alloc (.cells #[.int .i64 r, .int .i64 c, .bool D] 25) := ⟨_, rfl⟩
    rw [← hW] at hbx
    have HX0 := Lib.hid hbx
    have HS0 := Lib.hid (show w1.heap.size < W.heap.size by rw [hW]; simp)
    have HBW := Lib.hid (show Below w.heap.size w W by rw [hW]; exact hb.alloc hb.size _)
    have HW := Lib.hid hW
    clear hoka hokb hokx hva hvb hvx hga hrx hq hfew hdio ha62 hb hbx hW ha hd had hxlt hx hy hg hbd
    go_wp2_with fail
    refine (implReadMatrix_any r c D a _).mono ?_
    rw [HOA.out, HVA.out]
    rintro e w2 ⟨rfl, hb⟩
    rw [← HW.out] at hb
    have HX1 := Lib.hid (HX0.out.below hb HS0.out)
    have HS1 := Lib.hid (Nat.lt_of_lt_of_le HS0.out hb.size)
    have HB1 := Lib.hid (HBW.out.trans (hb.mono HBW.out.size))
    obtain ⟨c0, c1, c2⟩ := HX1.out
    clear hb
    go_wp2_with fail
    refine (implReadMatrix_any r c D b _).mono ?_
    rw [HOB.out, HVB.out]
    rintro e w3 ⟨rfl, hb⟩
    have HX2 := Lib.hid (HX1.out.below hb HS1.out)
    have HS2 := Lib.hid (Nat.lt_of_lt_of_le HS1.out hb.size)
    have HB2 := Lib.hid (HB1.out.trans (hb.mono HB1.out.size))
    obtain ⟨c0, c1, c2⟩ := HX2.out
    clear hb
    go_wp2_with fail
    refine (implReadMatrix_any r c D x _).mono ?_
    rw [HOX.out, HVX.out]
    rintro e w4 ⟨rfl, hb⟩
    have HX3 := Lib.hid (HX2.out.below hb HS2.out)
    have HS3 := Lib.hid (Nat.lt_of_lt_of_le HS2.out hb.size)
    have HB3 := Lib.hid (HB2.out.trans (hb.mono HB2.out.size))
    obtain ⟨c0, c1, c2⟩ := HX3.out
    clear hb
    go_wp2_with fail
    refine (implGhostsOf_any r c D a _).mono ?_
    rw [HOA.out, HGA.out]
    rintro e w5 ⟨rfl, hb⟩
    have HX4 := Lib.hid (HX3.out.below hb HS3.out)
    have HS4 := Lib.hid (Nat.lt_of_lt_of_le HS3.out hb.size)
    have HB4 := Lib.hid (HB3.out.trans (hb.mono HB3.out.size))
    obtain ⟨c0, c1, c2⟩ := HX4.out
    clear hb
    go_wp2_with fail
    refine (implIsReading_any r c D x _).mono ?_
    rw [HRX.out]
    rintro e w6 ⟨rfl, hb⟩
    have HX5 := Lib.hid (HX4.out.below hb HS4.out)
    have HB5 := Lib.hid (HB4.out.trans (hb.mono HB4.out.size))
    obtain ⟨c0, c1, c2⟩ := HX5.out
    clear hb
    cases D
    · by_cases hq3 : q < 3
      · obtain rfl : x = a := HF.out hq3
        go_wp2_with fail
        refine (count_any _ HA62.out _).mono ?_
        rw [← HQ.out]
        rintro e w7 ⟨rfl, rfl⟩
        go_wp2
        go_ret
        exact ⟨rfl, HB5.out⟩
      · have hq3' : ¬ (q : Int) < 3 := by omega
        go_wp2_with fail
        refine (count_any _ HA62.out _).mono ?_
        rw [← HQ.out]
        rintro e w7 ⟨rfl, rfl⟩
        go_wp2
        go_ret
        exact ⟨rfl, HB5.out⟩
    · obtain rfl : x = a := HI.out rfl
      go_wp2
      go_ret
      exact ⟨rfl, HB5.out⟩

theorem sub_and_left {a b : Nat} : sub (a &&& b) a := fun i hi => by rw [Nat.testBit_and, Bool.and_eq_true] at hi; exact hi.1
theorem sub_and_right {a b : Nat} : sub (a &&& b) b := fun i hi => by rw [Nat.testBit_and, Bool.and_eq_true] at hi; exact hi.2

set_option maxHeartbeats 2000000 in
set_option maxRecDepth 100000 in
theorem lawAccepted_walk (a0 : Option Addr) (len cap : Nat) (zs : List Int) (w : World) (hlen : zs.length = len) (hz : ∀ z ∈ zs, (Lit.int .u8 z).wf = true) (h : Rd w (.slice a0 len cap) (zs.map (.int .u8))) :
    Calls Try.prog 4 #[.slice a0 len cap] w fun e w' => e = .returned (.bool true) ∧ Below w.heap.size w w' := by
  by_cases hbig : (1048576 : Int) < len
  · go_enter Try.func4, Try.ntmps4
    go_wp2_with fail
    refine (big_any a0 len cap _).mono ?_
    rw [decide_eq_true hbig]
    rintro e w0 ⟨rfl, rfl⟩
    go_wp2
    go_ret
    exact ⟨rfl, Below.refl _ _⟩
  · have HZ := Lib.hid (fun z (m : z ∈ zs) => wf_byte (hz z m))
    have HL := Lib.hid (show zs.length ≤ 1099511627776 by omega)
    have HR := Lib.hid h
    have HBG := Lib.hid (decide_eq_false hbig)
    clear hz hlen h hbig
    go_enter Try.func4, Try.ntmps4
    go_wp2_with fail
    refine (big_any a0 len cap _).mono ?_
    rw [HBG.out]
    rintro e w0 ⟨rfl, rfl⟩
    go_wp2_with fail
    refine (MakeMatrix_draw _ zs _ HL.out HZ.out HR.out).mono ?_
    rintro e w1 ⟨r, c, o, d, D, rfl, h1, h2, h3, h4, ho, hd, hb⟩
    have ha : o ||| d < 2 ^ (r * c) := Nat.or_lt_two_pow ho hd
    obtain ⟨a, had⟩ : ∃ a, a = o ||| d := ⟨_, rfl⟩
    rw [← had] at ha ⊢
    have hxlt := readM_lt D ha
    have hoka := okMask_mk h1 h2 h3 h4 ha
    have hoko := okMask_mk h1 h2 h3 h4 ho
    have hokx := okMask_mk h1 h2 h3 h4 hxlt
    have hva := readV_nat D hoka
    have hvx := readV_nat D hokx
    rw [readM_idem D h1 h2 h3 ha] at hvx
    have hrx : readB r c D (readM r c D a : Nat) = true := by rw [readB, hokx, hvx]; simp
    have hcl := clearV_nat hrx
    have hacc : accB r c D o (readM r c D a : Nat) = true := by rw [accB, hoko, hrx]; rfl
    have haccV : accV r c D o (readM r c D a : Nat) = ((readM r c D a &&& (o ||| clearN r c D (readM r c D a)) : Nat) : Int) := by rw [accV, if_pos hacc]; simp
    have hs1 := clear_sub D h1 h2 h3 ha
    have hs2 := readM_sup D h3 ha
    have hclt : clearN r c D (readM r c D a) < 2 ^ (r * c) := keepN_lt _ hxlt _
    obtain ⟨x, hx⟩ : ∃ x, x = readM r c D a := ⟨_, rfl⟩
    rw [← hx] at hva hokx hrx hcl hacc haccV hs1 hs2 hclt hxlt
    obtain ⟨k, hk⟩ : ∃ k, k = clearN r c D x := ⟨_, rfl⟩
    rw [← hk] at hcl haccV hs1 hclt
    have hylt : x &&& (o ||| k) < 2 ^ (r * c) := Nat.and_lt_two_pow _ (Nat.or_lt_two_pow ho hclt)
    have ho62 := lt62 h2 h4 ho
    have ha62 := lt62 h2 h4 ha
    have hx62 := lt62 h2 h4 hxlt
    have hy62 := lt62 h2 h4 hylt
    have e1 := dif_nat (x &&& (o ||| k)) o hy62 ho62
    have e2 := dif_nat (dif (x &&& (o ||| k)) o) a (dif_lt hy62) ha62
    have z2 : dif (dif (x &&& (o ||| k)) o) a = 0 := sub_dif fun i hi => by
      rw [dif_bit, Nat.testBit_and, Nat.testBit_or] at hi
      simp only [Bool.and_eq_true, Bool.or_eq_true, Bool.not_eq_true'] at hi
      rcases hi.1.2 with h | h
      · rw [h] at hi; cases hi.2
      · exact hs1 i h
    rw [z2] at e2
    have e3 := dif_nat (x &&& (o ||| k)) x hy62 hx62
    rw [sub_dif sub_and_left] at e3
    have e4 := and_nat o x ho62 hx62
    have e5 := dif_nat (o &&& x) (x &&& (o ||| k)) (Nat.and_lt_two_pow _ hx62) hy62
    have z5 : dif (o &&& x) (x &&& (o ||| k)) = 0 := sub_dif fun i hi => by
      rw [Nat.testBit_and, Bool.and_eq_true] at hi
      rw [Nat.testBit_and, Nat.testBit_or, hi.1, hi.2]
      rfl
    rw [z5] at e5
    have hlast : k = x → x &&& (o ||| k) = x ∧ x = a := fun e => by
      subst e
      refine ⟨sub_antisymm sub_and_left fun i hi => ?_, sub_antisymm hs1 hs2⟩
      rw [Nat.testBit_and, Nat.testBit_or, hi]
      simp
    obtain ⟨y, hy⟩ : ∃ y, y = x &&& (o ||| k) := ⟨_, rfl⟩
    obtain ⟨p, hp⟩ : ∃ p, p = dif y o := ⟨_, rfl⟩
    obtain ⟨q, hq⟩ : ∃ q, q = o &&& x := ⟨_, rfl⟩
    rw [← hy] at haccV e1 e2 e3 e5 hlast
    rw [← hp] at e1 e2
    rw [← hq] at e4 e5
    have HOA := Lib.hid hoka
    have HVA := Lib.hid hva
    have HRX := Lib.hid hrx
    have HCL := Lib.hid hcl
    have HAC := Lib.hid hacc
    have HAV := Lib.hid haccV
    have HLA := Lib.hid hlast
    have HB0 := Lib.hid hb
    have hbx := boxed_new w1 r c D 25
    obtain ⟨W, hW⟩ : ∃ W, W = w1.alloc (.cells #[.int .i64 r, .int .i64 c, .bool D] 25) := ⟨_, rfl⟩
    rw [← hW] at hbx
    have HX0 := Lib.hid hbx
    have HS0 := Lib.hid (show w1.heap.size < W.heap.size by rw [hW]; simp)
    have HBW := Lib.hid (show Below w.heap.size w W by rw [hW]; exact hb.alloc hb.size _)
    have HW := Lib.hid hW
    clear had hoka hoko hokx hva hvx hrx hcl hacc haccV hs1 hs2 hclt hxlt hylt ho62 ha62 hx62 hy62 hlast z2 z5 hx hk hy hp hq ha ho hd hb hbx hW
    go_wp2_with fail
    refine (implReadMatrix_any r c D a _).mono ?_
    rw [HOA.out, HVA.out]
    rintro e w2 ⟨rfl, hb⟩
    rw [← HW.out] at hb
    have HX1 := Lib.hid (HX0.out.below hb HS0.out)
    have HS1 := Lib.hid (Nat.lt_of_lt_of_le HS0.out hb.size)
    have HB1 := Lib.hid (HBW.out.trans (hb.mono HBW.out.size))
    obtain ⟨c0, c1, c2⟩ := HX1.out
    clear hb
    go_wp2_with fail
    refine (implAcceptReading_any r c D o x _).mono ?_
    rw [HAC.out, HAV.out]
    rintro e w3 ⟨rfl, hb⟩
    have HX2 := Lib.hid (HX1.out.below hb HS1.out)
    have HS2 := Lib.hid (Nat.lt_of_lt_of_le HS1.out hb.size)
    have HB2 := Lib.hid (HB1.out.trans (hb.mono HB1.out.size))
    obtain ⟨c0, c1, c2⟩ := HX2.out
    clear hb
    by_cases hkx : k = x
    · obtain ⟨hl1, hl2⟩ := HLA.out hkx
      subst hkx hl1 hl2
      go_wp2_with fail
      refine (implClearKeys_any r c D _ _).mono ?_
      rw [HCL.out]
      rintro e w4 ⟨rfl, hb⟩
      have HB3 := Lib.hid (HB2.out.trans (hb.mono HB2.out.size))
      clear hb
      go_wp2
      go_ret
      exact ⟨rfl, HB3.out⟩
    · have hne : ((k : Int) == (x : Int)) = false := beq_false_of_ne (by omega)
      have hne2 : ((k : Int) != (x : Int)) = true := by rw [bne, hne]; rfl
      have HK := Lib.hid hkx
      clear hkx
      go_wp2_with fail
      refine (implClearKeys_any r c D x _).mono ?_
      rw [HCL.out]
      rintro e w4 ⟨rfl, hb⟩
      have HB3 := Lib.hid (HB2.out.trans (hb.mono HB2.out.size))
      clear hb
      go_wp2
      go_ret
      exact ⟨rfl, HB3.out⟩
end Go.Proofs.Ytcemachikghinaa
