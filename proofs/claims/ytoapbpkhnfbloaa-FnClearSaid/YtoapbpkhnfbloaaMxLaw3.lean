/- DERIVED. The law FnClear: called with any slice of bytes, it returns true and changes nothing that was there. -/
import Derived.Test.YtoapbpkhnfbloaaMxLaw2
namespace Go.Proofs.Ytoapbpkhnfbloaa
open Go.RowKit

set_option maxHeartbeats 4000000 in
set_option maxRecDepth 100000 in
theorem lawClear_walk (a0 : Option Addr) (len cap : Nat) (zs : List Int) (w : World) (hlen : zs.length = len) (hz : ∀ z ∈ zs, (Lit.int .u8 z).wf = true) (h : Rd w (.slice a0 len cap) (zs.map (.int .u8))) :
    Calls Try.prog 3 #[.slice a0 len cap] w fun e w' => e = .returned (.bool true) ∧ Below w.heap.size w w' := by
  by_cases hbig : (1048576 : Int) < len
  · go_enter Try.func3, Try.ntmps3
    go_wp2_with fail
    refine (big_any a0 len cap _).mono ?_
    rw [decide_eq_true hbig]
    rintro e w0 ⟨rfl, rfl⟩
    go_wp2
    go_ret
    exact ⟨rfl, Below.refl _ _⟩
  · have HZ := Lib.hid (fun z (m : z ∈ zs) => wf_byte (hz z m))
    have HL := Lib.hid (show zs.length ≤ 1099511627776 by omega)
    have HR := Lib.hid h
    have HBG := Lib.hid (decide_eq_false hbig)
    clear hz hlen h hbig
    go_enter Try.func3, Try.ntmps3
    go_wp2_with fail
    refine (big_any a0 len cap _).mono ?_
    rw [HBG.out]
    rintro e w0 ⟨rfl, rfl⟩
    go_wp2_with fail
    refine (MakeMatrix_draw _ zs _ HL.out HZ.out HR.out).mono ?_
    rintro e w1 ⟨r, c, a, d, D, rfl, h1, h2, h3, h4, ha, hd, hb⟩
    obtain ⟨b9, hb9⟩ : ∃ b9, b9 = a ||| d := ⟨_, rfl⟩
    rw [← hb9]
    clear hb9 hd
    have hxlt := readM_lt D ha
    have hoka := okMask_mk h1 h2 h3 h4 ha
    have hokx := okMask_mk h1 h2 h3 h4 hxlt
    have hva := readV_nat D hoka
    have hvx := readV_nat D hokx
    rw [readM_idem D h1 h2 h3 ha] at hvx
    have hrx : readB r c D (readM r c D a : Nat) = true := by rw [readB, hokx, hvx]; simp
    have hcl := clearV_nat hrx
    have hs1 := clear_sub D h1 h2 h3 ha
    have hclt : clearN r c D (readM r c D a) < 2 ^ (r * c) := keepN_lt _ hxlt _
    obtain ⟨x, hx⟩ : ∃ x, x = readM r c D a := ⟨_, rfl⟩
    rw [← hx] at hva hokx hrx hcl hs1 hclt hxlt
    have hs3 : sub (clearN r c D x) x := clear_in D
    have hkbit : ∀ i, i < r * c → (clearN r c D x).testBit i = (x.testBit i && !altN r c D x i) := fun i hi => by
      unfold clearN
      rw [keepN_bit, decide_eq_true hi, Bool.true_and]
    obtain ⟨k, hk⟩ : ∃ k, k = clearN r c D x := ⟨_, rfl⟩
    rw [← hk] at hcl hs1 hclt hs3 hkbit
    have ha62 := lt62 h2 h4 ha
    have hx62 := lt62 h2 h4 hxlt
    have hk62 := lt62 h2 h4 hclt
    have e1 := dif_nat k a hk62 ha62
    rw [sub_dif hs1] at e1
    have e2 := dif_nat k x hk62 hx62
    rw [sub_dif hs3] at e2
    have hkm := keysM_nat h1 h2 h3 h4
    have hN24 := rc_le h4 h2
    obtain ⟨N, hN⟩ : ∃ N, N = r * c := ⟨_, rfl⟩
    rw [← hN] at hkm hN24 hkbit
    have HN := Lib.hid hN
    have HKM := Lib.hid hkm
    have HKB := Lib.hid hkbit
    have HXL := Lib.hid hxlt
    have HX62 := Lib.hid hx62
    have HK62 := Lib.hid hk62
    have HOA := Lib.hid hoka
    have HVA := Lib.hid hva
    have HRX := Lib.hid hrx
    have HCL := Lib.hid hcl
    have hbx := boxed_new w1 r c D 25
    obtain ⟨W, hW⟩ : ∃ W, W = w1.alloc (.cells #[.int .i64 r, .int .i64 c, .bool D] 25) := ⟨_, rfl⟩
    rw [← hW] at hbx
    have HX0 := Lib.hid hbx
    have HS0 := Lib.hid (show w1.heap.size < W.heap.size by rw [hW]; simp)
    have HBW := Lib.hid (show Below w.heap.size w W by rw [hW]; exact hb.alloc hb.size _)
    have HW := Lib.hid hW
    clear hoka hokx hva hvx hrx hcl hs1 hs3 hclt hxlt ha62 hx62 hk62 hx hk ha hb hbx hW hkm hkbit hN
    go_wp2_with fail
    refine (implReadMatrix_any r c D a _).mono ?_
    rw [HOA.out, HVA.out]
    rintro e w2 ⟨rfl, hb⟩
    rw [← HW.out] at hb
    have HX1 := Lib.hid (HX0.out.below hb HS0.out)
    have HS1 := Lib.hid (Nat.lt_of_lt_of_le HS0.out hb.size)
    have HB1 := Lib.hid (HBW.out.trans (hb.mono HBW.out.size))
    obtain ⟨c0, c1, c2⟩ := HX1.out
    clear hb
    go_wp2_with fail
    refine (implClearKeys_any r c D x _).mono ?_
    rw [HCL.out]
    rintro e w3 ⟨rfl, hb⟩
    have HX2 := Lib.hid (HX1.out.below hb HS1.out)
    have HS2 := Lib.hid (Nat.lt_of_lt_of_le HS1.out hb.size)
    have HB2 := Lib.hid (HB1.out.trans (hb.mono HB1.out.size))
    clear hb c0 c1 c2
    go_wp2
    go_loopw [9, 10, 11, 12, 13] (fun i _ _ _ _ wr => ∃ j : Nat, j ≤ N ∧ i = .int .i64 j ∧ Boxed wr w1.heap.size r c D ∧ w1.heap.size < wr.heap.size ∧ Below w.heap.size w wr) (fun i _ _ _ _ _ => N - (intOf i).toNat)
    case atStart => exact ⟨0, Nat.zero_le _, rfl, HX2.out, HS2.out, HB2.out⟩
    case round =>
      obtain ⟨j, hj, rfl, hx, hs, hb⟩ := hrel
      obtain ⟨c0, c1, c2⟩ := hx
      have HX3 := Lib.hid (show Boxed wr w1.heap.size r c D from ⟨c0, c1, c2⟩)
      have HS3 := Lib.hid hs
      have HB3 := Lib.hid hb
      clear hs hb
      by_cases hlt : j < N
      · have halt : altB r c D x j = altN r c D x j := altB_nat HRX.out h1 h2 h3 h4 (by rw [← HN.out]; exact hlt)
        have hbk := bit_nat k j HK62.out
        have hbx := bit_nat x j HX62.out
        rw [HKB.out j hlt] at hbk
        have haltX : altN r c D x j = true → x.testBit j = true := fun h => by unfold altN at h; rw [Bool.and_eq_true] at h; exact h.1
        have haltR : altN r c D x j = true → readM r c D (dif x (2 ^ j)) = x := fun h => by unfold altN at h; rw [Bool.and_eq_true, decide_eq_true_eq] at h; exact h.2
        have hav : altV r c D x j = if altN r c D x j = true then (dif x (2 ^ j) : Int) else 0 := by rw [altV, halt]; simp
        have hylt := dif_lt (b := 2 ^ j) HXL.out
        have hyok := okMask_mk h1 h2 h3 h4 hylt
        have hyv := readV_nat D hyok
        have hyb := bit_nat (dif x (2 ^ j)) j (dif_lt HX62.out)
        rw [dif_bit, Nat.testBit_two_pow_self, Bool.not_true, Bool.and_false] at hyb
        have h0lt : 0 < 2 ^ (r * c) := Nat.two_pow_pos _
        have h0ok := okMask_mk h1 h2 h3 h4 h0lt
        obtain ⟨q, hq⟩ : ∃ q, q = altN r c D x j := ⟨_, rfl⟩
        obtain ⟨y, hy⟩ : ∃ y, y = dif x (2 ^ j) := ⟨_, rfl⟩
        rw [← hq] at halt hbk haltX haltR hav
        rw [← hy] at haltR hav hyok hyv hyb
        have HAL := Lib.hid halt
        have HYO := Lib.hid hyok
        have H0O := Lib.hid h0ok
        cases q
        · have hav0 : altV r c D x j = 0 := by rw [hav]; rfl
          have HAV := Lib.hid hav0
          obtain ⟨v0, hv0⟩ : ∃ v0, v0 = readV r c D ((0 : Nat) : Int) := ⟨_, rfl⟩
          have HV0 := Lib.hid hv0
          cases htb : x.testBit j
          · have f1 : bits .and .i64 ((k : Int) / 2 ^ j) 1 = 0 := by rw [hbk, htb]; rfl
            have f2 : bits .and .i64 ((x : Int) / 2 ^ j) 1 = 0 := by rw [hbx, htb]; rfl
            clear halt hbk hbx haltX haltR hav hylt hyok hyv hyb h0lt h0ok hq hy hav0 hv0 htb
            go_wp2_with fail
            refine (implKeyCount_any r c D _).mono ?_
            rw [HKM.out]
            rintro e w4 ⟨rfl, hb⟩
            have HX4 := Lib.hid (HX3.out.below hb HS3.out)
            have HS4 := Lib.hid (Nat.lt_of_lt_of_le HS3.out hb.size)
            have HB4 := Lib.hid (HB3.out.trans (hb.mono HB3.out.size))
            obtain ⟨c0, c1, c2⟩ := HX4.out
            clear hb
            go_wp2_with fail
            refine (implAlternative_any r c D x j _).mono ?_
            rw [HAL.out, HAV.out]
            rintro e w5 ⟨rfl, hb⟩
            have HX5 := Lib.hid (HX4.out.below hb HS4.out)
            have HS5 := Lib.hid (Nat.lt_of_lt_of_le HS4.out hb.size)
            have HB5 := Lib.hid (HB4.out.trans (hb.mono HB4.out.size))
            obtain ⟨c0, c1, c2⟩ := HX5.out
            clear hb
            go_wp2_with fail
            refine (implReadMatrix_any r c D ((0 : Nat) : Int) _).mono ?_
            rw [H0O.out, ← HV0.out]
            rintro e w6 ⟨rfl, hb⟩
            have HX6 := Lib.hid (HX5.out.below hb HS5.out)
            have HS6 := Lib.hid (Nat.lt_of_lt_of_le HS5.out hb.size)
            have HB6 := Lib.hid (HB5.out.trans (hb.mono HB5.out.size))
            clear hb
            go_wp2
            go_roundw
            case rel => exact ⟨j + 1, by omega, by go_num, HX6.out, HS6.out, HB6.out⟩
            case measure => simp [intOf]; omega
          · have f1 : bits .and .i64 ((k : Int) / 2 ^ j) 1 = 1 := by rw [hbk, htb]; rfl
            have f2 : bits .and .i64 ((x : Int) / 2 ^ j) 1 = 1 := by rw [hbx, htb]; rfl
            clear halt hbk hbx haltX haltR hav hylt hyok hyv hyb h0lt h0ok hq hy hav0 hv0 htb
            go_wp2_with fail
            refine (implKeyCount_any r c D _).mono ?_
            rw [HKM.out]
            rintro e w4 ⟨rfl, hb⟩
            have HX4 := Lib.hid (HX3.out.below hb HS3.out)
            have HS4 := Lib.hid (Nat.lt_of_lt_of_le HS3.out hb.size)
            have HB4 := Lib.hid (HB3.out.trans (hb.mono HB3.out.size))
            obtain ⟨c0, c1, c2⟩ := HX4.out
            clear hb
            go_wp2_with fail
            refine (implAlternative_any r c D x j _).mono ?_
            rw [HAL.out, HAV.out]
            rintro e w5 ⟨rfl, hb⟩
            have HX5 := Lib.hid (HX4.out.below hb HS4.out)
            have HS5 := Lib.hid (Nat.lt_of_lt_of_le HS4.out hb.size)
            have HB5 := Lib.hid (HB4.out.trans (hb.mono HB4.out.size))
            obtain ⟨c0, c1, c2⟩ := HX5.out
            clear hb
            go_wp2_with fail
            refine (implReadMatrix_any r c D ((0 : Nat) : Int) _).mono ?_
            rw [H0O.out, ← HV0.out]
            rintro e w6 ⟨rfl, hb⟩
            have HX6 := Lib.hid (HX5.out.below hb HS5.out)
            have HS6 := Lib.hid (Nat.lt_of_lt_of_le HS5.out hb.size)
            have HB6 := Lib.hid (HB5.out.trans (hb.mono HB5.out.size))
            clear hb
            go_wp2
            go_roundw
            case rel => exact ⟨j + 1, by omega, by go_num, HX6.out, HS6.out, HB6.out⟩
            case measure => simp [intOf]; omega
        · have hav0 : altV r c D x j = (y : Int) := by rw [hav]; rfl
          have HAV := Lib.hid hav0
          have htb := haltX rfl
          rw [haltR rfl] at hyv
          have HYV := Lib.hid hyv
          have f1 : bits .and .i64 ((k : Int) / 2 ^ j) 1 = 0 := by rw [hbk, htb]; rfl
          have f2 : bits .and .i64 ((x : Int) / 2 ^ j) 1 = 1 := by rw [hbx, htb]; rfl
          have f3 : bits .and .i64 ((y : Int) / 2 ^ j) 1 = 0 := by rw [hyb]; rfl
          clear halt hbk hbx haltX haltR hav hylt hyok hyv hyb h0lt h0ok hq hy hav0 htb
          go_wp2_with fail
          refine (implKeyCount_any r c D _).mono ?_
          rw [HKM.out]
          rintro e w4 ⟨rfl, hb⟩
          have HX4 := Lib.hid (HX3.out.below hb HS3.out)
          have HS4 := Lib.hid (Nat.lt_of_lt_of_le HS3.out hb.size)
          have HB4 := Lib.hid (HB3.out.trans (hb.mono HB3.out.size))
          obtain ⟨c0, c1, c2⟩ := HX4.out
          clear hb
          go_wp2_with fail
          refine (implAlternative_any r c D x j _).mono ?_
          rw [HAL.out, HAV.out]
          rintro e w5 ⟨rfl, hb⟩
          have HX5 := Lib.hid (HX4.out.below hb HS4.out)
          have HS5 := Lib.hid (Nat.lt_of_lt_of_le HS4.out hb.size)
          have HB5 := Lib.hid (HB4.out.trans (hb.mono HB4.out.size))
          obtain ⟨c0, c1, c2⟩ := HX5.out
          clear hb
          go_wp2_with fail
          refine (implReadMatrix_any r c D y _).mono ?_
          rw [HYO.out, HYV.out]
          rintro e w6 ⟨rfl, hb⟩
          have HX6 := Lib.hid (HX5.out.below hb HS5.out)
          have HS6 := Lib.hid (Nat.lt_of_lt_of_le HS5.out hb.size)
          have HB6 := Lib.hid (HB5.out.trans (hb.mono HB5.out.size))
          clear hb
          go_wp2
          go_roundw
          case rel => exact ⟨j + 1, by omega, by go_num, HX6.out, HS6.out, HB6.out⟩
          case measure => simp [intOf]; omega
      · obtain rfl : j = N := by omega
        go_wp2_with fail
        refine (implKeyCount_any r c D _).mono ?_
        rw [HKM.out]
        rintro e w4 ⟨rfl, hb⟩
        have HB4 := Lib.hid (HB3.out.trans (hb.mono HB3.out.size))
        clear hb
        go_wp2
        go_ret
        exact ⟨rfl, HB4.out⟩

end Go.Proofs.Ytoapbpkhnfbloaa
