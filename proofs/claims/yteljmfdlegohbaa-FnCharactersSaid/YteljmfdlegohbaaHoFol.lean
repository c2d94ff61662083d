/- DERIVED. FnCharacters, over the program's own functions: called with any argument, it returns true and changes nothing that was there. -/
import Derived.Test.YteljmfdlegohbaaHoDraw
import Derived.Test.YteljmfdlegohbaaHoTypI
import Derived.Test.YteljmfdlegohbaaHoTxtI
import Derived.Test.YteljmfdlegohbaaMcRepI
namespace Go.Proofs.Yteljmfdlegohbaa
open Go.RowKit

theorem implTextReports_q (s : ByteArray) (L : List Rv) (hx : trV s = (L, true)) (w : World) (hs : s.size ≤ 1048576) : Calls Try.prog 33 #[.string s] w (RpT (L, true) w) := by
  rw [← hx]; exact implTextReports_any s w hs
theorem implTextMacro_q (s : ByteArray) (l : List St) (hx : tpV 8 s = (l, true)) (w : World) (hs : s.size ≤ 1048576) : Calls Try.prog 34 #[.string s] w (StT (l, true) w) := by
  rw [← hx]; exact implTextMacro_any s w hs
theorem implMacroReports_q (v vs : Value) (l : List Hd) (s : List St) (R : List Rv) (hR : mrP l s = R) (w : World) (hl : l.length ≤ maxLen) (hs : s.length ≤ maxLen) (h : RdN w v l.length (flatHd l)) (h2 : RdN w vs s.length (flatSt s)) :
    Calls Try.prog 35 #[v, vs] w (MrIP R w) := by
  rw [← hR]; exact implMacroReports_p v vs l s w hl hs h h2
theorem implTyped_q (r : Int) (u : Value) (zs : List Int) (v : Value) (L : List Rv) (T : ByteArray) (hT : tyV (r, zs) L = T) (w : World) (hl : zs.length ≤ 1048576) (hL : L.length ≤ 1048576) (hk : ∀ r ∈ L, r.2.length ≤ 1048576) (h : Rd w u (zs.map (.int .i64))) (h2 : RdQ rpF w v L) :
    Calls Try.prog 37 #[rpv r u, v] w fun e w' => e = .returned (.string T) ∧ Below w.heap.size w w' := by
  rw [← hT]; exact implTypedText_any r u zs v L w hl hL hk h h2
theorem implCharOf_w (c m : Int) (T : ByteArray) (hT : hoV c m = T) (w : World) : Calls Try.prog 39 #[.int .i64 c, .int .i64 m] w fun e w' => e = .returned (.string T) ∧ w' = w :=
  (implCharOf_any c m w).mono fun _ _ ⟨he, hw⟩ => ⟨by rw [he, hT], hw.symm⟩
theorem rd_nil (w : World) : Rd w (.slice none 0 0) (([] : List Int).map (.int .i64)) := ⟨none, 0, rfl, .inl rfl⟩
theorem tS_cut {l : List UInt8} {j : Nat} (h : j < l.length) : (tS l).extract j (j + 1) = ⟨#[l.getD j 0]⟩ := by
  refine ByteArray.ext ?_
  refine Array.ext' ?_
  show ((tS l).extract j (j + 1)).data.toList = [l.getD j 0]
  rw [ByteArray.data_extract, Array.toList_extract, List.extract_eq_take_drop]
  show List.take (j + 1 - j) (List.drop j l) = _
  rw [List.drop_eq_getElem_cons h, show j + 1 - j = 1 by omega, List.getD_eq_getElem?_getD, List.getElem?_eq_getElem h]
  rfl

set_option maxRecDepth 100000 in
set_option maxHeartbeats 4000000 in
theorem lawCharacters_all (a0 : Option Addr) (len cap0 : Nat) (bs : List Int) (w : World) (hlen : bs.length = len) (hz : ∀ z ∈ bs, (Lit.int .u8 z).wf = true) (h : Rd w (.slice a0 len cap0) (bs.map (.int .u8))) :
    Calls Try.prog 6 #[.slice a0 len cap0] w fun e w' => e = .returned (.bool true) ∧ Below w.heap.size w w' := by
  by_cases hbig : (1048576 : Int) < len
  · go_enter Try.func6, Try.ntmps6
    go_wp2_with fail
    refine (big_any a0 len cap0 _).mono ?_
    rw [decide_eq_true hbig]
    rintro e w0 ⟨rfl, rfl⟩
    go_wp2
    go_ret
    exact ⟨rfl, Below.refl _ _⟩
  · have HZ := Lib.hid (fun z (m : z ∈ bs) => wf_byte (hz z m))
    have HL := Lib.hid (show bs.length ≤ 1099511627776 by omega)
    have HR := Lib.hid h
    have HBG := Lib.hid (decide_eq_false hbig)
    clear hz hlen h hbig
    go_enter Try.func6, Try.ntmps6
    go_wp2_with fail
    refine (big_any a0 len cap0 _).mono ?_
    rw [HBG.out]
    rintro e v0 ⟨rfl, rfl⟩
    go_wp2_with fail
    refine (MakeText_draw _ bs 8 _ HL.out HZ.out HR.out (by decide)).mono ?_
    rintro e w1 ⟨l, rfl, ⟨hl8, hty⟩, hb⟩
    have HB1 := Lib.hid hb
    have HTY := Lib.hid hty
    obtain ⟨S, hS⟩ : ∃ S, S = tS l := ⟨_, rfl⟩
    obtain ⟨n, hn⟩ : ∃ n, n = l.length := ⟨_, rfl⟩
    have hsz : S.size = n := by rw [hS, hn]; rfl
    have hn8 : n ≤ 8 := by omega
    rw [← hS]
    obtain ⟨R, hR⟩ : ∃ R, R = rpTx S n := ⟨_, rfl⟩
    obtain ⟨P, hP⟩ : ∃ P, P = stTx S n := ⟨_, rfl⟩
    have HS := Lib.hid hS
    have HN := Lib.hid hn
    have HTR := Lib.hid (show trV S = (R, true) by rw [hS, trV_text hty hl8, hR, hS, hn])
    have HTP := Lib.hid (show tpV 8 S = (P, true) by rw [hS, tpV_text hty hl8, hP, hS, hn])
    have HMR := Lib.hid (show mrP [] P = R by rw [hP, hR, hS, hn]; exact taps_reports hty hl8)
    have HMC := Lib.hid (show true = okMc P by rw [hP, hS, hn]; exact (taps_macro hty hl8).symm)
    have HTV := Lib.hid (show tyV (0, []) R = S by rw [hR, hS, hn]; exact tyV_text hty)
    have HPl := Lib.hid (show P.length = n by rw [hP]; exact stTx_len _ _)
    have HRl := Lib.hid (show R.length ≤ 1048576 by rw [hR, rpTx_len]; omega)
    have HRk := Lib.hid (show ∀ r ∈ R, r.2.length ≤ 1048576 by
      rw [hR]
      intro r hr
      rw [rpTx, List.mem_flatMap] at hr
      obtain ⟨i, _, hi⟩ := hr
      simp only [List.mem_cons, List.not_mem_nil, or_false] at hi
      rcases hi with rfl | rfl <;> simp)
    have HSZ := Lib.hid hsz
    clear hb hty hS hn hR hP hl8
    go_wp2_with fail
    refine (implTextReports_q S R HTR.out _ (by omega)).mono ?_
    rintro e w2 ⟨ra, rc, rf, rfl, hro, hb⟩
    simp only at hro ⊢
    obtain ⟨rn, hrn⟩ : ∃ rn, rn = R.length := ⟨_, rfl⟩
    rw [← hrn] at hro ⊢
    have HRN := Lib.hid hrn
    clear hrn
    have HRO2 := Lib.hid (hro.rd)
    have HB2 := Lib.hid (HB1.out.trans (hb.mono HB1.out.size))
    clear hro hb
    go_wp2_with fail
    refine (implTextMacro_q S P HTP.out _ (by omega)).mono ?_
    rintro e w3 ⟨pa, pc, rfl, hpo, hb⟩
    simp only at hpo ⊢
    rw [HPl.out] at hpo ⊢
    have HB3 := Lib.hid (HB2.out.trans (hb.mono HB2.out.size))
    have HRO3 := Lib.hid (HRO2.out.below hb)
    have hb4 : Below w3.heap.size w3 (w3.alloc (.cells #[] 212)) := (Below.refl _ _).alloc (Nat.le_refl _) _
    have HPO := Lib.hid (show RdN (w3.alloc (.cells #[] 212)) (.slice pa n pc) P.length (flatSt P) by rw [HPl.out]; exact RdN.of_owns (owns_below hpo hb4))
    have HB4 := Lib.hid (HB3.out.trans (hb4.mono HB3.out.size))
    have HRO4 := Lib.hid (HRO3.out.below hb4)
    have HH4 := Lib.hid (show RdN (w3.alloc (.cells #[] 212)) (.slice (some ⟨w3.heap.size, 0, none⟩) 0 0) ([] : List Hd).length (flatHd []) from ⟨_, _, rfl, .inl rfl⟩)
    clear hpo hb hb4 HRO2 HRO3 HB1 HB2 HB3
    go_wp2_with fail
    refine (implMacroReports_q _ _ [] P R HMR.out _ (by simp) (by rw [HPl.out]; unfold maxLen; omega) HH4.out HPO.out).mono ?_
    rintro e w5 ⟨ma, mc, mf, rfl, hmo, hb⟩
    rw [← HRN.out] at hmo ⊢
    have HMO5 := Lib.hid (hmo.rd)
    have HB5 := Lib.hid (HB4.out.trans (hb.mono HB4.out.size))
    have HRO5 := Lib.hid (HRO4.out.below hb)
    have HPO5 := Lib.hid (HPO.out.below hb)
    clear hmo hb HB4 HRO4 HPO HH4
    go_wp2_with fail
    refine (implIsMacro_q _ P true HMC.out _ (by rw [HPl.out]; unfold maxLen; omega) HPO5.out).mono ?_
    rintro e w6 ⟨rfl, hb⟩
    have HB6 := Lib.hid (HB5.out.trans (hb.mono HB5.out.size))
    have HRO6 := Lib.hid (HRO5.out.below hb)
    have HMO6 := Lib.hid (HMO5.out.below hb)
    clear hb HB5 HRO5 HMO5 HPO5
    have hb0 : (!(S.toList == S.toList)) = false := by simp
    go_wp2_with fail
    refine (implTyped_q 0 (.slice none 0 0) [] _ R S HTV.out _ (by simp) HRl.out HRk.out (rd_nil _) HRO6.out).mono ?_
    rintro e w7 ⟨rfl, hb⟩
    have HB7 := Lib.hid (HB6.out.trans (hb.mono HB6.out.size))
    have HMO7 := Lib.hid (HMO6.out.below hb)
    clear hb HB6 HMO6 HRO6
    go_wp2_with fail
    refine (implTyped_q 0 (.slice none 0 0) [] _ R S HTV.out _ (by simp) HRl.out HRk.out (rd_nil _) HMO7.out).mono ?_
    rintro e w8 ⟨rfl, hb⟩
    have HB8 := Lib.hid (HB7.out.trans (hb.mono HB7.out.size))
    clear hb HB7 HMO7
    go_wp2
    go_loopw [9, 10, 11] (fun i _ _ wr => ∃ j : Nat, j ≤ n ∧ i = .int .i64 j ∧ Below w.heap.size w wr) (fun i _ _ _ => n - (intOf i).toNat)
    case atStart => exact ⟨0, Nat.zero_le _, rfl, HB8.out⟩
    case round =>
      obtain ⟨j, hj, rfl, hb⟩ := hrel
      have HB := Lib.hid hb
      clear hb
      by_cases hlt : j < n
      · have hj0 : (0 : Int) ≤ (j : Int) := by omega
        have hlt2 : j < S.size := by omega
        have hjs : (j : Int) < (S.size : Int) := by omega
        obtain ⟨x, hx, hxk⟩ := tx_byte S j hlt2
        have hty : ¬ (koP x).1 = 0 := by
          rw [← hxk, HS.out]
          exact HTY.out.at (by rw [← HN.out]; exact hlt)
        have his := koP_is hty
        obtain ⟨r, hr⟩ : ∃ r, r = koP x := ⟨_, rfl⟩
        rw [← hr] at his
        obtain ⟨r1, r2⟩ := r
        simp only at his
        obtain ⟨z, hz⟩ : ∃ z, z = (x.toNat : Int) := ⟨_, rfl⟩
        have e1 : ((S[j]'hlt2).toNat : Int) = z := by rw [← hx, hz]
        have hxl : x = l.getD j 0 := by
          rw [hx]
          have h1 := tS_cut (l := l) (j := j) (by rw [← HN.out]; exact hlt)
          simp only [HS.out]
          rw [List.getD_eq_getElem?_getD, List.getElem?_eq_getElem (by rw [← HN.out]; exact hlt)]
          rfl
        obtain ⟨T, hT⟩ : ∃ T : ByteArray, T = ⟨#[x]⟩ := ⟨_, rfl⟩
        have hex : S.extract j (j + 1) = T := by rw [hT, HS.out, tS_cut (by rw [← HN.out]; exact hlt), ← hxl]
        rw [← hT] at his
        have HIS := Lib.hid his
        have HR2 := Lib.hid hr.symm
        have HZ2 := Lib.hid hz
        have hb1 : (!(T.toList == T.toList)) = false := by simp
        have hwi : IntKind.i64.wrap ((j : Int) + 1) = ((j + 1 : Nat) : Int) := IntWalk.i64_in _ ⟨by omega, by omega⟩
        have hwj : wrap64 ((j : Int) + 1) = ((j + 1 : Nat) : Int) := IntWalk.wrap64_in _ ⟨by omega, by omega⟩
        have hj4 : ((j + 1 : Nat) : Int) ≤ (S.size : Int) := by omega
        clear hx hxk hty hxl hT his hr hz
        go_wp2_with fail
        refine (implKeyOf_q x z r1 r2 HZ2.out HR2.out _).mono ?_
        rintro e w0 ⟨rfl, rfl⟩
        go_upto_region 13 with (fail)
        go_quiet ((go_at_call 39; exact Calls.quiet_of_same (implCharOf_w r1 r2 T HIS.out _)))
        clear hex e1
        go_wp2
        go_roundw
        case rel => exact ⟨j + 1, by omega, by go_num, below_drewN HB.out _⟩
        case measure => simp [intOf]; omega
      · obtain rfl : j = n := by omega
        have hge : ¬ (j : Int) < (S.size : Int) := by omega
        go_wp2
        go_ret
        exact ⟨rfl, HB.out⟩

end Go.Proofs.Yteljmfdlegohbaa
