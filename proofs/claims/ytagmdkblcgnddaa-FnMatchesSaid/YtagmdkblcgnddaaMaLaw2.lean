/- DERIVED. FnMatches over the program's MatchCombo: what is told of a part is told of the whole, and within bounds. No condition. -/
import Derived.Test.YtagmdkblcgnddaaCnDraw2
import Derived.Test.YtagmdkblcgnddaaMaFol
import Derived.Test.YtagmdkblcgnddaaMaImpl
import Derived.Test.YtagmdkblcgnddaaCbSpec
namespace Go.Proofs.Ytagmdkblcgnddaa
open Go.RowKit

theorem capLe_mk {a : Option Addr} {n c : Nat} (h : n ≤ c) : CapLe (.slice a n c) := fun _ _ _ e => by cases e; exact h
theorem matV_fineQ {l : List Cb} {t now : Int} {Q : List Ev} (hC : okCbs l = true) (ht : inB t 1 200 = true) (h0 : 0 < Q.length) (hd : (evD Q 0).d = true) (hs : sortE Q 0) (hq : ∀ j, j < Q.length → swOk (evD Q j) = true) (hf : (evD Q 0).t + t ≤ now) : MaFine (matV l t Q now) Q.length (evD Q 0).t ((evD Q 0).t + t) := by
  cases Q with
  | nil => simp at h0
  | cons f r =>
    refine matV_fine hC ht hd (fun e he => ⟨?_, (hs.take 0 h0 e he).1⟩) hf
    obtain ⟨j, hj, rfl⟩ := List.mem_iff_getElem.1 he
    have := hq j hj
    rw [evD, List.getD_eq_getElem?_getD, List.getElem?_eq_getElem hj] at this
    exact this
set_option maxHeartbeats 8000000 in
set_option maxRecDepth 100000 in
theorem lawMatches_all (a0 : Option Addr) (len cap0 : Nat) (bs : List Int) (w : World) (hlen : bs.length = len) (hz : ∀ z ∈ bs, (Lit.int .u8 z).wf = true) (h : Rd w (.slice a0 len cap0) (bs.map (.int .u8))) :
    Calls Try.prog 6 #[.slice a0 len cap0] w fun e w' => e = .returned (.bool true) ∧ Below w.heap.size w w' := by
  subst hlen
  by_cases hbig : (1048576 : Int) < bs.length
  · go_enter Try.func6, Try.ntmps6
    go_wp2_with fail
    refine (big_any a0 bs.length cap0 _).mono ?_
    rw [decide_eq_true hbig]
    rintro e w0 ⟨rfl, rfl⟩
    go_wp2
    go_ret
    exact ⟨rfl, Below.refl _ _⟩
  · have HZ := Lib.hid (fun z (m : z ∈ bs) => wf_byte (hz z m))
    have HL := Lib.hid (show bs.length ≤ 1099511627776 by omega)
    have HR := Lib.hid h
    have HBG := Lib.hid (decide_eq_false hbig)
    clear hz h hbig
    go_enter Try.func6, Try.ntmps6
    go_wp2_with fail
    refine (big_any a0 bs.length cap0 _).mono ?_
    rw [HBG.out]
    rintro e v0 ⟨rfl, rfl⟩
    go_wp2_with fail
    refine (DrawMatchCombo_draw a0 cap0 bs _ HL.out HZ.out HR.out).mono ?_
    rintro e w1 ⟨l, a1, c1, t, Q, a2, c2, now, rfl, hl5, hq5, htm, hrl, hrq, hcl, hcq, hb⟩
    have HB1 := Lib.hid hb
    have HRL1 := Lib.hid hrl
    have HRQ1 := Lib.hid hrq
    have HTM := Lib.hid htm
    have HL5 := Lib.hid (show l.length ≤ maxLen by unfold maxLen; omega)
    have HQ5 := Lib.hid hq5
    have HCL := Lib.hid hcl
    have HCQ := Lib.hid hcq
    obtain ⟨N, hN⟩ : ∃ N, N = Q.length := ⟨_, rfl⟩
    have HN := Lib.hid hN
    rw [← hN]
    have hn5 : N ≤ 5 := by omega
    have hnc : N ≤ c2 := by omega
    clear hb hrl hrq htm hl5 hq5 hcl hcq hN
    obtain ⟨v, hv⟩ : ∃ v, v = okEvs Q := ⟨_, rfl⟩
    have HIE := Lib.hid (show Calls Try.prog 31 #[.slice a2 N c2] w1 fun e w' => e = .returned (.bool v) ∧ Below w1.heap.size w1 w' by
      rw [hv, HN.out]
      exact specIsEvents_any _ Q w1 (by have := HQ5.out; unfold maxLen; omega) HRQ1.out)
    have HV := Lib.hid hv
    clear hv
    go_upto_region 4 with (fail)
    go_cut [38] (fun s38 wx => (∃ vv : Bool, s38 = .bool vv ∧ (vv = false → okEvs Q = true ∧ 0 < N ∧ (evD Q 0).d = true)) ∧ Below w1.heap.size w1 wx)
    case first =>
      by_cases h0 : N = 0
      · subst h0
        go_wp2_with fail
        refine HIE.out.mono ?_
        rintro e w2 ⟨rfl, hb⟩
        have HB := Lib.hid hb
        clear hb
        cases v
        · go_wp2
          go_meet
          exact ⟨⟨true, rfl, fun h => by cases h⟩, HB.out⟩
        · go_wp2
          go_meet
          exact ⟨⟨true, rfl, fun h => by cases h⟩, HB.out⟩
      · obtain ⟨b, off, rfl, hbl, -, -, y2⟩ := ev_at HRQ1.out (j := 0) (by have := HN.out; omega)
        simp only [Nat.zero_mul, Nat.add_zero] at y2
        obtain ⟨D0, hD0⟩ : ∃ T, T = (evD Q 0).d := ⟨_, rfl⟩
        rw [← hD0] at y2
        have HD0 := Lib.hid hD0
        clear hD0
        have hpos : 0 < (N : Int) := by omega
        have hne : ((N : Int) == 0) = false := by simp; omega
        have hne' : ¬ (N : Int) = 0 := by omega
        go_wp2_with fail
        refine HIE.out.mono ?_
        rintro e w2 ⟨rfl, hb⟩
        have HB := Lib.hid hb
        have y2' := (hb.cell (p := ⟨b, off + 2, none⟩) hbl).trans y2
        clear hb y2
        cases v
        · go_wp2
          go_meet
          exact ⟨⟨true, rfl, fun h => by cases h⟩, HB.out⟩
        · cases D0
          · go_wp2
            go_meet
            exact ⟨⟨true, rfl, fun h => by cases h⟩, HB.out⟩
          · go_wp2
            go_meet
            exact ⟨⟨false, rfl, fun _ => ⟨HV.out.symm, by omega, HD0.out.symm⟩⟩, HB.out⟩
    case rest =>
      obtain ⟨⟨vv, rfl, hvv⟩, hb⟩ := hcut
      obtain ⟨w2, rfl⟩ : ∃ w2, w2 = wc := ⟨_, rfl⟩
      have HB2 := Lib.hid (HB1.out.trans (hb.mono HB1.out.size))
      have HRL2 := Lib.hid (HRL1.out.below hb)
      have HRQ2 := Lib.hid (show RdN w2 (.slice a2 N c2) N (flatEv Q) by have := HRQ1.out.below hb; rw [← HN.out] at this; exact this)
      clear hb
      cases vv
      · obtain ⟨hok, hN0, hd⟩ := hvv rfl
        have HOK := Lib.hid hok
        have HSO := Lib.hid (sortE_of hok)
        have HDN := Lib.hid hd
        clear hok hd hvv
        go_wp2
        go_loopw [7] (fun i wr => ∃ k : Nat, k ≤ N ∧ i = .int .i64 k ∧ (∀ j, j < k → (evD Q j).k < 24) ∧ Below w2.heap.size w2 wr) (fun i _ => N - (intOf i).toNat)
        case atStart => exact ⟨0, Nat.zero_le _, rfl, fun j hj => absurd hj (Nat.not_lt_zero _), Below.refl _ _⟩
        case round =>
          obtain ⟨k, hk, rfl, hks, hb⟩ := hrel
          have HKS := Lib.hid hks
          have HBw := Lib.hid hb
          have HBr := Lib.hid (HB2.out.trans (hb.mono HB2.out.size))
          have HRQr := Lib.hid (HRQ2.out.below hb)
          have HRLr := Lib.hid (HRL2.out.below hb)
          clear hb hks
          by_cases hlt : k < N
          · obtain ⟨b, off, rfl, hbl, -, y1, -⟩ := ev_at (l := Q) (by rw [← HN.out]; exact HRQr.out) (j := k) (by have := HN.out; omega)
            obtain ⟨K, hK⟩ : ∃ T, T = (evD Q k).k := ⟨_, rfl⟩
            rw [← hK] at y1
            have HK := Lib.hid hK
            clear hK
            by_cases h24 : K < 24
            · have h24' : ¬ (24 ≤ K) := by omega
              go_wp2
              go_roundw
              case rel => exact ⟨k + 1, by omega, by go_num, fun j hj => by
                rcases Nat.lt_or_ge j k with h | h
                · exact HKS.out j h
                · obtain rfl : j = k := by omega
                  rw [← HK.out]; exact h24, HBw.out⟩
              case measure => simp [intOf]; omega
            · have h24' : 24 ≤ K := by omega
              go_wp2
              go_ret
              exact ⟨rfl, HBr.out⟩
          · obtain rfl : k = N := by omega
            have hsw : ∀ j, j < k → swOk (evD Q j) = true := fun j hj => by
              rw [swOk, (HSO.out.all _ (mem_evD (by have := HN.out; omega))).2, decide_eq_true (HKS.out j hj)]; rfl
            have HSW := Lib.hid hsw
            clear hsw
            obtain ⟨F1, F2, F3, hF⟩ : ∃ F1 F2 F3, matV l t Q 1000000 = (F1, F2, F3) := ⟨_, _, _, rfl⟩
            have HF := Lib.hid hF
            clear hF
            have HCF := Lib.hid (show Calls Try.prog 32 #[.slice a1 l.length c1, .int .i64 t, .slice a2 k c2, .int .i64 1000000] wr fun e w' => e = .returned (.tuple #[.int .i64 F1, .int .i64 F2, .int .i64 F3]) ∧ Below wr.heap.size wr w' from implMatchCombo_q (.slice a1 l.length c1) l t (.slice a2 k c2) Q 1000000 F1 F2 F3 HF.out wr HL5.out (by have := HQ5.out; omega) (capLe_mk HCL.out) (capLe_mk hnc) HRLr.out (by have := HRQr.out; rw [HN.out] at this ⊢; exact this))
            have HBF := Lib.hid HBr.out
            go_wp2_with fail
            refine HCF.out.mono ?_
            rintro e w3 ⟨rfl, hb⟩
            have HB3 := Lib.hid (HBr.out.trans (hb.mono HBr.out.size))
            have HRL3 := Lib.hid (HRLr.out.below hb)
            have HRQ3 := Lib.hid (HRQr.out.below hb)
            have HNP := Lib.hid hN0
            clear hb hlt hk
            go_wp2
            go_loopw [11] (fun i wx => ∃ j : Nat, 1 ≤ j ∧ j ≤ k ∧ i = .int .i64 j ∧ Below w3.heap.size w3 wx) (fun i _ => k - (intOf i).toNat)
            case atStart => exact ⟨1, Nat.le_refl _, HNP.out, rfl, Below.refl _ _⟩
            case round =>
              obtain ⟨j, hj1, hjk, rfl, hb⟩ := hrel
              have HBw := Lib.hid hb
              have HBr2 := Lib.hid (HB3.out.trans (hb.mono HB3.out.size))
              have HRQ4 := Lib.hid (HRQ3.out.below hb)
              have HRL4 := Lib.hid (HRL3.out.below hb)
              clear hb
              by_cases hlt : j < k
              · obtain ⟨b, off, rfl, hbl, e0, -, -⟩ := ev_at (l := Q) (by rw [← HN.out]; exact HRQ4.out) (j := j) (by have := HN.out; omega)
                obtain ⟨T, hT⟩ : ∃ T, T = (evD Q j).t := ⟨_, rfl⟩
                rw [← hT] at e0
                obtain ⟨R1, R2, R3, hR⟩ : ∃ R1 R2 R3, matV l t (Q.take j) T = (R1, R2, R3) := ⟨_, _, _, rfl⟩
                have hkl : (Q.take j).length = j := by rw [List.length_take]; have := HN.out; omega
                have hsame : 0 < R1 → F1 = R1 ∧ F2 = R2 ∧ F3 = R3 := fun h0 => by
                  have h1 := matV_pre (l := l) (t := t) (now := 1000000) (Q := Q) (i := j) (by omega) (by have := HN.out; omega) (HSW.out j hlt) (by rw [← hT, hR]; exact h0)
                  rw [HF.out, ← hT, hR] at h1
                  simp only [Prod.mk.injEq] at h1
                  exact h1
                have HSAME := Lib.hid hsame
                have HOt := Lib.hid (show RdN wr (.slice (some ⟨b, off, none⟩) j c2) (Q.take j).length (flatEv (Q.take j)) by rw [hkl]; exact rdN_takeE HRQ4.out hjk)
                have HCON := Lib.hid (show ∀ w', RdN w' (.slice a1 l.length c1) l.length (flatCb l) → RdN w' (.slice (some ⟨b, off, none⟩) j c2) (Q.take j).length (flatEv (Q.take j)) → Calls Try.prog 32 #[.slice a1 l.length c1, .int .i64 t, .slice (some ⟨b, off, none⟩) j c2, .int .i64 T] w' fun e w'' => e = .returned (.tuple #[.int .i64 R1, .int .i64 R2, .int .i64 R3]) ∧ Below w'.heap.size w' w'' from fun w' h1 h2 => implMatchCombo_q (.slice a1 l.length c1) l t (.slice (some ⟨b, off, none⟩) j c2) (Q.take j) T R1 R2 R3 hR w' HL5.out (by omega) (capLe_mk HCL.out) (capLe_mk (by omega)) h1 h2)
                clear hT hkl hR hsame
                have hjc : j ≤ c2 := by omega
                have hj0 : (0 : Int) ≤ (j : Int) := by omega
                go_upto_region 15 with (fail)
                go_region_held3 (fun w' => w'.cell? ⟨b, off + j * 3, none⟩ = some (.int .i64 T)) (first | go_keep | simp [go_sem, *])
                  (first | (go_at_call 32; refine (HCON.out wr.drew (HRL4.out.below ((Below.refl _ _).drew)) (HOt.out.below ((Below.refl _ _).drew))).mono ?_; rintro e w5 ⟨rfl, hb⟩; have hbd : Below wr.heap.size wr w5 := ((Below.refl _ _).drew).trans hb; have HB5 := Lib.hid (HBw.out.trans (hbd.mono HBw.out.size)); have k3 := (hbd.cell (p := ⟨b, off + j * 3, none⟩) hbl).trans e0; clear hb hbd))
                clear k3 e0
                by_cases h0 : 0 < R1
                · obtain ⟨rfl, rfl, rfl⟩ := HSAME.out h0
                  go_wp2
                  go_roundw
                  case rel => exact ⟨j + 1, by omega, by omega, by go_num, HB5.out⟩
                  case measure => simp [intOf]; omega
                · go_wp2
                  go_roundw
                  case rel => exact ⟨j + 1, by omega, by omega, by go_num, HB5.out⟩
                  case measure => simp [intOf]; omega
              · obtain ⟨r, hr⟩ : ∃ r, r = okCbs l := ⟨_, rfl⟩
                have HRR := Lib.hid hr
                obtain ⟨b, off, rfl, hbl, y0, -, -⟩ := ev_at (l := Q) (by rw [← HN.out]; exact HRQ4.out) (j := 0) (by have := HN.out; have := HNP.out; omega)
                simp only [Nat.zero_mul, Nat.add_zero] at y0
                obtain ⟨T0, hT0⟩ : ∃ T, T = (evD Q 0).t := ⟨_, rfl⟩
                rw [← hT0] at y0
                have HT0 := Lib.hid hT0
                have HT40 := Lib.hid (show 0 ≤ T0 ∧ T0 ≤ 40 by rw [hT0]; exact HTM.out _ (mem_evD (by have := HN.out; have := HNP.out; omega)))
                clear hT0
                have HBAD := Lib.hid (show (okCbs l && inB t 1 200) = false → F1 = 0 from fun hbad => by
                  have h1 := HF.out
                  rw [matV_bad hbad] at h1
                  exact (congrArg Prod.fst h1).symm)
                go_wp2_with fail
                refine (specIsCombos_q _ l r hr _ HL5.out HRL4.out).mono ?_
                clear hr
                rintro e w5 ⟨rfl, hb⟩
                have HB5 := Lib.hid (HBr2.out.trans (hb.mono HBr2.out.size))
                have y0' := (hb.cell (p := ⟨b, off, none⟩) hbl).trans y0
                clear hb y0
                cases r
                · obtain rfl : F1 = 0 := HBAD.out (by rw [← HRR.out]; rfl)
                  go_wp2
                  go_ret
                  exact ⟨rfl, HB5.out⟩
                · by_cases ht1 : t < 1
                  · obtain rfl : F1 = 0 := HBAD.out (by rw [← HRR.out]; unfold inB; simp; omega)
                    go_wp2
                    go_ret
                    exact ⟨rfl, HB5.out⟩
                  · by_cases ht2 : 200 < t
                    · obtain rfl : F1 = 0 := HBAD.out (by rw [← HRR.out]; unfold inB; simp; omega)
                      go_wp2
                      go_ret
                      exact ⟨rfl, HB5.out⟩
                    · have hfin : MaFine (F1, F2, F3) Q.length T0 (T0 + t) := by
                        rw [← HF.out, HT0.out]
                        exact matV_fineQ HRR.out.symm (by unfold inB; exact decide_eq_true ⟨by omega, by omega⟩) (by have := HN.out; have := HNP.out; omega) HDN.out HSO.out (by rw [← HN.out]; exact HSW.out) (by rw [← HT0.out]; have := HT40.out; omega)
                      rw [← HN.out] at hfin
                      obtain ⟨p1, p2, p3, p4, p5⟩ := hfin
                      have p1 : 1 ≤ F1 := p1
                      have p2 : F1 ≤ (k : Int) := p2
                      have p3 : T0 ≤ F2 := p3
                      have p4 : F2 ≤ T0 + t := p4
                      have p5 : 0 ≤ F3 ↔ 1 < F1 := p5
                      have P5 := Lib.hid p5
                      have ht40 := HT40.out
                      have hws : wrap64 (T0 + t) = T0 + t := IntWalk.wrap64_in _ ⟨by omega, by omega⟩
                      clear p5
                      by_cases h1 : 1 < F1
                      · have h3 : 0 ≤ F3 := P5.out.2 h1
                        go_wp2
                        go_ret
                        exact ⟨rfl, HB5.out⟩
                      · have h3 : ¬ 0 ≤ F3 := fun h => h1 (P5.out.1 h)
                        go_wp2
                        go_ret
                        exact ⟨rfl, HB5.out⟩
      · go_wp2
        go_ret
        exact ⟨rfl, HB2.out⟩

end Go.Proofs.Ytagmdkblcgnddaa
