/- DERIVED. Both sides' ChoiceOf: the choice and its time. Called with any timing, key, times, and any events that read as known data. -/
import Derived.Test.YtjfckchoklepbaaTmChc
import Derived.Test.YtjfckchoklepbaaTmMath
import Derived.Test.YtjfckchoklepbaaEvImpl
import Derived.Test.YtjfckchoklepbaaDebImpl
import Derived.Test.YtjfckchoklepbaaSeqSpec
import Derived.BigRegion
namespace Go.Proofs.Ytjfckchoklepbaa
open Go.RowKit

set_option maxRecDepth 100000 in
set_option maxHeartbeats 16000000 in
theorem implChoiceOf_any (t : Tm) (key time now : Int) (v : Value) (l : List Ev) (w : World) (hl : l.length ≤ maxLen) (h : RdN w v l.length (flatEv l)) :
    Calls Try.prog 19 #[tmv t.t t.q t.f, .int .i64 key, .int .i64 time, v, .int .i64 now] w fun e w' => e = .returned (.tuple #[.int .i64 (chcV t key time l now).1, .int .i64 (chcV t key time l now).2]) ∧ Below w.heap.size w w' := by
  obtain ⟨⟨r1, r2⟩, hr⟩ : ∃ c, c = chcV t key time l now := ⟨_, rfl⟩
  rw [← hr]
  show Calls Try.prog 19 #[tmv t.t t.q t.f, .int .i64 key, .int .i64 time, v, .int .i64 now] w fun e w' => e = .returned (.tuple #[.int .i64 r1, .int .i64 r2]) ∧ Below w.heap.size w w'
  rw [chcV] at hr
  obtain ⟨b1, h1⟩ : ∃ b, b = okTm t := ⟨_, rfl⟩
  obtain ⟨b2, h2⟩ : ∃ b, b = inB time 0 1000000 := ⟨_, rfl⟩
  rw [← h1, ← h2] at hr
  obtain ⟨a, cap, rfl, hc⟩ := rd_evs' h
  obtain ⟨n, hn⟩ : ∃ n, n = l.length := ⟨_, rfl⟩
  rw [← hn]
  unfold maxLen at hl
  obtain ⟨tt, tq, tf⟩ := t
  have HR := Lib.hid hr
  have H1 := Lib.hid h1
  have H2 := Lib.hid h2
  have HC := Lib.hid hc
  have HN := Lib.hid hn
  have hnl : n ≤ 9223372036854775807 := by rw [hn]; omega
  clear hr h1 h2 hc h hl hn
  obtain ⟨W, hW⟩ : ∃ W, W = w.alloc (.cells #[.int .i64 tt, .int .i64 tq, .int .i64 tf] 47) := ⟨_, rfl⟩
  have HX0 := Lib.hid (show Bxd W w.heap.size [.int .i64 tt, .int .i64 tq, .int .i64 tf] by rw [hW]; exact Bxd.new _ _ _)
  have HB0 := Lib.hid (show Below w.heap.size w W by rw [hW]; exact (Below.refl _ _).alloc (Nat.le_refl _) _)
  have HS0 := Lib.hid (show w.heap.size < W.heap.size by rw [hW]; simp)
  have HW := Lib.hid hW
  clear hW
  go_enter Try.func19, Try.ntmps19
  go_upto_region 1 with (fail)
  rw [← HW.out]
  have c0 := HX0.out.at 0 _ rfl
  have c1 := HX0.out.at 1 _ rfl
  have c2 := HX0.out.at 2 _ rfl
  go_wp2_with fail
  refine (implIsTiming_q tt tq tf b1 H1.out _).mono ?_
  rintro e w1 ⟨rfl, hb⟩
  have HB1 := Lib.hid (HB0.out.trans (hb.mono HB0.out.size))
  have HS1 := Lib.hid (Nat.lt_of_lt_of_le HS0.out hb.size)
  have HX1 := Lib.hid (HX0.out.below hb HS0.out)
  clear hb c0 c1 c2
  have c0 := HX1.out.at 0 _ rfl
  have c1 := HX1.out.at 1 _ rfl
  have c2 := HX1.out.at 2 _ rfl
  cases b1
  · obtain ⟨rfl, rfl⟩ : r1 = 0 ∧ r2 = 0 := Prod.mk.inj HR.out
    go_wp2
    go_ret2
    exact ⟨rfl, HB1.out⟩
  · go_wp2_with fail
    refine (isTime_q time b2 H2.out _).mono ?_
    rintro e w0 ⟨rfl, hww⟩
    rw [← hww]
    clear hww
    cases b2
    · obtain ⟨rfl, rfl⟩ : r1 = 0 ∧ r2 = 0 := Prod.mk.inj HR.out
      go_wp2
      go_ret2
      exact ⟨rfl, HB1.out⟩
    · have hti := of_decide_eq_true (show decide (0 ≤ time ∧ time ≤ 1000000) = true from H2.out.symm)
      have hto := H1.out.symm
      simp only [okTm, inB, Bool.and_eq_true, decide_eq_true_eq] at hto
      obtain ⟨fin, hfin⟩ : ∃ f, f = time + tt := ⟨_, rfl⟩
      have hf1 : time + tt ≤ 9223372036854775807 := by omega
      have hf2 : -9223372036854775808 ≤ time + tt := by omega
      have HCG0 := Lib.hid (show chcG ⟨tt, tq, tf⟩ key fin now l 0 = (r1, r2) by rw [hfin]; exact HR.out.symm)
      clear hto
      go_upto_region 5 with (fail)
      rw [← hfin]
      clear hf1 hf2 hfin hti
      go_wp2
      go_loopw [13, 30] (fun p i wr => ∃ (j h : Nat), j ≤ n ∧ i = .int .i64 j ∧ p = .int .i64 (h : Nat) ∧ h < 2 ^ 32 ∧ chcG ⟨tt, tq, tf⟩ key fin now (l.drop j) h = (r1, r2) ∧ Below w1.heap.size w1 wr) (fun _ i _ => n - (intOf i).toNat)
      case atStart => exact ⟨0, 0, Nat.zero_le _, rfl, rfl, by decide, HCG0.out, Below.refl _ _⟩
      case round =>
        obtain ⟨j, h, hj, rfl, rfl, hh, hcg, hb⟩ := hrel
        have HBw := Lib.hid hb
        have HXr := Lib.hid (HX1.out.below hb HS1.out)
        have HBR0 := Lib.hid (HB1.out.trans (hb.mono HB1.out.size))
        clear hb c0 c1 c2 HCG0
        have c0 := HXr.out.at 0 _ rfl
        have c1 := HXr.out.at 1 _ rfl
        have c2 := HXr.out.at 2 _ rfl
        by_cases hlt : j < n
        · have hjl : j < l.length := by rw [← HN.out]; exact hlt
          obtain ⟨b, off, rfl, hbl, e0, e1, e2⟩ := HC.out j hjl
          rw [evD_drop hjl] at hcg
          obtain ⟨et, hetv⟩ : ∃ x, x = (evD l j).t := ⟨_, rfl⟩
          obtain ⟨ek, hekv⟩ : ∃ x, x = (evD l j).k := ⟨_, rfl⟩
          obtain ⟨ed, hedv⟩ : ∃ x, x = (evD l j).d := ⟨_, rfl⟩
          have hev : evD l j = ⟨et, ek, ed⟩ := by rw [hetv, hekv, hedv]
          rw [← hetv] at e0
          rw [← hekv] at e1
          rw [← hedv] at e2
          obtain ⟨ob, hob⟩ : ∃ o, o = okEv ⟨et, ek, ed⟩ := ⟨_, rfl⟩
          rw [hev, chcG, ← hob] at hcg
          simp only at hcg
          obtain ⟨D, hD⟩ : ∃ D, D = l.drop (j + 1) := ⟨_, rfl⟩
          rw [← hD] at hcg
          have HD := Lib.hid hD
          have HOB := Lib.hid hob
          have f0 := (HBR0.out.cell (p := ⟨b, off + j * 3, none⟩) hbl).trans e0
          have f1 := (HBR0.out.cell (p := ⟨b, off + j * 3 + 1, none⟩) hbl).trans e1
          have f2 := (HBR0.out.cell (p := ⟨b, off + j * 3 + 2, none⟩) hbl).trans e2
          have HCG1 := Lib.hid hcg
          clear hetv hekv hedv hev hob hD hcg e0 e1 e2
          go_upto_region 8 with (fail)
          obtain ⟨W2, hW2⟩ : ∃ W, W = wr.alloc (.cells #[.int .i64 et, .int .i64 ek, .bool ed] 55) := ⟨_, rfl⟩
          obtain ⟨eb, heb⟩ : ∃ x, x = wr.heap.size := ⟨_, rfl⟩
          rw [← hW2, ← heb]
          have hb2 : Below wr.heap.size wr W2 := by rw [hW2]; exact below_a1 _ _
          have HE2 := Lib.hid (show W2.heap[eb]? = some (.cells #[.int .i64 et, .int .i64 ek, .bool ed] 55 (0, 0)) by rw [hW2, heb]; exact heap_alloc_new wr _)
          have HB2 := Lib.hid (HBw.out.trans (hb2.mono HBw.out.size))
          clear f0 f1 f2 c0 c1 c2 hW2 heb hb2
          obtain ⟨g0, g0'⟩ := cells_of_heap HE2.out 0 (by simp)
          obtain ⟨g1, g1'⟩ := cells_of_heap HE2.out 1 (by simp)
          obtain ⟨g2, g2'⟩ := cells_of_heap HE2.out 2 (by simp)
          simp only [List.getElem_toArray, List.getElem_cons_zero, List.getElem_cons_succ] at g0 g1 g2
          go_wp2_with fail
          refine (implIsEvent_q et ek ed ob HOB.out _).mono ?_
          rintro e w3 ⟨rfl, hb⟩
          have HB3 := Lib.hid (HB2.out.trans (hb.mono HB2.out.size))
          have HE3 := Lib.hid (blk_b HE2.out hb)
          have HX3 := Lib.hid (HX1.out.below HB3.out HS1.out)
          have HBR := Lib.hid (HB1.out.trans (HB3.out.mono HB1.out.size))
          clear hb g0 g0' g1 g1' g2 g2'
          have c0 := HX3.out.at 0 _ rfl
          have c1 := HX3.out.at 1 _ rfl
          have c2 := HX3.out.at 2 _ rfl
          obtain ⟨g0, g0'⟩ := cells_of_heap HE3.out 0 (by simp)
          obtain ⟨g1, g1'⟩ := cells_of_heap HE3.out 1 (by simp)
          obtain ⟨g2, g2'⟩ := cells_of_heap HE3.out 2 (by simp)
          simp only [List.getElem_toArray, List.getElem_cons_zero, List.getElem_cons_succ] at g0 g1 g2
          cases ob
          · have HCG := Lib.hid (show ((0 : Int), (0 : Int)) = (r1, r2) from HCG1.out)
            obtain ⟨rfl, rfl⟩ := Prod.mk.inj HCG.out
            go_wp2
            go_ret2
            exact ⟨rfl, HBR.out⟩
          · obtain ⟨ht0, ht1, hk0, hk1⟩ := okEv_key HOB.out.symm
            simp only at ht0 ht1 hk0 hk1
            have HCG2 := Lib.hid (show (if fin ≤ et then ((2 : Int), fin) else if ek = key ∧ ed = false then (1, et) else if ek = key then chcG ⟨tt, tq, tf⟩ key fin now D h else if ed = true ∧ tf = 1 then (2, et) else if ed = true then chcG ⟨tt, tq, tf⟩ key fin now D (h ||| 2 ^ ek.toNat) else if tf = 2 ∧ h.testBit ek.toNat = true then (2, et) else chcG ⟨tt, tq, tf⟩ key fin now D h) = (r1, r2) from HCG1.out)
            clear HCG1
            by_cases hge : fin ≤ et
            · have HCG := HCG2.out
              rw [if_pos hge] at HCG
              obtain ⟨rfl, rfl⟩ := Prod.mk.inj HCG
              go_wp2
              go_ret2
              exact ⟨rfl, HBR.out⟩
            · have HCG3 := HCG2.out
              rw [if_neg hge] at HCG3
              have HCG4 := Lib.hid HCG3
              clear HCG3 HCG2
              by_cases hk : ek = key
              · have hkb : (ek == key) = true := by rw [hk]; simp
                cases ed
                · have HCG := HCG4.out
                  rw [if_pos ⟨hk, rfl⟩] at HCG
                  obtain ⟨rfl, rfl⟩ := Prod.mk.inj HCG
                  clear hk
                  go_upto_region 14 with (fail)
                  go_region
                  all_goals
                    go_wp2
                    go_ret2
                    exact ⟨rfl, by first | exact HBR.out | exact HBR.out.drew | exact HBR.out.drew.drew⟩
                · have HCG := HCG4.out
                  rw [if_neg (by rintro ⟨_, h⟩; cases h), if_pos hk] at HCG
                  have HCG5 := Lib.hid HCG
                  clear hk HCG HCG4
                  go_wp2
                  go_roundw
                  case rel => exact ⟨j + 1, h, by omega, by go_num, rfl, hh, by rw [← HD.out]; exact HCG5.out, HB3.out⟩
                  case measure => simp [intOf]; omega
              · have hkb : (ek == key) = false := beq_false_of_ne hk
                have HCG5 := Lib.hid (show (if ed = true ∧ tf = 1 then ((2 : Int), et) else if ed = true then chcG ⟨tt, tq, tf⟩ key fin now D (h ||| 2 ^ ek.toNat) else if tf = 2 ∧ h.testBit ek.toNat = true then (2, et) else chcG ⟨tt, tq, tf⟩ key fin now D h) = (r1, r2) by
                  have h5 := HCG4.out
                  rw [if_neg (fun h => hk h.1), if_neg hk] at h5; exact h5)
                obtain ⟨kn, rfl⟩ := Int.eq_ofNat_of_zero_le hk0
                clear hk HCG4
                have hw := wrap64_pow62 (k := kn) (by omega)
                have hp : 2 ^ kn < 2 ^ 32 := Nat.pow_lt_pow_right (by decide) (by omega)
                have hx := or_nat h (2 ^ kn) (by omega) (by omega)
                have hor : h ||| 2 ^ kn < 2 ^ 32 := Nat.or_lt_two_pow hh hp
                obtain ⟨pw, hpw⟩ : ∃ p, p = 2 ^ kn := ⟨_, rfl⟩
                rw [← hpw] at hw hx hor
                have HPW := Lib.hid hpw
                have HOR := Lib.hid hor
                clear hpw hp hor
                obtain ⟨dh, hdh⟩ : ∃ o, o = dhV tf ed h kn := ⟨_, rfl⟩
                have HDH := Lib.hid hdh
                have hkn : kn < 62 := by omega
                clear hdh
                go_wp2_with fail
                refine (decidesHold_q tt tq tf et kn ed h dh HDH.out hkn hh _).mono ?_
                rintro e w4 ⟨rfl, hb⟩
                have HB4 := Lib.hid (HB3.out.trans (hb.mono HB3.out.size))
                have HE4 := Lib.hid (blk_b HE3.out hb)
                have HBR4 := Lib.hid (HB1.out.trans (HB4.out.mono HB1.out.size))
                clear hb g0 g0' g1 g1' g2 g2' c0 c1 c2
                obtain ⟨g0, g0'⟩ := cells_of_heap HE4.out 0 (by simp)
                obtain ⟨g1, g1'⟩ := cells_of_heap HE4.out 1 (by simp)
                obtain ⟨g2, g2'⟩ := cells_of_heap HE4.out 2 (by simp)
                simp only [List.getElem_toArray, List.getElem_cons_zero, List.getElem_cons_succ] at g0 g1 g2
                cases dh
                · cases ed
                  · have HCG := Lib.hid (show chcG ⟨tt, tq, tf⟩ key fin now D h = (r1, r2) by
                      have h5 := HCG5.out
                      have h6 := HDH.out
                      rw [if_neg (by rintro ⟨h, _⟩; cases h), if_neg (by intro h; cases h), if_neg] at h5
                      · exact h5
                      · rintro ⟨h7, h8⟩
                        rw [Int.toNat_natCast] at h8
                        rw [dhV, if_neg (by omega), if_pos h7, h8] at h6
                        cases h6)
                    clear HCG5
                    go_wp2
                    go_roundw
                    case rel => exact ⟨j + 1, h, by omega, by go_num, rfl, hh, by rw [← HD.out]; exact HCG.out, HB4.out⟩
                    case measure => simp [intOf]; omega
                  · have HCG := Lib.hid (show chcG ⟨tt, tq, tf⟩ key fin now D (h ||| pw) = (r1, r2) by
                      have h5 := HCG5.out
                      have h6 := HDH.out
                      rw [if_neg, if_pos rfl, Int.toNat_natCast, ← HPW.out] at h5
                      · exact h5
                      · rintro ⟨_, h7⟩
                        rw [dhV, if_pos h7] at h6
                        cases h6)
                    clear HCG5
                    go_wp2
                    go_roundw
                    case rel => exact ⟨j + 1, h ||| pw, by omega, by go_num, rfl, HOR.out, by rw [← HD.out]; exact HCG.out, HB4.out⟩
                    case measure => simp [intOf]; omega
                · have HCG : ((2 : Int), et) = (r1, r2) := by
                    have h5 := HCG5.out
                    have h6 := HDH.out
                    rw [dhV] at h6
                    by_cases h7 : tf = 1
                    · rw [if_pos h7] at h6
                      rw [if_pos ⟨h6.symm, h7⟩] at h5
                      exact h5
                    · rw [if_neg h7] at h6
                      by_cases h8 : tf = 2
                      · rw [if_pos h8] at h6
                        have h9 := h6.symm
                        rw [Bool.and_eq_true, Bool.not_eq_true'] at h9
                        rw [if_neg (fun h => h7 h.2), if_neg (by rw [h9.1]; intro h; cases h), if_pos ⟨h8, by rw [Int.toNat_natCast]; exact h9.2⟩] at h5
                        exact h5
                      · rw [if_neg h8] at h6; cases h6
                  obtain ⟨rfl, rfl⟩ := Prod.mk.inj HCG
                  clear HCG5
                  go_upto_region 16 with (fail)
                  go_region
                  all_goals
                    go_wp2
                    go_ret2
                    exact ⟨rfl, by first | exact HBR4.out | exact HBR4.out.drew | exact HBR4.out.drew.drew⟩
        · obtain rfl : j = n := by omega
          have hd : l.drop j = [] := List.drop_of_length_le (by rw [← HN.out]; exact Nat.le_refl _)
          rw [hd, chcG] at hcg
          by_cases hge : fin ≤ now
          · rw [if_pos hge] at hcg
            obtain ⟨rfl, rfl⟩ := Prod.mk.inj hcg
            clear hcg
            go_wp2
            go_ret2
            exact ⟨rfl, HBR0.out⟩
          · rw [if_neg hge] at hcg
            obtain ⟨rfl, rfl⟩ := Prod.mk.inj hcg
            clear hcg
            go_wp2
            go_ret2
            exact ⟨rfl, HBR0.out⟩

end Go.Proofs.Ytjfckchoklepbaa
