/- DERIVED. The program's ReleaseAll: it returns what a plain function says. -/
import Derived.Test.YtkhakelhfnoeoaaDoorEvImpl2
import Derived.Test.YtkhakelhfnoeoaaDoorCore
namespace Go.Proofs.YtkhakelhfnoeoaaDoor
open Go.RowKit

theorem evAt_ups (h T : Nat) (hh : h < 2 ^ 62) : ∀ n, evAt (h : Int) 0 T n = upsN h (T : Int) n
  | 0 => rfl
  | n + 1 => by
    have hz0 : hz 0 n = false := by unfold hz; rw [bz_zero]; rfl
    have hb := hz_nat h n hh
    rw [evAt, upsN, evAt_ups h T hh n, bz_zero, hz0]
    unfold hz at hb
    rcases bz01 (h : Int) n with h1 | h1
    · rw [h1] at hb ⊢
      rw [if_pos rfl, if_neg (by rw [← hb]; simp)]
    · rw [h1] at hb ⊢
      rw [if_neg (by decide), if_pos (by rw [← hb]; rfl)]

set_option maxHeartbeats 4000000 in
set_option maxRecDepth 100000 in
theorem implReleaseAll_any (v : Value) (l : List Ev) (time : Int) (w : World) (hl : l.length ≤ 1048576) (h : RdN w v l.length (flatEv l)) (hnil : ∀ c, v = .slice none 0 c → c = 0) :
    Calls Tryd.prog 11 #[v, .int .i64 time] w (EvOut (relR l time).1 (relR l time).2 w) := by
  obtain ⟨i0, hi, hy0, hy1, hy2⟩ := info_parts info_ev
  obtain ⟨av, capv, rfl⟩ : ∃ a cap, v = .slice a l.length cap := by obtain ⟨a, cap, hu, _⟩ := h; exact ⟨a, cap, hu⟩
  have HR0 := Lib.hid h
  have HLL := Lib.hid (show l.length ≤ maxLen by unfold maxLen; omega)
  have hh32 := heldV_lt l
  have hR : relR l time = if relOk l time = true then (relV l time, true) else ([], false) := rfl
  obtain ⟨ok, hok⟩ : ∃ ok, ok = okEvs l := ⟨_, rfl⟩
  obtain ⟨tb, htb⟩ : ∃ tb, tb = inB time 0 1000000 := ⟨_, rfl⟩
  obtain ⟨hd, hhd⟩ : ∃ x, x = heldV l := ⟨_, rfl⟩
  rw [← hhd] at hh32
  have hO : relOk l time = (ok && (okEvs (relV l time) && (tb && !(decide (0 < l.length) && decide (time < (evD l (l.length - 1)).t))))) := by rw [relOk, hok, htb]
  have HOK := Lib.hid hok
  have HTB := Lib.hid htb
  have HHD := Lib.hid hhd
  have HRR := Lib.hid hR
  have HO := Lib.hid hO
  clear hok htb hhd hR hO
  cases ok
  · have hno : relR l time = ([], false) := by rw [HRR.out, HO.out]; rfl
    have HNO := Lib.hid hno
    clear h hno
    have HB0 := Lib.hid (Below.refl w.heap.size w)
    go_enter Tryd.func11, Tryd.ntmps11
    go_wp2_with fail
    refine (followEvents_any _ l _ HLL.out HR0.out).mono ?_
    rw [← HOK.out, ← HHD.out]
    rintro e w1 ⟨rfl, hb⟩
    have HB1 := Lib.hid (HB0.out.trans (hb.mono HB0.out.size))
    clear hb
    go_wp2
    go_ret2
    exact ⟨.slice none 0 0, by rw [HNO.out]; rfl, by rw [HNO.out]; exact World.ownsRow_nil _ _ _ _, HB1.out⟩
  · cases tb
    · have hno : relR l time = ([], false) := by rw [HRR.out, HO.out]; simp
      have HNO := Lib.hid hno
      clear h hno
      have HB0 := Lib.hid (Below.refl w.heap.size w)
      go_enter Tryd.func11, Tryd.ntmps11
      go_wp2_with fail
      refine (followEvents_any _ l _ HLL.out HR0.out).mono ?_
      rw [← HOK.out, ← HHD.out]
      rintro e w1 ⟨rfl, hb⟩
      have HB1 := Lib.hid (HB0.out.trans (hb.mono HB0.out.size))
      clear hb
      go_wp2_with fail
      refine (isTime_any time _).mono ?_
      rw [← HTB.out]
      rintro e w0 ⟨rfl, rfl⟩
      go_wp2
      go_ret2
      exact ⟨.slice none 0 0, by rw [HNO.out]; rfl, by rw [HNO.out]; exact World.ownsRow_nil _ _ _ _, HB1.out⟩
    · have ht := of_decide_eq_true (show decide (0 ≤ time ∧ time ≤ 1000000) = true from HTB.out.symm)
      obtain ⟨T, rfl⟩ := Int.eq_ofNat_of_zero_le ht.1
      have HT := Lib.hid (show T ≤ 1000000 by omega)
      have hups := evAt_ups hd T (by omega)
      have hrv : relV l T = l ++ evAt hd 0 T 32 := by rw [relV, ← HHD.out, hups 32]
      have HRV := Lib.hid hrv
      clear ht hups hrv
      by_cases hbad : 0 < l.length ∧ (T : Int) < (evD l (l.length - 1)).t
      · have hno : relR l T = ([], false) := by rw [HRR.out, HO.out, decide_eq_true hbad.1, decide_eq_true hbad.2]; simp
        have HNO := Lib.hid hno
        rcases rd_evs h with ⟨hl0, _⟩ | ⟨b, off, cap, hpos, hu, hlt, hc⟩
        · exfalso; rw [hl0] at hbad; simp at hbad
        · simp only [Value.slice.injEq] at hu
          obtain ⟨rfl, _, rfl⟩ := hu
          obtain ⟨N, hN⟩ : ∃ N, l.length = N + 1 := ⟨l.length - 1, by omega⟩
          have hc0 := (hc N (by omega)).1
          have hlt0 := hbad.2
          rw [show l.length - 1 = N by omega] at hlt0
          obtain ⟨et, het⟩ : ∃ et, et = (evD l N).t := ⟨_, rfl⟩
          rw [← het] at hc0 hlt0
          have hpl : (0 : Int) < (l.length : Int) := by omega
          have hsub : (l.length : Int) - 1 = (N : Int) := by omega
          have hNl : N < l.length := by omega
          have HC := Lib.hid hc0
          have HLT := Lib.hid hlt
          clear h hno hbad hc hc0 hlt het hN
          have HB0 := Lib.hid (Below.refl w.heap.size w)
          go_enter Tryd.func11, Tryd.ntmps11
          go_wp2_with fail
          refine (followEvents_any _ l _ HLL.out HR0.out).mono ?_
          rw [← HOK.out, ← HHD.out]
          rintro e w1 ⟨rfl, hb⟩
          have HB1 := Lib.hid (HB0.out.trans (hb.mono HB0.out.size))
          clear hb
          go_wp2_with fail
          refine (isTime_any T _).mono ?_
          rw [← HTB.out]
          rintro e w0 ⟨rfl, rfl⟩
          have c0 := (HB1.out.cell (p := ⟨b, off + N * 3, none⟩) HLT.out).trans HC.out
          go_wp2
          go_ret2
          exact ⟨.slice none 0 0, by rw [HNO.out]; rfl, by rw [HNO.out]; exact World.ownsRow_nil _ _ _ _, HB1.out⟩
      · have hre : relOk l T = okEvs (relV l T) := by
          rw [HO.out]
          have : (decide (0 < l.length) && decide ((T : Int) < (evD l (l.length - 1)).t)) = false := by
            rw [Bool.eq_false_iff]
            intro h
            rw [Bool.and_eq_true] at h
            exact hbad ⟨of_decide_eq_true h.1, of_decide_eq_true h.2⟩
          rw [this]; simp
        have HRE := Lib.hid hre
        have HBAD := Lib.hid hbad
        have HH := Lib.hid h
        clear hre hbad h
        have HB0 := Lib.hid (Below.refl w.heap.size w)
        go_enter Tryd.func11, Tryd.ntmps11
        go_wp2_with fail
        refine (followEvents_any _ l _ HLL.out HR0.out).mono ?_
        rw [← HOK.out, ← HHD.out]
        rintro e w1 ⟨rfl, hb⟩
        have HB1 := Lib.hid (HB0.out.trans (hb.mono HB0.out.size))
        clear hb
        go_wp2_with fail
        refine (isTime_any T _).mono ?_
        rw [← HTB.out]
        rintro e w0 ⟨rfl, rfl⟩
        go_upto_region 4 with (fail)
        go_cut [34] (fun s34 wx => s34 = .bool false ∧ wx = w1)
        case first =>
          rcases rd_evs HH.out with ⟨rfl, a, cap, hu⟩ | ⟨b, off, cap, hpos, hu, hlt, hc⟩
          · go_wp2
            go_meet
            exact ⟨rfl, rfl⟩
          · simp only [Value.slice.injEq] at hu
            obtain ⟨rfl, _, rfl⟩ := hu
            obtain ⟨N, hN⟩ : ∃ N, l.length = N + 1 := ⟨l.length - 1, by omega⟩
            have hc0 := (hc N (by omega)).1
            have hlt0 : ¬ (T : Int) < (evD l N).t := fun h => HBAD.out ⟨by omega, by rw [show l.length - 1 = N by omega]; exact h⟩
            obtain ⟨et, het⟩ : ∃ et, et = (evD l N).t := ⟨_, rfl⟩
            rw [← het] at hc0 hlt0
            have hpl : (0 : Int) < (l.length : Int) := by omega
            have hsub : (l.length : Int) - 1 = (N : Int) := by omega
            have hNl : N < l.length := by omega
            have c0 := (HB1.out.cell (p := ⟨b, off + N * 3, none⟩) hlt).trans hc0
            have hd0 : decide ((T : Int) < et) = false := decide_eq_false hlt0
            clear hc hc0 hlt het hN
            go_wp2
            go_meet
            exact ⟨rfl, rfl⟩
        case rest =>
          obtain ⟨rfl, hwc⟩ := hcut
          subst wc
          go_upto_region 6 with (fail)
          go_cut [8] (fun s8 wx => ∃ a c, s8 = .slice a l.length c ∧ wx.ownsRow w.heap.size 30 3 (.slice a l.length c) l.length (flatEv l) ∧ Below w.heap.size w wx)
          case first =>
            have hszw : w.heap.size ≤ w1.heap.size := HB1.out.size
            have b63 : 0 + l.length ≤ maxLen := by unfold maxLen; omega
            have b47 : (0 + l.length) * 24 ≤ 140737488355328 := by omega
            rcases rd_evs HH.out with ⟨rfl, a, cap, hu⟩ | ⟨b, off, cap, hpos, hu, hlt, hc⟩
            · cases av with
              | none =>
                have hcap := hnil capv rfl
                subst hcap
                go_wp2_with (at_builtin; refine wpList_append_own_none rfl _ _ 24 rfl w.heap.size 30 i0 3 Tryd.underlying24 hi _ 0 (flatEv []) rfl (World.ownsRow_nil _ _ _ _) rfl ?_)
                go_wp2
                go_meet
                exact ⟨none, 0, rfl, World.ownsRow_nil _ _ _ _, HB1.out⟩
              | some ad =>
                go_wp2_with (at_builtin; refine wpList_append_own _ rfl _ _ 24 rfl w.heap.size 30 i0 (.agg #[.int .i64 0, .int .i64 0, .bool false]) 3 24 Tryd.underlying24 hi hy0 hy1 hy2 rfl (by decide) _ 0 (flatEv []) rfl (World.ownsRow_nil _ _ _ _) ad 0 capv (flatEv []) rfl rfl ?f1 ?f2 (by unfold maxLen; omega) (by omega) hszw ?_)
                try (case f1 => intro j u hu; simp [flatEv] at hu)
                try (case f2 => intro u hu; simp [flatEv] at hu)
                intro v' w2 hown hg _
                obtain ⟨a', c', rfl⟩ := owns_shape hown
                have HB2 := Lib.hid (HB1.out.grown hg hszw (fun q hq => by cases hq))
                have HO2 := Lib.hid hown
                clear hown hg
                go_wp2
                go_meet
                first | exact ⟨none, 0, rfl, World.ownsRow_nil _ _ _ _, HB2.out⟩ | exact ⟨a', c', by first | rfl | simp, by simpa [flatEv] using HO2.out, HB2.out⟩
            · simp only [Value.slice.injEq] at hu
              obtain ⟨rfl, _, rfl⟩ := hu
              have hc' : ∀ j u, (flatEv l)[j]? = some u → w1.cell? ((⟨b, off, none⟩ : Addr).add j) = some u := fun j u hu => by
                rcases HH.out.cases with ⟨h0, _⟩ | ⟨_, b', off', cap', hu', hlt', hcc⟩
                · omega
                · simp only [Value.slice.injEq, Option.some.injEq, Addr.mk.injEq, and_true, true_and] at hu'
                  obtain ⟨⟨rfl, rfl⟩, _⟩ := hu'
                  obtain ⟨hj, rfl⟩ := List.getElem?_eq_some_iff.mp hu
                  have hadd : (⟨b, off, none⟩ : Addr).add j = ⟨b, off + j, none⟩ := by unfold Addr.add; split <;> simp_all
                  rw [hadd]
                  exact (HB1.out.cell (p := ⟨b, off + j, none⟩) hlt).trans (hcc j hj)
              have HC := Lib.hid hc'
              clear hc hc'
              go_wp2_with (at_builtin; refine wpList_append_own _ rfl _ _ 24 rfl w.heap.size 30 i0 (.agg #[.int .i64 0, .int .i64 0, .bool false]) 3 24 Tryd.underlying24 hi hy0 hy1 hy2 rfl (by decide) _ 0 (flatEv []) rfl (World.ownsRow_nil _ _ _ _) ⟨b, off, none⟩ l.length capv (flatEv l) rfl (flatEv_len l) HC.out (flatEv_one l) b63 b47 hszw ?_)
              intro v' w2 hown hg _
              obtain ⟨a', c', rfl⟩ := owns_shape hown
              have HB2 := Lib.hid (HB1.out.grown hg hszw (fun q hq => by cases hq))
              have HO2 := Lib.hid hown
              clear hown hg
              go_wp2
              go_meet
              exact ⟨a', c', by first | rfl | simp, by simpa [flatEv] using HO2.out, HB2.out⟩
          case rest =>
            obtain ⟨a0, c0, rfl, hown, hb⟩ := hcut
            have HOa := Lib.hid hown
            have HBa := Lib.hid hb
            clear hown hb
            go_wp2_with fail
            refine (changesBetween_any hd 0 T _).mono ?_
            rintro e w3 ⟨u, rfl, hou, hb3⟩
            have hal := evAt_len hd 0 T 32
            obtain ⟨E, hE⟩ : ∃ E, E = evAt hd 0 T 32 := ⟨_, rfl⟩
            rw [← hE] at hou hal
            have HRV2 : Hid (relV l T = l ++ E) := Lib.hid (by rw [HRV.out, hE])
            have HB3 := Lib.hid (HBa.out.trans (hb3.mono HBa.out.size))
            have HO3 := Lib.hid (owns_below HOa.out hb3)
            have HOU := Lib.hid hou
            have hsz3 : w.heap.size ≤ w3.heap.size := HB3.out.size
            have b63 : l.length + E.length ≤ maxLen := by unfold maxLen; omega
            have b47 : (l.length + E.length) * 24 ≤ 140737488355328 := by omega
            clear hou hb3 hE HRV
            go_wp2_with (at_builtin; refine wpList_append_owns rfl _ _ 24 rfl w.heap.size 30 i0 (.agg #[.int .i64 0, .int .i64 0, .bool false]) 3 24 Tryd.underlying24 hi hy0 hy1 hy2 rfl (by decide) _ _ _ rfl HO3.out _ _ _ _ rfl HOU.out (flatEv_one E) b63 b47 hsz3 ?_)
            intro v' w4 hown hg
            rw [← List.length_append] at hown
            obtain ⟨a', c', rfl⟩ := owns_shape hown
            have HB4 := Lib.hid (HB3.out.grown hg hsz3 (fun q hq => by have := (HO3.out.lt q hq).1; omega))
            have HO4 : Hid (w4.ownsRow w.heap.size 30 3 (.slice a' (relV l T).length c') (relV l T).length (flatEv (relV l T))) := Lib.hid (by rw [HRV2.out]; unfold flatEv at hown ⊢; rw [List.flatMap_append]; exact hown)
            rw [← HRV2.out]
            have hle : (relV l T).length ≤ maxLen := by rw [HRV2.out, List.length_append]; exact b63
            obtain ⟨ob, hob⟩ : ∃ ob, ob = okEvs (relV l T) := ⟨_, rfl⟩
            have HOB := Lib.hid hob
            have HLE := Lib.hid hle
            clear hown hg hob hle b63 b47
            go_wp2_with fail
            refine (implIsEvents_any _ (relV l T) _ HLE.out (RdN.of_owns HO4.out)).mono ?_
            rw [← HOB.out]
            rintro e w5 ⟨rfl, hb5⟩
            have HB5 := Lib.hid (HB4.out.trans (hb5.mono HB4.out.size))
            have HO5 := Lib.hid (owns_below HO4.out hb5)
            clear hb5
            cases ob
            · have hno : relR l T = ([], false) := by rw [HRR.out, HRE.out, ← HOB.out]; rfl
              have HNO := Lib.hid hno
              clear hno
              go_wp2
              go_ret2
              exact ⟨.slice none 0 0, by rw [HNO.out]; rfl, by rw [HNO.out]; exact World.ownsRow_nil _ _ _ _, HB5.out⟩
            · have hno : relR l T = (relV l T, true) := by rw [HRR.out, HRE.out, ← HOB.out]; rfl
              have HNO := Lib.hid hno
              clear hno
              go_wp2
              go_ret2
              exact ⟨_, by rw [HNO.out]; rfl, by rw [HNO.out]; exact HO5.out, HB5.out⟩

end Go.Proofs.YtkhakelhfnoeoaaDoor
