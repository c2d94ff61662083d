/- DERIVED. FnFlavors over the program's choice: what is held by its term alone is held with every flavor, and no later. No condition. -/
import Derived.Test.YtjfckchoklepbaaTmDraw
import Derived.Test.YtjfckchoklepbaaTmChcI
import Derived.Test.YtjfckchoklepbaaTmMath2
namespace Go.Proofs.Ytjfckchoklepbaa
open Go.RowKit

theorem chcA_02 {T q key fin now : Int} : ∀ {l : List Ev} {lo : Int} {h h' : Nat}, sortE l lo → Sooner (chcG ⟨T, q, 0⟩ key fin now l h) (chcG ⟨T, q, 2⟩ key fin now l h')
  | [], _, h, h', _ => by rw [chcG, chcG]; exact Sooner.refl _
  | e :: l, lo, h, h', hs => by
    have ih := fun h h' => chcA_02 (T := T) (q := q) (key := key) (fin := fin) (now := now) (l := l) (h := h) (h' := h') hs.2.2
    have hv : ¬ okEv e = false := by rw [hs.1]; decide
    rw [chcG, chcG, if_neg hv, if_neg hv]
    by_cases c2 : fin ≤ e.t
    · rw [if_pos c2, if_pos c2]; exact Sooner.refl _
    rw [if_neg c2, if_neg c2]
    by_cases c3 : e.k = key ∧ e.d = false
    · rw [if_pos c3, if_pos c3]; exact Sooner.refl _
    rw [if_neg c3, if_neg c3]
    by_cases c4 : e.k = key
    · rw [if_pos c4, if_pos c4]; exact ih _ _
    have q0 : ¬ (e.d = true ∧ (⟨T, q, 0⟩ : Tm).f = 1) := fun h => absurd (show (0 : Int) = 1 from h.2) (by decide)
    have q2 : ¬ (e.d = true ∧ (⟨T, q, 2⟩ : Tm).f = 1) := fun h => absurd (show (2 : Int) = 1 from h.2) (by decide)
    have q3 : ¬ ((⟨T, q, 0⟩ : Tm).f = 2 ∧ h.testBit e.k.toNat = true) := fun h => absurd (show (0 : Int) = 2 from h.1) (by decide)
    rw [if_neg c4, if_neg c4, if_neg q0, if_neg q2]
    by_cases c6 : e.d = true
    · rw [if_pos c6, if_pos c6]; exact ih _ _
    rw [if_neg c6, if_neg c6, if_neg q3]
    by_cases c7 : (⟨T, q, 2⟩ : Tm).f = 2 ∧ h'.testBit e.k.toNat = true
    · rw [if_pos c7]
      exact ⟨fun ha => ⟨rfl, chcG_late (t := ⟨T, q, 0⟩) (key := key) (fin := fin) (now := now) (l := l) (h := h) hs.2.2 (by omega) (fun h0 => by rw [h0] at ha; cases ha)⟩, n21⟩
    rw [if_neg c7]
    exact ih _ _
theorem chcA_21 {T q key fin now : Int} : ∀ {l : List Ev} {lo : Int} {h' : Nat}, sortE l lo → Sooner (chcG ⟨T, q, 2⟩ key fin now l 0) (chcG ⟨T, q, 1⟩ key fin now l h')
  | [], _, h', _ => by rw [chcG, chcG]; exact Sooner.refl _
  | e :: l, lo, h', hs => by
    have ih := fun h' => chcA_21 (T := T) (q := q) (key := key) (fin := fin) (now := now) (l := l) (h' := h') hs.2.2
    have hv : ¬ okEv e = false := by rw [hs.1]; decide
    rw [chcG, chcG, if_neg hv, if_neg hv]
    by_cases c2 : fin ≤ e.t
    · rw [if_pos c2, if_pos c2]; exact Sooner.refl _
    rw [if_neg c2, if_neg c2]
    by_cases c3 : e.k = key ∧ e.d = false
    · rw [if_pos c3, if_pos c3]; exact Sooner.refl _
    rw [if_neg c3, if_neg c3]
    by_cases c4 : e.k = key
    · rw [if_pos c4, if_pos c4]; exact ih _
    have q2 : ¬ (e.d = true ∧ (⟨T, q, 2⟩ : Tm).f = 1) := fun h => absurd (show (2 : Int) = 1 from h.2) (by decide)
    have q4 : ¬ ((⟨T, q, 2⟩ : Tm).f = 2 ∧ (0 : Nat).testBit e.k.toNat = true) := fun h => by have := h.2; simp at this
    have q5 : ¬ ((⟨T, q, 1⟩ : Tm).f = 2 ∧ h'.testBit e.k.toNat = true) := fun h => absurd (show (1 : Int) = 2 from h.1) (by decide)
    rw [if_neg c4, if_neg c4, if_neg q2]
    by_cases c6 : e.d = true
    · rw [if_pos c6, if_pos (show e.d = true ∧ (⟨T, q, 1⟩ : Tm).f = 1 from ⟨c6, rfl⟩)]
      exact ⟨fun ha => ⟨rfl, chcG_late (t := ⟨T, q, 2⟩) (key := key) (fin := fin) (now := now) (l := l) (h := 0 ||| 2 ^ e.k.toNat) hs.2.2 (by omega) (fun h0 => by rw [h0] at ha; cases ha)⟩, n21⟩
    rw [if_neg c6, if_neg q4, if_neg (show ¬ (e.d = true ∧ (⟨T, q, 1⟩ : Tm).f = 1) from fun h => c6 h.1), if_neg c6, if_neg q5]
    exact ih _

theorem okTm_fl {T q f g : Int} (h : okTm ⟨T, q, f⟩ = true) (h0 : 0 ≤ g) (h2 : g ≤ 2) : okTm ⟨T, q, g⟩ = true := by
  unfold okTm at h ⊢
  rw [Bool.and_eq_true, Bool.and_eq_true] at h
  rw [Bool.and_eq_true, Bool.and_eq_true]
  exact ⟨h.1, h.2.1, by unfold inB; exact decide_eq_true ⟨h0, h2⟩⟩
theorem chcV_02 {T q f key time : Int} {l : List Ev} (hk : okTm ⟨T, q, f⟩ = true) (hs : sortE l 0) : Sooner (chcV ⟨T, q, 0⟩ key time l 1000000) (chcV ⟨T, q, 2⟩ key time l 1000000) := by
  unfold chcV
  rw [okTm_fl (g := 0) hk (by decide) (by decide), okTm_fl (g := 2) hk (by decide) (by decide)]
  split
  · exact chcA_02 hs
  · exact Sooner.refl _
theorem chcV_21 {T q f key time : Int} {l : List Ev} (hk : okTm ⟨T, q, f⟩ = true) (hs : sortE l 0) : Sooner (chcV ⟨T, q, 2⟩ key time l 1000000) (chcV ⟨T, q, 1⟩ key time l 1000000) := by
  unfold chcV
  rw [okTm_fl (g := 2) hk (by decide) (by decide), okTm_fl (g := 1) hk (by decide) (by decide)]
  split
  · exact chcA_21 hs
  · exact Sooner.refl _

set_option maxHeartbeats 8000000 in
set_option maxRecDepth 100000 in
theorem lawFlavors_all (a0 : Option Addr) (len cap0 : Nat) (bs : List Int) (w : World) (hlen : bs.length = len) (hz : ∀ z ∈ bs, (Lit.int .u8 z).wf = true) (h : Rd w (.slice a0 len cap0) (bs.map (.int .u8))) :
    Calls Try.prog 5 #[.slice a0 len cap0] w fun e w' => e = .returned (.bool true) ∧ Below w.heap.size w w' := by
  subst hlen
  by_cases hbig : (1048576 : Int) < bs.length
  · go_enter Try.func5, Try.ntmps5
    go_wp2_with fail
    refine (big_any a0 bs.length cap0 _).mono ?_
    rw [decide_eq_true hbig]
    rintro e w0 ⟨rfl, rfl⟩
    go_wp2
    go_ret
    exact ⟨rfl, Below.refl _ _⟩
  · have HZ := Lib.hid (fun z (m : z ∈ bs) => wf_byte (hz z m))
    have HL := Lib.hid (show bs.length ≤ 1099511627776 by omega)
    have HR := Lib.hid h
    have HBG := Lib.hid (decide_eq_false hbig)
    clear hz h hbig
    go_enter Try.func5, Try.ntmps5
    go_wp2_with fail
    refine (big_any a0 bs.length cap0 _).mono ?_
    rw [HBG.out]
    rintro e v0 ⟨rfl, rfl⟩
    go_wp2_with fail
    refine (DrawChoiceOf_draw a0 cap0 bs _ HL.out HZ.out HR.out).mono ?_
    rintro e w1 ⟨t, q, f, key, time, now, g, c, l, rfl, hl5, ho, hb⟩
    have hcap : l.length ≤ c := by
      rcases ho.2 with ⟨e1, e2⟩ | ⟨g', cap', cur, e1, _, _, hnc, _⟩
      · simp only [Value.slice.injEq] at e1; omega
      · simp only [Value.slice.injEq] at e1
        rw [e1.2.2]; exact hnc
    have HB1 := Lib.hid hb
    have HO1 := Lib.hid (RdN.of_owns ho)
    have hlm : l.length ≤ maxLen := by unfold maxLen; omega
    clear ho hb
    go_upto_region 4 with (fail)
    obtain ⟨gt, hgt⟩ : ∃ g, g = w1.heap.size := ⟨_, rfl⟩
    obtain ⟨w2, hw2⟩ : ∃ x, x = w1.alloc (.cells #[.int .i64 t, .int .i64 q, .int .i64 f] 47) := ⟨_, rfl⟩
    have hb2 : Below w1.heap.size w1 w2 := by rw [hw2]; exact (Below.refl _ _).alloc (Nat.le_refl _) _
    have KT2 := Lib.hid (show w2.heap[gt]? = some (.cells #[.int .i64 t, .int .i64 q, .int .i64 f] 47 (0, 0)) by rw [hw2, hgt]; exact heap_alloc_new _ _)
    have HB2 := Lib.hid (HB1.out.trans (hb2.mono HB1.out.size))
    have HO2 := Lib.hid (HO1.out.below hb2)
    have HN2 := Lib.hid hb2
    have HGT := Lib.hid (show w1.heap.size ≤ gt by omega)
    have hgw : w.heap.size ≤ gt := by rw [hgt]; exact HB1.out.size
    rw [← hw2, ← hgt]
    clear hw2 hgt hb2
    go_wp2_with fail
    refine (specIsEvents_any _ l _ hlm HO2.out).mono ?_
    rintro e w3 ⟨rfl, hb⟩
    have HB3 := Lib.hid (HB2.out.trans (hb.mono HB2.out.size))
    have HO3 := Lib.hid (HO2.out.below hb)
    have KT3 := Lib.hid ((hb.block gt (Array.getElem?_eq_some_iff.mp KT2.out).1).trans KT2.out)
    have HN3 := Lib.hid (HN2.out.trans (hb.mono HN2.out.size))
    clear hb
    cases hok : okEvs l
    · go_wp2
      go_ret
      exact ⟨rfl, HB3.out⟩
    · have HS := Lib.hid (sortE_of hok)
      clear hok
      obtain ⟨o, ho⟩ : ∃ o, o = okTm ⟨t, q, f⟩ := ⟨_, rfl⟩
      obtain ⟨ct0, fr0⟩ := cells_of_heap KT3.out 0 (by simp)
      obtain ⟨ct1, fr1⟩ := cells_of_heap KT3.out 1 (by simp)
      obtain ⟨ct2, fr2⟩ := cells_of_heap KT3.out 2 (by simp)
      go_wp2_with fail
      refine (specIsTiming_q t q f o ho _).mono ?_
      have HOK := Lib.hid ho
      clear ho
      rintro e w4 ⟨rfl, hb⟩
      have HB4 := Lib.hid (HB3.out.trans (hb.mono HB3.out.size))
      have HN4 := Lib.hid (HN3.out.trans (hb.mono HN3.out.size))
      have KT4 := Lib.hid ((hb.block gt (Array.getElem?_eq_some_iff.mp KT3.out).1).trans KT3.out)
      clear hb
      clear ct0 ct1 ct2 fr0 fr1 fr2
      cases o
      · go_wp2
        go_ret
        exact ⟨rfl, HB4.out⟩
      · obtain ⟨A1, hA1⟩ : ∃ x, x = (chcV ⟨t, q, 0⟩ key time l 1000000).1 := ⟨_, rfl⟩
        have HA1 := Lib.hid hA1
        clear hA1
        obtain ⟨A2, hA2⟩ : ∃ x, x = (chcV ⟨t, q, 0⟩ key time l 1000000).2 := ⟨_, rfl⟩
        have HA2 := Lib.hid hA2
        clear hA2
        obtain ⟨B1, hB1⟩ : ∃ x, x = (chcV ⟨t, q, 2⟩ key time l 1000000).1 := ⟨_, rfl⟩
        have HB1' := Lib.hid hB1
        clear hB1
        obtain ⟨B2, hB2⟩ : ∃ x, x = (chcV ⟨t, q, 2⟩ key time l 1000000).2 := ⟨_, rfl⟩
        have HB2' := Lib.hid hB2
        clear hB2
        obtain ⟨C1, hC1⟩ : ∃ x, x = (chcV ⟨t, q, 1⟩ key time l 1000000).1 := ⟨_, rfl⟩
        have HC1 := Lib.hid hC1
        clear hC1
        obtain ⟨C2, hC2⟩ : ∃ x, x = (chcV ⟨t, q, 1⟩ key time l 1000000).2 := ⟨_, rfl⟩
        have HC2 := Lib.hid hC2
        clear hC2
        obtain ⟨ct0, fr0⟩ := cells_of_heap KT4.out 0 (by simp)
        obtain ⟨ct1, fr1⟩ := cells_of_heap KT4.out 1 (by simp)
        obtain ⟨ct2, fr2⟩ := cells_of_heap KT4.out 2 (by simp)
        go_upto_region 7 with (fail)
        obtain ⟨w5, hw5⟩ : ∃ x, x = w4.setCell ⟨gt, 2, none⟩ (.int .i64 0) := ⟨_, rfl⟩
        have HB5 := Lib.hid (show Below w.heap.size w w5 by rw [hw5]; exact HB4.out.setCell hgw _)
        have HN5 := Lib.hid (show Below w1.heap.size w1 w5 by rw [hw5]; exact HN4.out.setCell HGT.out _)
        have KT5 := Lib.hid (show w5.heap[gt]? = some (.cells #[.int .i64 t, .int .i64 q, .int .i64 0] 47 (0, 0)) by rw [hw5]; exact heap_setCell_same _ _ 2 _ _ _ KT4.out)
        rw [← hw5]
        clear hw5
        clear ct0 ct1 ct2 fr0 fr1 fr2
        obtain ⟨ct0, fr0⟩ := cells_of_heap KT5.out 0 (by simp)
        obtain ⟨ct1, fr1⟩ := cells_of_heap KT5.out 1 (by simp)
        obtain ⟨ct2, fr2⟩ := cells_of_heap KT5.out 2 (by simp)
        go_wp2_with fail
        refine (implChoiceOf_any ⟨t, q, 0⟩ key time 1000000 _ l _ hlm (HO1.out.below HN5.out)).mono ?_
        rw [← HA1.out, ← HA2.out]
        rintro e w6 ⟨rfl, hb⟩
        have HB6 := Lib.hid (HB5.out.trans (hb.mono HB5.out.size))
        have HN6 := Lib.hid (HN5.out.trans (hb.mono HN5.out.size))
        have KT6 := Lib.hid ((hb.block gt (Array.getElem?_eq_some_iff.mp KT5.out).1).trans KT5.out)
        clear hb
        clear ct0 ct1 ct2 fr0 fr1 fr2
        obtain ⟨ct0, fr0⟩ := cells_of_heap KT6.out 0 (by simp)
        obtain ⟨ct1, fr1⟩ := cells_of_heap KT6.out 1 (by simp)
        obtain ⟨ct2, fr2⟩ := cells_of_heap KT6.out 2 (by simp)
        go_wp2_with fail
        refine (specChoiceOf_any ⟨t, q, 0⟩ key time 1000000 _ l _ hlm (HO1.out.below HN6.out)).mono ?_
        rw [← HA1.out, ← HA2.out]
        rintro e w7 ⟨rfl, hb⟩
        have HB7 := Lib.hid (HB6.out.trans (hb.mono HB6.out.size))
        have HN7 := Lib.hid (HN6.out.trans (hb.mono HN6.out.size))
        have KT7 := Lib.hid ((hb.block gt (Array.getElem?_eq_some_iff.mp KT6.out).1).trans KT6.out)
        clear hb
        clear ct0 ct1 ct2 fr0 fr1 fr2
        obtain ⟨ct0, fr0⟩ := cells_of_heap KT7.out 0 (by simp)
        obtain ⟨ct1, fr1⟩ := cells_of_heap KT7.out 1 (by simp)
        obtain ⟨ct2, fr2⟩ := cells_of_heap KT7.out 2 (by simp)
        go_upto_region 12 with (fail)
        obtain ⟨w8, hw8⟩ : ∃ x, x = w7.setCell ⟨gt, 2, none⟩ (.int .i64 2) := ⟨_, rfl⟩
        have HB8 := Lib.hid (show Below w.heap.size w w8 by rw [hw8]; exact HB7.out.setCell hgw _)
        have HN8 := Lib.hid (show Below w1.heap.size w1 w8 by rw [hw8]; exact HN7.out.setCell HGT.out _)
        have KT8 := Lib.hid (show w8.heap[gt]? = some (.cells #[.int .i64 t, .int .i64 q, .int .i64 2] 47 (0, 0)) by rw [hw8]; exact heap_setCell_same _ _ 2 _ _ _ KT7.out)
        rw [← hw8]
        clear hw8
        clear ct0 ct1 ct2 fr0 fr1 fr2
        obtain ⟨ct0, fr0⟩ := cells_of_heap KT8.out 0 (by simp)
        obtain ⟨ct1, fr1⟩ := cells_of_heap KT8.out 1 (by simp)
        obtain ⟨ct2, fr2⟩ := cells_of_heap KT8.out 2 (by simp)
        go_wp2_with fail
        refine (implChoiceOf_any ⟨t, q, 2⟩ key time 1000000 _ l _ hlm (HO1.out.below HN8.out)).mono ?_
        rw [← HB1'.out, ← HB2'.out]
        rintro e w9 ⟨rfl, hb⟩
        have HB9 := Lib.hid (HB8.out.trans (hb.mono HB8.out.size))
        have HN9 := Lib.hid (HN8.out.trans (hb.mono HN8.out.size))
        have KT9 := Lib.hid ((hb.block gt (Array.getElem?_eq_some_iff.mp KT8.out).1).trans KT8.out)
        clear hb
        clear ct0 ct1 ct2 fr0 fr1 fr2
        obtain ⟨ct0, fr0⟩ := cells_of_heap KT9.out 0 (by simp)
        obtain ⟨ct1, fr1⟩ := cells_of_heap KT9.out 1 (by simp)
        obtain ⟨ct2, fr2⟩ := cells_of_heap KT9.out 2 (by simp)
        go_upto_region 14 with (fail)
        obtain ⟨w10, hw10⟩ : ∃ x, x = w9.setCell ⟨gt, 2, none⟩ (.int .i64 1) := ⟨_, rfl⟩
        have HB10 := Lib.hid (show Below w.heap.size w w10 by rw [hw10]; exact HB9.out.setCell hgw _)
        have HN10 := Lib.hid (show Below w1.heap.size w1 w10 by rw [hw10]; exact HN9.out.setCell HGT.out _)
        have KT10 := Lib.hid (show w10.heap[gt]? = some (.cells #[.int .i64 t, .int .i64 q, .int .i64 1] 47 (0, 0)) by rw [hw10]; exact heap_setCell_same _ _ 2 _ _ _ KT9.out)
        rw [← hw10]
        clear hw10
        clear ct0 ct1 ct2 fr0 fr1 fr2
        obtain ⟨ct0, fr0⟩ := cells_of_heap KT10.out 0 (by simp)
        obtain ⟨ct1, fr1⟩ := cells_of_heap KT10.out 1 (by simp)
        obtain ⟨ct2, fr2⟩ := cells_of_heap KT10.out 2 (by simp)
        go_wp2_with fail
        refine (implChoiceOf_any ⟨t, q, 1⟩ key time 1000000 _ l _ hlm (HO1.out.below HN10.out)).mono ?_
        rw [← HC1.out, ← HC2.out]
        rintro e w11 ⟨rfl, hb⟩
        have HB11 := Lib.hid (HB10.out.trans (hb.mono HB10.out.size))
        have HN11 := Lib.hid (HN10.out.trans (hb.mono HN10.out.size))
        have KT11 := Lib.hid ((hb.block gt (Array.getElem?_eq_some_iff.mp KT10.out).1).trans KT10.out)
        clear hb
        clear ct0 ct1 ct2 fr0 fr1 fr2
        obtain ⟨x1, x2⟩ := chcV_02 (key := key) (time := time) HOK.out.symm HS.out
        obtain ⟨y1, y2⟩ := chcV_21 (key := key) (time := time) HOK.out.symm HS.out
        rw [← HA1.out, ← HA2.out, ← HB1'.out, ← HB2'.out] at x1 x2
        rw [← HB1'.out, ← HB2'.out, ← HC1.out, ← HC2.out] at y1 y2
        by_cases a2 : A1 = 2
        · obtain ⟨b2, b3⟩ := x1 a2
          obtain ⟨c2, c3⟩ := y1 b2
          have b4 : ¬ A2 < B2 := by omega
          have c4 : ¬ B2 < C2 := by omega
          subst a2 b2 c2
          clear x1 x2 y1 y2
          go_wp2
          go_ret
          exact ⟨rfl, HB11.out⟩
        · by_cases b2 : B1 = 2
          · obtain ⟨c2, c3⟩ := y1 b2
            have c4 : ¬ B2 < C2 := by omega
            subst b2 c2
            clear x1 x2 y1 y2
            go_wp2
            go_ret
            exact ⟨rfl, HB11.out⟩
          · by_cases c1 : C1 = 1
            · obtain ⟨b1, b3⟩ := y2 c1
              obtain ⟨a1, a3⟩ := x2 b1
              subst c1 b1 a1 a3 b3
              clear x1 x2 y1 y2
              go_wp2
              go_ret
              exact ⟨rfl, HB11.out⟩
            · clear x1 x2 y1 y2
              go_wp2
              go_ret
              exact ⟨rfl, HB11.out⟩

end Go.Proofs.Ytjfckchoklepbaa
