/- DERIVED. FnChoices over the program's choice: a choice that is made is never made otherwise by what comes later. No condition. -/
import Derived.Test.YtjfckchoklepbaaTmDraw
import Derived.Test.YtjfckchoklepbaaTmChcI
import Derived.Test.YtjfckchoklepbaaTmMath2
namespace Go.Proofs.Ytjfckchoklepbaa
open Go.RowKit

theorem flatEv_take : ∀ (l : List Ev) (k : Nat), flatEv (l.take k) = (flatEv l).take (k * 3)
  | [], k => by simp [flatEv]
  | e :: l, 0 => by simp [flatEv]
  | e :: l, k + 1 => by
    have ih := flatEv_take l k
    have h1 : flatEv (e :: l) = e.cells ++ flatEv l := by simp [flatEv]
    have h2 : flatEv ((e :: l).take (k + 1)) = e.cells ++ flatEv (l.take k) := by simp [flatEv]
    have hc : e.cells.length = 3 := rfl
    rw [h1, h2, ih, show (k + 1) * 3 = e.cells.length + k * 3 by rw [hc]; omega, List.take_length_add_append]
theorem rdN_take {w : World} {g : Option Addr} {n c k : Nat} {l : List Ev} (h : RdN w (.slice g n c) n (flatEv l)) (hk : k ≤ n) : RdN w (.slice g k c) k (flatEv (l.take k)) := by
  obtain ⟨a, c', e, h⟩ := h
  simp only [Value.slice.injEq, true_and] at e
  obtain ⟨rfl, rfl⟩ := e
  refine ⟨g, c, rfl, ?_⟩
  rcases h with h | ⟨b, off, rfl, hlt, hc⟩
  · exact .inl (by omega)
  · refine .inr ⟨b, off, rfl, hlt, fun j hj => ?_⟩
    have hj' := hj
    rw [flatEv_take, List.length_take] at hj'
    rw [hc j (by omega)]
    congr 1
    have : (flatEv (l.take k))[j]? = (flatEv l)[j]? := by rw [flatEv_take, List.getElem?_take_of_lt (by omega)]
    rw [List.getElem?_eq_getElem hj, List.getElem?_eq_getElem (by omega)] at this
    exact (Option.some.inj this).symm
theorem mem_evD {l : List Ev} {k : Nat} (hk : k < l.length) : evD l k ∈ l := by
  have h2 : evD l k = l[k] := by unfold evD; rw [List.getD_eq_getElem?_getD, List.getElem?_eq_getElem hk]; rfl
  rw [h2]; exact List.getElem_mem hk
/-- What is chosen by a part is chosen by the whole. -/
theorem chc_part {t : Tm} {key time : Int} {l : List Ev} {k : Nat} (hs : sortE l 0) (hk : k < l.length) (hc : (chcV t key time (l.take k) (evD l k).t).1 ≠ 0) : chcV t key time l 1000000 = chcV t key time (l.take k) (evD l k).t := by
  have h1 := (hs.all _ (mem_evD hk)).2
  have h2 : (evD l k).t ≤ 1000000 := by
    unfold okEv at h1
    rw [Bool.and_eq_true] at h1
    have := h1.1
    unfold inB at this
    simp only [decide_eq_true_eq] at this
    omega
  have := chcV_more (l := l.take k) (m := l.drop k) h2 (hs.take k hk) hc
  rwa [List.take_append_drop] at this
/-- With all events known the choice is made, no later than the term. -/
theorem chc_whole {t : Tm} {key time : Int} {l : List Ev} (hs : sortE l 0) (ht : okTm t = true) (h0 : 0 ≤ time) (h1 : time ≤ 999000) : (chcV t key time l 1000000).1 ≠ 0 ∧ (chcV t key time l 1000000).2 ≤ time + t.t ∧ ((chcV t key time l 1000000).1 = 1 → (chcV t key time l 1000000).2 < time + t.t) := by
  have hm : t.t ≤ 1000 := by
    have h2 := ht
    unfold okTm at h2
    rw [Bool.and_eq_true] at h2
    have := h2.1
    unfold inB at this
    simp only [decide_eq_true_eq] at this
    omega
  unfold chcV
  rw [if_pos (by rw [ht]; unfold inB; simp; omega)]
  exact chcG_full (by omega) hs

set_option maxHeartbeats 8000000 in
set_option maxRecDepth 100000 in
theorem lawChoices_all (a0 : Option Addr) (len cap0 : Nat) (bs : List Int) (w : World) (hlen : bs.length = len) (hz : ∀ z ∈ bs, (Lit.int .u8 z).wf = true) (h : Rd w (.slice a0 len cap0) (bs.map (.int .u8))) :
    Calls Try.prog 4 #[.slice a0 len cap0] w fun e w' => e = .returned (.bool true) ∧ Below w.heap.size w w' := by
  subst hlen
  by_cases hbig : (1048576 : Int) < bs.length
  · go_enter Try.func4, Try.ntmps4
    go_wp2_with fail
    refine (big_any a0 bs.length cap0 _).mono ?_
    rw [decide_eq_true hbig]
    rintro e w0 ⟨rfl, rfl⟩
    go_wp2
    go_ret
    exact ⟨rfl, Below.refl _ _⟩
  · have HZ := Lib.hid (fun z (m : z ∈ bs) => wf_byte (hz z m))
    have HL := Lib.hid (show bs.length ≤ 1099511627776 by omega)
    have HR := Lib.hid h
    have HBG := Lib.hid (decide_eq_false hbig)
    clear hz h hbig
    go_enter Try.func4, Try.ntmps4
    go_wp2_with fail
    refine (big_any a0 bs.length cap0 _).mono ?_
    rw [HBG.out]
    rintro e v0 ⟨rfl, rfl⟩
    go_wp2_with fail
    refine (DrawChoiceOf_draw a0 cap0 bs _ HL.out HZ.out HR.out).mono ?_
    rintro e w1 ⟨t, q, f, key, time, now, g, c, l, rfl, hl5, ho, hb⟩
    have hcap : l.length ≤ c := by
      rcases ho.2 with ⟨e1, e2⟩ | ⟨g', cap', cur, e1, _, _, hnc, _⟩
      · simp only [Value.slice.injEq] at e1; omega
      · simp only [Value.slice.injEq] at e1
        rw [e1.2.2]; exact hnc
    have HB1 := Lib.hid hb
    have HO1 := Lib.hid (RdN.of_owns ho)
    have hlm : l.length ≤ maxLen := by unfold maxLen; omega
    clear ho hb
    go_upto_region 4 with (fail)
    obtain ⟨gt, hgt⟩ : ∃ g, g = w1.heap.size := ⟨_, rfl⟩
    obtain ⟨w2, hw2⟩ : ∃ x, x = w1.alloc (.cells #[.int .i64 t, .int .i64 q, .int .i64 f] 47) := ⟨_, rfl⟩
    have hb2 : Below w1.heap.size w1 w2 := by rw [hw2]; exact (Below.refl _ _).alloc (Nat.le_refl _) _
    have KT2 := Lib.hid (show w2.heap[gt]? = some (.cells #[.int .i64 t, .int .i64 q, .int .i64 f] 47 (0, 0)) by rw [hw2, hgt]; exact heap_alloc_new _ _)
    have HB2 := Lib.hid (HB1.out.trans (hb2.mono HB1.out.size))
    have HO2 := Lib.hid (HO1.out.below hb2)
    have hgw : w.heap.size ≤ gt := by rw [hgt]; exact HB1.out.size
    rw [← hw2, ← hgt]
    clear hw2 hgt hb2
    go_wp2_with fail
    refine (specIsEvents_any _ l _ hlm HO2.out).mono ?_
    rintro e w3 ⟨rfl, hb⟩
    have HB3 := Lib.hid (HB2.out.trans (hb.mono HB2.out.size))
    have HO3 := Lib.hid (HO2.out.below hb)
    have KT3 := Lib.hid ((hb.block gt (Array.getElem?_eq_some_iff.mp KT2.out).1).trans KT2.out)
    clear hb
    cases hok : okEvs l
    · go_wp2
      go_ret
      exact ⟨rfl, HB3.out⟩
    · have HS := Lib.hid (sortE_of hok)
      clear hok
      have ct0 := (cells_of_heap KT3.out 0 (by simp)).1
      have ct1 := (cells_of_heap KT3.out 1 (by simp)).1
      have ct2 := (cells_of_heap KT3.out 2 (by simp)).1
      obtain ⟨F, hF⟩ : ∃ F, F = (chcV ⟨t, q, f⟩ key time l 1000000).1 := ⟨_, rfl⟩
      obtain ⟨A, hA⟩ : ∃ A, A = (chcV ⟨t, q, f⟩ key time l 1000000).2 := ⟨_, rfl⟩
      have HF := Lib.hid hF
      have HA := Lib.hid hA
      go_wp2_with fail
      refine (implChoiceOf_any ⟨t, q, f⟩ key time 1000000 _ l _ hlm HO3.out).mono ?_
      rw [← hF, ← hA]
      clear hF hA
      rintro e w4 ⟨rfl, hb⟩
      have HB4 := Lib.hid (HB3.out.trans (hb.mono HB3.out.size))
      have HO4 := Lib.hid (HO3.out.below hb)
      have KT4 := Lib.hid ((hb.block gt (Array.getElem?_eq_some_iff.mp KT3.out).1).trans KT3.out)
      clear hb ct0 ct1 ct2
      go_wp2
      go_loopw [10] (fun i wr => ∃ k : Nat, k ≤ l.length ∧ i = .int .i64 k ∧ Below w4.heap.size w4 wr) (fun i _ => l.length - (intOf i).toNat)
      case atStart => exact ⟨0, Nat.zero_le _, rfl, Below.refl _ _⟩
      case round =>
        obtain ⟨k, hk, rfl, hb⟩ := hrel
        have HBw := Lib.hid hb
        have HBr := Lib.hid (HB4.out.trans (hb.mono HB4.out.size))
        have KTr := Lib.hid ((hb.block gt (Array.getElem?_eq_some_iff.mp KT4.out).1).trans KT4.out)
        have HOr := Lib.hid (HO4.out.below hb)
        clear hb
        have ct0 := (cells_of_heap KTr.out 0 (by simp)).1
        have ct1 := (cells_of_heap KTr.out 1 (by simp)).1
        have ct2 := (cells_of_heap KTr.out 2 (by simp)).1
        by_cases hlt : k < l.length
        · obtain ⟨a1, c1, ee, hc⟩ := rd_evs' HOr.out
          obtain ⟨b, off, hg, hbl, e0, -, -⟩ := hc k hlt
          simp only [Value.slice.injEq] at ee
          obtain ⟨rfl, -, rfl⟩ := ee
          subst hg
          obtain ⟨T, hT⟩ : ∃ T, T = (evD l k).t := ⟨_, rfl⟩
          rw [← hT] at e0
          have hkl : (l.take k).length = k := by rw [List.length_take]; omega
          have HOt := Lib.hid (show RdN wr (.slice (some ⟨b, off, none⟩) k c) (l.take k).length (flatEv (l.take k)) by rw [hkl]; exact rdN_take HOr.out hk)
          obtain ⟨R1, hR1⟩ : ∃ F, F = (chcV ⟨t, q, f⟩ key time (l.take k) T).1 := ⟨_, rfl⟩
          obtain ⟨R2, hR2⟩ : ∃ F, F = (chcV ⟨t, q, f⟩ key time (l.take k) T).2 := ⟨_, rfl⟩
          have hsame : R1 ≠ 0 → F = R1 ∧ A = R2 := fun h0 => by
            have := chc_part (t := ⟨t, q, f⟩) (key := key) (time := time) HS.out hlt (by rw [← hT, ← hR1]; exact h0)
            rw [HF.out, HA.out, this, hR1, hR2, hT]
            exact ⟨rfl, rfl⟩
          have HCON := Lib.hid (show ∀ w', RdN w' (.slice (some ⟨b, off, none⟩) k c) (l.take k).length (flatEv (l.take k)) → Calls Try.prog 19 #[tmv t q f, .int .i64 key, .int .i64 time, .slice (some ⟨b, off, none⟩) k c, .int .i64 T] w' fun e w'' => e = .returned (.tuple #[.int .i64 R1, .int .i64 R2]) ∧ Below w'.heap.size w' w'' from fun w' h' => by
            rw [hR1, hR2]; exact implChoiceOf_any ⟨t, q, f⟩ key time T _ (l.take k) w' (by omega) h')
          clear hc hT hkl hR1 hR2
          have hkc : k ≤ c := by omega
          go_upto_region 10 with (fail)
          go_region_held3 (fun w' => w'.cell? ⟨gt, 0, none⟩ = some (.int .i64 t) ∧ w'.cell? ⟨gt, 1, none⟩ = some (.int .i64 q) ∧ w'.cell? ⟨gt, 2, none⟩ = some (.int .i64 f) ∧ w'.cell? ⟨b, off + k * 3, none⟩ = some (.int .i64 T)) (first | go_keep | simp [go_sem, *])
            (first | (go_at_call 19; refine (HCON.out wr.drew (HOt.out.below ((Below.refl _ _).drew))).mono ?_; rintro e w5 ⟨rfl, hb⟩; have hbd : Below wr.heap.size wr w5 := ((Below.refl _ _).drew).trans hb; have HB5 := Lib.hid (HBw.out.trans (hbd.mono HBw.out.size)); have KT5 := Lib.hid ((hbd.block gt (Array.getElem?_eq_some_iff.mp KTr.out).1).trans KTr.out); have k0 := (cells_of_heap KT5.out 0 (by simp)).1; have k1 := (cells_of_heap KT5.out 1 (by simp)).1; have k2 := (cells_of_heap KT5.out 2 (by simp)).1; have k3 := (hbd.cell (p := ⟨b, off + k * 3, none⟩) hbl).trans e0; clear hb hbd))
          clear k0 k1 k2 k3 ct0 ct1 ct2 e0
          by_cases h0 : R1 = 0
          · subst h0
            go_wp2
            go_roundw
            case rel => exact ⟨k + 1, by omega, by go_num, HB5.out⟩
            case measure => simp [intOf]; omega
          · obtain ⟨rfl, rfl⟩ := hsame h0
            go_wp2
            go_roundw
            case rel => exact ⟨k + 1, by omega, by go_num, HB5.out⟩
            case measure => simp [intOf]; omega
        · have hlt' : ¬ (k : Int) < (l.length : Int) := by omega
          obtain ⟨o, ho⟩ : ∃ o, o = okTm ⟨t, q, f⟩ := ⟨_, rfl⟩
          go_wp2_with fail
          refine (specIsTiming_q t q f o ho _).mono ?_
          have HOK := Lib.hid ho
          clear ho
          rintro e w5 ⟨rfl, hb⟩
          have HB5 := Lib.hid (HBr.out.trans (hb.mono HBr.out.size))
          have KT5 := Lib.hid ((hb.block gt (Array.getElem?_eq_some_iff.mp KTr.out).1).trans KTr.out)
          clear hb ct0 ct1 ct2
          have ct0 := (cells_of_heap KT5.out 0 (by simp)).1
          cases o
          · go_wp2
            go_ret
            exact ⟨rfl, HB5.out⟩
          · by_cases h1 : time < 0
            · go_wp2
              go_ret
              exact ⟨rfl, HB5.out⟩
            · by_cases h2 : 999000 < time
              · go_wp2
                go_ret
                exact ⟨rfl, HB5.out⟩
              · have hm : 1 ≤ t ∧ t ≤ 1000 := by
                  have h3 := HOK.out.symm
                  unfold okTm at h3
                  rw [Bool.and_eq_true] at h3
                  have := h3.1
                  unfold inB at this
                  simp only [decide_eq_true_eq] at this
                  exact this
                obtain ⟨p1, p2, p3⟩ := chc_whole (t := ⟨t, q, f⟩) (key := key) (time := time) HS.out HOK.out.symm (by omega) (by omega)
                rw [← HF.out] at p1 p3
                rw [← HA.out] at p2 p3
                have p2' : A ≤ time + t := p2
                have p3' : F = 1 → A < time + t := p3
                clear p2 p3
                by_cases h4 : F = 1
                · have p4 := p3' h4
                  subst h4
                  go_wp2
                  go_ret
                  exact ⟨rfl, HB5.out⟩
                · go_wp2
                  go_ret
                  refine ⟨?_, HB5.out⟩
                  show Ending.returned (.bool (F != 0)) = _
                  rw [show (F != 0) = true by simpa using p1]

end Go.Proofs.Ytjfckchoklepbaa
