/- DERIVED. Both sides' ChoiceOf: the choice and its time. Called with any timing, key, times, and any events that read as known data. -/
import Derived.Test.YtjfckchoklepbaaTm
import Derived.Test.YtjfckchoklepbaaTmMath
import Derived.Test.YtjfckchoklepbaaEvImpl
import Derived.Test.YtjfckchoklepbaaDebImpl
import Derived.Test.YtjfckchoklepbaaSeqSpec
import Derived.BigRegion
namespace Go.Proofs.Ytjfckchoklepbaa
open Go.RowKit

theorem bit_shift (S K : Nat) (hS : S < 2 ^ 32) : bits .and .i64 ((S : Int) / 2 ^ K) 1 = ((if S.testBit K = true then 1 else 0 : Nat) : Int) := by
  have h1 : ((S : Int) / 2 ^ K) = ((S / 2 ^ K : Nat) : Int) := by simp
  have h2 : S / 2 ^ K ≤ S := Nat.div_le_self _ _
  rw [h1, show (1 : Int) = ((1 : Nat) : Int) from rfl, and_nat _ _ (by omega) (by omega), Nat.testBit_eq_decide_div_mod_eq, Nat.and_one_is_mod]
  rcases Nat.mod_two_eq_zero_or_one (S / 2 ^ K) with h | h <;> simp [h]
theorem hasKey_w (z : Int) (k : Nat) (w : World) (v : Bool) (hk : k < 62) (hv : hz z k = v) : Calls Try.prog 78 #[.int .i64 z, .int .i64 k] w fun e w' => e = .returned (.bool v) ∧ w = w' :=
  (hasKey_any z k w hk).mono fun _ _ ⟨he, hw⟩ => ⟨by rw [he, hv], hw⟩
theorem blk_b {w w' : World} {b : Nat} {o : Obj} (h : w.heap[b]? = some o) (hb : Below w.heap.size w w') : w'.heap[b]? = some o := (hb.block b (Array.getElem?_eq_some_iff.mp h).1).trans h
theorem below_a1 (w : World) (o : Obj) : Below w.heap.size w (w.alloc o) := (Below.refl _ _).alloc (Nat.le_refl _) o
theorem evD_drop {l : List Ev} {j : Nat} (h : j < l.length) : l.drop j = evD l j :: l.drop (j + 1) := by
  rw [List.drop_eq_getElem_cons h, evD, List.getD_eq_getElem?_getD, List.getElem?_eq_getElem h]; rfl
theorem rd_evs' {w : World} {v : Value} {l : List Ev} (h : RdN w v l.length (flatEv l)) : ∃ a cap, v = .slice a l.length cap ∧ ∀ j, j < l.length → ∃ b off, a = some ⟨b, off, none⟩ ∧ b < w.heap.size ∧ w.cell? ⟨b, off + j * 3, none⟩ = some (.int .i64 (evD l j).t) ∧ w.cell? ⟨b, off + j * 3 + 1, none⟩ = some (.int .i64 (evD l j).k) ∧ w.cell? ⟨b, off + j * 3 + 2, none⟩ = some (.bool (evD l j).d) := by
  rcases rd_evs h with ⟨rfl, a, cap, rfl⟩ | ⟨b, off, cap, hpos, rfl, hlt, hc⟩
  · exact ⟨a, cap, rfl, fun j hj => absurd hj (Nat.not_lt_zero _)⟩
  · exact ⟨_, _, rfl, fun j hj => ⟨b, off, rfl, hlt, hc j hj⟩⟩
/-- What the program asks of an event of another key. -/
def dhV (f : Int) (d : Bool) (h : Nat) (k : Nat) : Bool := if f = 1 then d else if f = 2 then (!d && h.testBit k) else false
set_option maxRecDepth 100000 in
set_option maxHeartbeats 4000000 in
theorem decidesHold_q (tt tq tf et : Int) (kn : Nat) (ed : Bool) (h : Nat) (o : Bool) (ho : o = dhV tf ed h kn) (hk : kn < 62) (hh : h < 2 ^ 32) (w : World) :
    Calls Try.prog 56 #[tmv tt tq tf, evv et kn ed, .int .i64 h] w fun e w' => e = .returned (.bool o) ∧ Below w.heap.size w w' := by
  unfold dhV at ho
  obtain ⟨q, hq⟩ : ∃ q, q = h.testBit kn := ⟨_, rfl⟩
  rw [← hq] at ho
  have HQ := Lib.hid (show hz h kn = q by rw [hz_nat h kn (Nat.lt_trans hh (by decide)), hq])
  have HO := Lib.hid ho
  obtain ⟨W, hW⟩ : ∃ W, W = (w.alloc (.cells #[.int .i64 tt, .int .i64 tq, .int .i64 tf] 47)).alloc (.cells #[.int .i64 et, .int .i64 kn, .bool ed] 55) := ⟨_, rfl⟩
  have HB := Lib.hid (show Below w.heap.size w W by rw [hW]; exact ((Below.refl _ _).alloc (Nat.le_refl _) _).alloc (by simp) _)
  have hx : W.heap[w.heap.size]? = some (.cells #[.int .i64 tt, .int .i64 tq, .int .i64 tf] 47 (0, 0)) := by rw [hW, heap_alloc_old _ _ (by simp)]; exact heap_alloc_new w _
  have hy : W.heap[w.heap.size + 1]? = some (.cells #[.int .i64 et, .int .i64 kn, .bool ed] 55 (0, 0)) := by rw [hW]; simpa using heap_alloc_new (w.alloc (.cells #[.int .i64 tt, .int .i64 tq, .int .i64 tf] 47)) _
  have HX := Lib.hid hx
  have HY := Lib.hid hy
  have HW := Lib.hid hW
  clear hx hy hW ho hq
  go_enter Try.func56, Try.ntmps56
  go_upto_region 1 with (fail)
  rw [← HW.out]
  obtain ⟨x2, x2'⟩ := cells_of_heap HX.out 2 (by simp)
  obtain ⟨y1, y1'⟩ := cells_of_heap HY.out 1 (by simp)
  obtain ⟨y2, y2'⟩ := cells_of_heap HY.out 2 (by simp)
  simp only [List.getElem_toArray, List.getElem_cons_zero, List.getElem_cons_succ] at x2 y1 y2
  by_cases h1 : tf = 1
  · obtain rfl : o = ed := HO.out.trans (by simp [h1])
    subst h1
    go_wp2
    go_ret
    exact ⟨rfl, HB.out⟩
  · have e1 : (tf == 1) = false := beq_false_of_ne h1
    by_cases h2 : tf = 2
    · obtain rfl : o = (!ed && q) := HO.out.trans (by simp [h2])
      subst h2
      clear h1 e1
      cases ed
      · go_wp2_with fail
        refine (hasKey_w h kn _ q hk HQ.out).mono ?_
        rintro e w0 ⟨rfl, hww⟩
        rw [← hww]
        clear hww
        go_wp2
        go_ret
        exact ⟨by simp, HB.out⟩
      · go_wp2
        go_ret
        exact ⟨rfl, HB.out⟩
    · have e2 : (tf == 2) = false := beq_false_of_ne h2
      obtain rfl : o = false := HO.out.trans (by simp [h1, h2])
      go_wp2
      go_ret
      exact ⟨rfl, HB.out⟩
theorem isTime_q (t : Int) (v : Bool) (hv : v = inB t 0 1000000) (w : World) : Calls Try.prog 54 #[.int .i64 t] w fun e w' => e = .returned (.bool v) ∧ w = w' := by
  rw [hv]; exact isTime_any t w
set_option maxRecDepth 100000 in
set_option maxHeartbeats 16000000 in
theorem specChoiceOf_any (t : Tm) (key time now : Int) (v : Value) (l : List Ev) (w : World) (hl : l.length ≤ maxLen) (h : RdN w v l.length (flatEv l)) :
    Calls Try.prog 21 #[tmv t.t t.q t.f, .int .i64 key, .int .i64 time, v, .int .i64 now] w fun e w' => e = .returned (.tuple #[.int .i64 (chcV t key time l now).1, .int .i64 (chcV t key time l now).2]) ∧ Below w.heap.size w w' := by
  obtain ⟨⟨r1, r2⟩, hr⟩ : ∃ c, c = chcV t key time l now := ⟨_, rfl⟩
  rw [← hr]
  show Calls Try.prog 21 #[tmv t.t t.q t.f, .int .i64 key, .int .i64 time, v, .int .i64 now] w fun e w' => e = .returned (.tuple #[.int .i64 r1, .int .i64 r2]) ∧ Below w.heap.size w w'
  rw [chcV] at hr
  obtain ⟨b1, h1⟩ : ∃ b, b = okTm t := ⟨_, rfl⟩
  obtain ⟨b2, h2⟩ : ∃ b, b = inB time 0 1000000 := ⟨_, rfl⟩
  rw [← h1, ← h2] at hr
  obtain ⟨a, cap, rfl, hc⟩ := rd_evs' h
  obtain ⟨n, hn⟩ : ∃ n, n = l.length := ⟨_, rfl⟩
  rw [← hn]
  unfold maxLen at hl
  obtain ⟨tt, tq, tf⟩ := t
  have HR := Lib.hid hr
  have H1 := Lib.hid h1
  have H2 := Lib.hid h2
  have HC := Lib.hid hc
  have HN := Lib.hid hn
  have hnl : n ≤ 9223372036854775807 := by rw [hn]; omega
  clear hr h1 h2 hc h hl hn
  obtain ⟨W, hW⟩ : ∃ W, W = w.alloc (.cells #[.int .i64 tt, .int .i64 tq, .int .i64 tf] 47) := ⟨_, rfl⟩
  have HX0 := Lib.hid (show Bxd W w.heap.size [.int .i64 tt, .int .i64 tq, .int .i64 tf] by rw [hW]; exact Bxd.new _ _ _)
  have HB0 := Lib.hid (show Below w.heap.size w W by rw [hW]; exact (Below.refl _ _).alloc (Nat.le_refl _) _)
  have HS0 := Lib.hid (show w.heap.size < W.heap.size by rw [hW]; simp)
  have HW := Lib.hid hW
  clear hW
  go_enter Try.func21, Try.ntmps21
  go_upto_region 1 with (fail)
  rw [← HW.out]
  have c0 := HX0.out.at 0 _ rfl
  have c1 := HX0.out.at 1 _ rfl
  have c2 := HX0.out.at 2 _ rfl
  go_wp2_with fail
  refine (specIsTiming_q tt tq tf b1 H1.out _).mono ?_
  rintro e w1 ⟨rfl, hb⟩
  have HB1 := Lib.hid (HB0.out.trans (hb.mono HB0.out.size))
  have HS1 := Lib.hid (Nat.lt_of_lt_of_le HS0.out hb.size)
  have HX1 := Lib.hid (HX0.out.below hb HS0.out)
  clear hb c0 c1 c2
  have c0 := HX1.out.at 0 _ rfl
  have c1 := HX1.out.at 1 _ rfl
  have c2 := HX1.out.at 2 _ rfl
  cases b1
  · obtain ⟨rfl, rfl⟩ : r1 = 0 ∧ r2 = 0 := Prod.mk.inj HR.out
    go_wp2
    go_ret2
    exact ⟨rfl, HB1.out⟩
  · go_wp2_with fail
    refine (inB_q time 0 1000000 b2 H2.out _).mono ?_
    rintro e w0 ⟨rfl, hww⟩
    rw [hww]
    clear hww
    cases b2
    · obtain ⟨rfl, rfl⟩ : r1 = 0 ∧ r2 = 0 := Prod.mk.inj HR.out
      go_wp2
      go_ret2
      exact ⟨rfl, HB1.out⟩
    · have hti := of_decide_eq_true (show decide (0 ≤ time ∧ time ≤ 1000000) = true from H2.out.symm)
      have hto := H1.out.symm
      simp only [okTm, inB, Bool.and_eq_true, decide_eq_true_eq] at hto
      obtain ⟨fin, hfin⟩ : ∃ f, f = time + tt := ⟨_, rfl⟩
      have hf1 : time + tt ≤ 9223372036854775807 := by omega
      have hf2 : -9223372036854775808 ≤ time + tt := by omega
      have HCG0 := Lib.hid (show chcG ⟨tt, tq, tf⟩ key fin now l 0 = (r1, r2) by rw [hfin]; exact HR.out.symm)
      clear hto
      go_upto_region 5 with (fail)
      rw [← hfin]
      clear hf1 hf2 hfin hti
      go_wp2
      go_loopw [13, 14] (fun p i wr => ∃ (j h : Nat), j ≤ n ∧ i = .int .i64 j ∧ p = .int .i64 (h : Nat) ∧ h < 2 ^ 32 ∧ chcG ⟨tt, tq, tf⟩ key fin now (l.drop j) h = (r1, r2) ∧ Below w1.heap.size w1 wr) (fun _ i _ => n - (intOf i).toNat)
      case atStart => exact ⟨0, 0, Nat.zero_le _, rfl, rfl, by decide, HCG0.out, Below.refl _ _⟩
      case round =>
        obtain ⟨j, h, hj, rfl, rfl, hh, hcg, hb⟩ := hrel
        have HBw := Lib.hid hb
        have HXr := Lib.hid (HX1.out.below hb HS1.out)
        have HBR0 := Lib.hid (HB1.out.trans (hb.mono HB1.out.size))
        clear hb c0 c1 c2 HCG0
        have c0 := HXr.out.at 0 _ rfl
        have c1 := HXr.out.at 1 _ rfl
        have c2 := HXr.out.at 2 _ rfl
        by_cases hlt : j < n
        · have hjl : j < l.length := by rw [← HN.out]; exact hlt
          obtain ⟨b, off, rfl, hbl, e0, e1, e2⟩ := HC.out j hjl
          rw [evD_drop hjl] at hcg
          obtain ⟨et, hetv⟩ : ∃ x, x = (evD l j).t := ⟨_, rfl⟩
          obtain ⟨ek, hekv⟩ : ∃ x, x = (evD l j).k := ⟨_, rfl⟩
          obtain ⟨ed, hedv⟩ : ∃ x, x = (evD l j).d := ⟨_, rfl⟩
          have hev : evD l j = ⟨et, ek, ed⟩ := by rw [hetv, hekv, hedv]
          rw [← hetv] at e0
          rw [← hekv] at e1
          rw [← hedv] at e2
          obtain ⟨ob, hob⟩ : ∃ o, o = okEv ⟨et, ek, ed⟩ := ⟨_, rfl⟩
          rw [hev, chcG, ← hob] at hcg
          simp only at hcg
          obtain ⟨D, hD⟩ : ∃ D, D = l.drop (j + 1) := ⟨_, rfl⟩
          rw [← hD] at hcg
          have HD := Lib.hid hD
          have HOB := Lib.hid hob
          have f0 := (HBR0.out.cell (p := ⟨b, off + j * 3, none⟩) hbl).trans e0
          have f1 := (HBR0.out.cell (p := ⟨b, off + j * 3 + 1, none⟩) hbl).trans e1
          have f2 := (HBR0.out.cell (p := ⟨b, off + j * 3 + 2, none⟩) hbl).trans e2
          have HCG1 := Lib.hid hcg
          clear hetv hekv hedv hev hob hD hcg e0 e1 e2
          go_upto_region 9 with (fail)
          obtain ⟨W2, hW2⟩ : ∃ W, W = wr.alloc (.cells #[.int .i64 et, .int .i64 ek, .bool ed] 55) := ⟨_, rfl⟩
          obtain ⟨eb, heb⟩ : ∃ x, x = wr.heap.size := ⟨_, rfl⟩
          rw [← hW2, ← heb]
          have hb2 : Below wr.heap.size wr W2 := by rw [hW2]; exact below_a1 _ _
          have HE2 := Lib.hid (show W2.heap[eb]? = some (.cells #[.int .i64 et, .int .i64 ek, .bool ed] 55 (0, 0)) by rw [hW2, heb]; exact heap_alloc_new wr _)
          have HB2 := Lib.hid (HBw.out.trans (hb2.mono HBw.out.size))
          clear f0 f1 f2 c0 c1 c2 hW2 heb hb2
          obtain ⟨g0, g0'⟩ := cells_of_heap HE2.out 0 (by simp)
          obtain ⟨g1, g1'⟩ := cells_of_heap HE2.out 1 (by simp)
          obtain ⟨g2, g2'⟩ := cells_of_heap HE2.out 2 (by simp)
          simp only [List.getElem_toArray, List.getElem_cons_zero, List.getElem_cons_succ] at g0 g1 g2
          go_wp2_with fail
          refine (specIsEvent_q et ek ed ob HOB.out _).mono ?_
          rintro e w3 ⟨rfl, hb⟩
          have HB3 := Lib.hid (HB2.out.trans (hb.mono HB2.out.size))
          have HE3 := Lib.hid (blk_b HE2.out hb)
          have HX3 := Lib.hid (HX1.out.below HB3.out HS1.out)
          have HBR := Lib.hid (HB1.out.trans (HB3.out.mono HB1.out.size))
          clear hb g0 g0' g1 g1' g2 g2'
          have c0 := HX3.out.at 0 _ rfl
          have c1 := HX3.out.at 1 _ rfl
          have c2 := HX3.out.at 2 _ rfl
          obtain ⟨g0, g0'⟩ := cells_of_heap HE3.out 0 (by simp)
          obtain ⟨g1, g1'⟩ := cells_of_heap HE3.out 1 (by simp)
          obtain ⟨g2, g2'⟩ := cells_of_heap HE3.out 2 (by simp)
          simp only [List.getElem_toArray, List.getElem_cons_zero, List.getElem_cons_succ] at g0 g1 g2
          cases ob
          · have HCG := Lib.hid (show ((0 : Int), (0 : Int)) = (r1, r2) from HCG1.out)
            obtain ⟨rfl, rfl⟩ := Prod.mk.inj HCG.out
            go_wp2
            go_ret2
            exact ⟨rfl, HBR.out⟩
          · obtain ⟨ht0, ht1, hk0, hk1⟩ := okEv_key HOB.out.symm
            simp only at ht0 ht1 hk0 hk1
            have HCG2 := Lib.hid (show (if fin ≤ et then ((2 : Int), fin) else if ek = key ∧ ed = false then (1, et) else if ek = key then chcG ⟨tt, tq, tf⟩ key fin now D h else if ed = true ∧ tf = 1 then (2, et) else if ed = true then chcG ⟨tt, tq, tf⟩ key fin now D (h ||| 2 ^ ek.toNat) else if tf = 2 ∧ h.testBit ek.toNat = true then (2, et) else chcG ⟨tt, tq, tf⟩ key fin now D h) = (r1, r2) from HCG1.out)
            clear HCG1
            by_cases hge : fin ≤ et
            · have HCG := HCG2.out
              rw [if_pos hge] at HCG
              obtain ⟨rfl, rfl⟩ := Prod.mk.inj HCG
              go_wp2
              go_ret2
              exact ⟨rfl, HBR.out⟩
            · have HCG3 := HCG2.out
              rw [if_neg hge] at HCG3
              have HCG4 := Lib.hid HCG3
              clear HCG3 HCG2
              by_cases hk : ek = key
              · have hkb : (ek == key) = true := by rw [hk]; simp
                cases ed
                · have HCG := HCG4.out
                  rw [if_pos ⟨hk, rfl⟩] at HCG
                  obtain ⟨rfl, rfl⟩ := Prod.mk.inj HCG
                  clear hk
                  go_upto_region 14 with (fail)
                  go_region
                  all_goals
                    go_wp2
                    go_ret2
                    exact ⟨rfl, by first | exact HBR.out | exact HBR.out.drew | exact HBR.out.drew.drew⟩
                · have HCG := HCG4.out
                  rw [if_neg (by rintro ⟨_, h⟩; cases h), if_pos hk] at HCG
                  have HCG5 := Lib.hid HCG
                  clear hk HCG HCG4
                  go_wp2
                  go_roundw
                  case rel => exact ⟨j + 1, h, by omega, by go_num, rfl, hh, by rw [← HD.out]; exact HCG5.out, HB3.out⟩
                  case measure => simp [intOf]; omega
              · have hkb : (ek == key) = false := beq_false_of_ne hk
                have HCG5 := Lib.hid (show (if ed = true ∧ tf = 1 then ((2 : Int), et) else if ed = true then chcG ⟨tt, tq, tf⟩ key fin now D (h ||| 2 ^ ek.toNat) else if tf = 2 ∧ h.testBit ek.toNat = true then (2, et) else chcG ⟨tt, tq, tf⟩ key fin now D h) = (r1, r2) by
                  have h5 := HCG4.out
                  rw [if_neg (fun h => hk h.1), if_neg hk] at h5; exact h5)
                obtain ⟨kn, rfl⟩ := Int.eq_ofNat_of_zero_le hk0
                clear hk HCG4
                have hw := wrap64_pow62 (k := kn) (by omega)
                have hp : 2 ^ kn < 2 ^ 32 := Nat.pow_lt_pow_right (by decide) (by omega)
                have hx := or_nat h (2 ^ kn) (by omega) (by omega)
                have hor : h ||| 2 ^ kn < 2 ^ 32 := Nat.or_lt_two_pow hh hp
                obtain ⟨pw, hpw⟩ : ∃ p, p = 2 ^ kn := ⟨_, rfl⟩
                rw [← hpw] at hw hx hor
                have HPW := Lib.hid hpw
                have HOR := Lib.hid hor
                clear hpw hp hor
                cases ed
                · by_cases h2 : tf = 2
                  · obtain ⟨tb, htb⟩ : ∃ b, b = h.testBit kn := ⟨_, rfl⟩
                    have hbit := bit_shift h kn hh
                    rw [← htb] at hbit
                    have HTB := Lib.hid htb
                    have h2' := h2
                    cases tb
                    · have HCG := Lib.hid (show chcG ⟨tt, tq, tf⟩ key fin now D h = (r1, r2) by
                        have h5 := HCG5.out
                        rw [if_neg (by rintro ⟨h, _⟩; cases h), if_neg (by intro h; cases h), if_neg (by rintro ⟨_, h⟩; rw [Int.toNat_natCast, ← HTB.out] at h; cases h)] at h5; exact h5)
                      clear HCG5 htb
                      subst h2
                      simp only [Bool.false_eq_true, if_false] at hbit
                      go_wp2
                      go_roundw
                      case rel => exact ⟨j + 1, h, by omega, by go_num, rfl, hh, by rw [← HD.out]; exact HCG.out, HB3.out⟩
                      case measure => simp [intOf]; omega
                    · have HCG := HCG5.out
                      rw [if_neg (by rintro ⟨h, _⟩; cases h), if_neg (by intro h; cases h), if_pos ⟨h2, by rw [Int.toNat_natCast, ← HTB.out]⟩] at HCG
                      obtain ⟨rfl, rfl⟩ := Prod.mk.inj HCG
                      clear HCG5 htb
                      subst h2
                      simp only [if_true] at hbit
                      go_upto_region 21 with (fail)
                      go_region
                      all_goals
                        go_wp2
                        go_ret2
                        exact ⟨rfl, by first | exact HBR.out | exact HBR.out.drew | exact HBR.out.drew.drew⟩
                  · have h2b : (tf == 2) = false := beq_false_of_ne h2
                    have HCG := Lib.hid (show chcG ⟨tt, tq, tf⟩ key fin now D h = (r1, r2) by
                      have h5 := HCG5.out
                      rw [if_neg (by rintro ⟨h, _⟩; cases h), if_neg (by intro h; cases h), if_neg (fun h => h2 h.1)] at h5; exact h5)
                    clear HCG5
                    go_wp2
                    go_roundw
                    case rel => exact ⟨j + 1, h, by omega, by go_num, rfl, hh, by rw [← HD.out]; exact HCG.out, HB3.out⟩
                    case measure => simp [intOf]; omega
                · by_cases h1 : tf = 1
                  · have HCG := HCG5.out
                    rw [if_pos ⟨rfl, h1⟩] at HCG
                    obtain ⟨rfl, rfl⟩ := Prod.mk.inj HCG
                    subst h1
                    go_upto_region 17 with (fail)
                    go_region
                    all_goals
                      go_wp2
                      go_ret2
                      exact ⟨rfl, by first | exact HBR.out | exact HBR.out.drew | exact HBR.out.drew.drew⟩
                  · have h1b : (tf == 1) = false := beq_false_of_ne h1
                    have HCG := Lib.hid (show chcG ⟨tt, tq, tf⟩ key fin now D (h ||| pw) = (r1, r2) by
                      have h5 := HCG5.out
                      rw [if_neg (fun h => h1 h.2), if_pos rfl, Int.toNat_natCast, ← HPW.out] at h5; exact h5)
                    clear HCG5
                    go_wp2
                    go_roundw
                    case rel => exact ⟨j + 1, h ||| pw, by omega, by go_num, rfl, HOR.out, by rw [← HD.out]; exact HCG.out, HB3.out⟩
                    case measure => simp [intOf]; omega
        · obtain rfl : j = n := by omega
          have hd : l.drop j = [] := List.drop_of_length_le (by rw [← HN.out]; exact Nat.le_refl _)
          rw [hd, chcG] at hcg
          by_cases hge : fin ≤ now
          · rw [if_pos hge] at hcg
            obtain ⟨rfl, rfl⟩ := Prod.mk.inj hcg
            clear hcg
            go_wp2
            go_ret2
            exact ⟨rfl, HBR0.out⟩
          · rw [if_neg hge] at hcg
            obtain ⟨rfl, rfl⟩ := Prod.mk.inj hcg
            clear hcg
            go_wp2
            go_ret2
            exact ⟨rfl, HBR0.out⟩

end Go.Proofs.Ytjfckchoklepbaa
