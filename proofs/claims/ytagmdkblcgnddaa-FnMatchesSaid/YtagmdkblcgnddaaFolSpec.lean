/- DERIVED. The reference's l10Follows: whether events can follow each other. -/
import Derived.Test.YtagmdkblcgnddaaFol
import Derived.Deep.RegionHeld3
namespace Go.Proofs.Ytagmdkblcgnddaa
open Go.RowKit

theorem ev_drop {l : List Ev} {j : Nat} (h : j < l.length) : l.drop j = evD l j :: l.drop (j + 1) := by
  rw [List.drop_eq_getElem_cons h, evD]; simp [List.getElem?_eq_getElem h]
theorem folO_key {k : Int} {e : Ev} {h : Nat} {f : Int} (ho : folO k e h f = true) : 0 ≤ e.t ∧ e.t ≤ 1000000 ∧ 0 ≤ e.k ∧ e.k ≤ 31 := by
  rw [folO, Bool.and_eq_true] at ho
  exact okEv_key ho.1

set_option maxHeartbeats 4000000 in
set_option maxRecDepth 100000 in
theorem specFollows_q (v : Value) (l : List Ev) (H : Nat) (K f : Int) (r : Bool) (hr : r = (folV K l H f && decide (l.length ≤ 64))) (w : World) (hl : l.length ≤ maxLen) (hH : H < 2 ^ 32) (h : RdN w v l.length (flatEv l)) :
    Calls Try.prog 105 #[v, .int .i64 (H : Int), .int .i64 K, .int .i64 f] w fun e w' => e = .returned (.bool r) ∧ Below w.heap.size w w' := by
  unfold maxLen at hl
  have HR := Lib.hid hr
  clear hr
  rcases rd_evs h with ⟨rfl, a, cap, rfl⟩ | ⟨b, off, cap, hpos, rfl, hlt, hc⟩
  · obtain rfl : r = true := HR.out
    clear h
    go_enter Try.func105, Try.ntmps105
    go_wp2
    refine wp_loop_rounds 1 ?_
    rw [rounds_succ]
    go_wp2
    go_ret
    exact ⟨rfl, Below.refl _ _⟩
  · have HC := Lib.hid hc
    obtain ⟨N, hN⟩ : ∃ N, N = l.length := ⟨_, rfl⟩
    rw [← hN] at hl hpos ⊢
    have HNN := Lib.hid hN
    clear h hc hN
    go_enter Try.func105, Try.ntmps105
    go_wp2
    go_loopw [9, 1, 3] (fun i s t wr => ∃ (j X : Nat) (g : Int), j ≤ N ∧ i = .int .i64 j ∧ s = .int .i64 (X : Int) ∧ t = .int .i64 g ∧ X < 2 ^ 32 ∧ r = (folV K (l.drop j) X g && decide (l.length ≤ 64)) ∧ Below w.heap.size w wr) (fun i _ _ _ => N - (intOf i).toNat)
    case atStart => exact ⟨0, H, f, Nat.zero_le _, rfl, rfl, rfl, hH, HR.out, Below.refl _ _⟩
    case round =>
      obtain ⟨j, X, g, hj, rfl, rfl, rfl, hX, hd, hb⟩ := hrel
      by_cases hlt' : j < N
      · have hjl : j < l.length := by rw [← HNN.out]; exact hlt'
        obtain ⟨c0, c1, c2⟩ := HC.out j hjl
        rw [ev_drop hjl] at hd
        obtain ⟨e, he⟩ : ∃ e, e = evD l j := ⟨_, rfl⟩
        rw [← he] at c0 c1 c2 hd
        have hbad : folO K e X g = false → r = false := fun h0 => by rw [hd, folV, h0]; rfl
        have hnx : folO K e X g = true → r = (folV K (l.drop (j + 1)) (X ^^^ 2 ^ e.k.toNat) e.t && decide (l.length ≤ 64)) := fun h0 => by rw [hd, folV, h0, Bool.true_and]
        obtain ⟨et, ek, ed⟩ := e
        simp only at c0 c1 c2 hnx
        have r0 := (hb.cell (p := ⟨b, off + j * 3, none⟩) hlt).trans c0
        have r1 := (hb.cell (p := ⟨b, off + j * 3 + 1, none⟩) hlt).trans c1
        have r2 := (hb.cell (p := ⟨b, off + j * 3 + 2, none⟩) hlt).trans c2
        have hbl : b < wr.heap.size := Nat.lt_of_lt_of_le hlt hb.size
        have HE0 := Lib.hid c0
        have HE1 := Lib.hid c1
        have HB := Lib.hid hb
        have HBad := Lib.hid hbad
        have HNX := Lib.hid hnx
        obtain ⟨ov, hov⟩ : ∃ x, x = okEv ⟨et, ek, ed⟩ := ⟨_, rfl⟩
        have HOV := Lib.hid hov
        have hfo : folO K ⟨et, ek, ed⟩ X g = (ov && (!decide (K ≤ ek) && (!decide (et < g) && !(ed == X.testBit ek.toNat)))) := by rw [hov]; rfl
        have HFO := Lib.hid hfo
        have x0 := Far.cell hbl r0
        have x1 := Far.cell hbl r1
        have x2 := Far.cell hbl r2
        clear c0 c1 c2 hd he hbad hnx hb r0 r1 r2 hov hfo
        go_upto_region 4 with (fail)
        cases ov
        · skip
          obtain rfl : r = false := HBad.out (by rw [HFO.out]; rfl)
          clear hX
          refine wp_region_far (by kernel_rfl) (by kernel_rfl) ?_
          repeat (go_big_quiet_step ((go_at_call 83; exact Far.call (specIsEvent_q et ek ed _ HOV.out _))))
          refine wpQuiet_nil ?_
          intro _ hw'
          obtain ⟨xw, rfl⟩ := hw'
          have HB2 := Lib.hid (HB.out.trans (xw.low.mono HB.out.size))
          go_wp2
          go_ret
          exact ⟨rfl, HB2.out⟩
        · have hkey := okEv_key HOV.out.symm
          simp only at hkey
          obtain ⟨kn, rfl⟩ := Int.eq_ofNat_of_zero_le hkey.2.2.1
          have hk31 : kn ≤ 31 := by have := hkey.2.2.2; omega
          clear hkey
          by_cases h1 : K ≤ (kn : Int)
          · skip
            obtain rfl : r = false := HBad.out (by rw [HFO.out, decide_eq_true h1]; simp only [Bool.not_true, Bool.false_and, Bool.and_false])
            clear hX
            refine wp_region_far (by kernel_rfl) (by kernel_rfl) ?_
            repeat (go_big_quiet_step ((go_at_call 83; exact Far.call (specIsEvent_q et kn ed _ HOV.out _))))
            refine wpQuiet_nil ?_
            intro _ hw'
            obtain ⟨xw, rfl⟩ := hw'
            have HB2 := Lib.hid (HB.out.trans (xw.low.mono HB.out.size))
            go_wp2
            go_ret
            exact ⟨rfl, HB2.out⟩
          · by_cases h2 : et < g
            · skip
              obtain rfl : r = false := HBad.out (by rw [HFO.out, decide_eq_true h2]; simp)
              clear hX
              refine wp_region_far (by kernel_rfl) (by kernel_rfl) ?_
              repeat (go_big_quiet_step ((go_at_call 83; exact Far.call (specIsEvent_q et kn ed _ HOV.out _))))
              refine wpQuiet_nil ?_
              intro _ hw'
              obtain ⟨xw, rfl⟩ := hw'
              have HB2 := Lib.hid (HB.out.trans (xw.low.mono HB.out.size))
              go_wp2
              go_ret
              exact ⟨rfl, HB2.out⟩
            · have hbit := bit_nat X kn (by omega)
              obtain ⟨bv, hbv⟩ : ∃ x, x = X.testBit kn := ⟨_, rfl⟩
              have HFO2 := Lib.hid (show folO K ⟨et, (kn : Int), ed⟩ X g = !(ed == bv) by rw [HFO.out, decide_eq_false h1, decide_eq_false h2, hbv, Int.toNat_natCast]; rfl)
              rw [← hbv] at hbit
              clear hbv
              cases ed
              · cases bv
                · have hb2 : bits .and .i64 ((X : Int) / 2 ^ kn) 1 = 0 := by rw [hbit]; rfl
                  clear hbit
                  obtain rfl : r = false := HBad.out (by rw [HFO2.out]; rfl)
                  clear hX
                  refine wp_region_far (by kernel_rfl) (by kernel_rfl) ?_
                  repeat (go_big_quiet_step ((go_at_call 83; exact Far.call (specIsEvent_q et kn false _ HOV.out _))))
                  refine wpQuiet_nil ?_
                  intro _ hw'
                  obtain ⟨xw, rfl⟩ := hw'
                  have HB2 := Lib.hid (HB.out.trans (xw.low.mono HB.out.size))
                  go_wp2
                  go_ret
                  exact ⟨rfl, HB2.out⟩
                · have hb2 : bits .and .i64 ((X : Int) / 2 ^ kn) 1 = 1 := by rw [hbit]; rfl
                  clear hbit
                  have HQ := Lib.hid (HNX.out (by rw [HFO2.out]; rfl))
                  refine wp_region_far (by kernel_rfl) (by kernel_rfl) ?_
                  repeat (go_big_quiet_step ((go_at_call 83; exact Far.call (specIsEvent_q et kn false _ HOV.out _))))
                  refine wpQuiet_nil ?_
                  intro _ hw'
                  obtain ⟨xw, rfl⟩ := hw'
                  have HB2 := Lib.hid (HB.out.trans (xw.low.mono HB.out.size))
                  have hbw : b < xw.val.heap.size := Nat.lt_of_lt_of_le hbl xw.low.size
                  have y0 := x0 xw
                  have y1 := x1 xw
                  have hw := wrap64_pow62 (k := kn) (by omega)
                  have hp : 2 ^ kn < 2 ^ 32 := Nat.pow_lt_pow_right (by decide) (by omega)
                  have hx := xor_nat X (2 ^ kn) (by omega) (by omega)
                  have HX2 := Lib.hid (show X ^^^ 2 ^ kn < 2 ^ 32 from Nat.xor_lt_two_pow hX hp)
                  have HQ2 := HQ.out
                  rw [Int.toNat_natCast] at HQ2
                  obtain ⟨p, hpd⟩ : ∃ p, p = 2 ^ kn := ⟨_, rfl⟩
                  rw [← hpd] at hw hx HQ2 HX2
                  have HQ3 := Lib.hid HQ2
                  clear HQ HQ2 hp hpd hX x0 x1 x2
                  go_wp2
                  go_roundw
                  case rel => exact ⟨j + 1, X ^^^ p, et, by omega, by go_num, rfl, rfl, HX2.out, HQ3.out, HB2.out⟩
                  case measure => simp [intOf]; omega
              · cases bv
                · have hb2 : bits .and .i64 ((X : Int) / 2 ^ kn) 1 = 0 := by rw [hbit]; rfl
                  clear hbit
                  have HQ := Lib.hid (HNX.out (by rw [HFO2.out]; rfl))
                  refine wp_region_far (by kernel_rfl) (by kernel_rfl) ?_
                  repeat (go_big_quiet_step ((go_at_call 83; exact Far.call (specIsEvent_q et kn true _ HOV.out _))))
                  refine wpQuiet_nil ?_
                  intro _ hw'
                  obtain ⟨xw, rfl⟩ := hw'
                  have HB2 := Lib.hid (HB.out.trans (xw.low.mono HB.out.size))
                  have hbw : b < xw.val.heap.size := Nat.lt_of_lt_of_le hbl xw.low.size
                  have y0 := x0 xw
                  have y1 := x1 xw
                  have hw := wrap64_pow62 (k := kn) (by omega)
                  have hp : 2 ^ kn < 2 ^ 32 := Nat.pow_lt_pow_right (by decide) (by omega)
                  have hx := xor_nat X (2 ^ kn) (by omega) (by omega)
                  have HX2 := Lib.hid (show X ^^^ 2 ^ kn < 2 ^ 32 from Nat.xor_lt_two_pow hX hp)
                  have HQ2 := HQ.out
                  rw [Int.toNat_natCast] at HQ2
                  obtain ⟨p, hpd⟩ : ∃ p, p = 2 ^ kn := ⟨_, rfl⟩
                  rw [← hpd] at hw hx HQ2 HX2
                  have HQ3 := Lib.hid HQ2
                  clear HQ HQ2 hp hpd hX x0 x1 x2
                  go_wp2
                  go_roundw
                  case rel => exact ⟨j + 1, X ^^^ p, et, by omega, by go_num, rfl, rfl, HX2.out, HQ3.out, HB2.out⟩
                  case measure => simp [intOf]; omega
                · have hb2 : bits .and .i64 ((X : Int) / 2 ^ kn) 1 = 1 := by rw [hbit]; rfl
                  clear hbit
                  obtain rfl : r = false := HBad.out (by rw [HFO2.out]; rfl)
                  clear hX
                  refine wp_region_far (by kernel_rfl) (by kernel_rfl) ?_
                  repeat (go_big_quiet_step ((go_at_call 83; exact Far.call (specIsEvent_q et kn true _ HOV.out _))))
                  refine wpQuiet_nil ?_
                  intro _ hw'
                  obtain ⟨xw, rfl⟩ := hw'
                  have HB2 := Lib.hid (HB.out.trans (xw.low.mono HB.out.size))
                  go_wp2
                  go_ret
                  exact ⟨rfl, HB2.out⟩
      · obtain rfl : j = N := by omega
        have hrt : r = decide (j ≤ 64) := by rw [hd, List.drop_of_length_le (by rw [HNN.out]; omega), ← HNN.out]; rfl
        have HRT := Lib.hid hrt
        have HB := Lib.hid hb
        clear hb hd hrt
        go_wp2
        go_ret
        exact ⟨ret_bool (by rw [HRT.out]; simp; omega), HB.out⟩

end Go.Proofs.Ytagmdkblcgnddaa
