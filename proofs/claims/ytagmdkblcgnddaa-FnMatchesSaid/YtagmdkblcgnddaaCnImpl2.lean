/- DERIVED. The program's isSwitchEvent, isSwitchQueue and IsCombiner. -/
import Derived.Test.YtagmdkblcgnddaaCnImpl
import Derived.Test.YtagmdkblcgnddaaEvImpl
import Derived.Test.YtagmdkblcgnddaaFolSpec
import Derived.Deep.RegionHeld3
namespace Go.Proofs.Ytagmdkblcgnddaa
open Go.RowKit

def swEv (e : Ev) : Bool := okEv e && decide (e.k < 24)
set_option maxRecDepth 100000 in
theorem isSwitchEvent_q (t k : Int) (d v : Bool) (hv : v = swEv ⟨t, k, d⟩) (w : World) : Calls Try.prog 84 #[evv t k d] w fun e w' => e = .returned (.bool v) ∧ Below w.heap.size w w' := by
  obtain ⟨a1, h1⟩ : ∃ a, a = okEv ⟨t, k, d⟩ := ⟨_, rfl⟩
  have hv2 : v = (a1 && decide (k < 24)) := by rw [hv, h1]; rfl
  have H1 := Lib.hid h1
  have HV := Lib.hid hv2
  clear h1 hv hv2
  obtain ⟨W, hW⟩ : ∃ W, W = w.alloc (.cells #[.int .i64 t, .int .i64 k, .bool d] 36) := ⟨_, rfl⟩
  have HX0 := Lib.hid (show Bxd W w.heap.size [.int .i64 t, .int .i64 k, .bool d] by rw [hW]; exact Bxd.new _ _ _)
  have HB0 := Lib.hid (show Below w.heap.size w W by rw [hW]; exact (Below.refl _ _).alloc (Nat.le_refl _) _)
  have HS0 := Lib.hid (show w.heap.size < W.heap.size by rw [hW]; simp)
  have HW := Lib.hid hW
  clear hW
  go_enter Try.func84, Try.ntmps84
  go_upto_region 1 with (fail)
  rw [← HW.out]
  have c0 := HX0.out.at 0 _ rfl
  have c1 := HX0.out.at 1 _ rfl
  have c2 := HX0.out.at 2 _ rfl
  go_wp2_with fail
  refine (implIsEvent_q t k d a1 H1.out _).mono ?_
  rintro e w1 ⟨rfl, hb⟩
  have HB1 := Lib.hid (HB0.out.trans (hb.mono HB0.out.size))
  have HX1 := Lib.hid (HX0.out.below hb HS0.out)
  clear hb c0 c1 c2
  have c1 := HX1.out.at 1 _ rfl
  cases a1
  · obtain rfl : v = false := HV.out
    go_wp2
    go_ret
    exact ⟨rfl, HB1.out⟩
  · obtain rfl : v = decide (k < 24) := HV.out.trans (Bool.true_and _)
    go_wp2
    go_ret
    exact ⟨rfl, HB1.out⟩
theorem isTime_q0 (t : Int) (v : Bool) (hv : v = inB t 0 1000000) (w : World) : Calls Try.prog 72 #[.int .i64 t] w fun e w' => e = .returned (.bool v) ∧ w = w' := by
  rw [hv]; exact isTime_any t w
/-- One event can come next, as the program asks. -/
def sqO (e : Ev) (h : Nat) (f n : Int) : Bool := swEv e && (inB e.t f n && !(e.d == h.testBit e.k.toNat))
def sqV (n : Int) : List Ev → Nat → Int → Bool
  | [], _, _ => true
  | e :: l, h, f => sqO e h f n && sqV n l (h ^^^ 2 ^ e.k.toNat) e.t
theorem swEv_key {e : Ev} (h : swEv e = true) : 0 ≤ e.t ∧ 0 ≤ e.k ∧ e.k < 24 := by
  rw [swEv, Bool.and_eq_true] at h
  have := okEv_key h.1
  have h2 : e.k < 24 := of_decide_eq_true h.2
  omega
theorem hz_bit {X kn : Nat} (hX : X < 2 ^ 32) : hz (X : Int) kn = X.testBit kn := by
  unfold hz bz
  rw [bit_nat X kn (by omega)]
  cases X.testBit kn <;> rfl
set_option maxRecDepth 100000 in
set_option maxHeartbeats 4000000 in
theorem isSwitchQueue_q (v : Value) (l : List Ev) (H : Nat) (n : Int) (r : Bool) (hr : r = (decide (l.length ≤ 64) && sqV n l H 0)) (w : World) (hl : l.length ≤ maxLen) (hH : H < 2 ^ 32) (h : RdN w v l.length (flatEv l)) :
    Calls Try.prog 74 #[v, .int .i64 (H : Int), .int .i64 n] w fun e w' => e = .returned (.bool r) ∧ Below w.heap.size w w' := by
  unfold maxLen at hl
  obtain ⟨a, cap, rfl⟩ := rdN_shape h
  have HRd := Lib.hid h
  have HR := Lib.hid hr
  obtain ⟨N, hN⟩ : ∃ N, N = l.length := ⟨_, rfl⟩
  rw [← hN] at hl ⊢
  have HNN := Lib.hid hN
  clear h hr hN
  by_cases h64 : 64 < N
  · obtain rfl : r = false := by rw [HR.out, ← HNN.out, decide_eq_false (by omega), Bool.false_and]
    go_enter Try.func74, Try.ntmps74
    go_wp2
    go_ret
    exact ⟨rfl, Below.refl _ _⟩
  · have HR2 := Lib.hid (show r = sqV n l H 0 by rw [HR.out, ← HNN.out, decide_eq_true (by omega), Bool.true_and])
    go_enter Try.func74, Try.ntmps74
    go_wp2
    go_loopw [15, 9, 1, 7] (fun i _ s t wr => ∃ (j X : Nat) (g : Int), j ≤ N ∧ i = .int .i64 j ∧ s = .int .i64 (X : Int) ∧ t = .int .i64 g ∧ X < 2 ^ 32 ∧ r = sqV n (l.drop j) X g ∧ Below w.heap.size w wr) (fun i _ _ _ _ => N - (intOf i).toNat)
    case atStart => exact ⟨0, H, 0, Nat.zero_le _, rfl, rfl, rfl, hH, HR2.out, Below.refl _ _⟩
    case round =>
      obtain ⟨j, X, g, hj, rfl, rfl, rfl, hX, hd, hb⟩ := hrel
      by_cases hlt' : j < N
      · have hjl : j < l.length := by rw [← HNN.out]; exact hlt'
        obtain ⟨b, off, rfl, hlt, c0, c1, c2⟩ := ev_at HRd.out hjl
        rw [ev_drop hjl] at hd
        obtain ⟨e, he⟩ : ∃ e, e = evD l j := ⟨_, rfl⟩
        rw [← he] at c0 c1 c2 hd
        have hbad : sqO e X g n = false → r = false := fun h0 => by rw [hd, sqV, h0]; rfl
        have hnx : sqO e X g n = true → r = sqV n (l.drop (j + 1)) (X ^^^ 2 ^ e.k.toNat) e.t := fun h0 => by rw [hd, sqV, h0, Bool.true_and]
        obtain ⟨et, ek, ed⟩ := e
        simp only at c0 c1 c2 hnx
        have r0 := (hb.cell (p := ⟨b, off + j * 3, none⟩) hlt).trans c0
        have r1 := (hb.cell (p := ⟨b, off + j * 3 + 1, none⟩) hlt).trans c1
        have r2 := (hb.cell (p := ⟨b, off + j * 3 + 2, none⟩) hlt).trans c2
        have HB := Lib.hid hb
        have HBad := Lib.hid hbad
        have HNX := Lib.hid hnx
        obtain ⟨ov, hov⟩ : ∃ x, x = swEv ⟨et, ek, ed⟩ := ⟨_, rfl⟩
        have HOV := Lib.hid hov
        obtain ⟨iv, hiv⟩ : ∃ x, x = inB et g n := ⟨_, rfl⟩
        have HIV := Lib.hid hiv
        have hfo : sqO ⟨et, ek, ed⟩ X g n = (ov && (iv && !(ed == X.testBit ek.toNat))) := by rw [hov, hiv]; rfl
        have HFO := Lib.hid hfo
        clear c0 c1 c2 hd he hbad hnx hb hov hfo hiv
        go_upto_region 7 with (fail)
        obtain ⟨U, hU⟩ : ∃ U, U = wr.alloc (.cells #[.int .i64 et, .int .i64 ek, .bool ed] 36) := ⟨_, rfl⟩
        obtain ⟨q, hq⟩ : ∃ q, q = wr.heap.size := ⟨_, rfl⟩
        have hbx : Bxd U q [.int .i64 et, .int .i64 ek, .bool ed] := by rw [hU, hq]; exact Bxd.new _ _ _
        have hu : Below wr.heap.size wr U := by rw [hU]; exact (Below.refl _ _).alloc (Nat.le_refl _) _
        have hqs : q < U.heap.size := by rw [hU, hq]; simp
        rw [← hU, ← hq]
        have HBU := Lib.hid (HB.out.trans (hu.mono HB.out.size))
        have x0 := Far.cell hqs (hbx.at 0 _ rfl)
        have x1 := Far.cell hqs (hbx.at 1 _ rfl)
        have x2 := Far.cell hqs (hbx.at 2 _ rfl)
        clear hU hq hu r0 r1 r2 hbx hqs
        cases ov
        · skip
          obtain rfl : r = false := HBad.out (by rw [HFO.out]; rfl)
          clear hX
          refine wp_region_far (by kernel_rfl) (by kernel_rfl) ?_
          repeat (go_big_quiet_step ((first | (go_at_call 84; exact Far.call (isSwitchEvent_q et ek ed _ HOV.out _)) | (go_at_call 67; exact Far.call ((between_q et g n _ HIV.out _).mono fun _ _ h => ⟨h.1, h.2 ▸ Below.refl _ _⟩)))))
          refine wpQuiet_nil ?_
          intro _ hw'
          obtain ⟨xw, rfl⟩ := hw'
          have HB2 := Lib.hid (HBU.out.trans (xw.low.mono HBU.out.size))
          go_wp2
          go_ret
          exact ⟨rfl, HB2.out⟩
        · have hkey := swEv_key HOV.out.symm
          simp only at hkey
          obtain ⟨kn, rfl⟩ := Int.eq_ofNat_of_zero_le hkey.2.1
          have hk31 : kn ≤ 23 := by have := hkey.2.2; omega
          clear hkey
          cases iv
          · skip
            obtain rfl : r = false := HBad.out (by rw [HFO.out]; rfl)
            clear hX
            refine wp_region_far (by kernel_rfl) (by kernel_rfl) ?_
            repeat (go_big_quiet_step ((first | (go_at_call 84; exact Far.call (isSwitchEvent_q et kn ed _ HOV.out _)) | (go_at_call 67; exact Far.call ((between_q et g n _ HIV.out _).mono fun _ _ h => ⟨h.1, h.2 ▸ Below.refl _ _⟩)))))
            refine wpQuiet_nil ?_
            intro _ hw'
            obtain ⟨xw, rfl⟩ := hw'
            have HB2 := Lib.hid (HBU.out.trans (xw.low.mono HBU.out.size))
            go_wp2
            go_ret
            exact ⟨rfl, HB2.out⟩
          · obtain ⟨bv, hbv⟩ : ∃ x, x = X.testBit kn := ⟨_, rfl⟩
            have HCH := Lib.hid (show (!bv) = !hz (X : Int) kn by rw [hbv, hz_bit hX])
            have HFO2 := Lib.hid (show sqO ⟨et, (kn : Int), ed⟩ X g n = !(ed == bv) by rw [HFO.out, hbv, Int.toNat_natCast]; rfl)
            clear hbv
            cases ed
            · cases bv
              · skip
                obtain rfl : r = false := HBad.out (by rw [HFO2.out]; rfl)
                clear hX
                refine wp_region_far (by kernel_rfl) (by kernel_rfl) ?_
                repeat (go_big_quiet_step ((first | (go_at_call 84; exact Far.call (isSwitchEvent_q et kn false _ HOV.out _)) | (go_at_call 67; exact Far.call ((between_q et g n _ HIV.out _).mono fun _ _ h => ⟨h.1, h.2 ▸ Below.refl _ _⟩)) | (go_at_call 123; exact Far.call (changeOf_r (X : Int) kn et (!false) HCH.out (by omega) _)))))
                refine wpQuiet_nil ?_
                intro _ hw'
                obtain ⟨xw, rfl⟩ := hw'
                have HB2 := Lib.hid (HBU.out.trans (xw.low.mono HBU.out.size))
                go_wp2
                go_ret
                exact ⟨rfl, HB2.out⟩
              · skip
                have HQ := Lib.hid (HNX.out (by rw [HFO2.out]; rfl))
                refine wp_region_far (by kernel_rfl) (by kernel_rfl) ?_
                repeat (go_big_quiet_step ((first | (go_at_call 84; exact Far.call (isSwitchEvent_q et kn false _ HOV.out _)) | (go_at_call 67; exact Far.call ((between_q et g n _ HIV.out _).mono fun _ _ h => ⟨h.1, h.2 ▸ Below.refl _ _⟩)) | (go_at_call 123; exact Far.call (changeOf_r (X : Int) kn et (!true) HCH.out (by omega) _)))))
                refine wpQuiet_nil ?_
                intro _ hw'
                obtain ⟨xw, rfl⟩ := hw'
                have HB2 := Lib.hid (HBU.out.trans (xw.low.mono HBU.out.size))
                have y0 := x0 xw
                have y1 := x1 xw
                have hw := wrap64_pow62 (k := kn) (by omega)
                have hp : 2 ^ kn < 2 ^ 32 := Nat.pow_lt_pow_right (by decide) (by omega)
                have hx := xor_nat X (2 ^ kn) (by omega) (by omega)
                have HX2 := Lib.hid (show X ^^^ 2 ^ kn < 2 ^ 32 from Nat.xor_lt_two_pow hX hp)
                have HQ2 := HQ.out
                rw [Int.toNat_natCast] at HQ2
                obtain ⟨p, hpd⟩ : ∃ p, p = 2 ^ kn := ⟨_, rfl⟩
                rw [← hpd] at hw hx HQ2 HX2
                have HQ3 := Lib.hid HQ2
                clear HQ HQ2 hp hpd hX x0 x1 x2
                go_wp2
                go_roundw
                case rel => exact ⟨j + 1, X ^^^ p, et, by omega, by go_num, rfl, rfl, HX2.out, HQ3.out, HB2.out⟩
                case measure => simp [intOf]; omega
            · cases bv
              · skip
                have HQ := Lib.hid (HNX.out (by rw [HFO2.out]; rfl))
                refine wp_region_far (by kernel_rfl) (by kernel_rfl) ?_
                repeat (go_big_quiet_step ((first | (go_at_call 84; exact Far.call (isSwitchEvent_q et kn true _ HOV.out _)) | (go_at_call 67; exact Far.call ((between_q et g n _ HIV.out _).mono fun _ _ h => ⟨h.1, h.2 ▸ Below.refl _ _⟩)) | (go_at_call 123; exact Far.call (changeOf_r (X : Int) kn et (!false) HCH.out (by omega) _)))))
                refine wpQuiet_nil ?_
                intro _ hw'
                obtain ⟨xw, rfl⟩ := hw'
                have HB2 := Lib.hid (HBU.out.trans (xw.low.mono HBU.out.size))
                have y0 := x0 xw
                have y1 := x1 xw
                have hw := wrap64_pow62 (k := kn) (by omega)
                have hp : 2 ^ kn < 2 ^ 32 := Nat.pow_lt_pow_right (by decide) (by omega)
                have hx := xor_nat X (2 ^ kn) (by omega) (by omega)
                have HX2 := Lib.hid (show X ^^^ 2 ^ kn < 2 ^ 32 from Nat.xor_lt_two_pow hX hp)
                have HQ2 := HQ.out
                rw [Int.toNat_natCast] at HQ2
                obtain ⟨p, hpd⟩ : ∃ p, p = 2 ^ kn := ⟨_, rfl⟩
                rw [← hpd] at hw hx HQ2 HX2
                have HQ3 := Lib.hid HQ2
                clear HQ HQ2 hp hpd hX x0 x1 x2
                go_wp2
                go_roundw
                case rel => exact ⟨j + 1, X ^^^ p, et, by omega, by go_num, rfl, rfl, HX2.out, HQ3.out, HB2.out⟩
                case measure => simp [intOf]; omega
              · skip
                obtain rfl : r = false := HBad.out (by rw [HFO2.out]; rfl)
                clear hX
                refine wp_region_far (by kernel_rfl) (by kernel_rfl) ?_
                repeat (go_big_quiet_step ((first | (go_at_call 84; exact Far.call (isSwitchEvent_q et kn true _ HOV.out _)) | (go_at_call 67; exact Far.call ((between_q et g n _ HIV.out _).mono fun _ _ h => ⟨h.1, h.2 ▸ Below.refl _ _⟩)) | (go_at_call 123; exact Far.call (changeOf_r (X : Int) kn et (!true) HCH.out (by omega) _)))))
                refine wpQuiet_nil ?_
                intro _ hw'
                obtain ⟨xw, rfl⟩ := hw'
                have HB2 := Lib.hid (HBU.out.trans (xw.low.mono HBU.out.size))
                go_wp2
                go_ret
                exact ⟨rfl, HB2.out⟩
      · obtain rfl : j = N := by omega
        have hrt : r = true := by rw [hd, List.drop_of_length_le (by rw [HNN.out]; omega)]; rfl
        have HRT := Lib.hid hrt
        have HB := Lib.hid hb
        clear hb hd hrt
        go_wp2
        go_ret
        exact ⟨ret_bool HRT.out.symm, HB.out⟩
theorem sqV_eq (n : Int) : ∀ (l : List Ev) (h : Nat) (f : Int), sqV n l h f = true → folV 24 l h f = true ∧ (l = [] ∨ lastT l 0 ≤ n)
  | [], _, _, _ => ⟨rfl, .inl rfl⟩
  | e :: l, h, f, hs => by
    rw [sqV, Bool.and_eq_true, sqO, Bool.and_eq_true, Bool.and_eq_true, swEv, Bool.and_eq_true] at hs
    obtain ⟨⟨⟨h1, h2⟩, h3, h4⟩, h5⟩ := hs
    have h3' : f ≤ e.t ∧ e.t ≤ n := of_decide_eq_true h3
    have h2' : e.k < 24 := of_decide_eq_true h2
    obtain ⟨g1, g2⟩ := sqV_eq n l _ _ h5
    refine ⟨?_, .inr ?_⟩
    · rw [folV, folO, h1, decide_eq_false (by omega), decide_eq_false (by omega), h4, g1]; rfl
    · cases l with
      | nil => exact h3'.2
      | cons e2 l2 =>
        rcases g2 with g2 | g2
        · cases g2
        · exact g2
theorem folV_le : ∀ (l : List Ev) (h : Nat) (f : Int), folV 24 l h f = true → ∀ e ∈ l, f ≤ e.t ∧ e.t ≤ lastT l 0
  | [], _, _, _, e, he => by cases he
  | a :: l, h, f, hf, e, he => by
    rw [folV, Bool.and_eq_true, folO, Bool.and_eq_true, Bool.and_eq_true, Bool.and_eq_true] at hf
    have h3 : ¬ a.t < f := by have := hf.1.2.2.1; simpa using this
    have hl : ∀ (b : Ev) (l2 : List Ev), lastT (a :: b :: l2) 0 = lastT (b :: l2) 0 := fun b l2 => rfl
    cases l with
    | nil =>
      rw [List.mem_singleton] at he; subst he
      exact ⟨by omega, Int.le_refl _⟩
    | cons b l2 =>
      have ih := folV_le (b :: l2) _ _ hf.2
      rw [hl]
      rcases List.mem_cons.1 he with rfl | he
      · have := ih b List.mem_cons_self; omega
      · have := ih e he; omega
theorem sqV_of (n : Int) : ∀ (l : List Ev) (h : Nat) (f : Int), folV 24 l h f = true → (∀ e ∈ l, e.t ≤ n) → sqV n l h f = true
  | [], _, _, _, _ => rfl
  | e :: l, h, f, hf, hn => by
    have hf0 := hf
    rw [folV, Bool.and_eq_true, folO, Bool.and_eq_true, Bool.and_eq_true, Bool.and_eq_true] at hf
    obtain ⟨⟨h1, h2, h3, h4⟩, h5⟩ := hf
    have h2' : ¬ (24 : Int) ≤ e.k := by simpa using h2
    have h3' : ¬ e.t < f := by simpa using h3
    have := hn e List.mem_cons_self
    rw [sqV, sqO, swEv, h1, decide_eq_true (by omega), show inB e.t f n = true from decide_eq_true (by omega), h4, sqV_of n l _ _ h5 (fun e he => hn e (List.mem_cons_of_mem _ he))]
    rfl
/-- What the program asks of the queue is what the document asks. -/
theorem sq_fol (n : Int) (l : List Ev) (h : Nat) : (decide (l.length ≤ 64) && sqV n l h 0) = ((folV 24 l h 0 && decide (l.length ≤ 64)) && !(decide (0 < l.length) && decide (n < lastT l 0))) := by
  rw [Bool.eq_iff_iff]
  simp only [Bool.and_eq_true, Bool.not_eq_true', Bool.and_eq_false_iff, decide_eq_true_eq, decide_eq_false_iff_not]
  constructor
  · rintro ⟨h1, h2⟩
    obtain ⟨g1, g2⟩ := sqV_eq n l h 0 h2
    refine ⟨⟨g1, h1⟩, ?_⟩
    rcases g2 with rfl | g2
    · exact .inl (by simp)
    · exact .inr (by omega)
  · rintro ⟨⟨g1, h1⟩, g2⟩
    refine ⟨h1, sqV_of n l h 0 g1 fun e he => ?_⟩
    have := folV_le l h 0 g1 e he
    rcases g2 with g2 | g2
    · cases l with
      | nil => cases he
      | cons a l => simp at g2
    · omega

set_option maxRecDepth 100000 in
set_option maxHeartbeats 4000000 in
theorem implIsCombiner_q (c : Cn) (u1 u2 u3 : Value) (r : Bool) (hr : r = okCn c) (w : World) (hn1 : c.C.length ≤ maxLen) (hn2 : c.Q.length ≤ maxLen) (hn3 : c.A.length ≤ maxLen) (hw : AvWf c.A) (hcap : CapLe u1) (h : RdCn w c u1 u2 u3) :
    Calls Try.prog 19 #[c.val u1 u2 u3] w fun e w' => e = .returned (.bool r) ∧ Below w.heap.size w w' := by
  obtain ⟨va, hva⟩ : ∃ v, v = okCbs c.C := ⟨_, rfl⟩
  obtain ⟨vb, hvb⟩ : ∃ v, v = inB c.t 1 200 := ⟨_, rfl⟩
  obtain ⟨vc, hvc⟩ : ∃ v, v = inB c.n 0 1000000 := ⟨_, rfl⟩
  obtain ⟨vd, hvd⟩ : ∃ v, v = inB c.k 0 c.n := ⟨_, rfl⟩
  obtain ⟨ve, hve⟩ : ∃ v, v = okAvs c.C c.d c.A := ⟨_, rfl⟩
  obtain ⟨vf, hvf⟩ : ∃ v, v = (decide (c.Q.length ≤ 64) && sqV c.n c.Q (hlV c).toNat 0) := ⟨_, rfl⟩
  have hrv : r = ((va && (vb && (vc && (vd && ve)))) && vf) := by rw [hr, hva, hvb, hvc, hvd, hve, hvf, sq_fol]; rfl
  have HR := Lib.hid hrv
  have HVA := Lib.hid hva
  have HVB := Lib.hid hvb
  have HVC := Lib.hid hvc
  have HVD := Lib.hid hvd
  have HVE := Lib.hid hve
  have HVF := Lib.hid hvf
  have HRd := Lib.hid h
  have HN1 := Lib.hid hn1
  have HN2 := Lib.hid hn2
  have HN3 := Lib.hid hn3
  have HWf := Lib.hid hw
  have HCap := Lib.hid hcap
  clear hr hrv hva hvb hvc hvd hve hvf h hn1 hn2 hn3 hw hcap
  obtain ⟨W, hW⟩ : ∃ W, W = w.alloc (.cells #[u1, .int .i64 c.t, u2, .int .i64 c.n, .int .i64 c.k, .int .i64 c.d, u3] 28) := ⟨_, rfl⟩
  have HX0 := Lib.hid (show Bxd W w.heap.size [u1, .int .i64 c.t, u2, .int .i64 c.n, .int .i64 c.k, .int .i64 c.d, u3] by rw [hW]; exact Bxd.new _ _ _)
  have HB0 := Lib.hid (show Below w.heap.size w W by rw [hW]; exact (Below.refl _ _).alloc (Nat.le_refl _) _)
  have HS0 := Lib.hid (show w.heap.size < W.heap.size by rw [hW]; simp)
  have HW := Lib.hid hW
  clear hW
  go_enter Try.func19, Try.ntmps19
  go_upto_region 1 with (fail)
  rw [← HW.out]
  have x0 := HX0.out.at 0 _ rfl
  have x1 := HX0.out.at 1 _ rfl
  have x2 := HX0.out.at 2 _ rfl
  have x3 := HX0.out.at 3 _ rfl
  have x4 := HX0.out.at 4 _ rfl
  have x5 := HX0.out.at 5 _ rfl
  have x6 := HX0.out.at 6 _ rfl
  go_wp2_with fail
  refine (implIsCombos_q u1 c.C va HVA.out _ HN1.out HCap.out (HRd.out.cs.below HB0.out)).mono ?_
  rintro e w1 ⟨rfl, hb⟩
  have HB1 := Lib.hid (HB0.out.trans (hb.mono HB0.out.size))
  have HX1 := Lib.hid (HX0.out.below hb HS0.out)
  have HS1 := Lib.hid (Nat.lt_of_lt_of_le HS0.out hb.size)
  clear hb x0 x1 x2 x3 x4 x5 x6
  have x0 := HX1.out.at 0 _ rfl
  have x1 := HX1.out.at 1 _ rfl
  have x2 := HX1.out.at 2 _ rfl
  have x3 := HX1.out.at 3 _ rfl
  have x4 := HX1.out.at 4 _ rfl
  have x5 := HX1.out.at 5 _ rfl
  have x6 := HX1.out.at 6 _ rfl
  cases va
  · obtain rfl : r = false := HR.out.trans (by simp)
    go_wp2
    go_ret
    exact ⟨rfl, HB1.out⟩
  · go_wp2_with fail
    refine (between_q c.t 1 200 vb HVB.out _).mono ?_
    rintro e w0 ⟨rfl, rfl⟩
    cases vb
    · obtain rfl : r = false := HR.out.trans (by simp)
      go_wp2
      go_ret
      exact ⟨rfl, HB1.out⟩
    · go_wp2_with fail
      refine (isTime_q0 c.n vc HVC.out _).mono ?_
      rintro e w0 ⟨rfl, rfl⟩
      cases vc
      · obtain rfl : r = false := HR.out.trans (by simp)
        go_wp2
        go_ret
        exact ⟨rfl, HB1.out⟩
      · go_wp2_with fail
        refine (between_q c.k 0 c.n vd HVD.out _).mono ?_
        rintro e w0 ⟨rfl, rfl⟩
        cases vd
        · obtain rfl : r = false := HR.out.trans (by simp)
          go_wp2
          go_ret
          exact ⟨rfl, HB1.out⟩
        · go_wp2_with fail
          refine (switchesDown_q c u1 u2 u3 (sdV c).1 (sdV c).2 rfl _ HVA.out.symm HN3.out HWf.out (HRd.out.below HB1.out)).mono ?_
          obtain ⟨sx, hsx⟩ : ∃ s, s = sdV c := ⟨_, rfl⟩
          rw [← hsx]
          rw [sdV, ← HVE.out] at hsx
          rintro e w2 ⟨rfl, hb⟩
          have HB2 := Lib.hid (HB1.out.trans (hb.mono HB1.out.size))
          have HX2 := Lib.hid (HX1.out.below hb HS1.out)
          have HS2 := Lib.hid (Nat.lt_of_lt_of_le HS1.out hb.size)
          clear hb x0 x1 x2 x3 x4 x5 x6
          cases ve
          · obtain rfl : sx = (0, false) := hsx
            obtain rfl : r = false := HR.out.trans (by simp)
            go_wp2
            go_ret
            exact ⟨rfl, HB2.out⟩
          · obtain ⟨X, hX, hX2⟩ := okAvs_nat HVA.out.symm HWf.out HVE.out.symm
            obtain rfl : sx = ((X : Int), true) := by rw [hsx, if_pos rfl, hX]
            have HF := Lib.hid (show r = (decide (c.Q.length ≤ 64) && sqV c.n c.Q X 0) by rw [HR.out, HVF.out, hX, Int.toNat_natCast]; simp)
            clear hX hsx
            have x0 := HX2.out.at 0 _ rfl
            have x1 := HX2.out.at 1 _ rfl
            have x2 := HX2.out.at 2 _ rfl
            have x3 := HX2.out.at 3 _ rfl
            have x4 := HX2.out.at 4 _ rfl
            have x5 := HX2.out.at 5 _ rfl
            have x6 := HX2.out.at 6 _ rfl
            go_wp2_with fail
            refine (isSwitchQueue_q u2 c.Q X c.n r HF.out _ HN2.out (by omega) (HRd.out.qs.below HB2.out)).mono ?_
            rintro e w3 ⟨rfl, hb⟩
            have HB3 := Lib.hid (HB2.out.trans (hb.mono HB2.out.size))
            clear hb x0 x1 x2 x3 x4 x5 x6
            go_wp2
            go_ret
            exact ⟨rfl, HB3.out⟩

end Go.Proofs.Ytagmdkblcgnddaa
