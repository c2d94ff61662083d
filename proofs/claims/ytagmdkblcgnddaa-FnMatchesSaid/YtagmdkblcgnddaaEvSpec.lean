/- DERIVED. The reference's IsEvent, IsEvents and HeldAfter, each called with events that read as known data: it returns what a plain function says. -/
import Derived.Test.YtagmdkblcgnddaaEv
import Derived.Test.YtagmdkblcgnddaaDeb
import Derived.Test.YtagmdkblcgnddaaCore
namespace Go.Proofs.Ytagmdkblcgnddaa
open Go.RowKit

def okEv (e : Ev) : Bool := inB e.t 0 1000000 && inB e.k 0 31
def heldN (l : List Ev) : Nat → Nat
  | 0 => 0
  | j + 1 => heldN l j ^^^ 2 ^ (evD l j).k.toNat
/-- The event at place j is fine behind those ahead of it. -/
def okAt (l : List Ev) (j : Nat) : Bool := okEv (evD l j) && !(decide (0 < j) && decide ((evD l j).t < (evD l (j - 1)).t)) && !((evD l j).d == (heldN l j).testBit (evD l j).k.toNat)
def okEvN (l : List Ev) : Nat → Bool
  | 0 => true
  | j + 1 => okEvN l j && okAt l j
def okEvs (l : List Ev) : Bool := okEvN l l.length && decide (l.length ≤ 64)
def heldV (l : List Ev) : Nat := if okEvs l = true then heldN l l.length else 0
theorem okEvN_no {l : List Ev} {j : Nat} (h : okAt l j = false) : ∀ m, j < m → okEvN l m = false := by
  intro m hm
  induction m with
  | zero => omega
  | succ m ih =>
    rw [okEvN]
    by_cases hj : j = m
    · subst hj; rw [h, Bool.and_false]
    · rw [ih (by omega), Bool.false_and]
theorem okEvN_at {l : List Ev} {n : Nat} (h : okEvN l n = true) : ∀ j, j < n → okAt l j = true := by
  intro j hj
  cases hx : okAt l j
  · rw [okEvN_no hx n hj] at h; cases h
  · rfl
theorem okEvN_le {l : List Ev} {n : Nat} (h : okEvN l n = true) {j : Nat} (hj : j ≤ n) : okEvN l j = true := by
  induction n with
  | zero => obtain rfl : j = 0 := by omega
            rfl
  | succ n ih =>
    by_cases hn : j = n + 1
    · subst hn; exact h
    · rw [okEvN, Bool.and_eq_true] at h
      exact ih h.1 (by omega)
theorem okEv_key {e : Ev} (h : okEv e = true) : 0 ≤ e.t ∧ e.t ≤ 1000000 ∧ 0 ≤ e.k ∧ e.k ≤ 31 := by
  unfold okEv at h
  rw [Bool.and_eq_true] at h
  have h1 := of_decide_eq_true (show decide (0 ≤ e.t ∧ e.t ≤ 1000000) = true from h.1)
  have h2 := of_decide_eq_true (show decide (0 ≤ e.k ∧ e.k ≤ 31) = true from h.2)
  exact ⟨h1.1, h1.2, h2.1, h2.2⟩
theorem okAt_key {l : List Ev} {j : Nat} (h : okAt l j = true) : 0 ≤ (evD l j).k ∧ (evD l j).k ≤ 31 := by
  unfold okAt at h
  simp only [Bool.and_eq_true] at h
  have := okEv_key h.1.1
  exact ⟨this.2.2.1, this.2.2.2⟩
theorem heldN_lt {l : List Ev} {n : Nat} (h : ∀ j, j < n → 0 ≤ (evD l j).k ∧ (evD l j).k ≤ 31) : heldN l n < 2 ^ 32 := by
  induction n with
  | zero => simp [heldN]
  | succ n ih =>
    rw [heldN]
    have := h n (by omega)
    exact Nat.xor_lt_two_pow (ih fun j hj => h j (by omega)) (Nat.pow_lt_pow_right (by decide) (by omega))
theorem heldV_lt (l : List Ev) : heldV l < 2 ^ 32 := by
  unfold heldV
  split
  · rename_i h
    unfold okEvs at h
    rw [Bool.and_eq_true] at h
    exact heldN_lt fun j hj => okAt_key (okEvN_at h.1 j hj)
  · decide

theorem specIsEvent_any (t k : Int) (d : Bool) (w : World) : Calls Try.prog 83 #[evv t k d] w fun e w' => e = .returned (.bool (okEv ⟨t, k, d⟩)) ∧ Below w.heap.size w w' := by
  obtain ⟨a1, h1⟩ : ∃ a, a = inB t 0 1000000 := ⟨_, rfl⟩
  obtain ⟨a2, h2⟩ : ∃ a, a = inB k 0 31 := ⟨_, rfl⟩
  have hv : okEv ⟨t, k, d⟩ = (a1 && a2) := by rw [h1, h2]; rfl
  rw [hv]
  have H1 := Lib.hid h1
  have H2 := Lib.hid h2
  clear h1 h2 hv
  cases a1
  · obtain ⟨W, hW⟩ : ∃ W, W = w.alloc (.cells #[.int .i64 t, .int .i64 k, .bool d] 36) := ⟨_, rfl⟩
    have HX0 := Lib.hid (show Bxd W w.heap.size [.int .i64 t, .int .i64 k, .bool d] by rw [hW]; exact Bxd.new _ _ _)
    have HB0 := Lib.hid (show Below w.heap.size w W by rw [hW]; exact (Below.refl _ _).alloc (Nat.le_refl _) _)
    have HS0 := Lib.hid (show w.heap.size < W.heap.size by rw [hW]; simp)
    have HW := Lib.hid hW
    clear hW
    go_enter Try.func83, Try.ntmps83
    go_wp2_with fail
    refine (inB_any t 0 1000000 _).mono ?_
    rw [← H1.out]
    rintro e w0 ⟨rfl, rfl⟩
    go_wp2
    go_ret
    rw [← HW.out]
    exact ⟨rfl, HB0.out⟩
  · obtain ⟨W, hW⟩ : ∃ W, W = w.alloc (.cells #[.int .i64 t, .int .i64 k, .bool d] 36) := ⟨_, rfl⟩
    have HX0 := Lib.hid (show Bxd W w.heap.size [.int .i64 t, .int .i64 k, .bool d] by rw [hW]; exact Bxd.new _ _ _)
    have HB0 := Lib.hid (show Below w.heap.size w W by rw [hW]; exact (Below.refl _ _).alloc (Nat.le_refl _) _)
    have HS0 := Lib.hid (show w.heap.size < W.heap.size by rw [hW]; simp)
    have HW := Lib.hid hW
    clear hW
    go_enter Try.func83, Try.ntmps83
    go_wp2_with fail
    rw [← HW.out]
    refine (inB_any t 0 1000000 _).mono ?_
    rw [← H1.out]
    rintro e w0 ⟨rfl, rfl⟩
    have c0 := HX0.out.at 0 _ rfl
    have c1 := HX0.out.at 1 _ rfl
    have c2 := HX0.out.at 2 _ rfl
    go_wp2_with fail
    refine (inB_any k 0 31 _).mono ?_
    rw [← H2.out]
    rintro e w0 ⟨rfl, rfl⟩
    go_wp2
    go_ret
    exact ⟨rfl, HB0.out⟩

theorem specIsEvent_q (t k : Int) (d v : Bool) (hv : v = okEv ⟨t, k, d⟩) (w : World) : Calls Try.prog 83 #[evv t k d] w fun e w' => e = .returned (.bool v) ∧ Below w.heap.size w w' := by
  rw [hv]; exact specIsEvent_any t k d w

set_option maxHeartbeats 4000000 in
set_option maxRecDepth 100000 in
theorem specIsEvents_any (v : Value) (l : List Ev) (w : World) (hl : l.length ≤ maxLen) (h : RdN w v l.length (flatEv l)) :
    Calls Try.prog 31 #[v] w fun e w' => e = .returned (.bool (okEvs l)) ∧ Below w.heap.size w w' := by
  unfold maxLen at hl
  obtain ⟨r, hr⟩ : ∃ r, r = okEvs l := ⟨_, rfl⟩
  rw [← hr]
  rcases rd_evs h with ⟨rfl, a, cap, rfl⟩ | ⟨b, off, cap, hpos, rfl, hlt, hc⟩
  · obtain rfl : r = true := by rw [hr]; rfl
    clear h hr
    go_enter Try.func31, Try.ntmps31
    go_wp2
    refine wp_loop_rounds 1 ?_
    rw [rounds_succ]
    go_wp2
    go_ret
    exact ⟨rfl, Below.refl _ _⟩
  · have HR := Lib.hid hr
    have HC := Lib.hid hc
    clear h hr hc
    go_enter Try.func31, Try.ntmps31
    go_wp2
    go_loopw [3, 4] (fun p i wr => ∃ j : Nat, j ≤ l.length ∧ i = .int .i64 j ∧ p = .int .i64 (heldN l j : Nat) ∧ okEvN l j = true ∧ Below w.heap.size w wr) (fun _ i _ => l.length - (intOf i).toNat)
    case atStart => exact ⟨0, Nat.zero_le _, rfl, rfl, rfl, Below.refl _ _⟩
    case round =>
      obtain ⟨j, hj, rfl, rfl, hok, hb⟩ := hrel
      have hlt32 := heldN_lt (l := l) (n := j) fun i hi => okAt_key (okEvN_at hok i hi)
      by_cases hlt' : j < l.length
      · obtain ⟨c0, c1, c2⟩ := HC.out j hlt'
        have c3 : 0 < j → w.cell? ⟨b, off + (j - 1) * 3, none⟩ = some (.int .i64 (evD l (j - 1)).t) := fun h0 => (HC.out (j - 1) (by omega)).1
        obtain ⟨e, he⟩ : ∃ e, e = evD l j := ⟨_, rfl⟩
        obtain ⟨pt, hpt⟩ : ∃ x, x = (evD l (j - 1)).t := ⟨_, rfl⟩
        obtain ⟨hd, hhd⟩ : ∃ x, x = heldN l j := ⟨_, rfl⟩
        obtain ⟨oa, hoa⟩ : ∃ x, x = okAt l j := ⟨_, rfl⟩
        have hoa2 : oa = (okEv e && !(decide (0 < j) && decide (e.t < pt)) && !(e.d == hd.testBit e.k.toNat)) := by rw [hoa, okAt, ← he, ← hpt, ← hhd]
        have hnx : heldN l (j + 1) = hd ^^^ 2 ^ e.k.toNat := by rw [heldN, ← hhd, ← he]
        have hokn : okEvN l (j + 1) = oa := by rw [okEvN, hok, Bool.true_and, hoa]
        have hrf : oa = false → r = false := fun h0 => by rw [HR.out, okEvs, okEvN_no (by rw [← hoa]; exact h0) l.length hlt', Bool.false_and]
        rw [← he] at c0 c1 c2
        rw [← hpt] at c3
        rw [← hhd] at hlt32 ⊢
        have r0 := (hb.cell (p := ⟨b, off + j * 3, none⟩) hlt).trans c0
        have r1 := (hb.cell (p := ⟨b, off + j * 3 + 1, none⟩) hlt).trans c1
        have r2 := (hb.cell (p := ⟨b, off + j * 3 + 2, none⟩) hlt).trans c2
        have hbl : b < wr.heap.size := Nat.lt_of_lt_of_le hlt hb.size
        have HB := Lib.hid hb
        have C3 := Lib.hid c3
        have HNX := Lib.hid hnx
        have HOKN := Lib.hid hokn
        have HRF := Lib.hid hrf
        have HOA := Lib.hid hoa2
        clear c0 c1 c2 c3 he hpt hhd hoa hoa2 hnx hokn hrf hok
        obtain ⟨et, ek, ed⟩ := e
        simp only at r0 r1 r2
        go_upto_region 5 with (fail)
        go_cut [51] (fun s51 wx => s51 = .bool (!oa) ∧ Below wr.heap.size wr wx)
        case first =>
          obtain ⟨ov, hov⟩ : ∃ x, x = okEv ⟨et, ek, ed⟩ := ⟨_, rfl⟩
          have HOV := Lib.hid hov
          have x0 := Far.cell hbl r0
          have x1 := Far.cell hbl r1
          have x2 := Far.cell hbl r2
          clear hb r0 r1 r2
          by_cases h0 : 0 < j
          · have c3 := C3.out h0
            obtain ⟨i, hji⟩ : ∃ i, j = i + 1 := ⟨j - 1, by omega⟩
            rw [show j - 1 = i by omega] at c3
            have x3 := Far.cell hbl ((HB.out.cell (p := ⟨b, off + i * 3, none⟩) hlt).trans c3)
            have ei : IntKind.i64.wrap ((j : Int) - 1) = (i : Int) := by rw [show (j : Int) - 1 = (i : Int) by omega]; exact IntWalk.i64_in _ ⟨by omega, by omega⟩
            have hi0 : (0 : Int) ≤ (i : Int) := by omega
            have hi1 : (i : Int) < (l.length : Int) := by omega
            have hgt : decide ((0 : Int) < (j : Int)) = true := decide_eq_true (by omega)
            have HJ := Lib.hid hji
            clear c3 hji
            by_cases hlt3 : et < pt
            · have hd3 : decide (et < pt) = true := decide_eq_true hlt3
              cases ov
              · skip
                have hoav : oa = false := by rw [HOA.out, ← hov]; rfl
                clear hov
                refine wp_region_far (by kernel_rfl) (by kernel_rfl) ?_
                repeat (go_big_quiet_step ((go_at_call 83; exact Far.call (specIsEvent_q et ek ed _ HOV.out _))))
                refine wpQuiet_nil ?_
                intro _ hw'
                obtain ⟨xw, rfl⟩ := hw'
                go_wp2
                go_meet
                exact ⟨by rw [hoav]; rfl, xw.low⟩
              · have hoav : oa = false := by rw [HOA.out, ← hov, hd3, decide_eq_true h0]; simp
                clear hov
                refine wp_region_far (by kernel_rfl) (by kernel_rfl) ?_
                repeat (go_big_quiet_step ((go_at_call 83; exact Far.call (specIsEvent_q et ek ed _ HOV.out _))))
                refine wpQuiet_nil ?_
                intro _ hw'
                obtain ⟨xw, rfl⟩ := hw'
                go_wp2
                go_meet
                exact ⟨by rw [hoav]; rfl, xw.low⟩
            · have hd3 : decide (et < pt) = false := decide_eq_false hlt3
              cases ov
              · skip
                have hoav : oa = false := by rw [HOA.out, ← hov]; rfl
                clear hov
                refine wp_region_far (by kernel_rfl) (by kernel_rfl) ?_
                repeat (go_big_quiet_step ((go_at_call 83; exact Far.call (specIsEvent_q et ek ed _ HOV.out _))))
                refine wpQuiet_nil ?_
                intro _ hw'
                obtain ⟨xw, rfl⟩ := hw'
                go_wp2
                go_meet
                exact ⟨by rw [hoav]; rfl, xw.low⟩
              · skip
                have hkey := okEv_key hov.symm
                simp only at hkey
                obtain ⟨kn, rfl⟩ := Int.eq_ofNat_of_zero_le hkey.2.2.1
                have hk31 : kn ≤ 31 := by have := hkey.2.2.2; omega
                have hbit := bit_nat hd kn (by omega)
                obtain ⟨bv, hbv⟩ : ∃ x, x = hd.testBit kn := ⟨_, rfl⟩
                rw [← hbv] at hbit
                have hoav2 : oa = !(ed == bv) := by rw [HOA.out, ← hov, hbv]; simp [hlt3]
                clear hov hkey hbv
                cases bv
                · have hb2 : bits .and .i64 ((hd : Int) / 2 ^ kn) 1 = 0 := by rw [hbit]; rfl
                  clear hbit
                  cases ed
                  · have hoav : oa = false := by rw [hoav2]; rfl
                    clear hoav2
                    refine wp_region_far (by kernel_rfl) (by kernel_rfl) ?_
                    repeat (go_big_quiet_step ((go_at_call 83; exact Far.call (specIsEvent_q et kn false _ HOV.out _))))
                    refine wpQuiet_nil ?_
                    intro _ hw'
                    obtain ⟨xw, rfl⟩ := hw'
                    go_wp2
                    go_meet
                    exact ⟨by rw [hoav]; rfl, xw.low⟩
                  · have hoav : oa = true := by rw [hoav2]; rfl
                    clear hoav2
                    refine wp_region_far (by kernel_rfl) (by kernel_rfl) ?_
                    repeat (go_big_quiet_step ((go_at_call 83; exact Far.call (specIsEvent_q et kn true _ HOV.out _))))
                    refine wpQuiet_nil ?_
                    intro _ hw'
                    obtain ⟨xw, rfl⟩ := hw'
                    go_wp2
                    go_meet
                    exact ⟨by rw [hoav]; rfl, xw.low⟩
                · have hb2 : bits .and .i64 ((hd : Int) / 2 ^ kn) 1 = 1 := by rw [hbit]; rfl
                  clear hbit
                  cases ed
                  · have hoav : oa = true := by rw [hoav2]; rfl
                    clear hoav2
                    refine wp_region_far (by kernel_rfl) (by kernel_rfl) ?_
                    repeat (go_big_quiet_step ((go_at_call 83; exact Far.call (specIsEvent_q et kn false _ HOV.out _))))
                    refine wpQuiet_nil ?_
                    intro _ hw'
                    obtain ⟨xw, rfl⟩ := hw'
                    go_wp2
                    go_meet
                    exact ⟨by rw [hoav]; rfl, xw.low⟩
                  · have hoav : oa = false := by rw [hoav2]; rfl
                    clear hoav2
                    refine wp_region_far (by kernel_rfl) (by kernel_rfl) ?_
                    repeat (go_big_quiet_step ((go_at_call 83; exact Far.call (specIsEvent_q et kn true _ HOV.out _))))
                    refine wpQuiet_nil ?_
                    intro _ hw'
                    obtain ⟨xw, rfl⟩ := hw'
                    go_wp2
                    go_meet
                    exact ⟨by rw [hoav]; rfl, xw.low⟩
          · obtain rfl : j = 0 := by omega
            have e0 : off + 0 * 3 = off := by omega
            rw [e0] at x0 x1 x2
            cases ov
            · skip
              have hoav : oa = false := by rw [HOA.out, ← hov]; rfl
              clear hov
              refine wp_region_far (by kernel_rfl) (by kernel_rfl) ?_
              repeat (go_big_quiet_step ((go_at_call 83; exact Far.call (specIsEvent_q et ek ed _ HOV.out _))))
              refine wpQuiet_nil ?_
              intro _ hw'
              obtain ⟨xw, rfl⟩ := hw'
              go_wp2
              go_meet
              exact ⟨by rw [hoav]; rfl, xw.low⟩
            · skip
              have hkey := okEv_key hov.symm
              simp only at hkey
              obtain ⟨kn, rfl⟩ := Int.eq_ofNat_of_zero_le hkey.2.2.1
              have hk31 : kn ≤ 31 := by have := hkey.2.2.2; omega
              have hbit := bit_nat hd kn (by omega)
              obtain ⟨bv, hbv⟩ : ∃ x, x = hd.testBit kn := ⟨_, rfl⟩
              rw [← hbv] at hbit
              have hoav2 : oa = !(ed == bv) := by rw [HOA.out, ← hov, hbv]; simp
              clear hov hkey hbv
              cases bv
              · have hb2 : bits .and .i64 ((hd : Int) / 2 ^ kn) 1 = 0 := by rw [hbit]; rfl
                clear hbit
                cases ed
                · have hoav : oa = false := by rw [hoav2]; rfl
                  clear hoav2
                  refine wp_region_far (by kernel_rfl) (by kernel_rfl) ?_
                  repeat (go_big_quiet_step ((go_at_call 83; exact Far.call (specIsEvent_q et kn false _ HOV.out _))))
                  refine wpQuiet_nil ?_
                  intro _ hw'
                  obtain ⟨xw, rfl⟩ := hw'
                  go_wp2
                  go_meet
                  exact ⟨by rw [hoav]; rfl, xw.low⟩
                · have hoav : oa = true := by rw [hoav2]; rfl
                  clear hoav2
                  refine wp_region_far (by kernel_rfl) (by kernel_rfl) ?_
                  repeat (go_big_quiet_step ((go_at_call 83; exact Far.call (specIsEvent_q et kn true _ HOV.out _))))
                  refine wpQuiet_nil ?_
                  intro _ hw'
                  obtain ⟨xw, rfl⟩ := hw'
                  go_wp2
                  go_meet
                  exact ⟨by rw [hoav]; rfl, xw.low⟩
              · have hb2 : bits .and .i64 ((hd : Int) / 2 ^ kn) 1 = 1 := by rw [hbit]; rfl
                clear hbit
                cases ed
                · have hoav : oa = true := by rw [hoav2]; rfl
                  clear hoav2
                  refine wp_region_far (by kernel_rfl) (by kernel_rfl) ?_
                  repeat (go_big_quiet_step ((go_at_call 83; exact Far.call (specIsEvent_q et kn false _ HOV.out _))))
                  refine wpQuiet_nil ?_
                  intro _ hw'
                  obtain ⟨xw, rfl⟩ := hw'
                  go_wp2
                  go_meet
                  exact ⟨by rw [hoav]; rfl, xw.low⟩
                · have hoav : oa = false := by rw [hoav2]; rfl
                  clear hoav2
                  refine wp_region_far (by kernel_rfl) (by kernel_rfl) ?_
                  repeat (go_big_quiet_step ((go_at_call 83; exact Far.call (specIsEvent_q et kn true _ HOV.out _))))
                  refine wpQuiet_nil ?_
                  intro _ hw'
                  obtain ⟨xw, rfl⟩ := hw'
                  go_wp2
                  go_meet
                  exact ⟨by rw [hoav]; rfl, xw.low⟩
        case rest =>
          obtain ⟨rfl, hbx⟩ := hcut
          have HB2 := Lib.hid (HB.out.trans (hbx.mono HB.out.size))
          have q1 := (hbx.cell (p := ⟨b, off + j * 3 + 1, none⟩) hbl).trans r1
          clear hbx r0 r1 r2 hb
          cases oa
          · have HRF2 := Lib.hid (HRF.out rfl)
            go_wp2
            go_ret
            exact ⟨ret_bool HRF2.out.symm, HB2.out⟩
          · have hkey : 0 ≤ ek ∧ ek ≤ 31 := by
              have h := HOA.out.symm
              simp only [Bool.and_eq_true] at h
              have := okEv_key h.1.1
              exact ⟨this.2.2.1, this.2.2.2⟩
            obtain ⟨kn, rfl⟩ := Int.eq_ofNat_of_zero_le hkey.1
            have hk31 : kn ≤ 31 := by omega
            have hw := wrap64_pow62 (k := kn) (by omega)
            have hp : 2 ^ kn < 2 ^ 32 := Nat.pow_lt_pow_right (by decide) (by omega)
            have hx := xor_nat hd (2 ^ kn) (by omega) (by omega)
            have HN2 := HNX.out
            simp only [Int.toNat_natCast] at HN2
            obtain ⟨p, hpd⟩ : ∃ p, p = 2 ^ kn := ⟨_, rfl⟩
            rw [← hpd] at hw hx HN2
            have HN3 := Lib.hid HN2
            clear HN2 hkey hp hpd
            go_wp2
            go_roundw
            case rel => exact ⟨j + 1, by omega, by go_num, by rw [HN3.out], HOKN.out, HB2.out⟩
            case measure => simp [intOf]; omega
      · obtain rfl : j = l.length := by omega
        have hrv : r = decide (l.length ≤ 64) := by rw [HR.out, okEvs, hok, Bool.true_and]
        by_cases h64 : l.length ≤ 64
        · have hle : (l.length : Int) ≤ 64 := by omega
          have hv2 : r = true := by rw [hrv, decide_eq_true h64]
          have HV := Lib.hid hv2
          clear hrv hv2 hok h64
          go_wp2
          go_ret
          exact ⟨ret_bool HV.out.symm, hb⟩
        · have hle : ¬ (l.length : Int) ≤ 64 := by omega
          have hv2 : r = false := by rw [hrv, decide_eq_false h64]
          have HV := Lib.hid hv2
          clear hrv hv2 hok h64
          go_wp2
          go_ret
          exact ⟨ret_bool HV.out.symm, hb⟩

end Go.Proofs.Ytagmdkblcgnddaa
