/- DERIVED. The program's followEvents, called with events that read as known data: the keys that are down and whether the events are valid. -/
import Derived.Test.YtkhakelhfnoeoaaDoorEvImpl
namespace Go.Proofs.YtkhakelhfnoeoaaDoor
open Go.RowKit


/-- The time that the next event may not be ahead of. -/
def tmN (l : List Ev) : Nat → Int
  | 0 => 0
  | j + 1 => (evD l j).t
theorem okAt_tm (l : List Ev) (j : Nat) : okAt l j = (okEv (evD l j) && !(decide ((evD l j).t < tmN l j)) && !((evD l j).d == (heldN l j).testBit (evD l j).k.toNat)) := by
  unfold okAt
  cases hk : okEv (evD l j)
  · simp
  · have h := okEv_key hk
    cases j with
    | zero =>
      have h0 : decide ((evD l 0).t < tmN l 0) = false := decide_eq_false (by show ¬ (evD l 0).t < 0; omega)
      rw [h0]
      simp
    | succ j =>
      have h1 : decide (0 < j + 1) = true := decide_eq_true (by omega)
      rw [h1]
      rfl

set_option maxHeartbeats 4000000 in
set_option maxRecDepth 100000 in
theorem followEvents_any (v : Value) (l : List Ev) (w : World) (hl : l.length ≤ maxLen) (h : RdN w v l.length (flatEv l)) :
    Calls Tryd.prog 30 #[v] w fun e w' => e = .returned (.tuple #[.int .i64 (heldV l : Nat), .bool (okEvs l)]) ∧ Below w.heap.size w w' := by
  unfold maxLen at hl
  obtain ⟨r, hr⟩ : ∃ r, r = okEvs l := ⟨_, rfl⟩
  obtain ⟨hv, hhv⟩ : ∃ r, r = heldV l := ⟨_, rfl⟩
  rw [← hr, ← hhv]
  rcases rd_evs h with ⟨rfl, a, cap, rfl⟩ | ⟨b, off, cap, hpos, rfl, hlt, hc⟩
  · obtain rfl : r = true := by rw [hr]; rfl
    obtain rfl : hv = 0 := by rw [hhv]; rfl
    clear h hr hhv
    go_enter Tryd.func30, Tryd.ntmps30
    go_wp2
    refine wp_loop_rounds 1 ?_
    rw [rounds_succ]
    go_wp2
    go_ret2
    exact ⟨rfl, Below.refl _ _⟩
  · have HR := Lib.hid hr
    have HC := Lib.hid hc
    have HV := Lib.hid hhv
    clear h hr hc hhv
    go_enter Tryd.func30, Tryd.ntmps30
    by_cases h64 : l.length ≤ 64
    · have h64' : ¬ (64 : Int) < (l.length : Int) := by omega
      have hrN : r = okEvN l l.length := by rw [HR.out, okEvs, decide_eq_true h64, Bool.and_true]
      have HRN := Lib.hid hrN
      clear hrN
      go_wp2
      go_loopw [4, 5, 13] (fun p t i wr => ∃ j : Nat, j ≤ l.length ∧ i = .int .i64 j ∧ p = .int .i64 (heldN l j : Nat) ∧ t = .int .i64 (tmN l j) ∧ okEvN l j = true ∧ Below w.heap.size w wr) (fun _ _ i _ => l.length - (intOf i).toNat)
      case atStart => exact ⟨0, Nat.zero_le _, rfl, rfl, rfl, rfl, Below.refl _ _⟩
      case round =>
        obtain ⟨j, hj, rfl, rfl, rfl, hok, hb⟩ := hrel
        have hlt32 := heldN_lt (l := l) (n := j) fun i hi => okAt_key (okEvN_at hok i hi)
        by_cases hlt' : j < l.length
        · obtain ⟨c0, c1, c2⟩ := HC.out j hlt'
          obtain ⟨e, he⟩ : ∃ e, e = evD l j := ⟨_, rfl⟩
          obtain ⟨tm, htm⟩ : ∃ x, x = tmN l j := ⟨_, rfl⟩
          obtain ⟨hd, hhd⟩ : ∃ x, x = heldN l j := ⟨_, rfl⟩
          obtain ⟨oa, hoa⟩ : ∃ x, x = okAt l j := ⟨_, rfl⟩
          have hoa2 : oa = (okEv e && !(decide (e.t < tm)) && !(e.d == hd.testBit e.k.toNat)) := by rw [hoa, okAt_tm, ← he, ← htm, ← hhd]
          have hnx : heldN l (j + 1) = hd ^^^ 2 ^ e.k.toNat := by rw [heldN, ← hhd, ← he]
          have hntm : tmN l (j + 1) = e.t := by rw [tmN, ← he]
          have hokn : okEvN l (j + 1) = oa := by rw [okEvN, hok, Bool.true_and, hoa]
          have hrf : oa = false → r = false ∧ hv = 0 := fun h0 => by
            have h1 : okEvs l = false := by rw [okEvs, okEvN_no (by rw [← hoa]; exact h0) l.length hlt', Bool.false_and]
            exact ⟨by rw [HR.out, h1], by rw [HV.out, heldV, h1]; rfl⟩
          have hkey : oa = true → 0 ≤ e.k ∧ e.k ≤ 31 := fun h0 => by rw [he]; exact okAt_key (by rw [← hoa]; exact h0)
          rw [← he] at c0 c1 c2
          rw [← hhd] at hlt32 ⊢
          rw [← htm]
          have r0 := (hb.cell (p := ⟨b, off + j * 3, none⟩) hlt).trans c0
          have r1 := (hb.cell (p := ⟨b, off + j * 3 + 1, none⟩) hlt).trans c1
          have r2 := (hb.cell (p := ⟨b, off + j * 3 + 2, none⟩) hlt).trans c2
          have HB := Lib.hid hb
          have HNX := Lib.hid hnx
          have HTM := Lib.hid hntm
          have HOKN := Lib.hid hokn
          have HRF := Lib.hid hrf
          have HOA := Lib.hid hoa2
          have HKEY := Lib.hid hkey
          clear c0 c1 c2 he htm hhd hoa hoa2 hnx hntm hokn hrf hok hb hkey
          obtain ⟨et, ek, ed⟩ := e
          simp only at r0 r1 r2
          go_upto_region 7 with (fail)
          obtain ⟨wb, hwb⟩ : ∃ x, x = wr.alloc (.cells #[.int .i64 et, .int .i64 ek, .bool ed] 30) := ⟨_, rfl⟩
          rw [← hwb]
          have HX := Lib.hid (show Bxd wb wr.heap.size [.int .i64 et, .int .i64 ek, .bool ed] by rw [hwb]; exact Bxd.new _ _ _)
          have HS := Lib.hid (show wr.heap.size < wb.heap.size by rw [hwb]; simp)
          have HB1 := Lib.hid (show Below w.heap.size w wb by rw [hwb]; exact HB.out.alloc HB.out.size _)
          clear hwb r0 r1 r2
          go_cut [35] (fun s35 wx => s35 = .bool (!oa) ∧ Below wb.heap.size wb wx)
          case first =>
            obtain ⟨ov, hov⟩ : ∃ x, x = okEv ⟨et, ek, ed⟩ := ⟨_, rfl⟩
            have HOV := Lib.hid hov
            have x0 := Far.cell HS.out (HX.out.at 0 _ rfl)
            have x1 := Far.cell HS.out (HX.out.at 1 _ rfl)
            have x2 := Far.cell HS.out (HX.out.at 2 _ rfl)
            cases ov
            · clear hov
              have hoav : oa = false := by rw [HOA.out, ← HOV.out]; rfl
              refine wp_region_far (by kernel_rfl) (by kernel_rfl) ?_
              repeat (go_big_quiet_step ((go_at_call 47; exact Far.call (implIsEvent_q et ek ed _ HOV.out _))))
              refine wpQuiet_nil ?_
              intro _ hw'
              obtain ⟨xw, rfl⟩ := hw'
              go_wp2
              go_meet
              exact ⟨by rw [hoav]; rfl, xw.low⟩
            · have hkey := okEv_key hov.symm
              simp only at hkey
              obtain ⟨kn, rfl⟩ := Int.eq_ofNat_of_zero_le hkey.2.2.1
              have hk31 : kn ≤ 31 := by have := hkey.2.2.2; omega
              have hbit := hz_nat hd kn (by omega)
              obtain ⟨bv, hbv⟩ : ∃ x, x = hd.testBit kn := ⟨_, rfl⟩
              rw [← hbv] at hbit
              have hoav2 : oa = (!(decide (et < tm)) && !(ed == bv)) := by rw [HOA.out, ← HOV.out, hbv]; simp
              have HBIT := Lib.hid hbit.symm
              have HK := Lib.hid hk31
              clear hov hkey hbv hbit hk31
              by_cases hlt3 : et < tm
              · have hd3 : decide (et < tm) = true := decide_eq_true hlt3
                have hoav : oa = false := by rw [hoav2, hd3]; rfl
                refine wp_region_far (by kernel_rfl) (by kernel_rfl) ?_
                repeat (go_big_quiet_step ((first | (go_at_call 47; exact Far.call (implIsEvent_q et kn ed _ HOV.out _)) | (go_at_call 48; exact Far.call (changeOf_q hd kn et _ HBIT.out (by have := HK.out; omega) _)))))
                refine wpQuiet_nil ?_
                intro _ hw'
                obtain ⟨xw, rfl⟩ := hw'
                go_wp2
                go_meet
                exact ⟨by rw [hoav]; rfl, xw.low⟩
              · have hd3 : decide (et < tm) = false := decide_eq_false hlt3
                rw [hd3] at hoav2
                cases bv
                · cases ed
                  · skip
                    have hoav : oa = false := by rw [hoav2]; rfl
                    refine wp_region_far (by kernel_rfl) (by kernel_rfl) ?_
                    repeat (go_big_quiet_step ((first | (go_at_call 47; exact Far.call (implIsEvent_q et kn false _ HOV.out _)) | (go_at_call 48; exact Far.call (changeOf_q hd kn et false HBIT.out (by have := HK.out; omega) _)))))
                    refine wpQuiet_nil ?_
                    intro _ hw'
                    obtain ⟨xw, rfl⟩ := hw'
                    go_wp2
                    go_meet
                    exact ⟨by rw [hoav]; rfl, xw.low⟩
                  · skip
                    have hoav : oa = true := by rw [hoav2]; rfl
                    refine wp_region_far (by kernel_rfl) (by kernel_rfl) ?_
                    repeat (go_big_quiet_step ((first | (go_at_call 47; exact Far.call (implIsEvent_q et kn true _ HOV.out _)) | (go_at_call 48; exact Far.call (changeOf_q hd kn et false HBIT.out (by have := HK.out; omega) _)))))
                    refine wpQuiet_nil ?_
                    intro _ hw'
                    obtain ⟨xw, rfl⟩ := hw'
                    go_wp2
                    go_meet
                    exact ⟨by rw [hoav]; rfl, xw.low⟩
                · cases ed
                  · skip
                    have hoav : oa = true := by rw [hoav2]; rfl
                    refine wp_region_far (by kernel_rfl) (by kernel_rfl) ?_
                    repeat (go_big_quiet_step ((first | (go_at_call 47; exact Far.call (implIsEvent_q et kn false _ HOV.out _)) | (go_at_call 48; exact Far.call (changeOf_q hd kn et true HBIT.out (by have := HK.out; omega) _)))))
                    refine wpQuiet_nil ?_
                    intro _ hw'
                    obtain ⟨xw, rfl⟩ := hw'
                    go_wp2
                    go_meet
                    exact ⟨by rw [hoav]; rfl, xw.low⟩
                  · skip
                    have hoav : oa = false := by rw [hoav2]; rfl
                    refine wp_region_far (by kernel_rfl) (by kernel_rfl) ?_
                    repeat (go_big_quiet_step ((first | (go_at_call 47; exact Far.call (implIsEvent_q et kn true _ HOV.out _)) | (go_at_call 48; exact Far.call (changeOf_q hd kn et true HBIT.out (by have := HK.out; omega) _)))))
                    refine wpQuiet_nil ?_
                    intro _ hw'
                    obtain ⟨xw, rfl⟩ := hw'
                    go_wp2
                    go_meet
                    exact ⟨by rw [hoav]; rfl, xw.low⟩
          case rest =>
            obtain ⟨rfl, hbx⟩ := hcut
            have HB2 := Lib.hid (HB1.out.trans (hbx.mono HB1.out.size))
            have k0 := (hbx.cell (p := ⟨wr.heap.size, 0, none⟩) HS.out).trans (HX.out.at 0 _ rfl)
            have k1 := (hbx.cell (p := ⟨wr.heap.size, 1, none⟩) HS.out).trans (HX.out.at 1 _ rfl)
            clear hbx
            cases oa
            · obtain ⟨hr0, hv0⟩ := HRF.out (by trivial)
              subst hr0 hv0
              go_wp2
              go_ret2
              exact ⟨rfl, HB2.out⟩
            · have hkey := HKEY.out (by trivial)
              simp only at hkey
              obtain ⟨kn, rfl⟩ := Int.eq_ofNat_of_zero_le hkey.1
              have hk31 : kn ≤ 31 := by have := hkey.2; omega
              have hw := wrap64_pow62 (k := kn) (by omega)
              have hp : 2 ^ kn < 2 ^ 32 := Nat.pow_lt_pow_right (by decide) (by omega)
              have hx := xor_nat hd (2 ^ kn) (by omega) (by omega)
              have hnx := HNX.out
              simp only [Int.toNat_natCast] at hnx
              obtain ⟨p, hpd⟩ : ∃ p, p = 2 ^ kn := ⟨_, rfl⟩
              rw [← hpd] at hw hx hnx
              have HNX2 := Lib.hid hnx
              clear hnx hpd hp hkey
              go_wp2
              go_roundw
              case rel => exact ⟨j + 1, by omega, by go_num, by rw [HNX2.out], by rw [HTM.out], by rw [HOKN.out], HB2.out⟩
              case measure => simp [intOf]; omega
        · obtain rfl : j = l.length := by omega
          have hvN : hv = heldN l l.length := by rw [HV.out, heldV, ← HR.out, HRN.out, hok]; rfl
          have hrT : r = true := by rw [HRN.out, hok]
          subst hrT
          have HVN := Lib.hid hvN
          clear hvN
          go_wp2
          go_ret2
          exact ⟨by rw [HVN.out]; rfl, hb⟩
    · have h64' : (64 : Int) < (l.length : Int) := by omega
      have hr0 : okEvs l = false := by rw [okEvs, decide_eq_false h64, Bool.and_false]
      obtain rfl : r = false := by rw [HR.out, hr0]
      obtain rfl : hv = 0 := by rw [HV.out, heldV, hr0]; rfl
      clear hr0
      go_wp2
      go_ret2
      exact ⟨rfl, Below.refl _ _⟩

end Go.Proofs.YtkhakelhfnoeoaaDoor
