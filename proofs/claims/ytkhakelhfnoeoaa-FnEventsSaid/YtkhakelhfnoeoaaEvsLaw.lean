/- DERIVED. The law FnEvents: called with any slice of bytes, it returns true and changes nothing that was there. -/
import Derived.Test.YtkhakelhfnoeoaaEvLawI
import Derived.Test.YtkhakelhfnoeoaaEvMath
import Derived.Test.YtkhakelhfnoeoaaDebDraw
import Derived.Test.YtkhakelhfnoeoaaBig
import Derived.Test.YtkhakelhfnoeoaaSame
import Derived.Test.YtkhakelhfnoeoaaSeqImpl
namespace Go.Proofs.Ytkhakelhfnoeoaa
open Go.RowKit

theorem implHeldAfter_z (v : Value) (l : List Ev) (z : Int) (w : World) (hl : l.length ≤ maxLen) (h : RdN w v l.length (flatEv l)) (hz : ((heldV l : Nat) : Int) = z) :
    Calls Try.prog 17 #[v] w fun e w' => e = .returned (.int .i64 z) ∧ Below w.heap.size w w' := by
  rw [← hz]; exact implHeldAfter_any v l w hl h

set_option maxHeartbeats 2000000 in
set_option maxRecDepth 100000 in
theorem lawEvents_walk (a0 : Option Addr) (len cap : Nat) (bs : List Int) (w : World) (hlen : bs.length = len) (hz : ∀ z ∈ bs, (Lit.int .u8 z).wf = true) (h : Rd w (.slice a0 len cap) (bs.map (.int .u8))) : Calls Try.prog 3 #[.slice a0 len cap] w fun e w' => e = .returned (.bool true) ∧ Below w.heap.size w w' := by
  by_cases hbig : (1048576 : Int) < len
  · go_enter Try.func3, Try.ntmps3
    go_wp2_with fail
    refine (big_any a0 len cap _).mono ?_
    rw [decide_eq_true hbig]
    rintro e w0 ⟨rfl, rfl⟩
    go_wp2
    go_ret
    exact ⟨rfl, Below.refl _ _⟩
  · have HZ := Lib.hid (fun z (m : z ∈ bs) => wf_byte (hz z m))
    have HL := Lib.hid (show bs.length ≤ 1099511627776 by omega)
    have HR := Lib.hid h
    have HBG := Lib.hid (decide_eq_false hbig)
    clear hz hlen h hbig
    have HB0 := Lib.hid (Below.refl w.heap.size w)
    go_enter Try.func3, Try.ntmps3
    go_wp2_with fail
    refine (big_any a0 len cap _).mono ?_
    rw [HBG.out]
    rintro e v0 ⟨rfl, rfl⟩
    go_wp2_with fail
    refine (MakeDebouncer_draw _ bs _ HL.out HZ.out HR.out).mono ?_
    rintro e w1 ⟨k, t, N, a, c, l, ys, rfl, -, -, -, -, n1, n4, hyl, hyr, -, h2, hb⟩
    obtain ⟨al, cl, rfl⟩ := owns_shape h2
    have hal := below_alloc1 w1 (.cells #[.int .i64 k, .int .i64 t, .int .i64 N, .int .i64 0, .int .i64 0, .slice a N c] 26)
    obtain ⟨wz, hwz⟩ : ∃ x, x = w1.alloc (.cells #[.int .i64 k, .int .i64 t, .int .i64 N, .int .i64 0, .int .i64 0, .slice a N c] 26) := ⟨_, rfl⟩
    rw [← hwz] at hal
    have HWZ := Lib.hid hwz
    have HB1 := Lib.hid (HB0.out.trans ((hb.trans (hal.mono hb.size)).mono HB0.out.size))
    have HO := Lib.hid ((Rd.of_owns h2).below hal)
    have hy15 : ∀ i, i < ys.length → 0 ≤ ys.getD i 0 ∧ ys.getD i 0 ≤ 15 := fun i hi => by
      have hp : 2 ^ N ≤ 2 ^ 4 := Nat.pow_le_pow_right (by decide) n4
      have hm : ys.getD i 0 ∈ ys := by
        rw [List.getD_eq_getElem?_getD, List.getElem?_eq_getElem hi]; exact List.getElem_mem hi
      obtain ⟨q0, q1⟩ := hyr _ hm
      have := pow_nat N
      exact ⟨q0, by omega⟩
    have HY := Lib.hid hy15
    have HYL := Lib.hid hyl
    obtain ⟨ok, hok⟩ : ∃ ok, ok = evsOk ys := ⟨_, rfl⟩
    have HOK := Lib.hid hok
    have hyl1 : ys.length ≤ 1048576 := by omega
    clear hb h2 hyr hy15 hok n1 n4 hal hwz
    cases ok
    · have HRR := Lib.hid (show evsR ys = ([], false) by rw [evsR, ← HOK.out]; rfl)
      go_wp2_with fail
      rw [← HWZ.out]
      refine (implEventsOf_any _ ys _ hyl1 HO.out).mono ?_
      rw [HRR.out]
      rintro e w2 ⟨u, rfl, hou, hb2⟩
      have HB2 := Lib.hid (HB1.out.trans (hb2.mono HB1.out.size))
      have HO2 := Lib.hid (HO.out.below hb2)
      clear hb2 hou
      go_wp2
      go_loopw [7, 8] (fun n q wr => ∃ j : Nat, j ≤ 4 ∧ q = .int .i64 j ∧ n = .int .i64 (sumTo (fun k => (ccN ys k ys.length).2) j : Nat) ∧ Below w.heap.size w wr ∧ Below w2.heap.size w2 wr) (fun _ q _ => 4 - (intOf q).toNat)
      case atStart => exact ⟨0, by omega, rfl, rfl, HB2.out, Below.refl _ _⟩
      case round =>
        obtain ⟨j, hj, rfl, rfl, hb, hb2⟩ := hrel
        have HB := Lib.hid hb
        have HBB := Lib.hid hb2
        have hbd : ∀ j, j ≤ 4 → sumTo (fun k => (ccN ys k ys.length).2) j ≤ j * 40 := fun j => by
          induction j with
          | zero => intro _; exact Nat.le_refl _
          | succ j ih =>
            intro hj
            have h1 := ih (by omega)
            have h2 := (ccN_bd ys j ys.length).2
            have h3 := HYL.out
            rw [sumTo]
            omega
        have hle := hbd j hj
        by_cases hlt : j < 4
        · have hcv : countV ys j = ((ccN ys j ys.length).2 : Nat) := by
            unfold countV keyB
            rw [if_pos (decide_eq_true ⟨by omega, by omega⟩)]
            rfl
          have hnx : sumTo (fun k => (ccN ys k ys.length).2) (j + 1) = sumTo (fun k => (ccN ys k ys.length).2) j + (ccN ys j ys.length).2 := by rw [sumTo]
          have hc40 := (ccN_bd ys j ys.length).2
          obtain ⟨S, hS⟩ : ∃ S, S = sumTo (fun k => (ccN ys k ys.length).2) j := ⟨_, rfl⟩
          obtain ⟨C, hC⟩ : ∃ C, C = (ccN ys j ys.length).2 := ⟨_, rfl⟩
          rw [← hC] at hcv hnx hc40
          rw [← hS] at hnx hle ⊢
          have HCV := Lib.hid hcv
          have HNX := Lib.hid hnx
          have hC40 : C ≤ 40 := by have := HYL.out; omega
          clear hcv hnx hc40 hS hC hb hb2 hbd
          go_wp2_with fail
          refine (implCountChanges_any _ ys j _ hyl1 (HO2.out.below HBB.out)).mono ?_
          rw [HCV.out]
          rintro e w3 ⟨rfl, hb3⟩
          have HB3 := Lib.hid (HB.out.trans (hb3.mono HB.out.size))
          have HBB3 := Lib.hid (HBB.out.trans (hb3.mono HBB.out.size))
          clear hb3
          go_wp2
          go_roundw
          case rel => exact ⟨j + 1, by omega, by go_num, by rw [HNX.out]; go_num, HB3.out, HBB3.out⟩
          case measure => simp [intOf]; omega
        · obtain rfl : j = 4 := by omega
          have hmany := evs_many HY.out (by omega) HOK.out.symm
          obtain ⟨S, hS⟩ : ∃ S, S = sumTo (fun k => (ccN ys k ys.length).2) 4 := ⟨_, rfl⟩
          rw [← hS] at hmany ⊢
          have hg : decide ((64 : Int) < (S : Int)) = true := decide_eq_true (by omega)
          clear hS hb hb2 hbd hle
          go_wp2
          go_ret
          exact ⟨rfl, HB.out⟩
    · have HRR := Lib.hid (show evsR ys = (evN ys ys.length, true) by rw [evsR, ← HOK.out]; rfl)
      obtain ⟨m1, m2, m3⟩ := evs_masks HOK.out.symm
      have hLl : (evN ys ys.length).length ≤ 1048576 := by have := evsR_len ys; rw [HRR.out] at this; exact this
      obtain ⟨L, hL⟩ : ∃ L, L = evN ys ys.length := ⟨_, rfl⟩
      rw [← hL] at HRR m1 m2 m3 hLl
      have M1 := Lib.hid m1
      have M2 := Lib.hid m2
      have M3 := Lib.hid m3
      have HLL := Lib.hid (show L.length ≤ maxLen by unfold maxLen; omega)
      clear m1 m2 m3 hL
      go_wp2_with fail
      rw [← HWZ.out]
      refine (implEventsOf_any _ ys _ hyl1 HO.out).mono ?_
      rw [HRR.out]
      rintro e w2 ⟨u, rfl, hou, hb2⟩
      have HB2 := Lib.hid (HB1.out.trans (hb2.mono HB1.out.size))
      have HO2 := Lib.hid (HO.out.below hb2)
      have HE2 := Lib.hid (RdN.of_owns hou)
      clear hb2 hou
      go_wp2_with fail
      refine (implMasksOf_any _ L ys.length _ HLL.out HE2.out).mono ?_
      rw [M2.out]
      rintro e w3 ⟨v, rfl, hov, hb3⟩
      have HB3 := Lib.hid (HB2.out.trans (hb3.mono HB2.out.size))
      have HO3 := Lib.hid (HO2.out.below hb3)
      have HE3 := Lib.hid (HE2.out.below hb3)
      have HV3 := Lib.hid (Rd.of_owns hov)
      clear hb3 hov
      go_wp2_with fail
      refine (implIsEvents_any _ L _ HLL.out HE3.out).mono ?_
      rw [M1.out]
      rintro e w4 ⟨rfl, hb4⟩
      have HB4 := Lib.hid (HB3.out.trans (hb4.mono HB3.out.size))
      have HO4 := Lib.hid (HO3.out.below hb4)
      have HE4 := Lib.hid (HE3.out.below hb4)
      have HV4 := Lib.hid (HV3.out.below hb4)
      clear hb4
      go_wp2_with fail
      refine (below_post (sameInts_same _ _ ys _ (by omega) HV4.out HO4.out)).mono ?_
      rintro e w5 ⟨rfl, hb5⟩
      have HB5 := Lib.hid (HB4.out.trans (hb5.mono HB4.out.size))
      have HO5 := Lib.hid (HO4.out.below hb5)
      have HE5 := Lib.hid (HE4.out.below hb5)
      clear hb5
      by_cases hy0 : ys.length = 0
      · have hz0 : ((ys.length : Int) == 0) = true := by rw [hy0]; rfl
        clear hy0
        go_wp2_with fail
        go_quiet (fail)
        go_wp2
        go_ret
        exact ⟨rfl, below_drewN HB5.out _⟩
      · have hz0 : ((ys.length : Int) == 0) = false := by simpa using hy0
        rcases rd_ints HO5.out with ⟨hn, _⟩ | ⟨b, off, cap1, hpos, hu, hlt, hc⟩
        · exfalso; rw [hn] at hy0; simp at hy0
        · simp only [Value.slice.injEq] at hu
          obtain ⟨rfl, _, rfl⟩ := hu
          obtain ⟨n, hn⟩ : ∃ n, ys.length = n + 1 := ⟨ys.length - 1, by omega⟩
          have hcn := hc n (by omega)
          have hpz : prevZ ys ys.length = ys.getD n 0 := by rw [hn]; rfl
          have hsub : (ys.length : Int) - 1 = (n : Int) := by omega
          have hnl : n < ys.length := by omega
          obtain ⟨z, hzz⟩ : ∃ z, z = ys.getD n 0 := ⟨_, rfl⟩
          rw [← hzz] at hcn hpz
          have HP : Hid (((heldV L : Nat) : Int) = z) := Lib.hid (by rw [M3.out, hpz])
          have HC := Lib.hid hcn
          clear hc hcn hpz hzz hn hy0
          have x0 := Far.cell hlt HC.out
          have ei : IntKind.i64.wrap ((ys.length : Int) - 1) = (n : Int) := by rw [hsub]; exact IntWalk.i64_in _ ⟨by omega, by omega⟩
          have hi0 : (0 : Int) ≤ (n : Int) := by omega
          have hi1 : (n : Int) < (ys.length : Int) := by omega
          go_wp2_with fail
          refine wp_region_far (by kernel_rfl) (by kernel_rfl) ?_
          repeat (go_big_quiet_step ((go_at_call 17; exact Far.call (implHeldAfter_z _ L z _ HLL.out (HE5.out.below (Far.low _)) HP.out))))
          refine wpQuiet_nil ?_
          intro _ hw'
          obtain ⟨xw, rfl⟩ := hw'
          go_wp2
          go_ret
          exact ⟨rfl, HB5.out.trans (xw.low.mono HB5.out.size)⟩

end Go.Proofs.Ytkhakelhfnoeoaa
