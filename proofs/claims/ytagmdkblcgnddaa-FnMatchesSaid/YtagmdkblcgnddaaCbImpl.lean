/- DERIVED. The program's bits.OnesCount below 2^24, isCombo, IsCombos. -/
import Derived.Test.YtagmdkblcgnddaaCbDef
import Derived.Test.YtagmdkblcgnddaaDebImpl
import Derived.Test.YtagmdkblcgnddaaTm
import Derived.Deep.RegionHeld3
namespace Go.Proofs.Ytagmdkblcgnddaa
open Go.RowKit

theorem wrapsu (n : Int) (h₀ : 0 ≤ n) (h₁ : n < 2 ^ 63) : IntKind.u64.wrap n = n := by
  unfold IntKind.wrap
  simp [IntKind.bits, IntKind.signed]
  omega
theorem andu (a b : Nat) (ha : a < 2 ^ 63) (hb : b < 2 ^ 63) : bits .and .u64 (a : Int) (b : Int) = ((a &&& b : Nat) : Int) := (bits_nat .u64 63 (by decide) wrapsu a b ha hb).1
theorem ones64_q (m : Nat) (hm : m < 16777216) (r : Int) (hr : r = ((pc m : Nat) : Int)) (w : World) :
    Calls Try.prog 142 #[.int .u64 (m : Int)] w fun e w' => e = .returned (.int .i64 r) ∧ w = w' := by
  obtain ⟨s1, s2, s3⟩ := sw_small hm
  have hp := sw64_pc hm
  unfold sw64 at hp
  simp only at hp
  obtain ⟨x1, hx1⟩ : ∃ x, x = (m / 2 &&& 6148914691236517205) + (m &&& 6148914691236517205) := ⟨_, rfl⟩
  rw [← hx1] at s1 s2 s3 hp
  obtain ⟨x2, hx2⟩ : ∃ x, x = (x1 / 4 &&& 3689348814741910323) + (x1 &&& 3689348814741910323) := ⟨_, rfl⟩
  rw [← hx2] at s2 s3 hp
  obtain ⟨x3, hx3⟩ : ∃ x, x = (x2 / 16 + x2) &&& 1085102592571150095 := ⟨_, rfl⟩
  rw [← hx3] at s3 hp
  have h1 : m / 2 < 2 ^ 24 := by omega
  have h2 : x1 / 4 < 2 ^ 24 := by omega
  have e1 : IntKind.u64.wrap (bits .and .u64 ((m : Int) / 2) 6148914691236517205 + bits .and .u64 (m : Int) 6148914691236517205) = (x1 : Int) := by
    rw [show ((m : Int) / 2) = ((m / 2 : Nat) : Int) by omega, show (6148914691236517205 : Int) = ((6148914691236517205 : Nat) : Int) from rfl, andu _ _ (by omega) (by decide), andu _ _ (by omega) (by decide), ← Int.natCast_add, ← hx1]
    exact wrapsu _ (by omega) (by omega)
  have e2 : IntKind.u64.wrap (bits .and .u64 ((x1 : Int) / 4) 3689348814741910323 + bits .and .u64 (x1 : Int) 3689348814741910323) = (x2 : Int) := by
    rw [show ((x1 : Int) / 4) = ((x1 / 4 : Nat) : Int) by omega, show (3689348814741910323 : Int) = ((3689348814741910323 : Nat) : Int) from rfl, andu _ _ (by omega) (by decide), andu _ _ (by omega) (by decide), ← Int.natCast_add, ← hx2]
    exact wrapsu _ (by omega) (by omega)
  have e3 : bits .and .u64 (IntKind.u64.wrap ((x2 : Int) / 16 + (x2 : Int))) 1085102592571150095 = (x3 : Int) := by
    rw [wrapsu _ (by omega) (by omega), show ((x2 : Int) / 16 + (x2 : Int)) = ((x2 / 16 + x2 : Nat) : Int) by omega, show (1085102592571150095 : Int) = ((1085102592571150095 : Nat) : Int) from rfl, andu _ _ (by omega) (by decide), ← hx3]
  obtain ⟨x4, hx4⟩ : ∃ x, x = x3 + x3 / 256 := ⟨_, rfl⟩
  rw [← hx4] at hp
  obtain ⟨x5, hx5⟩ : ∃ x, x = x4 + x4 / 65536 := ⟨_, rfl⟩
  rw [← hx5] at hp
  obtain ⟨x6, hx6⟩ : ∃ x, x = x5 + x5 / 4294967296 := ⟨_, rfl⟩
  rw [← hx6] at hp
  have s6 : x6 < 2 ^ 30 := by omega
  have e4 : IntKind.u64.wrap ((x3 : Int) + (x3 : Int) / 256) = (x4 : Int) := by rw [wrapsu _ (by omega) (by omega)]; omega
  have e5 : IntKind.u64.wrap ((x4 : Int) + (x4 : Int) / 65536) = (x5 : Int) := by rw [wrapsu _ (by omega) (by omega)]; omega
  have e6 : IntKind.u64.wrap ((x5 : Int) + (x5 : Int) / 4294967296) = (x6 : Int) := by rw [wrapsu _ (by omega) (by omega)]; omega
  have e7 : bits .and .i64 (x6 : Int) 127 = r := by
    rw [show (127 : Int) = ((127 : Nat) : Int) from rfl, and_nat _ _ (by omega) (by decide), hp, hr]
  have s7 : IntKind.i64.wrap (x6 : Int) = (x6 : Int) := IntWalk.i64_in _ ⟨by omega, by omega⟩
  have E1 := Lib.hid e1
  have E2 := Lib.hid e2
  have E3 := Lib.hid e3
  have E4 := Lib.hid e4
  have E5 := Lib.hid e5
  have E6 := Lib.hid e6
  have E7 := Lib.hid e7
  have S7 := Lib.hid s7
  clear hr hp e1 e2 e3 e4 e5 e6 e7 s7 s1 s2 s3 s6 hx1 hx2 hx3 hx4 hx5 hx6 h1 h2
  go_enter Try.func142, Try.ntmps142
  go_upto_region 2 with (fail)
  rw [E1.out]
  go_upto_region 3 with (fail)
  rw [E2.out]
  go_upto_region 4 with (fail)
  rw [E3.out]
  go_upto_region 5 with (fail)
  rw [E4.out]
  go_upto_region 6 with (fail)
  rw [E5.out]
  go_upto_region 7 with (fail)
  rw [E6.out]
  have t7 := S7.out
  have u7 := E7.out
  go_wp2
  go_ret
  exact ⟨rfl, rfl⟩
theorem ones_q (m : Nat) (hm : m < 16777216) (r : Int) (hr : r = ((pc m : Nat) : Int)) (w : World) :
    Calls Try.prog 130 #[.int .u64 (m : Int)] w fun e w' => e = .returned (.int .i64 r) ∧ w = w' := by
  have HR := Lib.hid hr
  clear hr
  go_enter Try.func130, Try.ntmps130
  go_wp2_with fail
  refine (ones64_q m hm r HR.out _).mono ?_
  rintro e w2 ⟨rfl, rfl⟩
  go_wp2
  go_ret
  exact ⟨rfl, rfl⟩
abbrev cbBox : World → Int → Int → World := fun w k o => w.alloc (.cells #[.int .i64 k, .int .i64 o] 94)
theorem isMask24_q (x : Int) (v : Bool) (hv : v = inB x 0 16777215) (w : World) : Calls Try.prog 122 #[.int .i64 24, .int .i64 x] w fun e w' => e = .returned (.bool v) ∧ w = w' := by
  rw [hv]; exact isMaskOf_any 24 x w (by decide)
set_option maxRecDepth 100000 in
theorem isCombo_q (k o : Int) (v : Bool) (hv : v = cbFit ⟨k, o⟩) (w : World) :
    Calls Try.prog 99 #[cbv k o] w fun e w' => e = .returned (.bool v) ∧ Below w.heap.size w w' := by
  obtain ⟨V, hV⟩ : ∃ V, V = inB k 0 16777215 := ⟨_, rfl⟩
  obtain ⟨V2, hV2⟩ : ∃ V, V = inB ((pc k.toNat : Nat) : Int) 2 4 := ⟨_, rfl⟩
  obtain ⟨V3, hV3⟩ : ∃ V, V = inB o 24 31 := ⟨_, rfl⟩
  have hfit : v = (V && (V2 && V3)) := by rw [hv, hV, hV2, hV3]; rfl
  have HF := Lib.hid hfit
  have HV := Lib.hid hV
  have HV2 := Lib.hid hV2
  have HV3 := Lib.hid hV3
  clear hv hV hV2 hV3 hfit
  obtain ⟨W, hW⟩ : ∃ W, W = w.alloc (.cells #[.int .i64 k, .int .i64 o] 94) := ⟨_, rfl⟩
  have HX0 := Lib.hid (show Bxd W w.heap.size [.int .i64 k, .int .i64 o] by rw [hW]; exact Bxd.new _ _ _)
  have HB0 := Lib.hid (show Below w.heap.size w W by rw [hW]; exact (Below.refl _ _).alloc (Nat.le_refl _) _)
  have HW := Lib.hid hW
  clear hW
  go_enter Try.func99, Try.ntmps99
  go_upto_region 1 with (fail)
  rw [← HW.out]
  have c0 := HX0.out.at 0 _ rfl
  have c1 := HX0.out.at 1 _ rfl
  go_wp2_with fail
  refine (isMask24_q k V HV.out _).mono ?_
  rintro e w2 ⟨rfl, rfl⟩
  cases V
  · obtain rfl : v = false := HF.out
    go_wp2
    go_ret
    exact ⟨rfl, HB0.out⟩
  · have hk : 0 ≤ k ∧ k ≤ 16777215 := of_decide_eq_true HV.out.symm
    obtain ⟨K, rfl⟩ : ∃ K : Nat, k = K := ⟨k.toNat, by omega⟩
    have hw : IntKind.u64.wrap (K : Int) = (K : Int) := wrapsu _ (by omega) (by omega)
    go_wp2_with fail
    refine (ones_q K (by omega) _ rfl _).mono ?_
    rintro e w2 ⟨rfl, rfl⟩
    go_wp2_with fail
    refine (between_q _ 2 4 V2 (by rw [HV2.out, Int.toNat_natCast]) _).mono ?_
    rintro e w2 ⟨rfl, rfl⟩
    cases V2
    · obtain rfl : v = false := HF.out.trans (by simp)
      go_wp2
      go_ret
      exact ⟨rfl, HB0.out⟩
    · go_wp2_with fail
      refine (between_q o 24 31 V3 HV3.out _).mono ?_
      rintro e w2 ⟨rfl, rfl⟩
      obtain rfl : v = V3 := HF.out.trans (by simp)
      go_wp2
      go_ret
      exact ⟨rfl, HB0.out⟩
theorem isLike_q (k o k2 o2 : Int) (v : Bool) (hv : v = cbLike ⟨k2, o2⟩ ⟨k, o⟩) (w : World) :
    Calls Try.prog 101 #[cbv k o, cbv k2 o2] w fun e w' => e = .returned (.bool v) ∧ Below w.heap.size w w' := by
  have hv2 : v = (decide (k2 = k) || decide (o2 = o)) := hv
  have HV := Lib.hid hv2
  clear hv hv2
  obtain ⟨W, hW⟩ : ∃ W, W = (w.alloc (.cells #[.int .i64 k, .int .i64 o] 94)).alloc (.cells #[.int .i64 k2, .int .i64 o2] 94) := ⟨_, rfl⟩
  have HX0 := Lib.hid (show Bxd W w.heap.size [.int .i64 k, .int .i64 o] by rw [hW]; exact (Bxd.new _ _ _).below ((Below.refl _ _).alloc (Nat.le_refl _) _) (by simp))
  have HX1 := Lib.hid (show Bxd W (w.heap.size + 1) [.int .i64 k2, .int .i64 o2] by
    have h := Bxd.new (w.alloc (.cells #[.int .i64 k, .int .i64 o] 94)) [.int .i64 k2, .int .i64 o2] 94
    rw [hW]; simpa using h)
  have HB0 := Lib.hid (show Below w.heap.size w W by rw [hW]; exact ((Below.refl _ _).alloc (Nat.le_refl _) _).alloc (by simp) _)
  have HW := Lib.hid hW
  clear hW
  go_enter Try.func101, Try.ntmps101
  go_upto_region 1 with (fail)
  rw [← HW.out]
  have c0 := HX0.out.at 0 _ rfl
  have c1 := HX0.out.at 1 _ rfl
  have d0 := HX1.out.at 0 _ rfl
  have d1 := HX1.out.at 1 _ rfl
  by_cases h1 : k = k2
  · subst h1
    obtain rfl : v = true := HV.out.trans (by simp)
    go_wp2
    go_ret
    exact ⟨rfl, HB0.out⟩
  · have b1 : (k == k2) = false := by simp [h1]
    by_cases h2 : o = o2
    · subst h2
      obtain rfl : v = true := HV.out.trans (by simp)
      go_wp2
      go_ret
      exact ⟨rfl, HB0.out⟩
    · have b2 : (o == o2) = false := by simp [h2]
      obtain rfl : v = false := HV.out.trans (by rw [decide_eq_false (Ne.symm h1), decide_eq_false (Ne.symm h2)]; rfl)
      go_wp2
      go_ret
      exact ⟨rfl, HB0.out⟩
set_option maxRecDepth 100000 in
theorem indexLike_q (v : Value) (x : List Cb) (k o : Int) (r : Bool) (hr : r = !apN x ⟨k, o⟩ x.length) (w : World) (hn : x.length ≤ maxLen) (h : RdN w v x.length (flatCb x)) :
    Calls Try.prog 131 #[v, .func (.func 101) #[cbv k o] #[]] w fun e w' => ∃ i : Int, e = .returned (.int .i64 i) ∧ r = decide (0 ≤ i) ∧ Below w.heap.size w w' := by
  have HR := Lib.hid hr
  clear hr
  unfold maxLen at hn
  rcases rd_cbs h with ⟨rfl, a, cap, rfl⟩ | ⟨b, off, cap, hpos, rfl, hlt, hc⟩
  · obtain rfl : r = false := HR.out
    clear h
    go_enter Try.func131, Try.ntmps131
    go_wp2
    refine wp_loop_rounds 1 ?_
    rw [rounds_succ]
    go_wp2
    go_ret
    exact ⟨_, rfl, by decide, Below.refl _ _⟩
  · have HC := Lib.hid hc
    obtain ⟨N, hN⟩ : ∃ N, N = x.length := ⟨_, rfl⟩
    rw [← hN] at hn hpos ⊢
    have HNN := Lib.hid hN
    clear h hc hN
    go_enter Try.func131, Try.ntmps131
    go_wp2
    go_loopw [8, 5] (fun i _ wr => ∃ (j : Nat), j ≤ N ∧ i = .int .i64 j ∧ apN x ⟨k, o⟩ j = true ∧ Below w.heap.size w wr) (fun i _ _ => N - (intOf i).toNat)
    case atStart => exact ⟨0, Nat.zero_le _, rfl, rfl, Below.refl _ _⟩
    case round =>
      obtain ⟨j, hj, rfl, hd, hb⟩ := hrel
      by_cases hlt' : j < N
      · obtain ⟨c0, c1⟩ := HC.out j (by rw [← HNN.out]; exact hlt')
        have hbad : cbLike (cbD x j) ⟨k, o⟩ = true → r = true := fun h0 => by rw [HR.out, ← HNN.out, apN_no h0 _ hlt']; rfl
        have hnx : cbLike (cbD x j) ⟨k, o⟩ = false → apN x ⟨k, o⟩ (j + 1) = true := fun h0 => by rw [apN, hd, h0]; rfl
        obtain ⟨e, he⟩ : ∃ e, e = cbD x j := ⟨_, rfl⟩
        rw [← he] at c0 c1 hbad hnx
        obtain ⟨k2, o2⟩ := e
        simp only at c0 c1
        have f0 := (hb.cell (p := ⟨b, off + j * 2, none⟩) hlt).trans c0
        have f1 := (hb.cell (p := ⟨b, off + j * 2 + 1, none⟩) hlt).trans c1
        obtain ⟨V, hV⟩ : ∃ V, V = cbLike ⟨k2, o2⟩ ⟨k, o⟩ := ⟨_, rfl⟩
        rw [← hV] at hbad hnx
        have HV := Lib.hid hV
        have HBad := Lib.hid hbad
        have HNX := Lib.hid hnx
        have HB := Lib.hid hb
        clear c0 c1 hbad hnx hb he hd hV
        go_wp2_with fail
        refine (isLike_q k o k2 o2 V HV.out _).mono ?_
        rintro e w2 ⟨rfl, hb2⟩
        have HB2 := Lib.hid (HB.out.trans (hb2.mono HB.out.size))
        clear hb2
        cases V
        · have hq := Lib.hid (HNX.out rfl)
          go_wp2
          go_roundw
          case rel => exact ⟨j + 1, by omega, by go_num, hq.out, HB2.out⟩
          case measure => simp [intOf]; omega
        · have hq := Lib.hid (HBad.out rfl)
          go_wp2
          go_ret
          exact ⟨_, rfl, by rw [hq.out]; exact (decide_eq_true (by omega)).symm, HB2.out⟩
      · obtain rfl : j = N := by omega
        have hrt : r = false := by rw [HR.out, ← HNN.out, hd]; rfl
        have HRT := Lib.hid hrt
        have HB := Lib.hid hb
        clear hb hd hrt
        go_wp2
        go_ret
        exact ⟨_, rfl, by rw [HRT.out]; decide, HB.out⟩
theorem containsLike_q (v : Value) (x : List Cb) (k o : Int) (r : Bool) (hr : r = !apN x ⟨k, o⟩ x.length) (w : World) (hn : x.length ≤ maxLen) (h : RdN w v x.length (flatCb x)) :
    Calls Try.prog 100 #[v, .func (.func 101) #[cbv k o] #[]] w fun e w' => e = .returned (.bool r) ∧ Below w.heap.size w w' := by
  have HR := Lib.hid hr
  have HH := Lib.hid h
  have HN := Lib.hid hn
  clear hr h hn
  go_enter Try.func100, Try.ntmps100
  go_wp2_with fail
  refine (indexLike_q v x k o r HR.out _ HN.out HH.out).mono ?_
  rintro e w2 ⟨i, rfl, hi, hb2⟩
  have HB2 := Lib.hid hb2
  have HI := Lib.hid hi
  clear hb2 hi
  go_wp2
  go_ret
  exact ⟨ret_bool HI.out.symm, HB2.out⟩

set_option maxRecDepth 100000 in
set_option maxHeartbeats 4000000 in
theorem implIsCombos_q (v : Value) (l : List Cb) (r : Bool) (hr : r = okCbs l) (w : World) (hn : l.length ≤ maxLen) (hcap : CapLe v) (h : RdN w v l.length (flatCb l)) :
    Calls Try.prog 42 #[v] w fun e w' => e = .returned (.bool r) ∧ Below w.heap.size w w' := by
  have hmf : ∀ (fn : Fn) (first cap : Array Value) (w : World), (Instr.makeFunc fn first cap).run Try.prog w = .ok (.func fn first cap) w := fun _ _ _ _ => rfl
  have HR := Lib.hid hr
  clear hr
  unfold maxLen at hn
  rcases rd_cbs h with ⟨rfl, a, cap, rfl⟩ | ⟨b, off, cap, hpos, rfl, hlt, hc⟩
  · obtain rfl : r = true := HR.out
    clear h
    go_enter Try.func42, Try.ntmps42
    go_wp2
    refine wp_loop_rounds 1 ?_
    rw [rounds_succ]
    go_wp2
    go_ret
    exact ⟨rfl, Below.refl _ _⟩
  · have HH := Lib.hid h
    have HC := Lib.hid hc
    have HCap := Lib.hid (hcap _ _ _ rfl)
    clear hcap
    obtain ⟨N, hN⟩ : ∃ N, N = l.length := ⟨_, rfl⟩
    rw [← hN] at hn hpos ⊢
    have HNN := Lib.hid hN
    clear h hc hN
    by_cases h8 : 8 < N
    · obtain rfl : r = false := by rw [HR.out, okCbs, ← HNN.out, decide_eq_false (by omega), Bool.and_false]
      go_enter Try.func42, Try.ntmps42
      go_wp2
      go_ret
      exact ⟨rfl, Below.refl _ _⟩
    · go_enter Try.func42, Try.ntmps42
      go_wp2
      go_loopw [10, 3, 4] (fun i _ _ wr => ∃ (j : Nat), j ≤ N ∧ i = .int .i64 j ∧ cbN l j = true ∧ Below w.heap.size w wr) (fun i _ _ _ => N - (intOf i).toNat)
      case atStart => exact ⟨0, Nat.zero_le _, rfl, rfl, Below.refl _ _⟩
      case round =>
        obtain ⟨j, hj, rfl, hd, hb⟩ := hrel
        by_cases hlt' : j < N
        · obtain ⟨c0, c1⟩ := HC.out j (by rw [← HNN.out]; exact hlt')
          obtain ⟨e, he⟩ : ∃ e, e = cbD l j := ⟨_, rfl⟩
          have hbad : (cbFit e && apN l e j) = false → r = false := fun h0 => by rw [HR.out, okCbs, ← HNN.out, cbN_no (by rw [← he]; exact h0) _ hlt', Bool.false_and]
          have hnx : (cbFit e && apN l e j) = true → cbN l (j + 1) = true := fun h0 => by rw [cbN, hd, ← he, h0]; rfl
          rw [← he] at c0 c1
          obtain ⟨k, o⟩ := e
          simp only at c0 c1
          have f0 := (hb.cell (p := ⟨b, off + j * 2, none⟩) hlt).trans c0
          have f1 := (hb.cell (p := ⟨b, off + j * 2 + 1, none⟩) hlt).trans c1
          obtain ⟨V, hV⟩ : ∃ V, V = cbFit ⟨k, o⟩ := ⟨_, rfl⟩
          obtain ⟨V2, hV2⟩ : ∃ V, V = apN l ⟨k, o⟩ j := ⟨_, rfl⟩
          rw [← hV, ← hV2] at hbad hnx
          have HV := Lib.hid hV
          have HV2 := Lib.hid (show (!V2) = !apN (l.take j) ⟨k, o⟩ (l.take j).length by rw [hV2, List.length_take, Nat.min_eq_left (by rw [← HNN.out]; omega), apN_take _ (Nat.le_refl _)])
          have HBad := Lib.hid hbad
          have HNX := Lib.hid hnx
          have HB := Lib.hid hb
          have HTake := Lib.hid (rdN_cut_cb (HH.out.below hb) rfl j (by have := HNN.out; omega) cap)
          clear c0 c1 hbad hnx hb he hd hV hV2
          go_upto_region 6 with (fail)
          obtain ⟨U, hU⟩ : ∃ U, U = wr.alloc (.cells #[.int .i64 k, .int .i64 o] 94) := ⟨_, rfl⟩
          obtain ⟨g, hg⟩ : ∃ g, g = wr.heap.size := ⟨_, rfl⟩
          have hbx : Bxd U g [.int .i64 k, .int .i64 o] := by rw [hU, hg]; exact Bxd.new _ _ _
          have hu : Below wr.heap.size wr U := by rw [hU]; exact (Below.refl _ _).alloc (Nat.le_refl _) _
          have hgs : g < U.heap.size := by rw [hU, hg]; simp
          have hjc : (j : Int) ≤ (cap : Int) := by have := HCap.out; have := HNN.out; omega
          have hj0 : (0 : Int) ≤ (j : Int) := by omega
          rw [← hU, ← hg]
          have HBU := Lib.hid (HB.out.trans (hu.mono HB.out.size))
          have HTU := Lib.hid (HTake.out.below hu)
          have x0 := Far.cell hgs (hbx.at 0 _ rfl)
          have x1 := Far.cell hgs (hbx.at 1 _ rfl)
          clear hU hg hbx hu hgs
          cases V
          · obtain rfl : r = false := HBad.out rfl
            refine wp_region_far (by kernel_rfl) (by kernel_rfl) ?_
            repeat (go_big_quiet_step ((go_at_call 99; exact Far.call (isCombo_q k o _ HV.out _))))
            refine wpQuiet_nil ?_
            intro _ hw'
            obtain ⟨xw, rfl⟩ := hw'
            go_wp2
            go_ret
            exact ⟨rfl, HBU.out.trans (xw.low.mono HBU.out.size)⟩
          · cases V2
            · obtain rfl : r = false := HBad.out rfl
              refine wp_region_far (by kernel_rfl) (by kernel_rfl) ?_
              repeat (go_big_quiet_step ((first | (go_at_call 99; exact Far.call (isCombo_q k o _ HV.out _)) | (go_at_call 100; exact Far.call (containsLike_q _ _ k o _ HV2.out _ (by rw [List.length_take]; unfold maxLen; omega) (HTU.out.below (Far.low _)))))))
              refine wpQuiet_nil ?_
              intro _ hw'
              obtain ⟨xw, rfl⟩ := hw'
              go_wp2
              go_ret
              exact ⟨rfl, HBU.out.trans (xw.low.mono HBU.out.size)⟩
            · have hq := Lib.hid (HNX.out rfl)
              refine wp_region_far (by kernel_rfl) (by kernel_rfl) ?_
              repeat (go_big_quiet_step ((first | (go_at_call 99; exact Far.call (isCombo_q k o _ HV.out _)) | (go_at_call 100; exact Far.call (containsLike_q _ _ k o _ HV2.out _ (by rw [List.length_take]; unfold maxLen; omega) (HTU.out.below (Far.low _)))))))
              refine wpQuiet_nil ?_
              intro _ hw'
              obtain ⟨xw, rfl⟩ := hw'
              have HBX := Lib.hid (HBU.out.trans (xw.low.mono HBU.out.size))
              go_wp2
              go_roundw
              case rel => exact ⟨j + 1, by omega, by go_num, hq.out, HBX.out⟩
              case measure => simp [intOf]; omega
        · obtain rfl : j = N := by omega
          have hrt : r = true := by rw [HR.out, okCbs, ← HNN.out, hd, decide_eq_true (by omega)]; rfl
          have HRT := Lib.hid hrt
          have HB := Lib.hid hb
          clear hb hd hrt
          go_wp2
          go_ret
          exact ⟨ret_bool HRT.out.symm, HB.out⟩

end Go.Proofs.Ytagmdkblcgnddaa
