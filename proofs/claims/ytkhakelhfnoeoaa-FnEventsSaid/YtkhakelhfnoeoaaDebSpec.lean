/- DERIVED. The reference's functions of chapter 3 on debouncers, each called with a debouncer whose ages read as known numbers: it returns what a plain function says. -/
import Derived.Test.YtkhakelhfnoeoaaDeb
import Derived.Test.YtkhakelhfnoeoaaIn
import Derived.Test.YtkhakelhfnoeoaaCore
import Derived.Deep.RegionHeld3
namespace Go.Proofs.Ytkhakelhfnoeoaa
open Go.RowKit

def inB (x a b : Int) : Bool := decide (a ≤ x ∧ x ≤ b)
def allIn (lo hi : Int) (zs : List Int) : Bool := zs.all fun z => inB z lo hi
theorem allIn_take {lo hi : Int} {zs : List Int} {j : Nat} (h : allIn lo hi (zs.take j) = true) (hj : j < zs.length) (hz : inB (zs.getD j 0) lo hi = true) : allIn lo hi (zs.take (j + 1)) = true := by
  unfold allIn at h ⊢
  rw [List.take_succ_eq_append_getElem hj, List.all_append, h]
  have e : zs.getD j 0 = zs[j] := by simp [List.getElem?_eq_getElem hj]
  rw [e] at hz
  simp [hz]
theorem allIn_false {lo hi : Int} {zs : List Int} {j : Nat} (hj : j < zs.length) (hz : inB (zs.getD j 0) lo hi = false) : allIn lo hi zs = false := by
  unfold allIn
  rw [List.all_eq_false]
  refine ⟨zs[j], List.getElem_mem hj, ?_⟩
  have e : zs.getD j 0 = zs[j] := by simp [List.getElem?_eq_getElem hj]
  rw [e] at hz
  simp [hz]
def okDeb (k t n s l : Int) (zs : List Int) : Bool :=
  inB k 0 2 && inB t 1 20 && inB n 1 24 && decide ((zs.length : Int) = n) && allIn 0 99 zs && inB s 0 (2 ^ n.toNat - 1) && inB l 0 (2 ^ n.toNat - 1)

theorem inB_q (x a b : Int) (v : Bool) (hv : v = inB x a b) (w : World) : Calls Try.prog 44 #[.int .i64 x, .int .i64 a, .int .i64 b] w fun e w' => e = .returned (.bool v) ∧ w' = w :=
  (l1In_any x a b w).mono fun _ _ ⟨he, hw⟩ => ⟨by rw [he, hv]; rfl, hw.symm⟩
theorem inB_any (x a b : Int) (w : World) : Calls Try.prog 44 #[.int .i64 x, .int .i64 a, .int .i64 b] w fun e w' => e = .returned (.bool (inB x a b)) ∧ w = w' := l1In_any x a b w

set_option maxHeartbeats 1000000 in
theorem specIsDebouncer_any (k t n s l : Int) (u : Value) (zs : List Int) (w : World) (hl : zs.length ≤ maxLen) (h : Rd w u (zs.map (.int .i64))) :
    Calls Try.prog 48 #[dbv k t n s l u] w fun e w' => e = .returned (.bool (okDeb k t n s l zs)) ∧ Below w.heap.size w w' := by
  unfold maxLen at hl
  obtain ⟨v, hv⟩ : ∃ v, v = okDeb k t n s l zs := ⟨_, rfl⟩
  rw [← hv]
  obtain ⟨a1, h1⟩ : ∃ a, a = inB k 0 2 := ⟨_, rfl⟩
  obtain ⟨a2, h2⟩ : ∃ a, a = inB t 1 20 := ⟨_, rfl⟩
  obtain ⟨a3, h3⟩ : ∃ a, a = inB n 1 24 := ⟨_, rfl⟩
  have hv' : v = (a1 && a2 && a3 && decide ((zs.length : Int) = n) && allIn 0 99 zs && inB s 0 (2 ^ n.toNat - 1) && inB l 0 (2 ^ n.toNat - 1)) := by rw [hv, h1, h2, h3]; rfl
  have H1 := Lib.hid h1
  have H2 := Lib.hid h2
  have H3 := Lib.hid h3
  have HR := Lib.hid h
  have hsh : ∃ a cap, u = .slice a zs.length cap := by obtain ⟨a, cap, hu, _⟩ := h; exact ⟨a, cap, by simpa using hu⟩
  clear hv h1 h2 h3 h
  cases a1
  · obtain rfl : v = false := hv'
    obtain ⟨W, hW⟩ : ∃ W, W = w.alloc (.cells #[.int .i64 k, .int .i64 t, .int .i64 n, .int .i64 s, .int .i64 l, u] 26) := ⟨_, rfl⟩
    have HX0 := Lib.hid (show Bxd W w.heap.size [.int .i64 k, .int .i64 t, .int .i64 n, .int .i64 s, .int .i64 l, u] by rw [hW]; exact Bxd.new _ _ _)
    have HB0 := Lib.hid (show Below w.heap.size w W by rw [hW]; exact (Below.refl _ _).alloc (Nat.le_refl _) _)
    have HS0 := Lib.hid (show w.heap.size < W.heap.size by rw [hW]; simp)
    have HW := Lib.hid hW
    clear hW
    go_enter Try.func48, Try.ntmps48
    go_wp2_with fail
    refine (inB_any k 0 2 _).mono ?_
    rw [← H1.out]
    rintro e w0 ⟨rfl, rfl⟩
    go_wp2
    go_ret
    rw [← HW.out]
    exact ⟨rfl, HB0.out⟩
  · cases a2
    · obtain rfl : v = false := by simpa using hv'
      clear hv'
      obtain ⟨W, hW⟩ : ∃ W, W = w.alloc (.cells #[.int .i64 k, .int .i64 t, .int .i64 n, .int .i64 s, .int .i64 l, u] 26) := ⟨_, rfl⟩
      have HX0 := Lib.hid (show Bxd W w.heap.size [.int .i64 k, .int .i64 t, .int .i64 n, .int .i64 s, .int .i64 l, u] by rw [hW]; exact Bxd.new _ _ _)
      have HB0 := Lib.hid (show Below w.heap.size w W by rw [hW]; exact (Below.refl _ _).alloc (Nat.le_refl _) _)
      have HS0 := Lib.hid (show w.heap.size < W.heap.size by rw [hW]; simp)
      have HW := Lib.hid hW
      clear hW
      go_enter Try.func48, Try.ntmps48
      go_wp2_with fail
      refine (inB_any k 0 2 _).mono ?_
      rw [← H1.out]
      rintro e w0 ⟨rfl, rfl⟩
      go_wp2_with fail
      refine (inB_any t 1 20 _).mono ?_
      rw [← H2.out]
      rintro e w0 ⟨rfl, rfl⟩
      go_wp2
      go_ret
      rw [← HW.out]
      exact ⟨rfl, HB0.out⟩
    · cases a3
      · obtain rfl : v = false := by simpa using hv'
        clear hv'
        obtain ⟨W, hW⟩ : ∃ W, W = w.alloc (.cells #[.int .i64 k, .int .i64 t, .int .i64 n, .int .i64 s, .int .i64 l, u] 26) := ⟨_, rfl⟩
        have HX0 := Lib.hid (show Bxd W w.heap.size [.int .i64 k, .int .i64 t, .int .i64 n, .int .i64 s, .int .i64 l, u] by rw [hW]; exact Bxd.new _ _ _)
        have HB0 := Lib.hid (show Below w.heap.size w W by rw [hW]; exact (Below.refl _ _).alloc (Nat.le_refl _) _)
        have HS0 := Lib.hid (show w.heap.size < W.heap.size by rw [hW]; simp)
        have HW := Lib.hid hW
        clear hW
        go_enter Try.func48, Try.ntmps48
        go_wp2_with fail
        refine (inB_any k 0 2 _).mono ?_
        rw [← H1.out]
        rintro e w0 ⟨rfl, rfl⟩
        go_wp2_with fail
        refine (inB_any t 1 20 _).mono ?_
        rw [← H2.out]
        rintro e w0 ⟨rfl, rfl⟩
        go_wp2_with fail
        refine (inB_any n 1 24 _).mono ?_
        rw [← H3.out]
        rintro e w0 ⟨rfl, rfl⟩
        go_wp2
        go_ret
        rw [← HW.out]
        exact ⟨rfl, HB0.out⟩
      · by_cases h4 : (zs.length : Int) = n
        · have hn := H3.out
          unfold inB at hn
          have hn' := of_decide_eq_true hn.symm
          obtain ⟨N, rfl⟩ := Int.eq_ofNat_of_zero_le (show 0 ≤ n by omega)
          obtain rfl : zs.length = N := by omega
          have hN24 : zs.length ≤ 24 := by omega
          obtain ⟨a5, h5⟩ : ∃ a, a = allIn 0 99 zs := ⟨_, rfl⟩
          have hp : wrap64 ((2 : Int) ^ zs.length) = ((2 ^ zs.length : Nat) : Int) := wrap64_pow62 (by omega)
          have hp2 : IntKind.i64.wrap ((2 : Int) ^ zs.length) = ((2 ^ zs.length : Nat) : Int) := wrap_pow62 (by omega)
          have hpi := pow_nat zs.length
          have hp62 := pow62 (k := zs.length) (by omega)
          obtain ⟨p, hpd⟩ : ∃ p, p = 2 ^ zs.length := ⟨_, rfl⟩
          rw [← hpd] at hp hp2 hpi hp62
          have hp3 : IntKind.i64.wrap ((p : Int) - 1) = (p : Int) - 1 := IntWalk.i64_in _ ⟨by omega, by omega⟩
          have hv6 : v = (a5 && (inB s 0 ((p : Int) - 1) && inB l 0 ((p : Int) - 1))) := by
            rw [hv', ← h5]
            simp only [Int.toNat_natCast, hpi, decide_true, Bool.true_and, Bool.and_assoc]
          have H5 := Lib.hid h5
          have HV := Lib.hid hv6
          have HP := Lib.hid hpi
          clear hv' hn hn' h4 h5 hv6 hpd hpi
          obtain ⟨a, cap, rfl⟩ := hsh
          have hpos : 0 < zs.length := by have := of_decide_eq_true (show decide ((1 : Int) ≤ zs.length ∧ (zs.length : Int) ≤ 24) = true from H3.out.symm); omega
          have hrow : ∃ b off, a = some ⟨b, off, none⟩ ∧ b < w.heap.size ∧ ∀ j, j < zs.length → w.cell? ⟨b, off + j, none⟩ = some (.int .i64 (zs.getD j 0)) := by
            rcases HR.out.cases with ⟨hx, _⟩ | ⟨hx, b, off, cap', hu, hlt, hc⟩
            · exfalso; have : zs = [] := by simpa using hx
              rw [this] at hpos; simp at hpos
            · simp only [Value.slice.injEq] at hu
              refine ⟨b, off, hu.1, hlt, fun j hj => ?_⟩
              rw [hc j (by simpa using hj), getD_map_int]
          obtain ⟨b, off, rfl, hbl, hrow⟩ := hrow
          have HROW := Lib.hid hrow
          clear hrow
          obtain ⟨W, hW⟩ : ∃ W, W = w.alloc (.cells #[.int .i64 k, .int .i64 t, .int .i64 zs.length, .int .i64 s, .int .i64 l, .slice (some ⟨b, off, none⟩) zs.length cap] 26) := ⟨_, rfl⟩
          have HX0 := Lib.hid (show Bxd W w.heap.size [.int .i64 k, .int .i64 t, .int .i64 zs.length, .int .i64 s, .int .i64 l, .slice (some ⟨b, off, none⟩) zs.length cap] by rw [hW]; exact Bxd.new _ _ _)
          have HB0 := Lib.hid (show Below w.heap.size w W by rw [hW]; exact (Below.refl _ _).alloc (Nat.le_refl _) _)
          have HS0 := Lib.hid (show w.heap.size < W.heap.size by rw [hW]; simp)
          have HW := Lib.hid hW
          clear hW
          go_enter Try.func48, Try.ntmps48
          go_wp2_with fail
          refine (inB_any k 0 2 _).mono ?_
          rw [← H1.out]
          rintro e w0 ⟨rfl, rfl⟩
          go_wp2_with fail
          refine (inB_any t 1 20 _).mono ?_
          rw [← H2.out]
          rintro e w0 ⟨rfl, rfl⟩
          go_wp2_with fail
          refine (inB_any zs.length 1 24 _).mono ?_
          rw [← H3.out]
          rintro e w0 ⟨rfl, rfl⟩
          go_wp2
          rw [← HW.out]
          have c0 := HX0.out.at 0 _ rfl
          have c1 := HX0.out.at 1 _ rfl
          have c2 := HX0.out.at 2 _ rfl
          have c3 := HX0.out.at 3 _ rfl
          have c4 := HX0.out.at 4 _ rfl
          have c5 := HX0.out.at 5 _ rfl
          go_loop [3] (fun i => ∃ j : Nat, j ≤ zs.length ∧ i = .int .i64 j ∧ allIn 0 99 (zs.take j) = true) (fun i => zs.length - (intOf i).toNat)
          case atStart => exact ⟨0, Nat.zero_le _, rfl, rfl⟩
          case round =>
            obtain ⟨j, hj, rfl, hal⟩ := hrel
            by_cases hlt : j < zs.length
            · have hcell : W.cell? ⟨b, off + j, none⟩ = some (.int .i64 (zs.getD j 0)) := (HB0.out.cell (p := ⟨b, off + j, none⟩) hbl).trans (HROW.out j hlt)
              obtain ⟨z, hz⟩ : ∃ z, z = zs.getD j 0 := ⟨_, rfl⟩
              obtain ⟨q, hq⟩ : ∃ q, q = inB z 0 99 := ⟨_, rfl⟩
              rw [← hz] at hcell
              cases q
              · have hF := allIn_false hlt (by rw [← hz]; exact hq.symm)
                have hvF : v = false := by rw [HV.out, H5.out, hF]; rfl
                have HVF := Lib.hid hvF
                have HQ := Lib.hid hq
                clear hal hz hq hF hvF
                go_wp2_with fail
                refine (inB_any z 0 99 _).mono ?_
                rw [← HQ.out]
                rintro e w0 ⟨rfl, rfl⟩
                go_wp2
                go_ret
                exact ⟨ret_bool HVF.out.symm, HB0.out⟩
              · have hT := allIn_take hal hlt (by rw [← hz]; exact hq.symm)
                have HT := Lib.hid hT
                have HQ := Lib.hid hq
                clear hal hz hq hT
                go_wp2_with fail
                refine (inB_any z 0 99 _).mono ?_
                rw [← HQ.out]
                rintro e w0 ⟨rfl, rfl⟩
                go_wp2
                go_round
                case rel => exact ⟨j + 1, by omega, by go_num, HT.out⟩
                case measure => simp [intOf]; omega
            · obtain rfl : j = zs.length := by omega
              rw [List.take_length] at hal
              have hv7 : v = (inB s 0 ((p : Int) - 1) && inB l 0 ((p : Int) - 1)) := by rw [HV.out, H5.out, hal, Bool.true_and]
              obtain ⟨q, hq⟩ : ∃ q, q = inB s 0 ((p : Int) - 1) := ⟨_, rfl⟩
              rw [← hq] at hv7
              have HQ := Lib.hid hq
              clear hal hq
              cases q
              · obtain rfl : v = false := hv7
                go_wp2
                go_quiet ((go_at_call 44; exact Calls.quiet_of_same (inB_q s 0 ((p : Int) - 1) false HQ.out _)))
                go_wp2
                go_ret
                exact ⟨rfl, below_drewN HB0.out _⟩
              · rw [Bool.true_and] at hv7
                have HV7 := Lib.hid hv7
                clear hv7
                go_wp2
                go_quiet ((go_at_call 44; first | (with_reducible exact Calls.quiet_of_same (inB_q s 0 ((p : Int) - 1) true HQ.out _)) | (with_reducible exact Calls.quiet_of_same (inB_q l 0 ((p : Int) - 1) v HV7.out _))))
                go_wp2
                go_ret
                exact ⟨rfl, below_drewN HB0.out _⟩
        · obtain rfl : v = false := by rw [hv', decide_eq_false h4]; rfl
          clear hv'
          have hne : (((zs.length : Nat) : Int) == n) = false := beq_false_of_ne h4
          have hne2 : (((zs.length : Nat) : Int) != n) = true := by rw [bne, hne]; rfl
          obtain ⟨a, cap, rfl⟩ := hsh
          have H4 := Lib.hid h4
          clear h4
          obtain ⟨W, hW⟩ : ∃ W, W = w.alloc (.cells #[.int .i64 k, .int .i64 t, .int .i64 n, .int .i64 s, .int .i64 l, .slice a zs.length cap] 26) := ⟨_, rfl⟩
          have HX0 := Lib.hid (show Bxd W w.heap.size [.int .i64 k, .int .i64 t, .int .i64 n, .int .i64 s, .int .i64 l, .slice a zs.length cap] by rw [hW]; exact Bxd.new _ _ _)
          have HB0 := Lib.hid (show Below w.heap.size w W by rw [hW]; exact (Below.refl _ _).alloc (Nat.le_refl _) _)
          have HS0 := Lib.hid (show w.heap.size < W.heap.size by rw [hW]; simp)
          have HW := Lib.hid hW
          clear hW
          go_enter Try.func48, Try.ntmps48
          go_wp2_with fail
          refine (inB_any k 0 2 _).mono ?_
          rw [← H1.out]
          rintro e w0 ⟨rfl, rfl⟩
          go_wp2_with fail
          refine (inB_any t 1 20 _).mono ?_
          rw [← H2.out]
          rintro e w0 ⟨rfl, rfl⟩
          go_wp2_with fail
          refine (inB_any n 1 24 _).mono ?_
          rw [← H3.out]
          rintro e w0 ⟨rfl, rfl⟩
          go_wp2
          go_ret
          rw [← HW.out]
          exact ⟨rfl, HB0.out⟩

end Go.Proofs.Ytkhakelhfnoeoaa
