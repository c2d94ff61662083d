/- DERIVED. The program's own small functions on debouncers (hasKey, isMaskOf, isSwitch) and its IsDebouncer: each, called with whatever values, returns what a plain function says. -/
import Derived.Test.YtdlcpijiekhafaaSeqMath
import Derived.Test.YtdlcpijiekhafaaDebSpec
import Derived.Test.YtdlcpijiekhafaaBits
namespace Go.Proofs.Ytdlcpijiekhafaa
open Go.RowKit

theorem hasKey_any (z : Int) (k : Nat) (w : World) (hk : k < 62) : Calls Try.prog 45 #[.int .i64 z, .int .i64 k] w fun e w' => e = .returned (.bool (hz z k)) ∧ w = w' := by
  rcases bz01 z k with h | h
  · have hv : hz z k = false := by unfold hz; rw [h]; rfl
    rw [hv]
    unfold bz at h
    clear hv
    go_enter Try.func45, Try.ntmps45
    go_wp2
    go_ret
    exact ⟨rfl, rfl⟩
  · have hv : hz z k = true := by unfold hz; rw [h]; rfl
    rw [hv]
    unfold bz at h
    clear hv
    go_enter Try.func45, Try.ntmps45
    go_wp2
    go_ret
    exact ⟨rfl, rfl⟩

theorem isSwitch_any (key : Int) (w : World) : Calls Try.prog 44 #[.int .i64 key] w fun e w' => e = .returned (.bool (keyB key)) ∧ w = w' := by
  obtain ⟨v, hv⟩ : ∃ v, v = keyB key := ⟨_, rfl⟩
  rw [← hv]
  unfold keyB at hv
  by_cases h0 : 0 ≤ key
  · by_cases h1 : key < 24
    · rw [decide_eq_true ⟨h0, by omega⟩] at hv
      subst hv
      go_enter Try.func44, Try.ntmps44
      go_wp2
      go_ret
      exact ⟨rfl, rfl⟩
    · rw [decide_eq_false (by omega)] at hv
      subst hv
      go_enter Try.func44, Try.ntmps44
      go_wp2
      go_ret
      exact ⟨rfl, rfl⟩
  · rw [decide_eq_false (by omega)] at hv
    subst hv
    go_enter Try.func44, Try.ntmps44
    go_wp2
    go_ret
    exact ⟨rfl, rfl⟩

theorem isMaskOf_any (n : Nat) (x : Int) (w : World) (hn : n ≤ 24) : Calls Try.prog 42 #[.int .i64 n, .int .i64 x] w fun e w' => e = .returned (.bool (inB x 0 (2 ^ n - 1))) ∧ w = w' := by
  have hw := wrap64_pow62 (k := n) (by omega)
  have hpn := pow_nat n
  obtain ⟨p, hp⟩ : ∃ p, p = 2 ^ n := ⟨_, rfl⟩
  rw [← hp] at hw hpn
  rw [hpn]
  obtain ⟨v, hv⟩ : ∃ v, v = inB x 0 ((p : Int) - 1) := ⟨_, rfl⟩
  rw [← hv]
  unfold inB at hv
  clear hpn hp
  by_cases h0 : 0 ≤ x
  · by_cases h1 : x < (p : Int)
    · rw [decide_eq_true ⟨h0, by omega⟩] at hv
      subst hv
      go_enter Try.func42, Try.ntmps42
      go_wp2
      go_ret
      exact ⟨rfl, rfl⟩
    · rw [decide_eq_false (by omega)] at hv
      subst hv
      go_enter Try.func42, Try.ntmps42
      go_wp2
      go_ret
      exact ⟨rfl, rfl⟩
  · rw [decide_eq_false (by omega)] at hv
    subst hv
    go_enter Try.func42, Try.ntmps42
    go_wp2
    go_ret
    exact ⟨rfl, rfl⟩

set_option maxHeartbeats 1000000 in
theorem implIsDebouncer_any (k t n s l : Int) (u : Value) (zs : List Int) (w : World) (hl : zs.length ≤ maxLen) (h : Rd w u (zs.map (.int .i64))) :
    Calls Try.prog 18 #[dbv k t n s l u] w fun e w' => e = .returned (.bool (okDeb k t n s l zs)) ∧ Below w.heap.size w w' := by
  unfold maxLen at hl
  obtain ⟨v, hv⟩ : ∃ v, v = okDeb k t n s l zs := ⟨_, rfl⟩
  rw [← hv]
  have hv' : v = (inB k 0 2 && inB t 1 20 && inB n 1 24 && decide ((zs.length : Int) = n) && allIn 0 99 zs && inB s 0 (2 ^ n.toNat - 1) && inB l 0 (2 ^ n.toNat - 1)) := by rw [hv]; rfl
  have HR := Lib.hid h
  have hsh : ∃ a cap, u = .slice a zs.length cap := by obtain ⟨a, cap, hu, _⟩ := h; exact ⟨a, cap, by simpa using hu⟩
  obtain ⟨a, cap, rfl⟩ := hsh
  clear hv h
  by_cases h1 : 0 ≤ k ∧ k ≤ 2 ∧ 1 ≤ t ∧ t ≤ 20
  · obtain ⟨k0, k2, t1, t20⟩ := h1
    rw [show inB k 0 2 = true from decide_eq_true ⟨k0, k2⟩, show inB t 1 20 = true from decide_eq_true ⟨t1, t20⟩] at hv'
    by_cases h2 : 1 ≤ n ∧ n ≤ 24
    · obtain ⟨n1, n24⟩ := h2
      rw [show inB n 1 24 = true from decide_eq_true ⟨n1, n24⟩] at hv'
      by_cases h4 : (zs.length : Int) = n
      · obtain ⟨N, rfl⟩ := Int.eq_ofNat_of_zero_le (show 0 ≤ n by omega)
        obtain rfl : zs.length = N := by omega
        have hN24 : zs.length ≤ 24 := by omega
        obtain ⟨a5, h5⟩ : ∃ a, a = allIn 0 99 zs := ⟨_, rfl⟩
        have hv6 : v = (a5 && (inB s 0 (2 ^ zs.length - 1) && inB l 0 (2 ^ zs.length - 1))) := by
          rw [hv', ← h5]
          simp only [Int.toNat_natCast, decide_true, Bool.true_and, Bool.and_assoc]
        have H5 := Lib.hid h5
        have HV := Lib.hid hv6
        clear hv' h4 h5 hv6
        have hpos : 0 < zs.length := by omega
        have hrow : ∃ b off, a = some ⟨b, off, none⟩ ∧ b < w.heap.size ∧ ∀ j, j < zs.length → w.cell? ⟨b, off + j, none⟩ = some (.int .i64 (zs.getD j 0)) := by
          rcases HR.out.cases with ⟨hx, _⟩ | ⟨hx, b, off, cap', hu, hlt, hc⟩
          · exfalso; have : zs = [] := by simpa using hx
            rw [this] at hpos; simp at hpos
          · simp only [Value.slice.injEq] at hu
            refine ⟨b, off, hu.1, hlt, fun j hj => ?_⟩
            rw [hc j (by simpa using hj), getD_map_int]
        obtain ⟨b, off, rfl, hbl, hrow⟩ := hrow
        have HROW := Lib.hid hrow
        clear hrow
        obtain ⟨W, hW⟩ : ∃ W, W = w.alloc (.cells #[.int .i64 k, .int .i64 t, .int .i64 zs.length, .int .i64 s, .int .i64 l, .slice (some ⟨b, off, none⟩) zs.length cap] 26) := ⟨_, rfl⟩
        have HX0 := Lib.hid (show Bxd W w.heap.size [.int .i64 k, .int .i64 t, .int .i64 zs.length, .int .i64 s, .int .i64 l, .slice (some ⟨b, off, none⟩) zs.length cap] by rw [hW]; exact Bxd.new _ _ _)
        have HB0 := Lib.hid (show Below w.heap.size w W by rw [hW]; exact (Below.refl _ _).alloc (Nat.le_refl _) _)
        have HS0 := Lib.hid (show w.heap.size < W.heap.size by rw [hW]; simp)
        have HW := Lib.hid hW
        clear hW
        go_enter Try.func18, Try.ntmps18
        go_wp2
        rw [← HW.out]
        have c0 := HX0.out.at 0 _ rfl
        have c1 := HX0.out.at 1 _ rfl
        have c2 := HX0.out.at 2 _ rfl
        have c3 := HX0.out.at 3 _ rfl
        have c4 := HX0.out.at 4 _ rfl
        have c5 := HX0.out.at 5 _ rfl
        go_loop [42] (fun i => ∃ j : Nat, j ≤ zs.length ∧ i = .int .i64 j ∧ allIn 0 99 (zs.take j) = true) (fun i => zs.length - (intOf i).toNat)
        case atStart => exact ⟨0, Nat.zero_le _, rfl, rfl⟩
        case round =>
          obtain ⟨j, hj, rfl, hal⟩ := hrel
          by_cases hlt : j < zs.length
          · have hcell : W.cell? ⟨b, off + j, none⟩ = some (.int .i64 (zs.getD j 0)) := (HB0.out.cell (p := ⟨b, off + j, none⟩) hbl).trans (HROW.out j hlt)
            obtain ⟨z, hz⟩ : ∃ z, z = zs.getD j 0 := ⟨_, rfl⟩
            rw [← hz] at hcell
            by_cases hq : 0 ≤ z ∧ z ≤ 99
            · have hT := allIn_take hal hlt (by rw [← hz]; exact decide_eq_true hq)
              obtain ⟨z0, z9⟩ := hq
              have HT := Lib.hid hT
              clear hal hz hT
              go_wp2
              go_round
              case rel => exact ⟨j + 1, by omega, by go_num, HT.out⟩
              case measure => simp [intOf]; omega
            · have hF := allIn_false hlt (by rw [← hz]; exact decide_eq_false hq)
              have hvF : v = false := by rw [HV.out, H5.out, hF]; rfl
              have HVF := Lib.hid hvF
              clear hal hz hF hvF
              by_cases z0 : 0 ≤ z
              · have z9 : 99 < z := by omega
                clear hq
                go_wp2
                go_ret
                exact ⟨ret_bool HVF.out.symm, HB0.out⟩
              · clear hq
                go_wp2
                go_ret
                exact ⟨ret_bool HVF.out.symm, HB0.out⟩
          · obtain rfl : j = zs.length := by omega
            rw [List.take_length] at hal
            have hv7 : v = (inB s 0 (2 ^ zs.length - 1) && inB l 0 (2 ^ zs.length - 1)) := by rw [HV.out, H5.out, hal, Bool.true_and]
            obtain ⟨q, hq⟩ : ∃ q, q = inB s 0 (2 ^ zs.length - 1) := ⟨_, rfl⟩
            rw [← hq] at hv7
            have HQ := Lib.hid hq
            clear hal hq
            cases q
            · obtain rfl : v = false := hv7
              go_wp2_with fail
              refine (isMaskOf_any zs.length s _ hN24).mono ?_
              rw [← HQ.out]
              rintro e w0 ⟨rfl, rfl⟩
              go_wp2
              go_ret
              exact ⟨rfl, HB0.out⟩
            · rw [Bool.true_and] at hv7
              have HV7 := Lib.hid hv7
              clear hv7
              go_wp2_with fail
              refine (isMaskOf_any zs.length s _ hN24).mono ?_
              rw [← HQ.out]
              rintro e w0 ⟨rfl, rfl⟩
              go_wp2_with fail
              refine (isMaskOf_any zs.length l _ hN24).mono ?_
              rw [← HV7.out]
              rintro e w0 ⟨rfl, rfl⟩
              go_wp2
              go_ret
              exact ⟨rfl, HB0.out⟩
      · obtain rfl : v = false := by rw [hv', decide_eq_false h4]; rfl
        clear hv'
        have hne : (((zs.length : Nat) : Int) == n) = false := beq_false_of_ne h4
        have hne2 : (((zs.length : Nat) : Int) != n) = true := by rw [bne, hne]; rfl
        clear h4
        obtain ⟨W, hW⟩ : ∃ W, W = w.alloc (.cells #[.int .i64 k, .int .i64 t, .int .i64 n, .int .i64 s, .int .i64 l, .slice a zs.length cap] 26) := ⟨_, rfl⟩
        have HX0 := Lib.hid (show Bxd W w.heap.size [.int .i64 k, .int .i64 t, .int .i64 n, .int .i64 s, .int .i64 l, .slice a zs.length cap] by rw [hW]; exact Bxd.new _ _ _)
        have HB0 := Lib.hid (show Below w.heap.size w W by rw [hW]; exact (Below.refl _ _).alloc (Nat.le_refl _) _)
        have HS0 := Lib.hid (show w.heap.size < W.heap.size by rw [hW]; simp)
        have HW := Lib.hid hW
        clear hW
        go_enter Try.func18, Try.ntmps18
        go_wp2
        go_ret
        rw [← HW.out]
        exact ⟨rfl, HB0.out⟩
    · obtain rfl : v = false := by rw [hv', show inB n 1 24 = false from decide_eq_false h2]; rfl
      clear hv'
      by_cases n1 : 1 ≤ n
      · have n24 : 24 < n := by omega
        clear h2
        obtain ⟨W, hW⟩ : ∃ W, W = w.alloc (.cells #[.int .i64 k, .int .i64 t, .int .i64 n, .int .i64 s, .int .i64 l, .slice a zs.length cap] 26) := ⟨_, rfl⟩
        have HX0 := Lib.hid (show Bxd W w.heap.size [.int .i64 k, .int .i64 t, .int .i64 n, .int .i64 s, .int .i64 l, .slice a zs.length cap] by rw [hW]; exact Bxd.new _ _ _)
        have HB0 := Lib.hid (show Below w.heap.size w W by rw [hW]; exact (Below.refl _ _).alloc (Nat.le_refl _) _)
        have HS0 := Lib.hid (show w.heap.size < W.heap.size by rw [hW]; simp)
        have HW := Lib.hid hW
        clear hW
        go_enter Try.func18, Try.ntmps18
        go_wp2
        go_ret
        rw [← HW.out]
        exact ⟨rfl, HB0.out⟩
      · clear h2
        obtain ⟨W, hW⟩ : ∃ W, W = w.alloc (.cells #[.int .i64 k, .int .i64 t, .int .i64 n, .int .i64 s, .int .i64 l, .slice a zs.length cap] 26) := ⟨_, rfl⟩
        have HX0 := Lib.hid (show Bxd W w.heap.size [.int .i64 k, .int .i64 t, .int .i64 n, .int .i64 s, .int .i64 l, .slice a zs.length cap] by rw [hW]; exact Bxd.new _ _ _)
        have HB0 := Lib.hid (show Below w.heap.size w W by rw [hW]; exact (Below.refl _ _).alloc (Nat.le_refl _) _)
        have HS0 := Lib.hid (show w.heap.size < W.heap.size by rw [hW]; simp)
        have HW := Lib.hid hW
        clear hW
        go_enter Try.func18, Try.ntmps18
        go_wp2
        go_ret
        rw [← HW.out]
        exact ⟨rfl, HB0.out⟩
  · have hvf : v = false := by
      rw [hv']
      by_cases hk : 0 ≤ k ∧ k ≤ 2
      · rw [show inB t 1 20 = false from decide_eq_false (by omega)]; simp
      · rw [show inB k 0 2 = false from decide_eq_false hk]; rfl
    subst hvf
    clear hv'
    by_cases k0 : 0 ≤ k
    · by_cases k2 : k ≤ 2
      · by_cases t1 : 1 ≤ t
        · have t20 : 20 < t := by omega
          clear h1
          obtain ⟨W, hW⟩ : ∃ W, W = w.alloc (.cells #[.int .i64 k, .int .i64 t, .int .i64 n, .int .i64 s, .int .i64 l, .slice a zs.length cap] 26) := ⟨_, rfl⟩
          have HX0 := Lib.hid (show Bxd W w.heap.size [.int .i64 k, .int .i64 t, .int .i64 n, .int .i64 s, .int .i64 l, .slice a zs.length cap] by rw [hW]; exact Bxd.new _ _ _)
          have HB0 := Lib.hid (show Below w.heap.size w W by rw [hW]; exact (Below.refl _ _).alloc (Nat.le_refl _) _)
          have HS0 := Lib.hid (show w.heap.size < W.heap.size by rw [hW]; simp)
          have HW := Lib.hid hW
          clear hW
          go_enter Try.func18, Try.ntmps18
          go_wp2
          go_ret
          rw [← HW.out]
          exact ⟨rfl, HB0.out⟩
        · clear h1
          obtain ⟨W, hW⟩ : ∃ W, W = w.alloc (.cells #[.int .i64 k, .int .i64 t, .int .i64 n, .int .i64 s, .int .i64 l, .slice a zs.length cap] 26) := ⟨_, rfl⟩
          have HX0 := Lib.hid (show Bxd W w.heap.size [.int .i64 k, .int .i64 t, .int .i64 n, .int .i64 s, .int .i64 l, .slice a zs.length cap] by rw [hW]; exact Bxd.new _ _ _)
          have HB0 := Lib.hid (show Below w.heap.size w W by rw [hW]; exact (Below.refl _ _).alloc (Nat.le_refl _) _)
          have HS0 := Lib.hid (show w.heap.size < W.heap.size by rw [hW]; simp)
          have HW := Lib.hid hW
          clear hW
          go_enter Try.func18, Try.ntmps18
          go_wp2
          go_ret
          rw [← HW.out]
          exact ⟨rfl, HB0.out⟩
      · clear h1
        obtain ⟨W, hW⟩ : ∃ W, W = w.alloc (.cells #[.int .i64 k, .int .i64 t, .int .i64 n, .int .i64 s, .int .i64 l, .slice a zs.length cap] 26) := ⟨_, rfl⟩
        have HX0 := Lib.hid (show Bxd W w.heap.size [.int .i64 k, .int .i64 t, .int .i64 n, .int .i64 s, .int .i64 l, .slice a zs.length cap] by rw [hW]; exact Bxd.new _ _ _)
        have HB0 := Lib.hid (show Below w.heap.size w W by rw [hW]; exact (Below.refl _ _).alloc (Nat.le_refl _) _)
        have HS0 := Lib.hid (show w.heap.size < W.heap.size by rw [hW]; simp)
        have HW := Lib.hid hW
        clear hW
        go_enter Try.func18, Try.ntmps18
        go_wp2
        go_ret
        rw [← HW.out]
        exact ⟨rfl, HB0.out⟩
    · clear h1
      obtain ⟨W, hW⟩ : ∃ W, W = w.alloc (.cells #[.int .i64 k, .int .i64 t, .int .i64 n, .int .i64 s, .int .i64 l, .slice a zs.length cap] 26) := ⟨_, rfl⟩
      have HX0 := Lib.hid (show Bxd W w.heap.size [.int .i64 k, .int .i64 t, .int .i64 n, .int .i64 s, .int .i64 l, .slice a zs.length cap] by rw [hW]; exact Bxd.new _ _ _)
      have HB0 := Lib.hid (show Below w.heap.size w W by rw [hW]; exact (Below.refl _ _).alloc (Nat.le_refl _) _)
      have HS0 := Lib.hid (show w.heap.size < W.heap.size by rw [hW]; simp)
      have HW := Lib.hid hW
      clear hW
      go_enter Try.func18, Try.ntmps18
      go_wp2
      go_ret
      rw [← HW.out]
      exact ⟨rfl, HB0.out⟩

end Go.Proofs.Ytdlcpijiekhafaa
