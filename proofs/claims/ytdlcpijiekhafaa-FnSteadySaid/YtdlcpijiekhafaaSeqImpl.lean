/- DERIVED. The program's CountChanges, IsSpaced and LastStable, and the list of changes that they lean on: each, called with a slice that reads as known numbers, returns what a plain function says. -/
import Derived.Test.YtdlcpijiekhafaaDebImpl
namespace Go.Proofs.Ytdlcpijiekhafaa
open Go.RowKit

set_option maxHeartbeats 1000000 in
theorem changesOf_any (v : Value) (zs : List Int) (key : Int) (w : World) (hl : zs.length ≤ 1048576) (h : Rd w v (zs.map (.int .i64))) :
    Calls Try.prog 46 #[v, .int .i64 key] w fun e w' => ∃ u, e = .returned u ∧ w'.ownsRow w.heap.size 3 1 u (chV zs key).length ((chV zs key).map (.int .i64)) ∧ Below w.heap.size w w' := by
  obtain ⟨i0, hi, hy0, hy1, hy2⟩ := info_parts info_int
  obtain ⟨kb, hk⟩ : ∃ kb, kb = keyB key := ⟨_, rfl⟩
  cases kb
  · have hv : chV zs key = [] := by rw [chV, ← hk]; rfl
    rw [hv]
    have HK := Lib.hid hk
    clear hk hv h
    go_enter Try.func46, Try.ntmps46
    go_wp2_with fail
    refine (isSwitch_any key _).mono ?_
    rw [← HK.out]
    rintro e w0 ⟨rfl, rfl⟩
    go_wp2
    go_ret
    exact ⟨_, rfl, World.ownsRow_nil _ _ _ _, Below.refl _ _⟩
  · have hk' := of_decide_eq_true (show decide (0 ≤ key ∧ key ≤ 23) = true from hk.symm)
    obtain ⟨k, rfl⟩ := Int.eq_ofNat_of_zero_le hk'.1
    have hk23 : k ≤ 23 := by omega
    have hv : chV zs k = chN zs k zs.length := by rw [chV, ← hk]; rfl
    rw [hv]
    have HK := Lib.hid hk
    clear hk hv hk'
    rcases rd_ints h with ⟨rfl, a, cap, rfl⟩ | ⟨b, off, cap, hpos, rfl, hlt, hc⟩
    · clear h
      go_enter Try.func46, Try.ntmps46
      go_wp2_with fail
      refine (isSwitch_any k _).mono ?_
      rw [← HK.out]
      rintro e w0 ⟨rfl, rfl⟩
      go_wp2
      refine wp_loop_rounds 1 ?_
      rw [rounds_succ]
      go_wp2
      go_ret
      exact ⟨_, rfl, World.ownsRow_nil _ _ _ _, Below.refl _ _⟩
    · have HC := Lib.hid hc
      clear h hc
      go_enter Try.func46, Try.ntmps46
      go_wp2_with fail
      refine (isSwitch_any k _).mono ?_
      rw [← HK.out]
      rintro e w0 ⟨rfl, rfl⟩
      go_wp2
      go_loopw [5, 6, 14] (fun o p i wr => ∃ (j : Nat) (a : Option Addr) (c : Nat), j ≤ zs.length ∧ i = .int .i64 j ∧ p = .int .i64 (prevZ zs j) ∧ o = .slice a (chN zs k j).length c ∧ wr.ownsRow w.heap.size 3 1 (.slice a (chN zs k j).length c) (chN zs k j).length ((chN zs k j).map (.int .i64)) ∧ Below w.heap.size w wr) (fun _ _ i _ => zs.length - (intOf i).toNat)
      case atStart => exact ⟨0, none, 0, Nat.zero_le _, rfl, rfl, rfl, World.ownsRow_nil _ _ _ _, Below.refl _ _⟩
      case round =>
        obtain ⟨j, a, c, hj, rfl, rfl, rfl, hown, hb⟩ := hrel
        have HO := Lib.hid hown
        have HB := Lib.hid hb
        by_cases hlt' : j < zs.length
        · have hcell : wr.cell? ⟨b, off + j, none⟩ = some (.int .i64 (zs.getD j 0)) := (hb.cell (p := ⟨b, off + j, none⟩) hlt).trans (HC.out j hlt')
          have hnx : chN zs k (j + 1) = if bz (zs.getD j 0) k = bz (prevZ zs j) k then chN zs k j else chN zs k j ++ [(j : Int)] := by rw [chN]
          have hpn : prevZ zs (j + 1) = zs.getD j 0 := rfl
          have hcnt : (chN zs k j).length ≤ j := by rw [chN_len]; exact (ccN_bd zs k j).2
          obtain ⟨z, hz0⟩ : ∃ z, z = zs.getD j 0 := ⟨_, rfl⟩
          obtain ⟨p, hp0⟩ : ∃ p, p = prevZ zs j := ⟨_, rfl⟩
          obtain ⟨L, hL0⟩ : ∃ L, L = chN zs k j := ⟨_, rfl⟩
          rw [← hz0] at hcell hnx hpn
          rw [← hp0] at hnx ⊢
          rw [← hL0] at hnx hcnt ⊢
          have HOL : Hid (wr.ownsRow w.heap.size 3 1 (.slice a L.length c) L.length (L.map (.int .i64))) := Lib.hid (by rw [hL0]; exact HO.out)
          have hx := hz_xor z p k (by omega)
          have HPN := Lib.hid hpn
          clear hown hb hz0 hp0 hL0 hpn
          by_cases hzp : bz z k = bz p k
          · rw [if_pos hzp] at hnx
            rw [decide_eq_true hzp] at hx
            have HN := Lib.hid hnx
            have HX := Lib.hid hx
            clear hnx hx hzp
            go_wp2_with fail
            refine (hasKey_any (bits .xor .i64 z p) k _ (by omega)).mono ?_
            rw [HX.out]
            rintro e w0 ⟨rfl, rfl⟩
            go_wp2
            go_roundw
            case rel => exact ⟨j + 1, a, c, by omega, by go_num, by rw [HPN.out], by rw [HN.out], by rw [HN.out]; exact HOL.out, HB.out⟩
            case measure => simp [intOf]; omega
          · rw [if_neg hzp] at hnx
            rw [decide_eq_false hzp] at hx
            have HN := Lib.hid hnx
            have HX := Lib.hid hx
            have hszc : w.heap.size ≤ wr.heap.size := HB.out.size
            have b63 : L.length + 1 ≤ maxLen := by unfold maxLen; omega
            have b47 : (L.length + 1) * 8 ≤ 140737488355328 := by omega
            clear hnx hx hzp
            go_wp2_with fail
            refine (hasKey_any (bits .xor .i64 z p) k _ (by omega)).mono ?_
            rw [HX.out]
            rintro e w0 ⟨rfl, rfl⟩
            go_wp2_with (at_builtin; refine wpList_append_own _ rfl _ _ 24 rfl w.heap.size 3 i0 (.int .i64 0) 1 8 Try.underlying24 hi hy0 hy1 hy2 rfl (by decide) _ _ _ rfl (HOL.out.alloc _) ⟨wr.heap.size, 0, none⟩ 1 1 [.int .i64 j] rfl rfl ?c1 ?c2 b63 b47 ?c5 ?_)
            case c1 => exact cell_one_new _ _ _
            case c2 => intro u hu; simp at hu; subst hu; rfl
            case c5 => simp; omega
            · intro v' w6 hown1 hgrow _
              obtain ⟨a', c', rfl⟩ := owns_shape hown1
              have HB6 := Lib.hid ((HB.out.alloc (by omega) (.cells #[.int .i64 (j : Int)] 3)).grown hgrow (by simp; omega) (fun q hq => by have := (HOL.out.lt q hq).1; omega))
              have HO6 := Lib.hid hown1
              clear hown1 hgrow
              go_wp2
              go_roundw
              case rel =>
                refine ⟨j + 1, a', c', by omega, by go_num, by rw [HPN.out], by rw [HN.out]; simp, ?_, HB6.out⟩
                rw [HN.out]
                simpa using HO6.out
              case measure => simp [intOf]; omega
        · obtain rfl : j = zs.length := by omega
          clear hown hb
          go_wp2
          go_ret
          exact ⟨_, rfl, HO.out, HB.out⟩

theorem implCountChanges_any (v : Value) (zs : List Int) (key : Int) (w : World) (hl : zs.length ≤ 1048576) (h : Rd w v (zs.map (.int .i64))) :
    Calls Try.prog 20 #[v, .int .i64 key] w fun e w' => e = .returned (.int .i64 (countV zs key)) ∧ Below w.heap.size w w' := by
  have HR := Lib.hid h
  clear h
  go_enter Try.func20, Try.ntmps20
  go_wp2_with fail
  refine (changesOf_any v zs key w hl HR.out).mono ?_
  rintro e w1 ⟨u, rfl, hown, hb⟩
  obtain ⟨a, c, rfl⟩ := owns_shape hown
  have HB := Lib.hid hb
  have HC := Lib.hid (chV_len zs key)
  clear hown hb
  go_wp2
  go_ret
  exact ⟨ret_int HC.out, HB.out⟩

set_option maxHeartbeats 1000000 in
theorem implIsSpaced_any (v : Value) (zs : List Int) (key n : Int) (w : World) (hl : zs.length ≤ 1048576) (h : Rd w v (zs.map (.int .i64))) :
    Calls Try.prog 21 #[v, .int .i64 key, .int .i64 n] w fun e w' => e = .returned (.bool (spacedV zs key n)) ∧ Below w.heap.size w w' := by
  obtain ⟨r, hr⟩ : ∃ r, r = spacedV zs key n := ⟨_, rfl⟩
  rw [← hr]
  have hiff := spacedV_iff zs key n
  rw [← hr] at hiff
  obtain ⟨kb, hk⟩ : ∃ kb, kb = keyB key := ⟨_, rfl⟩
  rw [← hk] at hiff
  have HR := Lib.hid h
  have HK := Lib.hid hk
  clear h hr hk
  cases kb
  · obtain rfl : r = false := by cases r; · rfl
                                 · simp at hiff
    clear hiff
    go_enter Try.func21, Try.ntmps21
    go_wp2_with fail
    refine (isSwitch_any key _).mono ?_
    rw [← HK.out]
    rintro e w0 ⟨rfl, rfl⟩
    go_wp2
    go_ret
    exact ⟨rfl, Below.refl _ _⟩
  · have HIFF := Lib.hid hiff
    have hcnt := chV_count zs key
    have HBD := Lib.hid (chV_bd zs key)
    clear hiff
    go_enter Try.func21, Try.ntmps21
    go_wp2_with fail
    refine (isSwitch_any key _).mono ?_
    rw [← HK.out]
    rintro e w0 ⟨rfl, rfl⟩
    go_wp2_with fail
    refine (changesOf_any v zs key w hl HR.out).mono ?_
    rintro e w1 ⟨u, rfl, hown, hb⟩
    have hrd := Rd.of_owns hown
    obtain ⟨a, c, rfl⟩ := owns_shape hown
    have HB := Lib.hid hb
    obtain ⟨L, hL⟩ : ∃ L, L = chV zs key := ⟨_, rfl⟩
    rw [← hL] at hrd hcnt HBD HIFF ⊢
    clear hown hb hL
    rcases rd_ints hrd with ⟨rfl, _⟩ | ⟨b, off, cap, hpos, hu, hlt, hc⟩
    · obtain rfl : r = true := HIFF.out.mpr ⟨by trivial, spacedI_nil n⟩
      clear hrd
      go_wp2
      refine wp_loop_rounds 1 ?_
      rw [rounds_succ]
      go_wp2
      go_ret
      exact ⟨rfl, HB.out⟩
    · simp only [Value.slice.injEq] at hu
      obtain ⟨rfl, _, rfl⟩ := hu
      have HC := Lib.hid hc
      clear hrd hc
      go_wp2
      go_loopw [8] (fun i wr => ∃ (j m : Nat), 1 ≤ j ∧ j ≤ L.length ∧ i = .int .i64 j ∧ (∀ q, q + 1 < j → n ≤ L.getD (q + 1) 0 - L.getD q 0) ∧ wr = w1.drewN m) (fun i _ => L.length - (intOf i).toNat)
      case atStart => exact ⟨1, 0, Nat.le_refl _, hpos, rfl, fun q hq => by omega, rfl⟩
      case round =>
        obtain ⟨j, m, hj1, hj, rfl, hs, rfl⟩ := hrel
        obtain ⟨i, rfl⟩ : ∃ i, j = i + 1 := ⟨j - 1, by omega⟩
        by_cases hlt' : i + 1 < L.length
        · have hcell := HC.out (i + 1) hlt'
          have hcell0 := HC.out i (by omega)
          have hx0 := HBD.out (i + 1) hlt'
          have hy0 := HBD.out i (by omega)
          obtain ⟨x, hx⟩ : ∃ x, x = L.getD (i + 1) 0 := ⟨_, rfl⟩
          obtain ⟨y, hy⟩ : ∃ y, y = L.getD i 0 := ⟨_, rfl⟩
          rw [← hx] at hcell hx0
          rw [← hy] at hcell0 hy0
          obtain ⟨hx0, hx1⟩ := hx0
          obtain ⟨hy0, hy1⟩ := hy0
          have ei : IntKind.i64.wrap (((i + 1 : Nat) : Int) - 1) = (i : Int) := by rw [show ((i + 1 : Nat) : Int) - 1 = (i : Int) by omega]; exact IntWalk.i64_in _ ⟨by omega, by omega⟩
          have ed : IntKind.i64.wrap (x - y) = x - y := IntWalk.i64_in _ ⟨by omega, by omega⟩
          have hi0 : (0 : Int) ≤ (i : Int) := by omega
          have hi1 : (i : Int) < (L.length : Int) := by omega
          have HS := Lib.hid hs
          have HX := Lib.hid hx
          have HY := Lib.hid hy
          clear hs hx hy
          by_cases hn : x - y < n
          · have hd : decide (x - y < n) = true := decide_eq_true hn
            obtain rfl : r = false := by
              cases r
              · rfl
              · exfalso
                have := (HIFF.out.mp rfl).2 i hlt'
                rw [← HX.out, ← HY.out] at this
                omega
            go_wp2
            go_quiet (fail)
            go_wp2
            go_ret
            exact ⟨rfl, below_drewN (below_drewN HB.out _) _⟩
          · have hd : decide (x - y < n) = false := decide_eq_false hn
            go_wp2
            go_quiet (fail)
            go_wp2
            go_roundw
            case rel =>
              refine ⟨i + 1 + 1, _, by omega, by omega, by go_num, fun q hq => ?_, rfl⟩
              by_cases hqi : q = i
              · subst hqi; rw [← HX.out, ← HY.out]; omega
              · exact HS.out q (by omega)
            case measure => simp [intOf]; omega
        · have hji : i + 1 = L.length := by omega
          have hrt : r = true := HIFF.out.mpr ⟨by trivial, fun q hq => hs q (by omega)⟩
          have HRT := Lib.hid hrt
          clear hs hrt
          go_wp2
          go_ret
          exact ⟨ret_bool HRT.out.symm, below_drewN HB.out _⟩

set_option maxHeartbeats 2000000 in
theorem implLastStable_any (v : Value) (zs : List Int) (time key : Int) (w : World) (hl : zs.length ≤ 1048576) (h : Rd w v (zs.map (.int .i64))) :
    Calls Try.prog 19 #[v, .int .i64 time, .int .i64 key] w fun e w' => e = .returned (.tuple #[.bool (stableV zs time key), .bool (stableB zs time key)]) ∧ w = w' := by
  obtain ⟨r, hr⟩ : ∃ r, r = stableV zs time key := ⟨_, rfl⟩
  obtain ⟨o, ho⟩ : ∃ o, o = stableB zs time key := ⟨_, rfl⟩
  rw [← hr, ← ho]
  obtain ⟨kb, hk⟩ : ∃ kb, kb = keyB key := ⟨_, rfl⟩
  have hsh : ∃ a cap, v = .slice a zs.length cap := by obtain ⟨a, cap, hu, _⟩ := h; exact ⟨a, cap, by simpa using hu⟩
  have HK := Lib.hid hk
  by_cases ht : 1 ≤ time ∧ time ≤ 20
  · obtain ⟨t1, t20⟩ := ht
    have hso : stableOk time key = kb := by rw [stableOk, ← hk, decide_eq_true ⟨t1, t20⟩, Bool.true_and]
    cases kb
    · obtain rfl : r = false := by rw [hr, stableV, hso]; rfl
      obtain rfl : o = false := by rw [ho, stableB, hso]; rfl
      clear hr ho hk hso h
      go_enter Try.func19, Try.ntmps19
      go_wp2_with fail
      refine (isSwitch_any key _).mono ?_
      rw [← HK.out]
      rintro e w0 ⟨rfl, rfl⟩
      go_wp2
      go_ret2
      exact ⟨rfl, rfl⟩
    · have hk' := of_decide_eq_true (show decide (0 ≤ key ∧ key ≤ 23) = true from hk.symm)
      obtain ⟨k, rfl⟩ := Int.eq_ofNat_of_zero_le hk'.1
      have hk23 : k ≤ 23 := by omega
      have hrN : r = (lsN zs time k zs.length).2.1 := by rw [hr, stableV, hso]; simp
      have hoN : o = (lsN zs time k zs.length).2.2 := by rw [ho, stableB, hso]; simp
      have HR := Lib.hid hrN
      have HO := Lib.hid hoN
      clear hr ho hk hk' hrN hoN hso
      rcases rd_ints h with ⟨rfl, a, cap, rfl⟩ | ⟨b, off, cap, hpos, rfl, hlt, hc⟩
      · obtain rfl : r = false := HR.out
        obtain rfl : o = false := HO.out
        clear h hsh
        go_enter Try.func19, Try.ntmps19
        go_wp2_with fail
        refine (isSwitch_any k _).mono ?_
        rw [← HK.out]
        rintro e w0 ⟨rfl, rfl⟩
        go_wp2
        refine wp_loop_rounds 1 ?_
        rw [rounds_succ]
        go_wp2
        go_ret2
        exact ⟨rfl, rfl⟩
      · have HC := Lib.hid hc
        clear h hsh hc
        go_enter Try.func19, Try.ntmps19
        go_wp2_with fail
        refine (isSwitch_any k _).mono ?_
        rw [← HK.out]
        rintro e w0 ⟨rfl, rfl⟩
        go_wp2
        go_loop [8, 9, 10, 26] (fun x y q i => ∃ (j : Nat), j ≤ zs.length ∧ i = .int .i64 j ∧ q = .int .i64 ((lsN zs time k j).1 : Nat) ∧ x = .bool (lsN zs time k j).2.1 ∧ y = .bool (lsN zs time k j).2.2) (fun _ _ _ i => zs.length - (intOf i).toNat)
        case atStart => exact ⟨0, Nat.zero_le _, rfl, rfl, rfl, rfl⟩
        case round =>
          obtain ⟨j, hj, rfl, rfl, rfl, rfl⟩ := hrel
          have hbd := lsN_bd zs time k j
          by_cases hlt' : j < zs.length
          · have hcell := HC.out j hlt'
            have hnx : lsN zs time k (j + 1) = if time ≤ ((if 0 < j ∧ bz (zs.getD j 0) k = bz (zs.getD (j - 1) 0) k then (lsN zs time k j).1 + 1 else 1 : Nat) : Int) then
                (if 0 < j ∧ bz (zs.getD j 0) k = bz (zs.getD (j - 1) 0) k then (lsN zs time k j).1 + 1 else 1, bz (zs.getD j 0) k == 1, true)
              else (if 0 < j ∧ bz (zs.getD j 0) k = bz (zs.getD (j - 1) 0) k then (lsN zs time k j).1 + 1 else 1, (lsN zs time k j).2.1, (lsN zs time k j).2.2) := by rw [lsN]
            have hcell1 : 0 < j → w.cell? ⟨b, off + (j - 1), none⟩ = some (.int .i64 (zs.getD (j - 1) 0)) := fun h => HC.out (j - 1) (by omega)
            obtain ⟨p, hp⟩ : ∃ p, p = lsN zs time k j := ⟨_, rfl⟩
            rw [← hp] at hbd hnx ⊢
            obtain ⟨n, x, y⟩ := p
            simp only at hbd hnx ⊢
            obtain ⟨z, hz0⟩ : ∃ z, z = zs.getD j 0 := ⟨_, rfl⟩
            obtain ⟨z1, hz1⟩ : ∃ z1, z1 = zs.getD (j - 1) 0 := ⟨_, rfl⟩
            rw [← hz0] at hcell hnx
            rw [← hz1] at hcell1 hnx
            obtain ⟨vb, hvb⟩ : ∃ vb, vb = hz z k := ⟨_, rfl⟩
            rw [show (bz z k == 1) = vb from by rw [hvb, hz]; rfl] at hnx
            have HVB := Lib.hid hvb
            have hx := hz_xor z z1 k (by omega)
            clear hp hz0 hz1 hvb
            by_cases h0 : 0 < j
            · obtain ⟨i, hji⟩ : ∃ i, j = i + 1 := ⟨j - 1, by omega⟩
              have hc1 := hcell1 h0
              rw [show j - 1 = i by omega] at hc1
              have ei : IntKind.i64.wrap ((j : Int) - 1) = (i : Int) := by rw [show (j : Int) - 1 = (i : Int) by omega]; exact IntWalk.i64_in _ ⟨by omega, by omega⟩
              have ei2 : wrap64 ((j : Int) - 1) = (i : Int) := by rw [show (j : Int) - 1 = (i : Int) by omega]; exact IntWalk.wrap64_in _ ⟨by omega, by omega⟩
              have hi0 : (0 : Int) ≤ (i : Int) := by omega
              have hi1 : (i : Int) < (zs.length : Int) := by omega
              have HJ := Lib.hid hji
              clear hcell1 hji
              by_cases hqq : bz z k = bz z1 k
              · rw [if_pos (show 0 < j ∧ bz z k = bz z1 k from ⟨h0, hqq⟩)] at hnx
                rw [decide_eq_true hqq] at hx
                have HX := Lib.hid hx
                clear hx hqq
                by_cases htm : time ≤ ((n + 1 : Nat) : Int)
                · rw [if_pos htm] at hnx
                  have HN := Lib.hid hnx
                  have htm' : time ≤ (n : Int) + 1 := by omega
                  clear hnx htm
                  go_wp2_with fail
                  refine (hasKey_any (bits .xor .i64 z z1) k _ (by omega)).mono ?_
                  rw [HX.out]
                  rintro e w0 ⟨rfl, rfl⟩
                  go_wp2_with fail
                  refine (hasKey_any z k _ (by omega)).mono ?_
                  rw [← HVB.out]
                  rintro e w0 ⟨rfl, rfl⟩
                  go_wp2
                  go_round
                  case rel => exact ⟨j + 1, by omega, by go_num, by rw [HN.out]; go_num, by rw [HN.out], by rw [HN.out]⟩
                  case measure => simp [intOf]; omega
                · rw [if_neg htm] at hnx
                  have HN := Lib.hid hnx
                  have htm' : ¬ time ≤ (n : Int) + 1 := by omega
                  clear hnx htm
                  go_wp2_with fail
                  refine (hasKey_any (bits .xor .i64 z z1) k _ (by omega)).mono ?_
                  rw [HX.out]
                  rintro e w0 ⟨rfl, rfl⟩
                  go_wp2
                  go_round
                  case rel => exact ⟨j + 1, by omega, by go_num, by rw [HN.out]; go_num, by rw [HN.out], by rw [HN.out]⟩
                  case measure => simp [intOf]; omega
              · rw [if_neg (show ¬ (0 < j ∧ bz z k = bz z1 k) from fun h => hqq h.2)] at hnx
                rw [decide_eq_false hqq] at hx
                have HX := Lib.hid hx
                clear hx hqq
                by_cases htm : time ≤ ((1 : Nat) : Int)
                · rw [if_pos htm] at hnx
                  have HN := Lib.hid hnx
                  have htm' : time ≤ 1 := by omega
                  clear hnx htm
                  go_wp2_with fail
                  refine (hasKey_any (bits .xor .i64 z z1) k _ (by omega)).mono ?_
                  rw [HX.out]
                  rintro e w0 ⟨rfl, rfl⟩
                  go_wp2_with fail
                  refine (hasKey_any z k _ (by omega)).mono ?_
                  rw [← HVB.out]
                  rintro e w0 ⟨rfl, rfl⟩
                  go_wp2
                  go_round
                  case rel => exact ⟨j + 1, by omega, by go_num, by rw [HN.out]; go_num, by rw [HN.out], by rw [HN.out]⟩
                  case measure => simp [intOf]; omega
                · rw [if_neg htm] at hnx
                  have HN := Lib.hid hnx
                  have htm' : ¬ time ≤ 1 := by omega
                  clear hnx htm
                  go_wp2_with fail
                  refine (hasKey_any (bits .xor .i64 z z1) k _ (by omega)).mono ?_
                  rw [HX.out]
                  rintro e w0 ⟨rfl, rfl⟩
                  go_wp2
                  go_round
                  case rel => exact ⟨j + 1, by omega, by go_num, by rw [HN.out]; go_num, by rw [HN.out], by rw [HN.out]⟩
                  case measure => simp [intOf]; omega
            · obtain rfl : j = 0 := by omega
              rw [if_neg (show ¬ (0 < 0 ∧ bz z k = bz z1 k) from fun h => absurd h.1 (by omega))] at hnx
              have hcell0 : w.cell? ⟨b, off, none⟩ = some (.int .i64 z) := by rw [Nat.add_zero] at hcell; exact hcell
              obtain rfl : n = 0 := by omega
              clear hcell1 hx hbd
              by_cases htm : time ≤ ((1 : Nat) : Int)
              · rw [if_pos htm] at hnx
                have HN := Lib.hid hnx
                have htm' : time ≤ 1 := by omega
                clear hnx htm
                go_wp2_with fail
                refine (hasKey_any z k _ (by omega)).mono ?_
                rw [← HVB.out]
                rintro e w0 ⟨rfl, rfl⟩
                go_wp2
                go_round
                case rel => exact ⟨0 + 1, by omega, by go_num, by rw [HN.out]; go_num, by rw [HN.out], by rw [HN.out]⟩
                case measure => simp [intOf]; omega
              · rw [if_neg htm] at hnx
                have HN := Lib.hid hnx
                have htm' : ¬ time ≤ 1 := by omega
                clear hnx htm
                go_wp2
                go_round
                case rel => exact ⟨0 + 1, by omega, by go_num, by rw [HN.out]; go_num, by rw [HN.out], by rw [HN.out]⟩
                case measure => simp [intOf]; omega
          · obtain rfl : j = zs.length := by omega
            have HV : Hid (r = (lsN zs time k zs.length).2.1 ∧ o = (lsN zs time k zs.length).2.2) := Lib.hid ⟨HR.out, HO.out⟩
            go_wp2
            go_ret2
            exact ⟨ret_bb HV.out.1.symm HV.out.2.symm, rfl⟩
  · have hso : stableOk time key = false := by rw [stableOk, decide_eq_false ht]; rfl
    obtain rfl : r = false := by rw [hr, stableV, hso]; rfl
    obtain rfl : o = false := by rw [ho, stableB, hso]; rfl
    clear hr ho hk hso h
    by_cases t1 : 1 ≤ time
    · have t20 : 20 < time := by omega
      clear ht
      go_enter Try.func19, Try.ntmps19
      go_wp2
      go_ret2
      exact ⟨rfl, rfl⟩
    · clear ht
      go_enter Try.func19, Try.ntmps19
      go_wp2
      go_ret2
      exact ⟨rfl, rfl⟩

end Go.Proofs.Ytdlcpijiekhafaa
