/- DERIVED. The program's CountChanges, IsSpaced and LastStable, and the list of changes that they lean on: each, called with a slice that reads as known numbers, returns what a plain function says. -/
import Derived.Test.YtkhakelhfnoeoaaDebImpl
namespace Go.Proofs.Ytkhakelhfnoeoaa
open Go.RowKit

set_option maxHeartbeats 1000000 in
theorem changesOf_any (v : Value) (zs : List Int) (key : Int) (w : World) (hl : zs.length ≤ 1048576) (h : Rd w v (zs.map (.int .i64))) :
    Calls Try.prog 42 #[v, .int .i64 key] w fun e w' => ∃ u, e = .returned u ∧ w'.ownsRow w.heap.size 3 1 u (chV zs key).length ((chV zs key).map (.int .i64)) ∧ Below w.heap.size w w' := by
  obtain ⟨i0, hi, hy0, hy1, hy2⟩ := info_parts info_int
  obtain ⟨kb, hk⟩ : ∃ kb, kb = keyB key := ⟨_, rfl⟩
  cases kb
  · have hv : chV zs key = [] := by rw [chV, ← hk]; rfl
    rw [hv]
    have HK := Lib.hid hk
    clear hk hv h
    go_enter Try.func42, Try.ntmps42
    go_wp2_with fail
    refine (isSwitch_any key _).mono ?_
    rw [← HK.out]
    rintro e w0 ⟨rfl, rfl⟩
    go_wp2
    go_ret
    exact ⟨_, rfl, World.ownsRow_nil _ _ _ _, Below.refl _ _⟩
  · have hk' := of_decide_eq_true (show decide (0 ≤ key ∧ key ≤ 23) = true from hk.symm)
    obtain ⟨k, rfl⟩ := Int.eq_ofNat_of_zero_le hk'.1
    have hk23 : k ≤ 23 := by omega
    have hv : chV zs k = chN zs k zs.length := by rw [chV, ← hk]; rfl
    rw [hv]
    have HK := Lib.hid hk
    clear hk hv hk'
    rcases rd_ints h with ⟨rfl, a, cap, rfl⟩ | ⟨b, off, cap, hpos, rfl, hlt, hc⟩
    · clear h
      go_enter Try.func42, Try.ntmps42
      go_wp2_with fail
      refine (isSwitch_any k _).mono ?_
      rw [← HK.out]
      rintro e w0 ⟨rfl, rfl⟩
      go_wp2
      refine wp_loop_rounds 1 ?_
      rw [rounds_succ]
      go_wp2
      go_ret
      exact ⟨_, rfl, World.ownsRow_nil _ _ _ _, Below.refl _ _⟩
    · have HC := Lib.hid hc
      clear h hc
      go_enter Try.func42, Try.ntmps42
      go_wp2_with fail
      refine (isSwitch_any k _).mono ?_
      rw [← HK.out]
      rintro e w0 ⟨rfl, rfl⟩
      go_wp2
      go_loopw [5, 6, 14] (fun o p i wr => ∃ (j : Nat) (a : Option Addr) (c : Nat), j ≤ zs.length ∧ i = .int .i64 j ∧ p = .int .i64 (prevZ zs j) ∧ o = .slice a (chN zs k j).length c ∧ wr.ownsRow w.heap.size 3 1 (.slice a (chN zs k j).length c) (chN zs k j).length ((chN zs k j).map (.int .i64)) ∧ Below w.heap.size w wr) (fun _ _ i _ => zs.length - (intOf i).toNat)
      case atStart => exact ⟨0, none, 0, Nat.zero_le _, rfl, rfl, rfl, World.ownsRow_nil _ _ _ _, Below.refl _ _⟩
      case round =>
        obtain ⟨j, a, c, hj, rfl, rfl, rfl, hown, hb⟩ := hrel
        have HO := Lib.hid hown
        have HB := Lib.hid hb
        by_cases hlt' : j < zs.length
        · have hcell : wr.cell? ⟨b, off + j, none⟩ = some (.int .i64 (zs.getD j 0)) := (hb.cell (p := ⟨b, off + j, none⟩) hlt).trans (HC.out j hlt')
          have hnx : chN zs k (j + 1) = if bz (zs.getD j 0) k = bz (prevZ zs j) k then chN zs k j else chN zs k j ++ [(j : Int)] := by rw [chN]
          have hpn : prevZ zs (j + 1) = zs.getD j 0 := rfl
          have hcnt : (chN zs k j).length ≤ j := by rw [chN_len]; exact (ccN_bd zs k j).2
          obtain ⟨z, hz0⟩ : ∃ z, z = zs.getD j 0 := ⟨_, rfl⟩
          obtain ⟨p, hp0⟩ : ∃ p, p = prevZ zs j := ⟨_, rfl⟩
          obtain ⟨L, hL0⟩ : ∃ L, L = chN zs k j := ⟨_, rfl⟩
          rw [← hz0] at hcell hnx hpn
          rw [← hp0] at hnx ⊢
          rw [← hL0] at hnx hcnt ⊢
          have HOL : Hid (wr.ownsRow w.heap.size 3 1 (.slice a L.length c) L.length (L.map (.int .i64))) := Lib.hid (by rw [hL0]; exact HO.out)
          have hx := hz_xor z p k (by omega)
          have HPN := Lib.hid hpn
          clear hown hb hz0 hp0 hL0 hpn
          by_cases hzp : bz z k = bz p k
          · rw [if_pos hzp] at hnx
            rw [decide_eq_true hzp] at hx
            have HN := Lib.hid hnx
            have HX := Lib.hid hx
            clear hnx hx hzp
            go_wp2_with fail
            refine (hasKey_any (bits .xor .i64 z p) k _ (by omega)).mono ?_
            rw [HX.out]
            rintro e w0 ⟨rfl, rfl⟩
            go_wp2
            go_roundw
            case rel => exact ⟨j + 1, a, c, by omega, by go_num, by rw [HPN.out], by rw [HN.out], by rw [HN.out]; exact HOL.out, HB.out⟩
            case measure => simp [intOf]; omega
          · rw [if_neg hzp] at hnx
            rw [decide_eq_false hzp] at hx
            have HN := Lib.hid hnx
            have HX := Lib.hid hx
            have hszc : w.heap.size ≤ wr.heap.size := HB.out.size
            have b63 : L.length + 1 ≤ maxLen := by unfold maxLen; omega
            have b47 : (L.length + 1) * 8 ≤ 140737488355328 := by omega
            clear hnx hx hzp
            go_wp2_with fail
            refine (hasKey_any (bits .xor .i64 z p) k _ (by omega)).mono ?_
            rw [HX.out]
            rintro e w0 ⟨rfl, rfl⟩
            go_wp2_with (at_builtin; refine wpList_append_own _ rfl _ _ 24 rfl w.heap.size 3 i0 (.int .i64 0) 1 8 Try.underlying24 hi hy0 hy1 hy2 rfl (by decide) _ _ _ rfl (HOL.out.alloc _) ⟨wr.heap.size, 0, none⟩ 1 1 [.int .i64 j] rfl rfl ?c1 ?c2 b63 b47 ?c5 ?_)
            case c1 => exact cell_one_new _ _ _
            case c2 => intro u hu; simp at hu; subst hu; rfl
            case c5 => simp; omega
            · intro v' w6 hown1 hgrow _
              obtain ⟨a', c', rfl⟩ := owns_shape hown1
              have HB6 := Lib.hid ((HB.out.alloc (by omega) (.cells #[.int .i64 (j : Int)] 3)).grown hgrow (by simp; omega) (fun q hq => by have := (HOL.out.lt q hq).1; omega))
              have HO6 := Lib.hid hown1
              clear hown1 hgrow
              go_wp2
              go_roundw
              case rel =>
                refine ⟨j + 1, a', c', by omega, by go_num, by rw [HPN.out], by rw [HN.out]; simp, ?_, HB6.out⟩
                rw [HN.out]
                simpa using HO6.out
              case measure => simp [intOf]; omega
        · obtain rfl : j = zs.length := by omega
          clear hown hb
          go_wp2
          go_ret
          exact ⟨_, rfl, HO.out, HB.out⟩

theorem implCountChanges_any (v : Value) (zs : List Int) (key : Int) (w : World) (hl : zs.length ≤ 1048576) (h : Rd w v (zs.map (.int .i64))) :
    Calls Try.prog 13 #[v, .int .i64 key] w fun e w' => e = .returned (.int .i64 (countV zs key)) ∧ Below w.heap.size w w' := by
  have HR := Lib.hid h
  clear h
  go_enter Try.func13, Try.ntmps13
  go_wp2_with fail
  refine (changesOf_any v zs key w hl HR.out).mono ?_
  rintro e w1 ⟨u, rfl, hown, hb⟩
  obtain ⟨a, c, rfl⟩ := owns_shape hown
  have HB := Lib.hid hb
  have HC := Lib.hid (chV_len zs key)
  clear hown hb
  go_wp2
  go_ret
  exact ⟨ret_int HC.out, HB.out⟩

end Go.Proofs.Ytkhakelhfnoeoaa
