/- DERIVED. The program's EventsOf: it returns what a plain function says. -/
import Derived.Test.YtkhakelhfnoeoaaEvImpl2
import Derived.Test.YtkhakelhfnoeoaaCore
namespace Go.Proofs.Ytkhakelhfnoeoaa
open Go.RowKit

theorem isMask32_any (x : Int) (v : Bool) (hv : v = inB x 0 4294967295) (w : World) : Calls Try.prog 40 #[.int .i64 32, .int .i64 x] w fun e w' => e = .returned (.bool v) ∧ w = w' := by
  rw [hv]
  have := isMaskOf_any 32 x w (by omega)
  rw [show ((2 : Int) ^ 32 - 1) = 4294967295 from by decide] at this
  exact this

set_option maxHeartbeats 4000000 in
set_option maxRecDepth 100000 in
theorem implEventsOf_any (v : Value) (zs : List Int) (w : World) (hl : zs.length ≤ 1048576) (h : Rd w v (zs.map (.int .i64))) :
    Calls Try.prog 12 #[v] w (EvOut (evsR zs).1 (evsR zs).2 w) := by
  obtain ⟨i0, hi, hy0, hy1, hy2⟩ := info_parts info_ev
  have hsh : ∃ a cap, v = .slice a zs.length cap := by obtain ⟨a, cap, hu, _⟩ := h; exact ⟨a, cap, by simpa using hu⟩
  by_cases h200 : zs.length ≤ 200
  · have h200' : ¬ (200 : Int) < (zs.length : Int) := by omega
    rcases rd_ints h with ⟨rfl, a, cap, rfl⟩ | ⟨b, off, cap, hpos, rfl, hlt, hc⟩
    · clear h hsh
      go_enter Try.func12, Try.ntmps12
      go_wp2
      refine wp_loop_rounds 1 ?_
      rw [rounds_succ]
      go_wp2
      go_ret2
      exact ⟨_, rfl, World.ownsRow_nil _ _ _ _, Below.refl _ _⟩
    · have HC := Lib.hid hc
      clear h hsh hc
      go_enter Try.func12, Try.ntmps12
      go_wp2
      go_loopw [4, 5, 13] (fun o p i wr => ∃ (j : Nat) (a : Option Addr) (c : Nat), j ≤ zs.length ∧ i = .int .i64 j ∧ p = .int .i64 (prevZ zs j) ∧ o = .slice a (evN zs j).length c ∧ wr.ownsRow w.heap.size 41 3 (.slice a (evN zs j).length c) (evN zs j).length (flatEv (evN zs j)) ∧ (∀ i, i < j → inB (zs.getD i 0) 0 4294967295 = true) ∧ Below w.heap.size w wr) (fun _ _ i _ => zs.length - (intOf i).toNat)
      case atStart => exact ⟨0, _, _, Nat.zero_le _, rfl, rfl, rfl, World.ownsRow_nil _ _ _ _, fun i hi => by omega, Below.refl _ _⟩
      case round =>
        obtain ⟨j, a, c, hj, rfl, rfl, rfl, hown, hin, hb⟩ := hrel
        by_cases hlt' : j < zs.length
        · have hcell := (hb.cell (p := ⟨b, off + j, none⟩) hlt).trans (HC.out j hlt')
          have hnx : evN zs (j + 1) = evN zs j ++ evAt (prevZ zs j) (zs.getD j 0) j 32 := by rw [evN]
          have hpn : prevZ zs (j + 1) = zs.getD j 0 := rfl
          have hln := evN_len zs j
          obtain ⟨z, hz0⟩ : ∃ z, z = zs.getD j 0 := ⟨_, rfl⟩
          obtain ⟨p, hp0⟩ : ∃ p, p = prevZ zs j := ⟨_, rfl⟩
          obtain ⟨L, hL⟩ : ∃ L, L = evN zs j := ⟨_, rfl⟩
          obtain ⟨ib, hib⟩ : ∃ ib, ib = inB z 0 4294967295 := ⟨_, rfl⟩
          have hin2 : ib = true → ∀ i, i < j + 1 → inB (zs.getD i 0) 0 4294967295 = true := fun h1 i hi => by
            by_cases hij : i = j
            · subst hij; rw [← hz0, ← hib, h1]
            · exact hin i (by omega)
          have hbad : ib = false → evsOk zs = false := fun h1 => by
            unfold evsOk
            rw [allIn_false hlt' (by rw [← hz0, ← hib, h1]), Bool.and_false, Bool.false_and]
          rw [← hz0] at hcell hnx hpn
          rw [← hp0] at hnx ⊢
          rw [← hL] at hnx hln hown ⊢
          have HO := Lib.hid hown
          have HB := Lib.hid hb
          have HNX := Lib.hid hnx
          have HPN := Lib.hid hpn
          have HIB := Lib.hid hib
          have HIN := Lib.hid hin2
          have HBAD := Lib.hid hbad
          clear hown hb hnx hpn hib hin hin2 hbad hz0 hp0 hL
          cases ib
          · go_wp2_with fail
            refine (isMask32_any z _ HIB.out _).mono ?_
            rintro e w0 ⟨rfl, rfl⟩
            go_wp2
            go_ret2
            refine ⟨.slice none 0 0, ?_, ?_, HB.out⟩
            · unfold evsR; rw [HBAD.out (by trivial)]; rfl
            · unfold evsR; rw [HBAD.out (by trivial)]; exact World.ownsRow_nil _ _ _ _
          · go_wp2_with fail
            refine (isMask32_any z _ HIB.out _).mono ?_
            rintro e w0 ⟨rfl, rfl⟩
            go_wp2_with fail
            refine (changesBetween_any p z j _).mono ?_
            rintro e w1 ⟨u, rfl, hou, hb1⟩
            have hal := evAt_len p z j 32
            obtain ⟨E, hE⟩ : ∃ E, E = evAt p z j 32 := ⟨_, rfl⟩
            rw [← hE] at hou hal
            have HNX2 : Hid (evN zs (j + 1) = L ++ E) := Lib.hid (by rw [HNX.out, hE])
            have HB1 := Lib.hid (HB.out.trans (hb1.mono HB.out.size))
            have HO1 := Lib.hid (owns_below HO.out hb1)
            have HOU := Lib.hid hou
            have hsz1 : w.heap.size ≤ w1.heap.size := HB1.out.size
            have b63 : L.length + E.length ≤ maxLen := by unfold maxLen; omega
            have b47 : (L.length + E.length) * 24 ≤ 140737488355328 := by omega
            clear hou hb1 hE HNX
            go_wp2_with (at_builtin; refine wpList_append_owns rfl _ _ 29 rfl w.heap.size 41 i0 (.agg #[.int .i64 0, .int .i64 0, .bool false]) 3 24 Try.underlying29 hi hy0 hy1 hy2 rfl (by decide) _ _ _ rfl HO1.out _ _ _ _ rfl HOU.out (flatEv_one E) b63 b47 hsz1 ?_)
            intro v' w6 hown1 hgrow
            rw [← List.length_append] at hown1
            obtain ⟨a', c', rfl⟩ := owns_shape hown1
            have HB6 := Lib.hid (HB1.out.grown hgrow hsz1 (fun q hq => by have := (HO1.out.lt q hq).1; omega))
            have HO6 : Hid (w6.ownsRow w.heap.size 41 3 (.slice a' (L ++ E).length c') (L ++ E).length (flatEv (L ++ E))) := Lib.hid (by unfold flatEv at hown1 ⊢; rw [List.flatMap_append]; exact hown1)
            clear hown1 hgrow
            go_wp2
            go_roundw
            case rel => exact ⟨j + 1, a', c', by omega, by go_num, by rw [HPN.out], by rw [HNX2.out], by rw [HNX2.out]; exact HO6.out, HIN.out (by trivial), HB6.out⟩
            case measure => simp [intOf]; omega
        · obtain rfl : j = zs.length := by omega
          have hall : allIn 0 4294967295 zs = true := allIn_of' hin
          have HO := Lib.hid hown
          have HB := Lib.hid hb
          obtain ⟨L, hL⟩ : ∃ L, L = evN zs zs.length := ⟨_, rfl⟩
          rw [← hL]
          have hR : evsR zs = if L.length ≤ 64 then (L, true) else ([], false) := by
            unfold evsR evsOk
            rw [hall, decide_eq_true h200, ← hL]
            by_cases h : L.length ≤ 64 <;> simp [h]
          have HRR := Lib.hid hR
          have HL := Lib.hid hL
          clear hown hb hall hin hR hL
          by_cases h64 : L.length ≤ 64
          · have h64' : ¬ (64 : Int) < (L.length : Int) := by omega
            go_wp2
            go_ret2
            refine ⟨.slice a L.length c, ?_, ?_, HB.out⟩
            · rw [HRR.out, if_pos h64]; try rfl
            · rw [HRR.out, if_pos h64, HL.out]; exact HO.out
          · have h64' : (64 : Int) < (L.length : Int) := by omega
            go_wp2
            go_ret2
            refine ⟨.slice none 0 0, ?_, ?_, HB.out⟩
            · rw [HRR.out, if_neg h64]; try rfl
            · rw [HRR.out, if_neg h64]; exact World.ownsRow_nil _ _ _ _
  · have h200' : (200 : Int) < (zs.length : Int) := by omega
    obtain ⟨a, cap, rfl⟩ := hsh
    have hR : evsR zs = ([], false) := by unfold evsR evsOk; rw [decide_eq_false h200]; rfl
    have HRR := Lib.hid hR
    clear h hR h200
    go_enter Try.func12, Try.ntmps12
    go_wp2
    go_ret2
    refine ⟨.slice none 0 0, ?_, ?_, Below.refl _ _⟩
    · rw [HRR.out]; try rfl
    · rw [HRR.out]; exact World.ownsRow_nil _ _ _ _

end Go.Proofs.Ytkhakelhfnoeoaa
