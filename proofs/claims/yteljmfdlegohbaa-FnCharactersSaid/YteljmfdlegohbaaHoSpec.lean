/- DERIVED. The reference's CharOf, KeyOf, l12Has and NewKeys: each returns what a plain function says. -/
import Derived.Test.YteljmfdlegohbaaHoDef
import Derived.Test.YteljmfdlegohbaaAcs
import Derived.Deep.RegionLaw
import Derived.Deep.DeepCutAuto
import Derived.StillTailTactics
namespace Go.Proofs.Yteljmfdlegohbaa
open Go.RowKit

theorem ch_tab1 : (List.range 26).all (fun k => decide ((strOfNums [64 + ((k + 1 : Nat) : Int)]).data.toList = hoU ((k + 1 : Nat) : Int) 2)) = true := by kernel_rfl
theorem ch_tab2 : (List.range 10).all (fun k => decide (((⟨#[33, 64, 35, 36, 37, 94, 38, 42, 40, 41]⟩ : ByteArray).extract k (k + 1)).data.toList = hoU ((k + 27 : Nat) : Int) 2)) = true := by kernel_rfl
theorem ch_tab3 : (List.range 36).all (fun k => decide ((nmV ((k + 1 : Nat) : Int)).data.toList = hoU ((k + 1 : Nat) : Int) 0)) = true := by kernel_rfl
theorem ba_of {a : ByteArray} {l : List UInt8} (h : a.data.toList = l) : a = ⟨l.toArray⟩ := by
  cases a with | mk d => simp only at h; rw [← h]
theorem ch_let {k : Nat} (h : k < 26) : strOfNums [64 + ((k + 1 : Nat) : Int)] = hoV ((k + 1 : Nat) : Int) 2 :=
  ba_of (of_decide_eq_true (List.all_eq_true.1 ch_tab1 k (List.mem_range.2 h)))
theorem ch_sgn {k : Nat} (h : k < 10) : (⟨#[33, 64, 35, 36, 37, 94, 38, 42, 40, 41]⟩ : ByteArray).extract k (k + 1) = hoV ((k + 27 : Nat) : Int) 2 :=
  ba_of (of_decide_eq_true (List.all_eq_true.1 ch_tab2 k (List.mem_range.2 h)))
theorem ch_nam {k : Nat} (h : k < 36) : nmV ((k + 1 : Nat) : Int) = hoV ((k + 1 : Nat) : Int) 0 :=
  ba_of (of_decide_eq_true (List.all_eq_true.1 ch_tab3 k (List.mem_range.2 h)))
theorem mods_two : (List.range 16).all (fun m => decide (dif m 2 = 0) == (decide (m = 0) || decide (m = 2))) = true := by kernel_rfl
theorem and_two (m : Int) : ∃ s : Bool, decide ((0 : Int) < bits .and .i64 m 2) = s := ⟨_, rfl⟩

set_option maxRecDepth 100000 in
set_option maxHeartbeats 4000000 in
theorem specCharOf_any (c m : Int) (w : World) : Calls Try.prog 61 #[.int .i64 c, .int .i64 m] w fun e w' => e = .returned (.string (hoV c m)) ∧ Below w.heap.size w w' := by
  obtain ⟨T, hT⟩ : ∃ T, T = hoV c m := ⟨_, rfl⟩
  rw [← hT]
  obtain ⟨va, hva⟩ : ∃ v, v = inB c 1 56 := ⟨_, rfl⟩
  obtain ⟨vb, hvb⟩ : ∃ v, v = inB m 0 15 := ⟨_, rfl⟩
  have HA := Lib.hid hva
  have HV := Lib.hid hvb
  have HT := Lib.hid hT
  clear hva hvb hT
  cases va
  · have hn : T = ⟨#[]⟩ := by
      rw [HT.out]
      have := of_decide_eq_false (show decide (1 ≤ c ∧ c ≤ 56) = false from HA.out.symm)
      refine hoV_none ?_
      rcases Int.lt_or_le c 1 with h | h
      · exact hoB_low h
      · exact hoB_far (by omega)
    subst hn
    go_enter Try.func61, Try.ntmps61
    go_wp2_with fail
    refine (inB_any c 1 56 _).mono ?_
    rw [← HA.out]
    rintro e w0 ⟨rfl, rfl⟩
    go_wp2
    go_ret
    exact ⟨rfl, Below.refl _ _⟩
  · cases vb
    · have hn : T = ⟨#[]⟩ := by
        rw [HT.out]
        have := of_decide_eq_false (show decide (0 ≤ m ∧ m ≤ 15) = false from HV.out.symm)
        exact hoV_none (hoB_mod (by omega) (by omega))
      subst hn
      go_enter Try.func61, Try.ntmps61
      go_wp2_with fail
      refine (inB_any c 1 56 _).mono ?_
      rw [← HA.out]
      rintro e w0 ⟨rfl, rfl⟩
      go_wp2_with fail
      refine (inB_any m 0 15 _).mono ?_
      rw [← HV.out]
      rintro e w0 ⟨rfl, rfl⟩
      go_wp2
      go_ret
      exact ⟨rfl, Below.refl _ _⟩
    · have h1 := of_decide_eq_true (show decide (1 ≤ c ∧ c ≤ 56) = true from HA.out.symm)
      have h2 := of_decide_eq_true (show decide (0 ≤ m ∧ m ≤ 15) = true from HV.out.symm)
      obtain ⟨mn, rfl⟩ := Int.eq_ofNat_of_zero_le h2.1
      have hm15 : mn ≤ 15 := by omega
      have htw := List.all_eq_true.1 mods_two mn (List.mem_range.2 (by omega))
      simp only [beq_iff_eq] at htw
      have hdn := dif_nat mn 2 (by omega) (by decide)
      obtain ⟨k, rfl⟩ : ∃ k : Nat, c = (k : Int) + 1 := ⟨(c - 1).toNat, by omega⟩
      have hk : k < 56 := by omega
      by_cases hm0 : mn = 0
      · subst hm0
        have HT2 := Lib.hid (show T = hoV (((k + 1 : Nat)) : Int) 0 from HT.out)
        have ha : bits .and .i64 0 2 = 0 := by rfl
        have hb : bits .andNot .i64 0 2 = 0 := by rfl
        clear htw hdn h1 h2 hm15
        by_cases k36 : k < 36
        · have HK := Lib.hid (HT2.out.trans (ch_nam k36).symm)
          have c36 : ((k : Int) + 1 ≤ 36) := by omega
          by_cases c26 : ((k : Int) + 1 ≤ 26)
          · skip
            go_enter Try.func61, Try.ntmps61
            go_wp2_with fail
            refine (inB_q _ 1 56 true HA.out _).mono ?_
            rintro e w0 ⟨rfl, rfl⟩
            go_wp2_with fail
            refine (inB_q 0 0 15 true (by decide) _).mono ?_
            rintro e w0 ⟨rfl, rfl⟩
            go_wp2_with fail
            refine (specCodeName_any _ _).mono ?_
            rintro e w1 ⟨rfl, hb1⟩
            have HB1 := Lib.hid hb1
            clear hb1
            go_wp2
            go_ret
            exact ⟨ret_tx HK.out.symm, HB1.out⟩
          · skip
            go_enter Try.func61, Try.ntmps61
            go_wp2_with fail
            refine (inB_q _ 1 56 true HA.out _).mono ?_
            rintro e w0 ⟨rfl, rfl⟩
            go_wp2_with fail
            refine (inB_q 0 0 15 true (by decide) _).mono ?_
            rintro e w0 ⟨rfl, rfl⟩
            go_wp2_with fail
            refine (specCodeName_any _ _).mono ?_
            rintro e w1 ⟨rfl, hb1⟩
            have HB1 := Lib.hid hb1
            clear hb1
            go_wp2
            go_ret
            exact ⟨ret_tx HK.out.symm, HB1.out⟩
        by_cases k43 : k < 43
        · rcases (show k = 36 ∨ k = 37 ∨ k = 38 ∨ k = 39 ∨ k = 40 ∨ k = 41 ∨ k = 42 by omega) with rfl | rfl | rfl | rfl | rfl | rfl | rfl
          · obtain rfl : T = ⟨#[10]⟩ := HT.out.trans (by rfl)
            go_enter Try.func61, Try.ntmps61
            go_wp2_with fail
            refine (inB_q _ 1 56 true HA.out _).mono ?_
            rintro e w0 ⟨rfl, rfl⟩
            go_wp2_with fail
            refine (inB_q 0 0 15 true (by decide) _).mono ?_
            rintro e w0 ⟨rfl, rfl⟩
            go_wp2
            go_ret
            exact ⟨rfl, Below.refl _ _⟩
          · obtain rfl : T = ⟨#[]⟩ := HT.out.trans (by rfl)
            go_enter Try.func61, Try.ntmps61
            go_wp2_with fail
            refine (inB_q _ 1 56 true HA.out _).mono ?_
            rintro e w0 ⟨rfl, rfl⟩
            go_wp2_with fail
            refine (inB_q 0 0 15 true (by decide) _).mono ?_
            rintro e w0 ⟨rfl, rfl⟩
            go_wp2
            go_ret
            exact ⟨rfl, Below.refl _ _⟩
          · obtain rfl : T = ⟨#[]⟩ := HT.out.trans (by rfl)
            go_enter Try.func61, Try.ntmps61
            go_wp2_with fail
            refine (inB_q _ 1 56 true HA.out _).mono ?_
            rintro e w0 ⟨rfl, rfl⟩
            go_wp2_with fail
            refine (inB_q 0 0 15 true (by decide) _).mono ?_
            rintro e w0 ⟨rfl, rfl⟩
            go_wp2
            go_ret
            exact ⟨rfl, Below.refl _ _⟩
          · obtain rfl : T = ⟨#[9]⟩ := HT.out.trans (by rfl)
            go_enter Try.func61, Try.ntmps61
            go_wp2_with fail
            refine (inB_q _ 1 56 true HA.out _).mono ?_
            rintro e w0 ⟨rfl, rfl⟩
            go_wp2_with fail
            refine (inB_q 0 0 15 true (by decide) _).mono ?_
            rintro e w0 ⟨rfl, rfl⟩
            go_wp2
            go_ret
            exact ⟨rfl, Below.refl _ _⟩
          · obtain rfl : T = ⟨#[32]⟩ := HT.out.trans (by rfl)
            go_enter Try.func61, Try.ntmps61
            go_wp2_with fail
            refine (inB_q _ 1 56 true HA.out _).mono ?_
            rintro e w0 ⟨rfl, rfl⟩
            go_wp2_with fail
            refine (inB_q 0 0 15 true (by decide) _).mono ?_
            rintro e w0 ⟨rfl, rfl⟩
            go_wp2
            go_ret
            exact ⟨rfl, Below.refl _ _⟩
          · obtain rfl : T = ⟨#[45]⟩ := HT.out.trans (by rfl)
            go_enter Try.func61, Try.ntmps61
            go_wp2_with fail
            refine (inB_q _ 1 56 true HA.out _).mono ?_
            rintro e w0 ⟨rfl, rfl⟩
            go_wp2_with fail
            refine (inB_q 0 0 15 true (by decide) _).mono ?_
            rintro e w0 ⟨rfl, rfl⟩
            go_wp2
            go_ret
            exact ⟨rfl, Below.refl _ _⟩
          · obtain rfl : T = ⟨#[61]⟩ := HT.out.trans (by rfl)
            go_enter Try.func61, Try.ntmps61
            go_wp2_with fail
            refine (inB_q _ 1 56 true HA.out _).mono ?_
            rintro e w0 ⟨rfl, rfl⟩
            go_wp2_with fail
            refine (inB_q 0 0 15 true (by decide) _).mono ?_
            rintro e w0 ⟨rfl, rfl⟩
            go_wp2
            go_ret
            exact ⟨rfl, Below.refl _ _⟩
        · obtain rfl : T = ⟨#[]⟩ := HT.out.trans (hoV_none (hoB_far (by omega)))
          have c26 : ¬ ((k : Int) + 1 ≤ 26) := by omega
          have c36 : ¬ ((k : Int) + 1 ≤ 36) := by omega
          have n37 : (((k : Int) + 1) == 37) = false := by simp; omega
          have n40 : (((k : Int) + 1) == 40) = false := by simp; omega
          have n41 : (((k : Int) + 1) == 41) = false := by simp; omega
          have n42 : (((k : Int) + 1) == 42) = false := by simp; omega
          have n43 : (((k : Int) + 1) == 43) = false := by simp; omega
          go_enter Try.func61, Try.ntmps61
          go_wp2_with fail
          refine (inB_q _ 1 56 true HA.out _).mono ?_
          rintro e w0 ⟨rfl, rfl⟩
          go_wp2_with fail
          refine (inB_q 0 0 15 true (by decide) _).mono ?_
          rintro e w0 ⟨rfl, rfl⟩
          go_wp2
          go_ret
          exact ⟨rfl, Below.refl _ _⟩
      · by_cases hm2 : mn = 2
        · subst hm2
          have HT2 := Lib.hid (show T = hoV (((k + 1 : Nat)) : Int) 2 from HT.out)
          have ha : bits .and .i64 2 2 = 2 := by rfl
          have hb : bits .andNot .i64 2 2 = 0 := by rfl
          clear htw hdn h1 h2 hm15
          by_cases k26 : k < 26
          · have HK := Lib.hid (HT2.out.trans (ch_let k26).symm)
            have c26 : ((k : Int) + 1 ≤ 26) := by omega
            have hwa : wrap64 (64 + ((k : Int) + 1)) = 64 + ((k : Int) + 1) := IntWalk.wrap64_in _ ⟨by omega, by omega⟩
            have hwb : IntKind.u8.wrap (64 + ((k : Int) + 1)) = 64 + ((k : Int) + 1) := by rw [IntKind.wrap_u8]; omega
            have hcv := conv_owned (P := Try.prog) (src := 22) (dst := 9) (w := w.alloc (.cells #[.int .u8 (64 + ((k : Int) + 1))] 5)) (base := w.heap.size) (v := .slice (some ⟨w.heap.size, 0, none⟩) 1 1) (n := 1) (ns := [64 + ((k : Int) + 1)]) Try.underlying22 Try.underlying5 Try.underlying9 (World.ownsRow_lit (size := 1) w #[.int .u8 (64 + ((k : Int) + 1))] 1 (Nat.le_refl _) (by simp [maxLen]) rfl)
            obtain ⟨X, hX⟩ : ∃ X, X = strOfNums [64 + ((k : Int) + 1)] := ⟨_, rfl⟩
            rw [← hX] at hcv
            have HX := Lib.hid hX
            clear hX
            go_enter Try.func61, Try.ntmps61
            go_wp2_with fail
            refine (inB_q _ 1 56 true HA.out _).mono ?_
            rintro e w0 ⟨rfl, rfl⟩
            go_wp2_with fail
            refine (inB_q 2 0 15 true (by decide) _).mono ?_
            rintro e w0 ⟨rfl, rfl⟩
            go_wp2
            go_ret
            exact ⟨ret_tx (HX.out.trans HK.out.symm), (Below.refl _ _).alloc (Nat.le_refl _) _⟩
          by_cases k36 : k < 36
          · obtain ⟨j, rfl⟩ : ∃ j, k = j + 26 := ⟨k - 26, by omega⟩
            have HK := Lib.hid (HT2.out.trans (show hoV ((((j + 26) + 1 : Nat)) : Int) 2 = _ from (ch_sgn (k := j) (by omega)).symm))
            have c26 : ¬ ((((j + 26 : Nat) : Int)) + 1 ≤ 26) := by omega
            have c36 : ((((j + 26 : Nat) : Int)) + 1 ≤ 36) := by omega
            obtain ⟨z, hz⟩ : ∃ z, z = (((j + 26 : Nat) : Int)) + 1 := ⟨_, rfl⟩
            rw [← hz] at c26 c36 HA ⊢
            have hz0 : 27 ≤ z := by omega
            have hz1 : z ≤ 36 := by omega
            have HZ := Lib.hid hz
            clear hz
            go_enter Try.func61, Try.ntmps61
            go_wp2_with fail
            refine (inB_q _ 1 56 true HA.out _).mono ?_
            rintro e w0 ⟨rfl, rfl⟩
            go_wp2_with fail
            refine (inB_q 2 0 15 true (by decide) _).mono ?_
            rintro e w0 ⟨rfl, rfl⟩
            go_wp2
            go_ret
            exact ⟨ret_tx (by rw [HK.out, show (z - 27).toNat = j by have := HZ.out; omega, show (z - 26).toNat = j + 1 by have := HZ.out; omega]), Below.refl _ _⟩
          by_cases k43 : k < 43
          · rcases (show k = 36 ∨ k = 37 ∨ k = 38 ∨ k = 39 ∨ k = 40 ∨ k = 41 ∨ k = 42 by omega) with rfl | rfl | rfl | rfl | rfl | rfl | rfl
            · obtain rfl : T = ⟨#[10]⟩ := HT.out.trans (by rfl)
              go_enter Try.func61, Try.ntmps61
              go_wp2_with fail
              refine (inB_q _ 1 56 true HA.out _).mono ?_
              rintro e w0 ⟨rfl, rfl⟩
              go_wp2_with fail
              refine (inB_q 2 0 15 true (by decide) _).mono ?_
              rintro e w0 ⟨rfl, rfl⟩
              go_wp2
              go_ret
              exact ⟨rfl, Below.refl _ _⟩
            · obtain rfl : T = ⟨#[]⟩ := HT.out.trans (by rfl)
              go_enter Try.func61, Try.ntmps61
              go_wp2_with fail
              refine (inB_q _ 1 56 true HA.out _).mono ?_
              rintro e w0 ⟨rfl, rfl⟩
              go_wp2_with fail
              refine (inB_q 2 0 15 true (by decide) _).mono ?_
              rintro e w0 ⟨rfl, rfl⟩
              go_wp2
              go_ret
              exact ⟨rfl, Below.refl _ _⟩
            · obtain rfl : T = ⟨#[]⟩ := HT.out.trans (by rfl)
              go_enter Try.func61, Try.ntmps61
              go_wp2_with fail
              refine (inB_q _ 1 56 true HA.out _).mono ?_
              rintro e w0 ⟨rfl, rfl⟩
              go_wp2_with fail
              refine (inB_q 2 0 15 true (by decide) _).mono ?_
              rintro e w0 ⟨rfl, rfl⟩
              go_wp2
              go_ret
              exact ⟨rfl, Below.refl _ _⟩
            · obtain rfl : T = ⟨#[9]⟩ := HT.out.trans (by rfl)
              go_enter Try.func61, Try.ntmps61
              go_wp2_with fail
              refine (inB_q _ 1 56 true HA.out _).mono ?_
              rintro e w0 ⟨rfl, rfl⟩
              go_wp2_with fail
              refine (inB_q 2 0 15 true (by decide) _).mono ?_
              rintro e w0 ⟨rfl, rfl⟩
              go_wp2
              go_ret
              exact ⟨rfl, Below.refl _ _⟩
            · obtain rfl : T = ⟨#[32]⟩ := HT.out.trans (by rfl)
              go_enter Try.func61, Try.ntmps61
              go_wp2_with fail
              refine (inB_q _ 1 56 true HA.out _).mono ?_
              rintro e w0 ⟨rfl, rfl⟩
              go_wp2_with fail
              refine (inB_q 2 0 15 true (by decide) _).mono ?_
              rintro e w0 ⟨rfl, rfl⟩
              go_wp2
              go_ret
              exact ⟨rfl, Below.refl _ _⟩
            · obtain rfl : T = ⟨#[95]⟩ := HT.out.trans (by rfl)
              go_enter Try.func61, Try.ntmps61
              go_wp2_with fail
              refine (inB_q _ 1 56 true HA.out _).mono ?_
              rintro e w0 ⟨rfl, rfl⟩
              go_wp2_with fail
              refine (inB_q 2 0 15 true (by decide) _).mono ?_
              rintro e w0 ⟨rfl, rfl⟩
              go_wp2
              go_ret
              exact ⟨rfl, Below.refl _ _⟩
            · obtain rfl : T = ⟨#[43]⟩ := HT.out.trans (by rfl)
              go_enter Try.func61, Try.ntmps61
              go_wp2_with fail
              refine (inB_q _ 1 56 true HA.out _).mono ?_
              rintro e w0 ⟨rfl, rfl⟩
              go_wp2_with fail
              refine (inB_q 2 0 15 true (by decide) _).mono ?_
              rintro e w0 ⟨rfl, rfl⟩
              go_wp2
              go_ret
              exact ⟨rfl, Below.refl _ _⟩
          · obtain rfl : T = ⟨#[]⟩ := HT.out.trans (hoV_none (hoB_far (by omega)))
            have c26 : ¬ ((k : Int) + 1 ≤ 26) := by omega
            have c36 : ¬ ((k : Int) + 1 ≤ 36) := by omega
            have n37 : (((k : Int) + 1) == 37) = false := by simp; omega
            have n40 : (((k : Int) + 1) == 40) = false := by simp; omega
            have n41 : (((k : Int) + 1) == 41) = false := by simp; omega
            have n42 : (((k : Int) + 1) == 42) = false := by simp; omega
            have n43 : (((k : Int) + 1) == 43) = false := by simp; omega
            go_enter Try.func61, Try.ntmps61
            go_wp2_with fail
            refine (inB_q _ 1 56 true HA.out _).mono ?_
            rintro e w0 ⟨rfl, rfl⟩
            go_wp2_with fail
            refine (inB_q 2 0 15 true (by decide) _).mono ?_
            rintro e w0 ⟨rfl, rfl⟩
            go_wp2
            go_ret
            exact ⟨rfl, Below.refl _ _⟩
        · obtain rfl : T = ⟨#[]⟩ := HT.out.trans (hoV_none (hoB_mod (by omega) (by omega)))
          have hne : ¬ dif mn 2 = 0 := by
            intro h0
            rw [decide_eq_true h0, decide_eq_false hm0, decide_eq_false hm2] at htw
            cases htw
          have hdn2 : bits .andNot .i64 (mn : Int) 2 = ((dif mn 2 : Nat) : Int) := hdn
          obtain ⟨y, hy⟩ : ∃ y, y = ((dif mn 2 : Nat) : Int) := ⟨_, rfl⟩
          rw [← hy] at hdn2
          have hy0 : (y == 0) = false := by rw [hy]; simp; omega
          have hy1 : (y != 0) = true := by rw [hy]; simp; omega
          clear htw hdn hne hy
          go_enter Try.func61, Try.ntmps61
          go_wp2_with fail
          refine (inB_q _ 1 56 true HA.out _).mono ?_
          rintro e w0 ⟨rfl, rfl⟩
          go_wp2_with fail
          refine (inB_q (mn : Int) 0 15 true HV.out _).mono ?_
          rintro e w0 ⟨rfl, rfl⟩
          go_wp2
          go_ret
          exact ⟨rfl, Below.refl _ _⟩


end Go.Proofs.Yteljmfdlegohbaa
