/- DERIVED. The reference's CodeName, CodeOf, FormatMods, ParseMods: each returns what a plain function says. -/
import Derived.Test.YticpfciebpdkdaaDoorAcDef
import Derived.Deep.AppendLies
import Derived.Deep.RegionHeld3
import Derived.Deep.DeepCutAuto
namespace Go.Proofs.YticpfciebpdkdaaDoor
open Go.RowKit

set_option maxRecDepth 100000 in
theorem specNames_any (w : World) : Calls Tryd.prog 18 #[] w fun e w' => ∃ b cap, e = .returned (.slice (some ⟨b, 0, none⟩) 56 cap) ∧ b < w'.heap.size ∧ (∀ j, j < 56 → w'.cell? ⟨b, j, none⟩ = some (.string (nms.getD j ⟨#[]⟩))) ∧ Below w.heap.size w w' := by
  go_enter Tryd.func18, Tryd.ntmps18
  go_wp2_with fail
  refine (specSplit_any nameStr 32 w (by decide)).mono ?_
  rintro e w1 ⟨v, rfl, hown, hb⟩
  rw [parts_names, nms_len] at hown
  obtain ⟨b, cap, rfl, hbW, hlt⟩ := hown.form (by decide)
  have hc : ∀ j, j < 56 → w1.cell? ⟨b, j, none⟩ = some (.string (nms.getD j ⟨#[]⟩)) := fun j hj => by
    rw [hown.cellAt j (by omega), List.getElem?_eq_getElem (by rw [List.length_map, nms_len]; exact hj), List.getElem_map, List.getD_eq_getElem?_getD, List.getElem?_eq_getElem (by rw [nms_len]; exact hj)]
    rfl
  have HC := Lib.hid hc
  have HB := Lib.hid hb
  clear hown hc hb
  go_wp2
  go_ret
  exact ⟨b, cap, rfl, hlt, HC.out, HB.out⟩

set_option maxRecDepth 100000 in
theorem specCodeName_any (c : Int) (w : World) : Calls Tryd.prog 7 #[.int .i64 c] w fun e w' => e = .returned (.string (nmV c)) ∧ Below w.heap.size w w' := by
  obtain ⟨v, hv⟩ : ∃ v, v = inB c 1 56 := ⟨_, rfl⟩
  cases v
  · have hn : nmV c = ⟨#[]⟩ := by rw [nmV, ← hv]; rfl
    rw [hn]
    have HV := Lib.hid hv
    clear hn hv
    go_enter Tryd.func7, Tryd.ntmps7
    go_wp2_with fail
    refine (inB_any c 1 56 _).mono ?_
    rw [← HV.out]
    rintro e w0 ⟨rfl, rfl⟩
    go_wp2
    go_ret
    exact ⟨rfl, Below.refl _ _⟩
  · have h1 := of_decide_eq_true (show decide (1 ≤ c ∧ c ≤ 56) = true from hv.symm)
    obtain ⟨k, hk⟩ : ∃ k : Nat, c = (k : Int) + 1 := ⟨(c - 1).toNat, by omega⟩
    have hk56 : k < 56 := by omega
    have hn : nmV c = nms.getD k ⟨#[]⟩ := by rw [nmV, ← hv, if_pos rfl, show c.toNat - 1 = k by omega]
    rw [hn]
    have HV := Lib.hid hv
    have hsub : c - 1 = (k : Int) := by omega
    obtain ⟨T, hT⟩ : ∃ T, T = nms.getD k ⟨#[]⟩ := ⟨_, rfl⟩
    rw [← hT]
    have HT := Lib.hid hT
    have HK := Lib.hid hk
    clear hn hv h1 hT hk
    go_enter Tryd.func7, Tryd.ntmps7
    go_wp2_with fail
    refine (inB_any c 1 56 _).mono ?_
    rw [← HV.out]
    rintro e w0 ⟨rfl, rfl⟩
    go_wp2_with fail
    refine (specNames_any _).mono ?_
    rintro e w1 ⟨b, cap, rfl, hlt, hc, hb⟩
    have hcell := hc k hk56
    rw [← HT.out] at hcell
    have HB := Lib.hid hb
    have hi0 : (0 : Int) ≤ (k : Int) := by omega
    have hi1 : (k : Int) < ((56 : Nat) : Int) := by omega
    clear hc hb
    go_wp2
    go_ret
    exact ⟨rfl, HB.out⟩

theorem specCodeOf_any (s : ByteArray) (w : World) : Calls Tryd.prog 9 #[.string s] w fun e w' => e = .returned (.int .i64 (codeV s : Nat)) ∧ Below w.heap.size w w' := by
  obtain ⟨r, hr⟩ : ∃ r, r = codeV s := ⟨_, rfl⟩
  rw [← hr]
  have HR := Lib.hid hr
  clear hr
  go_enter Tryd.func9, Tryd.ntmps9
  go_wp2
  go_loopw [3] (fun i wr => ∃ k : Nat, k ≤ 56 ∧ i = .int .i64 ((k : Int) + 1) ∧ codeN s k = 0 ∧ Below w.heap.size w wr) (fun i _ => 57 - (intOf i).toNat)
  case atStart => exact ⟨0, Nat.zero_le _, rfl, rfl, Below.refl _ _⟩
  case round =>
    obtain ⟨k, hk, rfl, hc, hb⟩ := hrel
    have HB := Lib.hid hb
    clear hb
    by_cases hlt : k < 56
    · have hle : ((k : Int) + 1) ≤ 56 := by omega
      obtain ⟨T, hT⟩ : ∃ T, T = nmV ((k : Int) + 1) := ⟨_, rfl⟩
      have HT := Lib.hid hT
      have HC := Lib.hid hc
      clear hc hT
      by_cases hts : T = s
      · have hrk : r = k + 1 := by rw [HR.out, codeV]; exact codeN_hit HC.out (by rw [← hts, HT.out]; rfl) 56 hlt
        subst hts
        have HRK := Lib.hid hrk
        clear hrk
        go_wp2_with fail
        refine (specCodeName_any _ _).mono ?_
        rw [← HT.out]
        rintro e w1 ⟨rfl, hb1⟩
        have HB1 := Lib.hid (HB.out.trans (hb1.mono HB.out.size))
        clear hb1
        go_wp2
        go_ret
        exact ⟨ret_int (by rw [HRK.out]; rfl), HB1.out⟩
      · have hne := toList_ne hts
        have hmiss := codeN_miss HC.out (fun h => hts (by rw [HT.out]; exact h))
        have HM := Lib.hid hmiss
        clear hmiss
        go_wp2_with fail
        refine (specCodeName_any _ _).mono ?_
        rw [← HT.out]
        rintro e w1 ⟨rfl, hb1⟩
        have HB1 := Lib.hid (HB.out.trans (hb1.mono HB.out.size))
        clear hb1
        go_wp2
        go_roundw
        case rel => exact ⟨k + 1, by omega, by go_num, HM.out, HB1.out⟩
        case measure => simp [intOf]; omega
    · obtain rfl : k = 56 := by omega
      have HRK := Lib.hid (show r = 0 by rw [HR.out, codeV]; exact hc)
      clear hc
      go_wp2
      go_ret
      exact ⟨ret_int (by rw [HRK.out]; rfl), HB.out⟩

set_option maxRecDepth 100000 in
theorem specFormatMods_any (m : Int) (w : World) : Calls Tryd.prog 22 #[.int .i64 m] w fun e w' => e = .returned (.string (mdV m)) ∧ Below w.heap.size w w' := by
  obtain ⟨v, hv⟩ : ∃ v, v = inB m 1 15 := ⟨_, rfl⟩
  cases v
  · have hn : mdV m = ⟨#[]⟩ := by rw [mdV, ← hv]; rfl
    rw [hn]
    have HV := Lib.hid hv
    clear hn hv
    go_enter Tryd.func22, Tryd.ntmps22
    go_wp2
    refine wp_loop_rounds 1 ?_
    rw [rounds_succ]
    go_wp2_with fail
    refine (inB_any m 1 15 _).mono ?_
    rw [← HV.out]
    rintro e w0 ⟨rfl, rfl⟩
    go_wp2
    go_ret
    exact ⟨rfl, Below.refl _ _⟩
  · have h1 := of_decide_eq_true (show decide (1 ≤ m ∧ m ≤ 15) = true from hv.symm)
    obtain ⟨q, rfl⟩ := Int.eq_ofNat_of_zero_le (show 0 ≤ m by omega)
    have hq : q < 2 ^ 62 := by omega
    have hn : mdV q = mdN q 4 := by rw [mdV, ← hv, if_pos rfl, Int.toNat_natCast]
    obtain ⟨r, hr⟩ : ∃ r, r = mdN q 4 := ⟨_, rfl⟩
    rw [hn, ← hr]
    have HR := Lib.hid hr
    have HV := Lib.hid hv
    clear hn hv h1 hr
    go_enter Tryd.func22, Tryd.ntmps22
    go_wp2
    go_loopw [3, 4] (fun t i wr => ∃ k : Nat, k ≤ 4 ∧ i = .int .i64 k ∧ t = .string (mdN q k) ∧ wr = w) (fun _ i _ => 4 - (intOf i).toNat)
    case atStart => exact ⟨0, Nat.zero_le _, rfl, rfl, rfl⟩
    case round =>
      obtain ⟨k, hk, rfl, rfl, rfl⟩ := hrel
      by_cases hlt : k < 4
      · have hsz := mdN_size q k
        have hb := bit_nat q k hq
        have hnx : mdN q (k + 1) = if q.testBit k = true then mdN q k ++ csag.extract k (k + 1) else mdN q k := by rw [mdN]
        obtain ⟨tb, htb⟩ : ∃ tb, tb = q.testBit k := ⟨_, rfl⟩
        obtain ⟨A, hA⟩ : ∃ A, A = mdN q k := ⟨_, rfl⟩
        rw [← htb] at hb hnx
        rw [← hA] at hnx hsz ⊢
        clear htb hA
        cases tb
        · have hb0 : bits .and .i64 ((q : Int) / 2 ^ k) 1 = 0 := by rw [hb]; rfl
          have HN := Lib.hid (show mdN q (k + 1) = A by rw [hnx]; rfl)
          clear hb hnx
          go_wp2_with fail
          refine (inB_any q 1 15 _).mono ?_
          rw [← HV.out]
          rintro e w0 ⟨rfl, rfl⟩
          go_wp2
          go_roundw
          case rel => exact ⟨k + 1, by omega, by go_num, by rw [HN.out], trivial⟩
          case measure => simp [intOf]; omega
        · have hb0 : bits .and .i64 ((q : Int) / 2 ^ k) 1 = 1 := by rw [hb]; rfl
          have HN := Lib.hid (show mdN q (k + 1) = A ++ csag.extract k (k + 1) by rw [hnx]; rfl)
          have hadd := fun (w : World) => run_string_add_sum (P := Tryd.prog) w A (csag.extract k (k + 1)) (by rw [ByteArray.size_extract]; have h1 : csag.size = 4 := rfl; omega)
          have hs0 : (0 : Int) ≤ (k : Int) := by omega
          have hs1 : (k : Int) ≤ ((k : Int) + 1) := by omega
          have hs2 : ((k : Int) + 1) ≤ 4 := by omega
          clear hb hnx
          go_wp2_with fail
          refine (inB_any q 1 15 _).mono ?_
          rw [← HV.out]
          rintro e w0 ⟨rfl, rfl⟩
          go_wp2
          go_roundw
          case rel => exact ⟨k + 1, by omega, by go_num, by rw [HN.out], trivial⟩
          case measure => simp [intOf]; omega
      · obtain rfl : k = 4 := by omega
        rw [← HR.out]
        go_wp2
        go_ret
        exact ⟨rfl, Below.refl _ _⟩

theorem specParseMods_any (s : ByteArray) (w : World) : Calls Tryd.prog 30 #[.string s] w fun e w' => e = .returned (.int .i64 (pmV s : Nat)) ∧ Below w.heap.size w w' := by
  obtain ⟨r, hr⟩ : ∃ r, r = pmV s := ⟨_, rfl⟩
  rw [← hr]
  have HR := Lib.hid hr
  clear hr
  go_enter Tryd.func30, Tryd.ntmps30
  go_wp2
  go_loopw [3] (fun i wr => ∃ k : Nat, k ≤ 15 ∧ i = .int .i64 ((k : Int) + 1) ∧ pmN s k = 0 ∧ Below w.heap.size w wr) (fun i _ => 16 - (intOf i).toNat)
  case atStart => exact ⟨0, Nat.zero_le _, rfl, rfl, Below.refl _ _⟩
  case round =>
    obtain ⟨k, hk, rfl, hc, hb⟩ := hrel
    have HB := Lib.hid hb
    clear hb
    by_cases hlt : k < 15
    · have hle : ((k : Int) + 1) ≤ 15 := by omega
      obtain ⟨T, hT⟩ : ∃ T, T = mdV ((k : Int) + 1) := ⟨_, rfl⟩
      have HT := Lib.hid hT
      have HC := Lib.hid hc
      clear hc hT
      by_cases hts : T = s
      · have hrk : r = k + 1 := by rw [HR.out, pmV]; exact pmN_hit HC.out (by rw [← hts, HT.out]; rfl) 15 hlt
        subst hts
        have HRK := Lib.hid hrk
        clear hrk
        go_wp2_with fail
        refine (specFormatMods_any _ _).mono ?_
        rw [← HT.out]
        rintro e w1 ⟨rfl, hb1⟩
        have HB1 := Lib.hid (HB.out.trans (hb1.mono HB.out.size))
        clear hb1
        go_wp2
        go_ret
        exact ⟨ret_int (by rw [HRK.out]; rfl), HB1.out⟩
      · have hne := toList_ne hts
        have hmiss := pmN_miss HC.out (fun h => hts (by rw [HT.out]; exact h))
        have HM := Lib.hid hmiss
        clear hmiss
        go_wp2_with fail
        refine (specFormatMods_any _ _).mono ?_
        rw [← HT.out]
        rintro e w1 ⟨rfl, hb1⟩
        have HB1 := Lib.hid (HB.out.trans (hb1.mono HB.out.size))
        clear hb1
        go_wp2
        go_roundw
        case rel => exact ⟨k + 1, by omega, by go_num, HM.out, HB1.out⟩
        case measure => simp [intOf]; omega
    · obtain rfl : k = 15 := by omega
      have HRK := Lib.hid (show r = 0 by rw [HR.out, pmV]; exact hc)
      clear hc
      go_wp2
      go_ret
      exact ⟨ret_int (by rw [HRK.out]; rfl), HB.out⟩

end Go.Proofs.YticpfciebpdkdaaDoor
