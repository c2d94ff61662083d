/- DERIVED. The program's charsWith, CharOf, KeyOf and the package strings' IndexByte: each returns what a plain function says. -/
import Derived.Test.YteljmfdlegohbaaHoDef
import Derived.Test.YteljmfdlegohbaaAcOk
import Derived.Shelf.Strings.Search1
import Derived.Shelf.Small.Strs
namespace Go.Proofs.Yteljmfdlegohbaa
open Go.RowKit

def hoT (m : Int) : ByteArray := ⟨(hoL m).toArray⟩
theorem hoT_0 : hoT 0 = ⟨plainL.toArray⟩ := rfl
theorem hoT_2 : hoT 2 = ⟨shiftL.toArray⟩ := rfl
theorem hoT_else {m : Int} (h0 : ¬ m = 0) (h2 : ¬ m = 2) : hoT m = ⟨#[]⟩ := by rw [hoT, hoL, if_neg h0, if_neg h2]
theorem charsWith_q (m : Int) (T : ByteArray) (hT : T = hoT m) (w : World) : Calls Try.prog 110 #[.int .i64 m] w fun e w' => e = .returned (.string T) ∧ w = w' := by
  by_cases h0 : m = 0
  · subst h0
    obtain rfl : T = ⟨plainL.toArray⟩ := hT.trans hoT_0
    go_enter Try.func110, Try.ntmps110
    go_wp2
    go_ret
    exact ⟨rfl, rfl⟩
  · have b0 : (m == 0) = false := by simp [h0]
    by_cases h2 : m = 2
    · subst h2
      obtain rfl : T = ⟨shiftL.toArray⟩ := hT.trans hoT_2
      go_enter Try.func110, Try.ntmps110
      go_wp2
      go_ret
      exact ⟨rfl, rfl⟩
    · have b2 : (m == 2) = false := by simp [h2]
      obtain rfl : T = ⟨#[]⟩ := hT.trans (hoT_else h0 h2)
      clear h0 h2
      go_enter Try.func110, Try.ntmps110
      go_wp2
      go_ret
      exact ⟨rfl, rfl⟩

theorem hoL_len (m : Int) : (hoL m).length = if m = 0 ∨ m = 2 then 44 else 0 := by
  unfold hoL
  by_cases h0 : m = 0
  · rw [if_pos h0, if_pos (.inl h0)]; rfl
  · by_cases h2 : m = 2
    · rw [if_neg h0, if_pos h2, if_pos (.inr h2)]; rfl
    · rw [if_neg h0, if_neg h2, if_neg (by omega)]; rfl
theorem hoT_size (m : Int) : (hoT m).size = (hoL m).length := rfl
theorem hoT_at {m : Int} {k : Nat} (h : k < (hoL m).length) : bt (hoT m) k = (((hoL m).getD k 0).toNat : Int) := by
  have h2 : k < (hoT m).size := h
  rw [bt, dif_pos h2, List.getD_eq_getElem?_getD, List.getElem?_eq_getElem h]
  rfl
theorem hoT_cut {m : Int} {k : Nat} (h : k < (hoL m).length) : (hoT m).extract k (k + 1) = ⟨#[(hoL m).getD k 0]⟩ := by
  refine ByteArray.ext ?_
  refine Array.ext' ?_
  show ((hoT m).extract k (k + 1)).data.toList = [(hoL m).getD k 0]
  rw [ByteArray.data_extract, Array.toList_extract, List.extract_eq_take_drop]
  show List.take (k + 1 - k) (List.drop k (hoL m)) = _
  rw [List.drop_eq_getElem_cons h, show k + 1 - k = 1 by omega, List.getD_eq_getElem?_getD, List.getElem?_eq_getElem h]
  rfl

set_option maxRecDepth 100000 in
theorem implCharOf_any (c m : Int) (w : World) : Calls Try.prog 39 #[.int .i64 c, .int .i64 m] w fun e w' => e = .returned (.string (hoV c m)) ∧ w = w' := by
  obtain ⟨X, hX⟩ : ∃ X, X = hoV c m := ⟨_, rfl⟩
  rw [← hX]
  obtain ⟨T, hT⟩ : ∃ T, T = hoT m := ⟨_, rfl⟩
  obtain ⟨N, hN⟩ : ∃ N : Nat, N = (hoL m).length := ⟨_, rfl⟩
  have hsz : T.size = N := by rw [hT, hN]; rfl
  have hl := hoL_len m
  have hN44 : N ≤ 44 := by rw [hN, hl]; split <;> omega
  obtain ⟨v, hv⟩ : ∃ v, v = inB c 1 ((N : Int) - 1) := ⟨_, rfl⟩
  have HX := Lib.hid hX
  have HT := Lib.hid hT
  have HN := Lib.hid hN
  have HV := Lib.hid hv
  have hw : wrap64 ((N : Int) - 1) = (N : Int) - 1 := IntWalk.wrap64_in _ ⟨by omega, by omega⟩
  clear hX hT hN hv hl
  have HSZ := Lib.hid hsz
  cases v
  · have hn : X = ⟨#[]⟩ := by
      rw [HX.out]
      have h1 := of_decide_eq_false (show decide (1 ≤ c ∧ c ≤ (N : Int) - 1) = false from HV.out.symm)
      refine hoV_none ?_
      rcases Int.lt_or_le c 1 with h | h
      · exact hoB_low h
      · rw [hoB, if_pos h, List.getD_eq_getElem?_getD, List.getElem?_eq_none (by rw [← HN.out]; omega)]; rfl
    subst hn
    go_enter Try.func39, Try.ntmps39
    go_wp2_with fail
    refine (charsWith_q m T HT.out _).mono ?_
    rintro e w0 ⟨rfl, rfl⟩
    go_wp2_with fail
    refine (isBetween_any _ _ _ _).mono ?_
    rw [← HV.out]
    rintro e w0 ⟨rfl, rfl⟩
    go_wp2
    go_ret
    exact ⟨rfl, rfl⟩
  · have h1 := of_decide_eq_true (show decide (1 ≤ c ∧ c ≤ (N : Int) - 1) = true from HV.out.symm)
    obtain ⟨k, rfl⟩ := Int.eq_ofNat_of_zero_le (show 0 ≤ c by omega)
    have hk : k < N := by omega
    have hk2 : k < T.size := by rw [hsz]; exact hk
    have e1 := bt_eq T k hk2
    have hk0 : (0 : Int) ≤ (k : Int) := by omega
    have hb : hoB (k : Int) m = (hoL m).getD k 0 := by rw [hoB, if_pos (by omega), Int.toNat_natCast]
    have hbt : bt T k = ((hoB (k : Int) m).toNat : Int) := by rw [hb, HT.out]; exact hoT_at (by rw [← HN.out]; exact hk)
    obtain ⟨z, hz⟩ : ∃ z, z = bt T k := ⟨_, rfl⟩
    rw [← hz] at e1 hbt
    have HB := Lib.hid hb
    have HBT := Lib.hid hbt
    have hk3 : (k : Int) < (T.size : Int) := by omega
    have hw2 : wrap64 ((k : Int) + 1) = ((k + 1 : Nat) : Int) := IntWalk.wrap64_in _ ⟨by omega, by omega⟩
    have hk4 : ((k + 1 : Nat) : Int) ≤ (T.size : Int) := by omega
    have HZ := Lib.hid hz
    clear hb hbt hz
    go_enter Try.func39, Try.ntmps39
    go_wp2_with fail
    refine (charsWith_q m T HT.out _).mono ?_
    rintro e w0 ⟨rfl, rfl⟩
    go_wp2_with fail
    refine (isBetween_any _ _ _ _).mono ?_
    rw [← HV.out]
    rintro e w0 ⟨rfl, rfl⟩
    by_cases hz0 : z = 0
    · have hn : X = ⟨#[]⟩ := by
        rw [HX.out]
        refine hoV_none ?_
        have := HBT.out
        rw [hz0] at this
        exact UInt8.toNat_inj.mp (Int.ofNat.inj this.symm)
      subst hn
      have b0 : (z == 0) = true := by simp [hz0]
      clear hz0
      go_wp2
      go_ret
      exact ⟨rfl, rfl⟩
    · have b0 : (z == 0) = false := by simp [hz0]
      have hne : ¬ hoB (k : Int) m = 0 := fun e => hz0 (by rw [HBT.out, e]; rfl)
      have HC := Lib.hid (show X = T.extract k (k + 1) by rw [HX.out, hoV_some hne, HT.out, hoT_cut (by rw [← HN.out]; exact hk), HB.out])
      clear hz0 hne
      go_wp2
      go_ret
      exact ⟨ret_tx (by rw [HC.out]), rfl⟩

def ibRen : Go.Shelf.Ren := ⟨fun | 137 => 109 | 217 => 169 | 266 => 191 | n => n, fun | 3 => 3 | 5 => 5 | 9 => 9 | n => n, fun | n => n⟩
theorem ibLays : Go.Proofs.Lays.n137 Try.prog ibRen := {
  mixed := by kernel_rfl
  f137 := Try.func109.trans (congrArg some (by kernel_rfl))
  f217 := Try.func169.trans (congrArg some (by kernel_rfl))
  f266 := Try.func191.trans (congrArg some (by kernel_rfl))
  t3 := Try.underlying3
  a3 := Try.isAgg3
  z3 := Try.sizeOf3
  v3 := Try.zeroValue3
  t5 := Try.underlying5
  a5 := Try.isAgg5
  z5 := Try.sizeOf5
  v5 := Try.zeroValue5
  t9 := Try.underlying9
  a9 := Try.isAgg9
  z9 := Try.sizeOf9
  v9 := Try.zeroValue9 }
theorem indexByte_q (T : ByteArray) (m : Int) (x : UInt8) (z i : Int) (hT : T = hoT m) (hz : z = (x.toNat : Int)) (hi : i = Lib.indexByte (hoL m) x) (w : World) : Calls Try.prog 109 #[.string T, .int .u8 z] w fun e w' => e = .returned (.int .i64 i) ∧ w = w' :=
  (Any.strings_IndexByte (ρ := ibRen) ibLays T z w).mono fun e w' ⟨he, hw⟩ => ⟨by
    rw [he, hT, hi, hz]
    congr 3
    rw [Int.toNat_natCast]; exact UInt8.ofNat_toNat, hw.symm⟩
theorem ky_all0 : (List.range 256).all (fun n => decide (((koN (UInt8.ofNat n) 0 56 : Nat) : Int) = if 0 < Lib.indexByte (hoL 0) (UInt8.ofNat n) then Lib.indexByte (hoL 0) (UInt8.ofNat n) else 0)) = true := by kernel_rfl
theorem ky_all2 : (List.range 256).all (fun n => decide (((koN (UInt8.ofNat n) 2 56 : Nat) : Int) = if 0 < Lib.indexByte (hoL 2) (UInt8.ofNat n) then Lib.indexByte (hoL 2) (UInt8.ofNat n) else 0)) = true := by kernel_rfl
theorem ky_at0 (x : UInt8) : ((koN x 0 56 : Nat) : Int) = if 0 < Lib.indexByte (hoL 0) x then Lib.indexByte (hoL 0) x else 0 := by
  have h := of_decide_eq_true (List.all_eq_true.1 ky_all0 x.toNat (List.mem_range.2 (UInt8.toNat_lt x)))
  rwa [UInt8.ofNat_toNat] at h
theorem ky_at2 (x : UInt8) : ((koN x 2 56 : Nat) : Int) = if 0 < Lib.indexByte (hoL 2) x then Lib.indexByte (hoL 2) x else 0 := by
  have h := of_decide_eq_true (List.all_eq_true.1 ky_all2 x.toNat (List.mem_range.2 (UInt8.toNat_lt x)))
  rwa [UInt8.ofNat_toNat] at h

theorem run_index_ho {P : Program} {ty e : TypeId} {n : Nat} {cs : Array Value} {j : Nat} {v : Value} (hu : P.underlying ty = some (.array n e)) (hj : j < n) (ha : ∀ w, (isAgg e).run P w = .ok false w) (hz : ∀ w, (sizeOf e).run P w = .ok 1 w) (hv : cs[j]? = some v) (w : World) :
    (Instr.index ty (.agg cs) (.int .i64 (j : Int))).run P w = .ok v w := by
  have h1 : (0 : Int) ≤ (j : Int) ∧ (j : Int) < (n : Int) := by omega
  simp [Instr.index, run_underlying hu, asIntOf, hj, part, ha, hz, hv]
theorem tyTwo : Try.prog.underlying 153 = some (.array 2 3) := by kernel_rfl
set_option maxRecDepth 100000 in
theorem implKeyOf_any (x : UInt8) (w : World) : Calls Try.prog 38 #[.int .u8 (x.toNat : Int)] w fun e w' => e = .returned (.tuple #[.int .i64 (koP x).1, .int .i64 (koP x).2]) ∧ w = w' := by
  obtain ⟨r, hr⟩ : ∃ r, r = koP x := ⟨_, rfl⟩
  rw [← hr]
  obtain ⟨r1, r2⟩ := r
  obtain ⟨z, hz⟩ : ∃ z, z = (x.toNat : Int) := ⟨_, rfl⟩
  obtain ⟨i0, hi0⟩ : ∃ i, i = Lib.indexByte (hoL 0) x := ⟨_, rfl⟩
  obtain ⟨i2, hi2⟩ : ∃ i, i = Lib.indexByte (hoL 2) x := ⟨_, rfl⟩
  obtain ⟨T0, hT0⟩ : ∃ T, T = hoT 0 := ⟨_, rfl⟩
  obtain ⟨T2, hT2⟩ : ∃ T, T = hoT 2 := ⟨_, rfl⟩
  have h0 := ky_at0 x
  have h2 := ky_at2 x
  rw [← hi0] at h0
  rw [← hi2] at h2
  rw [← hz]
  have hr' : (r1, r2) = if 0 < i0 then (i0, 0) else if 0 < i2 then (i2, 2) else (0, 0) := by
    rw [hr, koP]
    by_cases g0 : 0 < i0
    · rw [if_pos g0] at h0 ⊢
      rw [if_neg (by omega), h0]
    · rw [if_neg g0] at h0 ⊢
      rw [if_pos (by omega)]
      by_cases g2 : 0 < i2
      · rw [if_pos g2] at h2 ⊢
        rw [if_neg (by omega), h2]
      · rw [if_neg g2] at h2 ⊢
        rw [if_pos (by omega)]
  have HR := Lib.hid hr'
  have HZ := Lib.hid hz
  have HI0 := Lib.hid hi0
  have HI2 := Lib.hid hi2
  have HT0 := Lib.hid hT0
  have HT2 := Lib.hid hT2
  clear hr hr' hz hi0 hi2 hT0 hT2 h0 h2
  have hx0 := run_index_ho (P := Try.prog) (cs := #[.int .i64 0, .int .i64 2]) (j := 0) (v := .int .i64 0) tyTwo (by decide) Try.isAgg3 Try.sizeOf3 rfl
  have hx1 := run_index_ho (P := Try.prog) (cs := #[.int .i64 0, .int .i64 2]) (j := 1) (v := .int .i64 2) tyTwo (by decide) Try.isAgg3 Try.sizeOf3 rfl
  rw [show ((0 : Nat) : Int) = 0 from rfl] at hx0
  rw [show ((1 : Nat) : Int) = 1 from rfl] at hx1
  go_enter Try.func38, Try.ntmps38
  go_wp2
  refine wp_loop_rounds 3 ?_
  rw [rounds_succ]
  go_wp2_with fail
  refine (charsWith_q 0 T0 HT0.out _).mono ?_
  rintro e w0 ⟨rfl, rfl⟩
  go_wp2_with fail
  refine (indexByte_q T0 0 x z i0 HT0.out HZ.out HI0.out _).mono ?_
  rintro e w0 ⟨rfl, rfl⟩
  by_cases g0 : 0 < i0
  · obtain ⟨rfl, rfl⟩ : r1 = i0 ∧ r2 = 0 := by have := HR.out; rw [if_pos g0] at this; simpa using this
    go_wp2
    go_ret2
    exact ⟨rfl, rfl⟩
  · have HR2 := Lib.hid (HR.out.trans (if_neg g0))
    go_wp2
    rw [rounds_succ]
    go_wp2_with fail
    refine (charsWith_q 2 T2 HT2.out _).mono ?_
    rintro e w0 ⟨rfl, rfl⟩
    go_wp2_with fail
    refine (indexByte_q T2 2 x z i2 HT2.out HZ.out HI2.out _).mono ?_
    rintro e w0 ⟨rfl, rfl⟩
    by_cases g2 : 0 < i2
    · obtain ⟨rfl, rfl⟩ : r1 = i2 ∧ r2 = 2 := by have := HR2.out; rw [if_pos g2] at this; simpa using this
      go_wp2
      go_ret2
      exact ⟨rfl, rfl⟩
    · obtain ⟨rfl, rfl⟩ : r1 = 0 ∧ r2 = 0 := by have := HR2.out; rw [if_neg g2] at this; simpa using this
      go_wp2
      rw [rounds_succ]
      go_wp2
      go_ret2
      exact ⟨rfl, rfl⟩

end Go.Proofs.Yteljmfdlegohbaa
