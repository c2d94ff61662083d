/- DERIVED. The program's formatKey and FormatAction: each returns the text of an action, where the tables are as their texts lay them. -/
import Derived.Test.YticpfciebpdkdaaDoorAcNames
import Derived.Test.YticpfciebpdkdaaDoorAcMods
import Derived.Test.YticpfciebpdkdaaDoorAcTx
namespace Go.Proofs.YticpfciebpdkdaaDoor
open Go.RowKit

/-- The tables that the program's chapter 5 reads are as their texts lay them. -/
structure AcTabs (w : World) : Prop where
  pow : Lib.TabIs Tryd.prog w "internal/strconv.uint64pow10" .u64 Lib.pow10Tab
  nm : TabH w 0 nmTab
  wd : TabH w 1 wdTab
theorem AcTabs.below {w w' : World} (h : AcTabs w) (hb : Below w.heap.size w w') : AcTabs w' := ⟨tab_below h.pow hb, h.nm.below hb h.nm.lt, h.wd.below hb h.wd.lt⟩
theorem AcTabs.alloc {w w' : World} {B : Nat} (h : AcTabs w) (hb : Below B w w') (hB : w.heap.size ≤ B) : AcTabs w' := h.below (hb.mono hB)
theorem AcTabs.drew {w : World} (h : AcTabs w) : AcTabs w.drew := h.below (Below.refl _ _).drew
/-- Whatever block b holds. -/
theorem AcTabs.ne {w : World} (h : AcTabs w) : 1 < w.heap.size := h.wd.lt

set_option maxRecDepth 100000 in
set_option maxHeartbeats 4000000 in
theorem formatKey_any (k c m n : Int) (T : ByteArray) (hT : T = if m = 0 then nmV c else mdV m ++ ⟨#[45]⟩ ++ nmV c) (w : World) (ht : AcTabs w) : Calls Tryd.prog 24 #[acv k c m n] w fun e w' => e = .returned (.string T) ∧ Below w.heap.size w w' := by
  have HR := Lib.hid hT
  have HT0 := Lib.hid ht
  clear hT ht
  obtain ⟨A, hA⟩ : ∃ A, A = mdV m := ⟨_, rfl⟩
  have hAs : A.size ≤ 4 := by rw [hA]; exact mdV_size m
  obtain ⟨N, hN⟩ : ∃ N, N = nmV c := ⟨_, rfl⟩
  have hNs : N.size ≤ 5 := by rw [hN]; exact nmV_size c
  have HA := Lib.hid hA
  have HN := Lib.hid hN
  have HAS := Lib.hid hAs
  have HNS := Lib.hid hNs
  clear hA hN hAs hNs
  obtain ⟨W, hW⟩ : ∃ W, W = w.alloc (.cells #[.int .i64 k, .int .i64 c, .int .i64 m, .int .i64 n] 29) := ⟨_, rfl⟩
  have HX0 := Lib.hid (show Bxd W w.heap.size [.int .i64 k, .int .i64 c, .int .i64 m, .int .i64 n] by rw [hW]; exact Bxd.new _ _ _)
  have HB0 := Lib.hid (show Below w.heap.size w W by rw [hW]; exact (Below.refl _ _).alloc (Nat.le_refl _) _)
  have HS0 := Lib.hid (show w.heap.size < W.heap.size by rw [hW]; simp)
  have HW := Lib.hid hW
  clear hW
  go_enter Tryd.func24, Tryd.ntmps24
  go_upto_region 1 with (fail)
  rw [← HW.out]
  have c0 := HX0.out.at 0 _ rfl
  have c1 := HX0.out.at 1 _ rfl
  have c2 := HX0.out.at 2 _ rfl
  have c3 := HX0.out.at 3 _ rfl
  have HTB := Lib.hid (HT0.out.below HB0.out)
  by_cases hm : m = 0
  · have HR3 := Lib.hid (show T = N by rw [HR.out, if_pos hm, HN.out])
    go_wp2_with fail
    refine (implCodeName_any c _ HTB.out.nm).mono ?_
    rw [← HN.out]
    rintro e w3 ⟨rfl, rfl⟩
    go_wp2
    go_ret
    exact ⟨ret_tx (by rw [HR3.out]), HB0.out⟩
  · have HR3 := Lib.hid (show T = A ++ ⟨#[45]⟩ ++ N by rw [HR.out, if_neg hm, HA.out, HN.out])
    have HS := HS0
    have hs : (⟨#[45]⟩ : ByteArray).size = 1 := rfl
    have hadd1 := fun (w : World) => run_string_add_sum (P := Tryd.prog) w A ⟨#[45]⟩ (by have := HAS.out; omega)
    have hadd2 := fun (w : World) => run_string_add_sum (P := Tryd.prog) w (A ++ ⟨#[45]⟩) N (by have := HAS.out; have := HNS.out; rw [ByteArray.size_append]; omega)
    clear hs
    go_wp2_with fail
    go_region_held3 (fun w' => w'.cell? ⟨w.heap.size, 1, none⟩ = some (.int .i64 c) ∧ w'.cell? ⟨w.heap.size, 2, none⟩ = some (.int .i64 m) ∧ w'.cell? ⟨w.heap.size, 3, none⟩ = some (.int .i64 n)) (first | go_keep)
      (first
        | (go_at_call 25; refine (implFormatMods_any m _).mono ?_; rw [← HA.out]; rintro e w5 ⟨rfl, hb5⟩; have hy5 : Below W.heap.size W w5 := ((Below.refl _ _).drew).trans hb5; have k1 := (hy5.cell (p := ⟨w.heap.size, 1, none⟩) HS.out).trans c1; have k2 := (hy5.cell (p := ⟨w.heap.size, 2, none⟩) HS.out).trans c2; have k3 := (hy5.cell (p := ⟨w.heap.size, 3, none⟩) HS.out).trans c3; clear hb5)
        | (go_at_call 8; refine (implCodeName_any c _ (HTB.out.below hy5).nm).mono ?_; rw [← HN.out]; rintro e w6 ⟨rfl, rfl⟩))
    all_goals
      go_wp2
      go_ret
      exact ⟨ret_tx (by rw [HR3.out]), HB0.out.trans (hy5.mono HB0.out.size)⟩

set_option maxRecDepth 100000 in
set_option maxHeartbeats 4000000 in
theorem implFormatAction_any (k c m n : Int) (w : World) (ht : AcTabs w) : Calls Tryd.prog 13 #[acv k c m n] w fun e w' => e = .returned (.string (acS k c m n)) ∧ Below w.heap.size w w' := by
  obtain ⟨v, hv⟩ : ∃ v, v = okAc k c m n := ⟨_, rfl⟩
  obtain ⟨r, hr⟩ : ∃ r, r = acS k c m n := ⟨_, rfl⟩
  have hr2 := hr
  rw [acS, ← hv] at hr2
  rw [← hr]
  have HV := Lib.hid hv
  have HR := Lib.hid hr2
  have HT0 := Lib.hid ht
  clear hv hr hr2 ht
  obtain ⟨W, hW⟩ : ∃ W, W = w.alloc (.cells #[.int .i64 k, .int .i64 c, .int .i64 m, .int .i64 n] 29) := ⟨_, rfl⟩
  have HX0 := Lib.hid (show Bxd W w.heap.size [.int .i64 k, .int .i64 c, .int .i64 m, .int .i64 n] by rw [hW]; exact Bxd.new _ _ _)
  have HB0 := Lib.hid (show Below w.heap.size w W by rw [hW]; exact (Below.refl _ _).alloc (Nat.le_refl _) _)
  have HS0 := Lib.hid (show w.heap.size < W.heap.size by rw [hW]; simp)
  have HW := Lib.hid hW
  clear hW
  go_enter Tryd.func13, Tryd.ntmps13
  go_wp2_with fail
  rw [← HW.out]
  have c0 := HX0.out.at 0 _ rfl
  have c1 := HX0.out.at 1 _ rfl
  have c2 := HX0.out.at 2 _ rfl
  have c3 := HX0.out.at 3 _ rfl
  refine (implIsAction_q k c m n v HV.out _).mono ?_
  rintro e w1 ⟨rfl, hb⟩
  have HB := Lib.hid (HB0.out.trans (hb.mono HB0.out.size))
  have HS := Lib.hid (Nat.lt_of_lt_of_le HS0.out hb.size)
  have HX1 := Lib.hid (HX0.out.below hb HS0.out)
  have HTB := Lib.hid (HT0.out.below HB.out)
  clear hb c0 c1 c2 c3
  have c0 := HX1.out.at 0 _ rfl
  have c1 := HX1.out.at 1 _ rfl
  have c2 := HX1.out.at 2 _ rfl
  have c3 := HX1.out.at 3 _ rfl
  cases v
  · go_wp2
    go_ret
    exact ⟨ret_tx HR.out.symm, HB.out⟩
  · obtain ⟨⟨k0, k1⟩, -, -, n0, n3⟩ := okAc_lim HV.out.symm
    have HR2 := Lib.hid (show r = acT k c m n from HR.out)
    obtain ⟨T, hT⟩ : ∃ T, T = itoaText n := ⟨_, rfl⟩
    have hTs : T.size = 1 := by rw [hT, itoa_few n0 n3]; rfl
    obtain ⟨A, hA⟩ : ∃ A, A = mdV m := ⟨_, rfl⟩
    have hAs : A.size ≤ 4 := by rw [hA]; exact mdV_size m
    obtain ⟨N, hN⟩ : ∃ N, N = nmV c := ⟨_, rfl⟩
    have hNs : N.size ≤ 5 := by rw [hN]; exact nmV_size c
    have HT := Lib.hid hT
    have HA := Lib.hid hA
    have HN := Lib.hid hN
    have HTS := Lib.hid hTs
    have HAS := Lib.hid hAs
    have HNS := Lib.hid hNs
    have HN0 := Lib.hid (show -9223372036854775808 ≤ n by omega)
    have HN1 := Lib.hid (show n ≤ 9223372036854775807 by omega)
    have key : k = 0 ∨ k = 1 ∨ k = 10 ∨ k = 3 ∨ k = 4 ∨ k = 5 ∨ k = 9 ∨ k = 6 ∨ k = 7 ∨ k = 8 ∨ k = 2 := by omega
    clear hT hA hN hTs hAs hNs k0 k1 n0 n3
    rcases key with rfl | rfl | rfl | rfl | rfl | rfl | rfl | rfl | rfl | rfl | rfl
    case inl =>
      have cw : w1.cell? ⟨1, 0, none⟩ = some (.string ⟨#[110, 111, 110, 101]⟩) := HTB.out.wd.cell 0 (by decide)
      go_wp2
      go_ret
      exact ⟨ret_tx HR2.out.symm, HB.out⟩
    case inr.inl =>
      have cw : w1.cell? ⟨1, 1, none⟩ = some (.string ⟨#[112, 97, 115, 115]⟩) := HTB.out.wd.cell 1 (by decide)
      go_wp2
      go_ret
      exact ⟨ret_tx HR2.out.symm, HB.out⟩
    case inr.inr.inl =>
      have cw : w1.cell? ⟨1, 10, none⟩ = some (.string ⟨#[99, 97, 112, 115]⟩) := HTB.out.wd.cell 10 (by decide)
      go_wp2
      go_ret
      exact ⟨ret_tx HR2.out.symm, HB.out⟩
    case inr.inr.inr.inl =>
      have cw : w1.cell? ⟨1, 3, none⟩ = some (.string ⟨#[109, 111]⟩) := HTB.out.wd.cell 3 (by decide)
      obtain ⟨WD, hWD⟩ : ∃ WD, WD = (⟨#[109, 111]⟩ : ByteArray) := ⟨_, rfl⟩
      rw [← hWD] at cw
      have HWD := Lib.hid hWD
      have hs1 : WD.size = 2 := by rw [hWD]; rfl
      have hs2 : (⟨#[58]⟩ : ByteArray).size = 1 := rfl
      have hadd1 := fun (w : World) => run_string_add_sum (P := Tryd.prog) w WD ⟨#[58]⟩ (by omega)
      have hadd2 := fun (w : World) => run_string_add_sum (P := Tryd.prog) w (WD ++ ⟨#[58]⟩) T (by have := HTS.out; rw [ByteArray.size_append]; omega)
      clear hs1 hs2 hWD
      go_wp2_with fail
      go_region_held3 (fun w' => w'.cell? ⟨w.heap.size, 0, none⟩ = some (.int .i64 3) ∧ w'.cell? ⟨w.heap.size, 1, none⟩ = some (.int .i64 c) ∧ w'.cell? ⟨w.heap.size, 2, none⟩ = some (.int .i64 m) ∧ w'.cell? ⟨w.heap.size, 3, none⟩ = some (.int .i64 n) ∧ w'.cell? ⟨1, 3, none⟩ = some (.string WD)) (first | go_keep)
        (first | (go_at_call 26; refine (implFormatInt_any n HN0.out HN1.out _ (tab_below HTB.out.pow (Below.refl _ _).drew)).mono ?_; rw [← HT.out]; rintro e w5 ⟨rfl, hb5⟩; have hy5 : Below w1.heap.size w1 w5 := ((Below.refl _ _).drew).trans hb5; have e0 := (hy5.cell (p := ⟨w.heap.size, 0, none⟩) HS.out).trans c0; have e1 := (hy5.cell (p := ⟨w.heap.size, 1, none⟩) HS.out).trans c1; have e2 := (hy5.cell (p := ⟨w.heap.size, 2, none⟩) HS.out).trans c2; have e3 := (hy5.cell (p := ⟨w.heap.size, 3, none⟩) HS.out).trans c3; have ew := (hy5.cell (p := ⟨1, 3, none⟩) HTB.out.wd.lt).trans cw; clear hb5))
      all_goals
        go_wp2
        go_ret
        exact ⟨ret_tx (by rw [HR2.out, HT.out, HWD.out]; rfl), HB.out.trans (hy5.mono HB.out.size)⟩
    case inr.inr.inr.inr.inl =>
      have cw : w1.cell? ⟨1, 4, none⟩ = some (.string ⟨#[116, 103]⟩) := HTB.out.wd.cell 4 (by decide)
      obtain ⟨WD, hWD⟩ : ∃ WD, WD = (⟨#[116, 103]⟩ : ByteArray) := ⟨_, rfl⟩
      rw [← hWD] at cw
      have HWD := Lib.hid hWD
      have hs1 : WD.size = 2 := by rw [hWD]; rfl
      have hs2 : (⟨#[58]⟩ : ByteArray).size = 1 := rfl
      have hadd1 := fun (w : World) => run_string_add_sum (P := Tryd.prog) w WD ⟨#[58]⟩ (by omega)
      have hadd2 := fun (w : World) => run_string_add_sum (P := Tryd.prog) w (WD ++ ⟨#[58]⟩) T (by have := HTS.out; rw [ByteArray.size_append]; omega)
      clear hs1 hs2 hWD
      go_wp2_with fail
      go_region_held3 (fun w' => w'.cell? ⟨w.heap.size, 0, none⟩ = some (.int .i64 4) ∧ w'.cell? ⟨w.heap.size, 1, none⟩ = some (.int .i64 c) ∧ w'.cell? ⟨w.heap.size, 2, none⟩ = some (.int .i64 m) ∧ w'.cell? ⟨w.heap.size, 3, none⟩ = some (.int .i64 n) ∧ w'.cell? ⟨1, 4, none⟩ = some (.string WD)) (first | go_keep)
        (first | (go_at_call 26; refine (implFormatInt_any n HN0.out HN1.out _ (tab_below HTB.out.pow (Below.refl _ _).drew)).mono ?_; rw [← HT.out]; rintro e w5 ⟨rfl, hb5⟩; have hy5 : Below w1.heap.size w1 w5 := ((Below.refl _ _).drew).trans hb5; have e0 := (hy5.cell (p := ⟨w.heap.size, 0, none⟩) HS.out).trans c0; have e1 := (hy5.cell (p := ⟨w.heap.size, 1, none⟩) HS.out).trans c1; have e2 := (hy5.cell (p := ⟨w.heap.size, 2, none⟩) HS.out).trans c2; have e3 := (hy5.cell (p := ⟨w.heap.size, 3, none⟩) HS.out).trans c3; have ew := (hy5.cell (p := ⟨1, 4, none⟩) HTB.out.wd.lt).trans cw; clear hb5))
      all_goals
        go_wp2
        go_ret
        exact ⟨ret_tx (by rw [HR2.out, HT.out, HWD.out]; rfl), HB.out.trans (hy5.mono HB.out.size)⟩
    case inr.inr.inr.inr.inr.inl =>
      have cw : w1.cell? ⟨1, 5, none⟩ = some (.string ⟨#[116, 111]⟩) := HTB.out.wd.cell 5 (by decide)
      obtain ⟨WD, hWD⟩ : ∃ WD, WD = (⟨#[116, 111]⟩ : ByteArray) := ⟨_, rfl⟩
      rw [← hWD] at cw
      have HWD := Lib.hid hWD
      have hs1 : WD.size = 2 := by rw [hWD]; rfl
      have hs2 : (⟨#[58]⟩ : ByteArray).size = 1 := rfl
      have hadd1 := fun (w : World) => run_string_add_sum (P := Tryd.prog) w WD ⟨#[58]⟩ (by omega)
      have hadd2 := fun (w : World) => run_string_add_sum (P := Tryd.prog) w (WD ++ ⟨#[58]⟩) T (by have := HTS.out; rw [ByteArray.size_append]; omega)
      clear hs1 hs2 hWD
      go_wp2_with fail
      go_region_held3 (fun w' => w'.cell? ⟨w.heap.size, 0, none⟩ = some (.int .i64 5) ∧ w'.cell? ⟨w.heap.size, 1, none⟩ = some (.int .i64 c) ∧ w'.cell? ⟨w.heap.size, 2, none⟩ = some (.int .i64 m) ∧ w'.cell? ⟨w.heap.size, 3, none⟩ = some (.int .i64 n) ∧ w'.cell? ⟨1, 5, none⟩ = some (.string WD)) (first | go_keep)
        (first | (go_at_call 26; refine (implFormatInt_any n HN0.out HN1.out _ (tab_below HTB.out.pow (Below.refl _ _).drew)).mono ?_; rw [← HT.out]; rintro e w5 ⟨rfl, hb5⟩; have hy5 : Below w1.heap.size w1 w5 := ((Below.refl _ _).drew).trans hb5; have e0 := (hy5.cell (p := ⟨w.heap.size, 0, none⟩) HS.out).trans c0; have e1 := (hy5.cell (p := ⟨w.heap.size, 1, none⟩) HS.out).trans c1; have e2 := (hy5.cell (p := ⟨w.heap.size, 2, none⟩) HS.out).trans c2; have e3 := (hy5.cell (p := ⟨w.heap.size, 3, none⟩) HS.out).trans c3; have ew := (hy5.cell (p := ⟨1, 5, none⟩) HTB.out.wd.lt).trans cw; clear hb5))
      all_goals
        go_wp2
        go_ret
        exact ⟨ret_tx (by rw [HR2.out, HT.out, HWD.out]; rfl), HB.out.trans (hy5.mono HB.out.size)⟩
    case inr.inr.inr.inr.inr.inr.inl =>
      have cw : w1.cell? ⟨1, 9, none⟩ = some (.string ⟨#[109, 97, 99, 114, 111]⟩) := HTB.out.wd.cell 9 (by decide)
      obtain ⟨WD, hWD⟩ : ∃ WD, WD = (⟨#[109, 97, 99, 114, 111]⟩ : ByteArray) := ⟨_, rfl⟩
      rw [← hWD] at cw
      have HWD := Lib.hid hWD
      have hs1 : WD.size = 5 := by rw [hWD]; rfl
      have hs2 : (⟨#[58]⟩ : ByteArray).size = 1 := rfl
      have hadd1 := fun (w : World) => run_string_add_sum (P := Tryd.prog) w WD ⟨#[58]⟩ (by omega)
      have hadd2 := fun (w : World) => run_string_add_sum (P := Tryd.prog) w (WD ++ ⟨#[58]⟩) T (by have := HTS.out; rw [ByteArray.size_append]; omega)
      clear hs1 hs2 hWD
      go_wp2_with fail
      go_region_held3 (fun w' => w'.cell? ⟨w.heap.size, 0, none⟩ = some (.int .i64 9) ∧ w'.cell? ⟨w.heap.size, 1, none⟩ = some (.int .i64 c) ∧ w'.cell? ⟨w.heap.size, 2, none⟩ = some (.int .i64 m) ∧ w'.cell? ⟨w.heap.size, 3, none⟩ = some (.int .i64 n) ∧ w'.cell? ⟨1, 9, none⟩ = some (.string WD)) (first | go_keep)
        (first | (go_at_call 26; refine (implFormatInt_any n HN0.out HN1.out _ (tab_below HTB.out.pow (Below.refl _ _).drew)).mono ?_; rw [← HT.out]; rintro e w5 ⟨rfl, hb5⟩; have hy5 : Below w1.heap.size w1 w5 := ((Below.refl _ _).drew).trans hb5; have e0 := (hy5.cell (p := ⟨w.heap.size, 0, none⟩) HS.out).trans c0; have e1 := (hy5.cell (p := ⟨w.heap.size, 1, none⟩) HS.out).trans c1; have e2 := (hy5.cell (p := ⟨w.heap.size, 2, none⟩) HS.out).trans c2; have e3 := (hy5.cell (p := ⟨w.heap.size, 3, none⟩) HS.out).trans c3; have ew := (hy5.cell (p := ⟨1, 9, none⟩) HTB.out.wd.lt).trans cw; clear hb5))
      all_goals
        go_wp2
        go_ret
        exact ⟨ret_tx (by rw [HR2.out, HT.out, HWD.out]; rfl), HB.out.trans (hy5.mono HB.out.size)⟩
    case inr.inr.inr.inr.inr.inr.inr.inl =>
      have hs : (⟨#[47]⟩ : ByteArray).size = 1 := rfl
      have hadd1 := fun (w : World) => run_string_add_sum (P := Tryd.prog) w A ⟨#[47]⟩ (by have := HAS.out; omega)
      have hadd2 := fun (w : World) => run_string_add_sum (P := Tryd.prog) w (A ++ ⟨#[47]⟩) N (by have := HAS.out; have := HNS.out; rw [ByteArray.size_append]; omega)
      clear hs
      go_wp2_with fail
      go_region_held3 (fun w' => w'.cell? ⟨w.heap.size, 0, none⟩ = some (.int .i64 6) ∧ w'.cell? ⟨w.heap.size, 1, none⟩ = some (.int .i64 c) ∧ w'.cell? ⟨w.heap.size, 2, none⟩ = some (.int .i64 m) ∧ w'.cell? ⟨w.heap.size, 3, none⟩ = some (.int .i64 n)) (first | go_keep)
        (first
          | (go_at_call 25; refine (implFormatMods_any m _).mono ?_; rw [← HA.out]; rintro e w5 ⟨rfl, hb5⟩; have hy5 : Below w1.heap.size w1 w5 := ((Below.refl _ _).drew).trans hb5; have e0 := (hy5.cell (p := ⟨w.heap.size, 0, none⟩) HS.out).trans c0; have e1 := (hy5.cell (p := ⟨w.heap.size, 1, none⟩) HS.out).trans c1; have e2 := (hy5.cell (p := ⟨w.heap.size, 2, none⟩) HS.out).trans c2; have e3 := (hy5.cell (p := ⟨w.heap.size, 3, none⟩) HS.out).trans c3; clear hb5)
          | (go_at_call 8; refine (implCodeName_any c _ (HTB.out.below hy5).nm).mono ?_; rw [← HN.out]; rintro e w6 ⟨rfl, rfl⟩))
      all_goals
        go_wp2
        go_ret
        exact ⟨ret_tx (by rw [HR2.out, HA.out, HN.out]; rfl), HB.out.trans (hy5.mono HB.out.size)⟩
    case inr.inr.inr.inr.inr.inr.inr.inr.inl =>
      have hs : (⟨#[47]⟩ : ByteArray).size = 1 := rfl
      have hadd1 := fun (w : World) => run_string_add_sum (P := Tryd.prog) w T ⟨#[47]⟩ (by have := HTS.out; omega)
      have hadd2 := fun (w : World) => run_string_add_sum (P := Tryd.prog) w (T ++ ⟨#[47]⟩) N (by have := HTS.out; have := HNS.out; rw [ByteArray.size_append]; omega)
      clear hs
      go_wp2_with fail
      go_region_held3 (fun w' => w'.cell? ⟨w.heap.size, 0, none⟩ = some (.int .i64 7) ∧ w'.cell? ⟨w.heap.size, 1, none⟩ = some (.int .i64 c) ∧ w'.cell? ⟨w.heap.size, 2, none⟩ = some (.int .i64 m) ∧ w'.cell? ⟨w.heap.size, 3, none⟩ = some (.int .i64 n)) (first | go_keep)
        (first
          | (go_at_call 26; refine (implFormatInt_any n HN0.out HN1.out _ (tab_below HTB.out.pow (Below.refl _ _).drew)).mono ?_; rw [← HT.out]; rintro e w5 ⟨rfl, hb5⟩; have hy5 : Below w1.heap.size w1 w5 := ((Below.refl _ _).drew).trans hb5; have e0 := (hy5.cell (p := ⟨w.heap.size, 0, none⟩) HS.out).trans c0; have e1 := (hy5.cell (p := ⟨w.heap.size, 1, none⟩) HS.out).trans c1; have e2 := (hy5.cell (p := ⟨w.heap.size, 2, none⟩) HS.out).trans c2; have e3 := (hy5.cell (p := ⟨w.heap.size, 3, none⟩) HS.out).trans c3; clear hb5)
          | (go_at_call 8; refine (implCodeName_any c _ (HTB.out.below hy5).nm).mono ?_; rw [← HN.out]; rintro e w6 ⟨rfl, rfl⟩))
      all_goals
        go_wp2
        go_ret
        exact ⟨ret_tx (by rw [HR2.out, HT.out, HN.out]; rfl), HB.out.trans (hy5.mono HB.out.size)⟩
    case inr.inr.inr.inr.inr.inr.inr.inr.inr.inl =>
      have cw : w1.cell? ⟨1, 8, none⟩ = some (.string ⟨#[111, 110, 99, 101]⟩) := HTB.out.wd.cell 8 (by decide)
      obtain ⟨WD, hWD⟩ : ∃ WD, WD = (⟨#[111, 110, 99, 101]⟩ : ByteArray) := ⟨_, rfl⟩
      rw [← hWD] at cw
      have HWD := Lib.hid hWD
      have hs1 : WD.size = 4 := by rw [hWD]; rfl
      have hs2 : (⟨#[58]⟩ : ByteArray).size = 1 := rfl
      have hadd1 := fun (w : World) => run_string_add_sum (P := Tryd.prog) w WD ⟨#[58]⟩ (by omega)
      have hadd2 := fun (w : World) => run_string_add_sum (P := Tryd.prog) w (WD ++ ⟨#[58]⟩) A (by have := HAS.out; rw [ByteArray.size_append]; omega)
      clear hs1 hs2 hWD
      go_wp2_with fail
      go_region_held3 (fun w' => w'.cell? ⟨w.heap.size, 0, none⟩ = some (.int .i64 8) ∧ w'.cell? ⟨w.heap.size, 1, none⟩ = some (.int .i64 c) ∧ w'.cell? ⟨w.heap.size, 2, none⟩ = some (.int .i64 m) ∧ w'.cell? ⟨w.heap.size, 3, none⟩ = some (.int .i64 n) ∧ w'.cell? ⟨1, 8, none⟩ = some (.string WD)) (first | go_keep)
        (first | (go_at_call 25; refine (implFormatMods_any m _).mono ?_; rw [← HA.out]; rintro e w5 ⟨rfl, hb5⟩; have hy5 : Below w1.heap.size w1 w5 := ((Below.refl _ _).drew).trans hb5; have e0 := (hy5.cell (p := ⟨w.heap.size, 0, none⟩) HS.out).trans c0; have e1 := (hy5.cell (p := ⟨w.heap.size, 1, none⟩) HS.out).trans c1; have e2 := (hy5.cell (p := ⟨w.heap.size, 2, none⟩) HS.out).trans c2; have e3 := (hy5.cell (p := ⟨w.heap.size, 3, none⟩) HS.out).trans c3; have ew := (hy5.cell (p := ⟨1, 8, none⟩) HTB.out.wd.lt).trans cw; clear hb5))
      all_goals
        go_wp2
        go_ret
        exact ⟨ret_tx (by rw [HR2.out, HA.out, HWD.out]; rfl), HB.out.trans (hy5.mono HB.out.size)⟩
    case inr.inr.inr.inr.inr.inr.inr.inr.inr.inr =>
      go_wp2_with fail
      refine (formatKey_any 2 c m n r (by rw [HR2.out]; rfl) _ HTB.out).mono ?_
      rintro e w2 ⟨rfl, hb⟩
      have HB2 := Lib.hid (HB.out.trans (hb.mono HB.out.size))
      clear hb
      go_wp2
      go_ret
      exact ⟨rfl, HB2.out⟩

end Go.Proofs.YticpfciebpdkdaaDoor
