/- DERIVED. The text of an action; the reference's FormatAction returns it. · What the reference reads as an action: l5Left and ParseAction return it. Called with any text of at most 1048576 bytes. -/
import Derived.Test.YtnfnhbldphiohaaDoorAcs
import Derived.Test.YtnfnhbldphiohaaDoorAcOk
import Derived.Test.YtnfnhbldphiohaaDoorNums
import Derived.Laws.Concat
import Derived.Test.YtnfnhbldphiohaaDoorText
namespace Go.Proofs.YtnfnhbldphiohaaDoor
open Go.RowKit

theorem okAc_lim {k c m n : Int} (h : okAc k c m n = true) : (0 ≤ k ∧ k ≤ 10) ∧ (0 ≤ c ∧ c ≤ 56) ∧ (0 ≤ m ∧ m ≤ 15) ∧ 0 ≤ n ∧ n ≤ 3 := by
  unfold okAc inB at h
  split at h
  · simp only [Bool.and_eq_true, decide_eq_true_eq] at h; omega
  split at h
  · simp only [Bool.and_eq_true, Bool.or_eq_true, decide_eq_true_eq] at h; omega
  split at h
  · simp only [Bool.and_eq_true, decide_eq_true_eq] at h; omega
  split at h
  · simp only [Bool.and_eq_true, decide_eq_true_eq] at h; omega
  split at h
  · simp only [Bool.and_eq_true, decide_eq_true_eq] at h; omega
  split at h
  · simp only [Bool.and_eq_true, decide_eq_true_eq] at h; omega
  split at h
  · simp only [Bool.and_eq_true, decide_eq_true_eq] at h; omega
  · exact absurd h (by decide)
theorem itoa_few {n : Int} (h0 : 0 ≤ n) (h1 : n ≤ 3) : itoaText n = ⟨#[UInt8.ofNat (48 + n.toNat)]⟩ := by
  have h : n = 0 ∨ n = 1 ∨ n = 2 ∨ n = 3 := by omega
  rcases h with rfl | rfl | rfl | rfl <;> simp [itoaText, Lib.itoa, Lib.decDigits]
/-- The text of an action, by its kind. -/
def acT (k c m n : Int) : ByteArray :=
  if k = 0 then ⟨#[110, 111, 110, 101]⟩
  else if k = 1 then ⟨#[112, 97, 115, 115]⟩
  else if k = 3 then ⟨#[109, 111, 58]⟩ ++ itoaText n
  else if k = 4 then ⟨#[116, 103, 58]⟩ ++ itoaText n
  else if k = 5 then ⟨#[116, 111, 58]⟩ ++ itoaText n
  else if k = 6 then mdV m ++ ⟨#[47]⟩ ++ nmV c
  else if k = 7 then itoaText n ++ ⟨#[47]⟩ ++ nmV c
  else if k = 8 then ⟨#[111, 110, 99, 101, 58]⟩ ++ mdV m
  else if k = 9 then ⟨#[109, 97, 99, 114, 111, 58]⟩ ++ itoaText n
  else if k = 10 then ⟨#[99, 97, 112, 115]⟩
  else if m = 0 then nmV c
  else mdV m ++ ⟨#[45]⟩ ++ nmV c
def acS (k c m n : Int) : ByteArray := if okAc k c m n = true then acT k c m n else ⟨#[]⟩

set_option maxRecDepth 100000 in
set_option maxHeartbeats 4000000 in
theorem specFormatAction_any (k c m n : Int) (w : World) : Calls Tryd.prog 39 #[acv k c m n] w fun e w' => e = .returned (.string (acS k c m n)) ∧ Below w.heap.size w w' := by
  obtain ⟨v, hv⟩ : ∃ v, v = okAc k c m n := ⟨_, rfl⟩
  obtain ⟨r, hr⟩ : ∃ r, r = acS k c m n := ⟨_, rfl⟩
  have hr2 := hr
  rw [acS, ← hv] at hr2
  rw [← hr]
  have HV := Lib.hid hv
  have HR := Lib.hid hr2
  clear hv hr hr2
  obtain ⟨W, hW⟩ : ∃ W, W = w.alloc (.cells #[.int .i64 k, .int .i64 c, .int .i64 m, .int .i64 n] 67) := ⟨_, rfl⟩
  have HX0 := Lib.hid (show Bxd W w.heap.size [.int .i64 k, .int .i64 c, .int .i64 m, .int .i64 n] by rw [hW]; exact Bxd.new _ _ _)
  have HB0 := Lib.hid (show Below w.heap.size w W by rw [hW]; exact (Below.refl _ _).alloc (Nat.le_refl _) _)
  have HS0 := Lib.hid (show w.heap.size < W.heap.size by rw [hW]; simp)
  have HW := Lib.hid hW
  clear hW
  go_enter Tryd.func39, Tryd.ntmps39
  go_wp2_with fail
  rw [← HW.out]
  have c0 := HX0.out.at 0 _ rfl
  have c1 := HX0.out.at 1 _ rfl
  have c2 := HX0.out.at 2 _ rfl
  have c3 := HX0.out.at 3 _ rfl
  refine (specIsAction_q k c m n v HV.out _).mono ?_
  rintro e w1 ⟨rfl, hb⟩
  have HB := Lib.hid (HB0.out.trans (hb.mono HB0.out.size))
  have HS := Lib.hid (Nat.lt_of_lt_of_le HS0.out hb.size)
  have HX1 := Lib.hid (HX0.out.below hb HS0.out)
  clear hb c0 c1 c2 c3
  have c0 := HX1.out.at 0 _ rfl
  have c1 := HX1.out.at 1 _ rfl
  have c2 := HX1.out.at 2 _ rfl
  have c3 := HX1.out.at 3 _ rfl
  cases v
  · go_wp2
    go_ret
    exact ⟨ret_tx HR.out.symm, HB.out⟩
  · obtain ⟨⟨k0, k1⟩, -, -, n0, n3⟩ := okAc_lim HV.out.symm
    have HR2 := Lib.hid (show r = acT k c m n from HR.out)
    obtain ⟨T, hT⟩ : ∃ T, T = itoaText n := ⟨_, rfl⟩
    have hTs : T.size = 1 := by rw [hT, itoa_few n0 n3]; rfl
    obtain ⟨A, hA⟩ : ∃ A, A = mdV m := ⟨_, rfl⟩
    have hAs : A.size ≤ 4 := by rw [hA]; exact mdV_size m
    obtain ⟨N, hN⟩ : ∃ N, N = nmV c := ⟨_, rfl⟩
    have hNs : N.size ≤ 5 := by rw [hN]; exact nmV_size c
    have HT := Lib.hid hT
    have HA := Lib.hid hA
    have HN := Lib.hid hN
    have HTS := Lib.hid hTs
    have HAS := Lib.hid hAs
    have HNS := Lib.hid hNs
    have HN0 := Lib.hid (show -9223372036854775808 ≤ n by omega)
    have HN1 := Lib.hid (show n ≤ 9223372036854775807 by omega)
    have key : k = 0 ∨ k = 1 ∨ k = 10 ∨ k = 3 ∨ k = 4 ∨ k = 5 ∨ k = 9 ∨ k = 6 ∨ k = 7 ∨ k = 8 ∨ k = 2 := by omega
    clear hT hA hN hTs hAs hNs k0 k1 n0 n3
    rcases key with rfl | rfl | rfl | rfl | rfl | rfl | rfl | rfl | rfl | rfl | rfl
    case inl | inr.inl | inr.inr.inl =>
      all_goals
        go_wp2
        go_ret
        exact ⟨ret_tx HR2.out.symm, HB.out⟩
    case inr.inr.inr.inl =>
      have hadd := fun (w : World) => run_string_add_sum (P := Tryd.prog) w ⟨#[109, 111, 58]⟩ T (by have := HTS.out; have h1 : (⟨#[109, 111, 58]⟩ : ByteArray).size = 3 := rfl; omega)
      go_wp2_with fail
      refine (specFormatInt_any n _ HN0.out HN1.out).mono ?_
      rw [← HT.out]
      rintro e w2 ⟨rfl, hb⟩
      have HB2 := Lib.hid (HB.out.trans (hb.mono HB.out.size))
      clear hb
      go_wp2
      go_ret
      exact ⟨ret_tx (by rw [HR2.out, HT.out]; rfl), HB2.out⟩
    case inr.inr.inr.inr.inl =>
      have hadd := fun (w : World) => run_string_add_sum (P := Tryd.prog) w ⟨#[116, 103, 58]⟩ T (by have := HTS.out; have h1 : (⟨#[116, 103, 58]⟩ : ByteArray).size = 3 := rfl; omega)
      go_wp2_with fail
      refine (specFormatInt_any n _ HN0.out HN1.out).mono ?_
      rw [← HT.out]
      rintro e w2 ⟨rfl, hb⟩
      have HB2 := Lib.hid (HB.out.trans (hb.mono HB.out.size))
      clear hb
      go_wp2
      go_ret
      exact ⟨ret_tx (by rw [HR2.out, HT.out]; rfl), HB2.out⟩
    case inr.inr.inr.inr.inr.inl =>
      have hadd := fun (w : World) => run_string_add_sum (P := Tryd.prog) w ⟨#[116, 111, 58]⟩ T (by have := HTS.out; have h1 : (⟨#[116, 111, 58]⟩ : ByteArray).size = 3 := rfl; omega)
      go_wp2_with fail
      refine (specFormatInt_any n _ HN0.out HN1.out).mono ?_
      rw [← HT.out]
      rintro e w2 ⟨rfl, hb⟩
      have HB2 := Lib.hid (HB.out.trans (hb.mono HB.out.size))
      clear hb
      go_wp2
      go_ret
      exact ⟨ret_tx (by rw [HR2.out, HT.out]; rfl), HB2.out⟩
    case inr.inr.inr.inr.inr.inr.inl =>
      have hadd := fun (w : World) => run_string_add_sum (P := Tryd.prog) w ⟨#[109, 97, 99, 114, 111, 58]⟩ T (by have := HTS.out; have h1 : (⟨#[109, 97, 99, 114, 111, 58]⟩ : ByteArray).size = 6 := rfl; omega)
      go_wp2_with fail
      refine (specFormatInt_any n _ HN0.out HN1.out).mono ?_
      rw [← HT.out]
      rintro e w2 ⟨rfl, hb⟩
      have HB2 := Lib.hid (HB.out.trans (hb.mono HB.out.size))
      clear hb
      go_wp2
      go_ret
      exact ⟨ret_tx (by rw [HR2.out, HT.out]; rfl), HB2.out⟩
    case inr.inr.inr.inr.inr.inr.inr.inl =>
      have hs : (⟨#[47]⟩ : ByteArray).size = 1 := rfl
      have hadd1 := fun (w : World) => run_string_add_sum (P := Tryd.prog) w A ⟨#[47]⟩ (by have := HAS.out; omega)
      have hadd2 := fun (w : World) => run_string_add_sum (P := Tryd.prog) w (A ++ ⟨#[47]⟩) N (by have := HAS.out; have := HNS.out; rw [ByteArray.size_append]; omega)
      clear hs
      go_wp2_with fail
      go_region_held3 (fun w' => w'.cell? ⟨w.heap.size, 1, none⟩ = some (.int .i64 c) ∧ w'.cell? ⟨w.heap.size, 2, none⟩ = some (.int .i64 m) ∧ w'.cell? ⟨w.heap.size, 3, none⟩ = some (.int .i64 n)) (first | go_keep)
        (first
          | (go_at_call 70; refine (specFormatMods_any m _).mono ?_; rw [← HA.out]; rintro e w5 ⟨rfl, hb5⟩; have hy5 : Below w1.heap.size w1 w5 := ((Below.refl _ _).drew).trans hb5; have k1 := (hy5.cell (p := ⟨w.heap.size, 1, none⟩) HS.out).trans c1; have k2 := (hy5.cell (p := ⟨w.heap.size, 2, none⟩) HS.out).trans c2; have k3 := (hy5.cell (p := ⟨w.heap.size, 3, none⟩) HS.out).trans c3; clear hb5)
          | (go_at_call 71; refine (specCodeName_any c _).mono ?_; rw [← HN.out]; rintro e w6 ⟨rfl, hb6⟩; have hy6 : Below w1.heap.size w1 w6 := hy5.trans (hb6.mono hy5.size); have m1 := (hy6.cell (p := ⟨w.heap.size, 1, none⟩) HS.out).trans c1; have m2 := (hy6.cell (p := ⟨w.heap.size, 2, none⟩) HS.out).trans c2; have m3 := (hy6.cell (p := ⟨w.heap.size, 3, none⟩) HS.out).trans c3; clear hb6))
      all_goals
        go_wp2
        go_ret
        exact ⟨ret_tx (by rw [HR2.out, HA.out, HN.out]; rfl), HB.out.trans (hy6.mono HB.out.size)⟩
    case inr.inr.inr.inr.inr.inr.inr.inr.inl =>
      have hs : (⟨#[47]⟩ : ByteArray).size = 1 := rfl
      have hadd1 := fun (w : World) => run_string_add_sum (P := Tryd.prog) w T ⟨#[47]⟩ (by have := HTS.out; omega)
      have hadd2 := fun (w : World) => run_string_add_sum (P := Tryd.prog) w (T ++ ⟨#[47]⟩) N (by have := HTS.out; have := HNS.out; rw [ByteArray.size_append]; omega)
      clear hs
      go_wp2_with fail
      go_region_held3 (fun w' => w'.cell? ⟨w.heap.size, 1, none⟩ = some (.int .i64 c) ∧ w'.cell? ⟨w.heap.size, 2, none⟩ = some (.int .i64 m) ∧ w'.cell? ⟨w.heap.size, 3, none⟩ = some (.int .i64 n)) (first | go_keep)
        (first
          | (go_at_call 69; refine (specFormatInt_any n _ HN0.out HN1.out).mono ?_; rw [← HT.out]; rintro e w5 ⟨rfl, hb5⟩; have hy5 : Below w1.heap.size w1 w5 := ((Below.refl _ _).drew).trans hb5; have k1 := (hy5.cell (p := ⟨w.heap.size, 1, none⟩) HS.out).trans c1; have k2 := (hy5.cell (p := ⟨w.heap.size, 2, none⟩) HS.out).trans c2; have k3 := (hy5.cell (p := ⟨w.heap.size, 3, none⟩) HS.out).trans c3; clear hb5)
          | (go_at_call 71; refine (specCodeName_any c _).mono ?_; rw [← HN.out]; rintro e w6 ⟨rfl, hb6⟩; have hy6 : Below w1.heap.size w1 w6 := hy5.trans (hb6.mono hy5.size); have m1 := (hy6.cell (p := ⟨w.heap.size, 1, none⟩) HS.out).trans c1; have m2 := (hy6.cell (p := ⟨w.heap.size, 2, none⟩) HS.out).trans c2; have m3 := (hy6.cell (p := ⟨w.heap.size, 3, none⟩) HS.out).trans c3; clear hb6))
      all_goals
        go_wp2
        go_ret
        exact ⟨ret_tx (by rw [HR2.out, HT.out, HN.out]; rfl), HB.out.trans (hy6.mono HB.out.size)⟩
    case inr.inr.inr.inr.inr.inr.inr.inr.inr.inl =>
      have hadd := fun (w : World) => run_string_add_sum (P := Tryd.prog) w ⟨#[111, 110, 99, 101, 58]⟩ A (by have := HAS.out; have h1 : (⟨#[111, 110, 99, 101, 58]⟩ : ByteArray).size = 5 := rfl; omega)
      go_wp2_with fail
      refine (specFormatMods_any m _).mono ?_
      rw [← HA.out]
      rintro e w2 ⟨rfl, hb⟩
      have HB2 := Lib.hid (HB.out.trans (hb.mono HB.out.size))
      clear hb
      go_wp2
      go_ret
      exact ⟨ret_tx (by rw [HR2.out, HA.out]; rfl), HB2.out⟩
    case inr.inr.inr.inr.inr.inr.inr.inr.inr.inr =>
      by_cases hm : m = 0
      · have HR3 := Lib.hid (show r = nmV c by rw [HR2.out]; exact if_pos hm)
        go_wp2_with fail
        refine (specCodeName_any c _).mono ?_
        rw [← HN.out]
        rintro e w3 ⟨rfl, hb⟩
        have HB3 := Lib.hid (HB.out.trans (hb.mono HB.out.size))
        clear hb
        go_wp2
        go_ret
        exact ⟨ret_tx (by rw [HR3.out, HN.out]), HB3.out⟩
      · skip
        have hs : (⟨#[45]⟩ : ByteArray).size = 1 := rfl
        have hadd1 := fun (w : World) => run_string_add_sum (P := Tryd.prog) w A ⟨#[45]⟩ (by have := HAS.out; omega)
        have hadd2 := fun (w : World) => run_string_add_sum (P := Tryd.prog) w (A ++ ⟨#[45]⟩) N (by have := HAS.out; have := HNS.out; rw [ByteArray.size_append]; omega)
        clear hs
        go_wp2_with fail
        go_region_held3 (fun w' => w'.cell? ⟨w.heap.size, 1, none⟩ = some (.int .i64 c) ∧ w'.cell? ⟨w.heap.size, 2, none⟩ = some (.int .i64 m) ∧ w'.cell? ⟨w.heap.size, 3, none⟩ = some (.int .i64 n)) (first | go_keep)
          (first
            | (go_at_call 70; refine (specFormatMods_any m _).mono ?_; rw [← HA.out]; rintro e w5 ⟨rfl, hb5⟩; have hy5 : Below w1.heap.size w1 w5 := ((Below.refl _ _).drew).trans hb5; have k1 := (hy5.cell (p := ⟨w.heap.size, 1, none⟩) HS.out).trans c1; have k2 := (hy5.cell (p := ⟨w.heap.size, 2, none⟩) HS.out).trans c2; have k3 := (hy5.cell (p := ⟨w.heap.size, 3, none⟩) HS.out).trans c3; clear hb5)
            | (go_at_call 71; refine (specCodeName_any c _).mono ?_; rw [← HN.out]; rintro e w6 ⟨rfl, hb6⟩; have hy6 : Below w1.heap.size w1 w6 := hy5.trans (hb6.mono hy5.size); have m1 := (hy6.cell (p := ⟨w.heap.size, 1, none⟩) HS.out).trans c1; have m2 := (hy6.cell (p := ⟨w.heap.size, 2, none⟩) HS.out).trans c2; have m3 := (hy6.cell (p := ⟨w.heap.size, 3, none⟩) HS.out).trans c3; clear hb6))
        all_goals
          go_wp2
          go_ret
          exact ⟨ret_tx (by rw [HR2.out, HA.out, HN.out]; exact (if_neg hm).symm), HB.out.trans (hy6.mono HB.out.size)⟩
end Go.Proofs.YtnfnhbldphiohaaDoor

namespace Go.Proofs.YtnfnhbldphiohaaDoor
open Go.RowKit

abbrev sMo : ByteArray := ⟨#[109, 111]⟩
abbrev sTg : ByteArray := ⟨#[116, 103]⟩
abbrev sTo : ByteArray := ⟨#[116, 111]⟩
abbrev sMacro : ByteArray := ⟨#[109, 97, 99, 114, 111]⟩
/-- An action with a part before a sign. -/
def leftV (k : Int) (l r : ByteArray) : Ac :=
  if l = sMo then ⟨3, 0, 0, pval r⟩ else if l = sTg then ⟨4, 0, 0, pval r⟩ else if l = sTo then ⟨5, 0, 0, pval r⟩ else if l = sMacro then ⟨9, 0, 0, pval r⟩ else ⟨k, 0, pmV r, 0⟩

theorem specParseInt_n (s : ByteArray) (n : Int) (b : Bool) (hn : n = pval s) (hb : b = okI s) (w : World) (hl : s.size ≤ 1048576) :
    Calls Tryd.prog 87 #[.string s] w fun e w' => e = .returned (.tuple #[.int .i64 n, .bool b]) ∧ Below w.heap.size w w' := by
  rw [hn, hb]; exact specParseInt_any s w hl

set_option maxRecDepth 100000 in
set_option maxHeartbeats 4000000 in
theorem specLeft_any (k : Int) (l r : ByteArray) (w : World) (hl : r.size ≤ 1048576) : Calls Tryd.prog 86 #[.int .i64 k, .string l, .string r] w fun e w' => e = .returned (acv (leftV k l r).k (leftV k l r).c (leftV k l r).m (leftV k l r).n) ∧ Below w.heap.size w w' := by
  obtain ⟨z, hz⟩ : ∃ z, z = leftV k l r := ⟨_, rfl⟩
  obtain ⟨n, hn⟩ : ∃ n, n = pval r := ⟨_, rfl⟩
  obtain ⟨b, hb⟩ : ∃ b, b = okI r := ⟨_, rfl⟩
  have hz2 := hz
  rw [leftV, ← hn] at hz2
  rw [← hz]
  have HN := Lib.hid hn
  have HOK := Lib.hid hb
  have HZ := Lib.hid hz2
  clear hz hz2 hn hb
  obtain ⟨V, hV⟩ : ∃ V, V = w.alloc (.cells #[.int .i64 0, .int .i64 0, .int .i64 0, .int .i64 0] 67) := ⟨_, rfl⟩
  have HG0 := Lib.hid (show V.heap[w.heap.size]? = some (.cells #[.int .i64 0, .int .i64 0, .int .i64 0, .int .i64 0] 67 (0, 0)) by rw [hV]; exact heap_alloc_new w _)
  have HB0 := Lib.hid (show Below w.heap.size w V by rw [hV]; exact (Below.refl _ _).alloc (Nat.le_refl _) _)
  have HS0 := Lib.hid (show w.heap.size < V.heap.size by rw [hV]; simp)
  have HV2 := Lib.hid hV
  clear hV
  go_enter Tryd.func86, Tryd.ntmps86
  go_wp2_with fail
  rw [← HV2.out]
  refine (specParseInt_n r n b HN.out HOK.out _ hl).mono ?_
  rintro e w1 ⟨rfl, hb⟩
  have HB := Lib.hid (HB0.out.trans (hb.mono HB0.out.size))
  have HG1 := Lib.hid ((hb.block _ HS0.out).trans HG0.out)
  have HS1 := Lib.hid (Nat.lt_of_lt_of_le HS0.out hb.size)
  clear hb
  obtain ⟨y0, q0⟩ := cells_of_heap HG1.out 0 (by simp)
  obtain ⟨y1, q1⟩ := cells_of_heap HG1.out 1 (by simp)
  obtain ⟨y2, q2⟩ := cells_of_heap HG1.out 2 (by simp)
  obtain ⟨y3, q3⟩ := cells_of_heap HG1.out 3 (by simp)
  by_cases h1 : l = sMo
  · have hz : z = ⟨3, 0, 0, n⟩ := by rw [HZ.out, if_pos h1]
    subst hz h1
    go_wp2
    clear y0 y1 y2 y3 q0 q1 q2 q3
    obtain ⟨wf, hwf⟩ : ∃ x, x = putW (w1) (w.heap.size) 0 [.int .i64 3, .int .i64 0, .int .i64 0, .int .i64 n] := ⟨_, rfl⟩
    have kf := putW_all [.int .i64 3, .int .i64 0, .int .i64 0, .int .i64 n] HG1.out rfl
    have bf := putW_below (b := w.heap.size) (by simp) [.int .i64 3, .int .i64 0, .int .i64 0, .int .i64 n] 0 _ HB.out
    rw [← hwf] at kf bf
    have cf := hwf.symm
    simp only [putW, Nat.reduceAdd] at cf
    rw [cf]
    clear cf hwf
    have f0 := (cells_of_heap kf 0 (by simp)).1
    have f1 := (cells_of_heap kf 1 (by simp)).1
    have f2 := (cells_of_heap kf 2 (by simp)).1
    have f3 := (cells_of_heap kf 3 (by simp)).1
    simp only [List.getElem_toArray, List.getElem_cons_zero, List.getElem_cons_succ] at f0 f1 f2 f3
    refine bodyPost_ret (v := acv 3 0 0 n) (by simp [results, Tryd.results86, go_sem, f0, f1, f2, f3]) rfl ⟨rfl, bf⟩
  · skip
    by_cases h2 : l = sTg
    · have hz : z = ⟨4, 0, 0, n⟩ := by rw [HZ.out, if_neg h1, if_pos h2]
      subst hz h2
      have e1 := lit_ne [109, 111] h1
      go_wp2
      clear y0 y1 y2 y3 q0 q1 q2 q3
      obtain ⟨wf, hwf⟩ : ∃ x, x = putW (w1) (w.heap.size) 0 [.int .i64 4, .int .i64 0, .int .i64 0, .int .i64 n] := ⟨_, rfl⟩
      have kf := putW_all [.int .i64 4, .int .i64 0, .int .i64 0, .int .i64 n] HG1.out rfl
      have bf := putW_below (b := w.heap.size) (by simp) [.int .i64 4, .int .i64 0, .int .i64 0, .int .i64 n] 0 _ HB.out
      rw [← hwf] at kf bf
      have cf := hwf.symm
      simp only [putW, Nat.reduceAdd] at cf
      rw [cf]
      clear cf hwf
      have f0 := (cells_of_heap kf 0 (by simp)).1
      have f1 := (cells_of_heap kf 1 (by simp)).1
      have f2 := (cells_of_heap kf 2 (by simp)).1
      have f3 := (cells_of_heap kf 3 (by simp)).1
      simp only [List.getElem_toArray, List.getElem_cons_zero, List.getElem_cons_succ] at f0 f1 f2 f3
      refine bodyPost_ret (v := acv 4 0 0 n) (by simp [results, Tryd.results86, go_sem, f0, f1, f2, f3]) rfl ⟨rfl, bf⟩
    · skip
      by_cases h3 : l = sTo
      · have hz : z = ⟨5, 0, 0, n⟩ := by rw [HZ.out, if_neg h1, if_neg h2, if_pos h3]
        subst hz h3
        have e1 := lit_ne [109, 111] h1
        have e2 := lit_ne [116, 103] h2
        go_wp2
        clear y0 y1 y2 y3 q0 q1 q2 q3
        obtain ⟨wf, hwf⟩ : ∃ x, x = putW (w1) (w.heap.size) 0 [.int .i64 5, .int .i64 0, .int .i64 0, .int .i64 n] := ⟨_, rfl⟩
        have kf := putW_all [.int .i64 5, .int .i64 0, .int .i64 0, .int .i64 n] HG1.out rfl
        have bf := putW_below (b := w.heap.size) (by simp) [.int .i64 5, .int .i64 0, .int .i64 0, .int .i64 n] 0 _ HB.out
        rw [← hwf] at kf bf
        have cf := hwf.symm
        simp only [putW, Nat.reduceAdd] at cf
        rw [cf]
        clear cf hwf
        have f0 := (cells_of_heap kf 0 (by simp)).1
        have f1 := (cells_of_heap kf 1 (by simp)).1
        have f2 := (cells_of_heap kf 2 (by simp)).1
        have f3 := (cells_of_heap kf 3 (by simp)).1
        simp only [List.getElem_toArray, List.getElem_cons_zero, List.getElem_cons_succ] at f0 f1 f2 f3
        refine bodyPost_ret (v := acv 5 0 0 n) (by simp [results, Tryd.results86, go_sem, f0, f1, f2, f3]) rfl ⟨rfl, bf⟩
      · skip
        by_cases h4 : l = sMacro
        · have hz : z = ⟨9, 0, 0, n⟩ := by rw [HZ.out, if_neg h1, if_neg h2, if_neg h3, if_pos h4]
          subst hz h4
          have e1 := lit_ne [109, 111] h1
          have e2 := lit_ne [116, 103] h2
          have e3 := lit_ne [116, 111] h3
          go_wp2
          clear y0 y1 y2 y3 q0 q1 q2 q3
          obtain ⟨wf, hwf⟩ : ∃ x, x = putW (w1) (w.heap.size) 0 [.int .i64 9, .int .i64 0, .int .i64 0, .int .i64 n] := ⟨_, rfl⟩
          have kf := putW_all [.int .i64 9, .int .i64 0, .int .i64 0, .int .i64 n] HG1.out rfl
          have bf := putW_below (b := w.heap.size) (by simp) [.int .i64 9, .int .i64 0, .int .i64 0, .int .i64 n] 0 _ HB.out
          rw [← hwf] at kf bf
          have cf := hwf.symm
          simp only [putW, Nat.reduceAdd] at cf
          rw [cf]
          clear cf hwf
          have f0 := (cells_of_heap kf 0 (by simp)).1
          have f1 := (cells_of_heap kf 1 (by simp)).1
          have f2 := (cells_of_heap kf 2 (by simp)).1
          have f3 := (cells_of_heap kf 3 (by simp)).1
          simp only [List.getElem_toArray, List.getElem_cons_zero, List.getElem_cons_succ] at f0 f1 f2 f3
          refine bodyPost_ret (v := acv 9 0 0 n) (by simp [results, Tryd.results86, go_sem, f0, f1, f2, f3]) rfl ⟨rfl, bf⟩
        · skip
          obtain ⟨M, hM⟩ : ∃ M, M = pmV r := ⟨_, rfl⟩
          have hz : z = ⟨k, 0, M, 0⟩ := by rw [HZ.out, if_neg h1, if_neg h2, if_neg h3, if_neg h4, hM]
          subst hz
          have HM := Lib.hid hM
          clear hM
          have e1 := lit_ne [109, 111] h1
          have e2 := lit_ne [116, 103] h2
          have e3 := lit_ne [116, 111] h3
          have e4 := lit_ne [109, 97, 99, 114, 111] h4
          clear h1 h2 h3 h4
          go_wp2_with fail
          refine (specParseMods_any r _).mono ?_
          rw [← HM.out]
          rintro e w2 ⟨rfl, hb⟩
          have HB2 := Lib.hid (HB.out.trans (hb.mono HB.out.size))
          have HG2 := Lib.hid ((hb.block _ HS1.out).trans HG1.out)
          clear hb y0 y1 y2 y3 q0 q1 q2 q3
          obtain ⟨y0, q0⟩ := cells_of_heap HG2.out 0 (by simp)
          obtain ⟨y1, q1⟩ := cells_of_heap HG2.out 1 (by simp)
          obtain ⟨y2, q2⟩ := cells_of_heap HG2.out 2 (by simp)
          obtain ⟨y3, q3⟩ := cells_of_heap HG2.out 3 (by simp)
          go_wp2
          clear y0 y1 y2 y3 q0 q1 q2 q3
          obtain ⟨wf, hwf⟩ : ∃ x, x = putW (w2) (w.heap.size) 0 [.int .i64 k, .int .i64 0, .int .i64 M, .int .i64 0] := ⟨_, rfl⟩
          have kf := putW_all [.int .i64 k, .int .i64 0, .int .i64 M, .int .i64 0] HG2.out rfl
          have bf := putW_below (b := w.heap.size) (by simp) [.int .i64 k, .int .i64 0, .int .i64 M, .int .i64 0] 0 _ HB2.out
          rw [← hwf] at kf bf
          have cf := hwf.symm
          simp only [putW, Nat.reduceAdd] at cf
          rw [cf]
          clear cf hwf
          have f0 := (cells_of_heap kf 0 (by simp)).1
          have f1 := (cells_of_heap kf 1 (by simp)).1
          have f2 := (cells_of_heap kf 2 (by simp)).1
          have f3 := (cells_of_heap kf 3 (by simp)).1
          simp only [List.getElem_toArray, List.getElem_cons_zero, List.getElem_cons_succ] at f0 f1 f2 f3
          refine bodyPost_ret (v := acv k 0 M 0) (by simp [results, Tryd.results86, go_sem, f0, f1, f2, f3]) rfl ⟨rfl, bf⟩

end Go.Proofs.YtnfnhbldphiohaaDoor
