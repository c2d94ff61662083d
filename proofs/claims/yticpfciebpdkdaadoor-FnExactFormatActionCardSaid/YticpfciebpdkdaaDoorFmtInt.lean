/- DERIVED. FormatInt, the program's and the reference's: every int's decimal numeral. The program's: where the library's table of powers of ten is as its text lays it. -/
import Derived.Test.YticpfciebpdkdaaDoorNum
import Derived.Test.YticpfciebpdkdaaDoorItoaShelf
namespace Go.Proofs.YticpfciebpdkdaaDoor
open Go.RowKit

def itoaText (n : Int) : ByteArray := ⟨(Lib.itoa n).toArray⟩

theorem decDigits_eq (k : Nat) : 0 < k → (Lib.decDigits k).map (fun c => (c.toNat : Int)) = decs k := by
  induction k using Nat.strongRecOn with
  | _ k ih =>
    intro h
    rw [Lib.decDigits, decs_pos h]
    by_cases h10 : k < 10
    · rw [dif_pos h10, show k / 10 = 0 from by omega, decs_zero]
      have : (UInt8.ofNat (48 + k)).toNat = 48 + k := by simp; omega
      simp only [List.map_cons, List.map_nil, this, List.nil_append]
      congr 1
      omega
    · rw [dif_neg h10, List.map_append, ih (k / 10) (by omega) (by omega)]
      have : (UInt8.ofNat (48 + k % 10)).toNat = 48 + k % 10 := by simp; omega
      simp only [List.map_cons, List.map_nil, this]
      congr 2
theorem strOfNums_map (l : List UInt8) : strOfNums (l.map fun c => (c.toNat : Int)) = ⟨l.toArray⟩ := by
  unfold strOfNums
  congr 2
  rw [List.map_map]
  conv => rhs; rw [← List.map_id l]
  apply List.map_congr_left
  intro c _
  simp
theorem itoa_pos {n : Nat} (h : 0 < n) : itoaText n = strOfNums (decs n) := by
  rw [← decDigits_eq n h, strOfNums_map, itoaText, Lib.itoa, if_neg (by omega)]
  rfl
theorem itoa_neg {n : Nat} (h : 0 < n) : itoaText (-(n : Int)) = strOfNums (45 :: decs n) := by
  have : (45 : Int) :: decs n = (45 :: Lib.decDigits n).map (fun c => (c.toNat : Int)) := by rw [List.map_cons, decDigits_eq n h]; rfl
  rw [this, strOfNums_map, itoaText, Lib.itoa, if_pos (by omega)]
  simp

theorem below_grow (w : World) (os : Array Obj) : Below w.heap.size w (Go.Sort.grow w os) :=
  ⟨rfl, rfl, rfl, by simp [Go.Sort.grow], fun k hk => by simp [Go.Sort.grow, Array.getElem?_append, hk]⟩

/-- A table of the library's stands as long as what was there stands. -/
theorem tab_below {P : Program} {w w' : World} {name : String} {k : IntKind} {zs : List Int} (h : Lib.TabIs P w name k zs) (hb : Below w.heap.size w w') : Lib.TabIs P w' name k zs := by
  unfold Lib.TabIs World.var? at h ⊢
  cases hg : P.globalNamed name with
  | none => rw [hg] at h; cases h
  | some g =>
    rw [hg] at h
    simp only [Option.bind_some] at h ⊢
    have hlt : g < w.heap.size := by
      rcases Nat.lt_or_ge g w.heap.size with h' | h'
      · exact h'
      · rw [Array.getElem?_eq_none h'] at h; cases h
    rw [hb.block g hlt]
    exact h

theorem implFormatInt_any (n : Int) (h0 : -9223372036854775808 ≤ n) (h1 : n ≤ 9223372036854775807) (w : World) (htab : Lib.TabIs Tryd.prog w "internal/strconv.uint64pow10" .u64 Lib.pow10Tab) :
    Calls Tryd.prog 26 #[.int .i64 n] w fun e w' => e = .returned (.string (itoaText n)) ∧ Below w.heap.size w w' := by
  have HT := Lib.hid htab
  have HA := Lib.hid h0
  have HB := Lib.hid h1
  clear htab h0 h1
  go_enter Tryd.func26, Tryd.ntmps26
  go_wp2_with fail
  refine (itoa_any n HA.out HB.out _ HT.out).mono ?_
  rintro e w' ⟨rfl, k, os, rfl⟩
  go_wp2
  go_ret
  exact ⟨rfl, (below_drewN (Below.refl _ _) k).trans (below_grow (w.drewN k) os)⟩

set_option maxHeartbeats 400000 in
theorem specFormatInt_pos (n : Nat) (w : World) (h0 : 0 < n) (h1 : n ≤ 9223372036854775808) (h2 : (n : Int) ≤ 9223372036854775807) :
    Calls Tryd.prog 21 #[.int .i64 n] w fun e w' => e = .returned (.string (itoaText n)) ∧ Below w.heap.size w w' := by
  have hlen := decs_len10 20 n (by omega)
  have HI := Lib.hid (itoa_pos h0)
  have e0 : ((n : Int) == 0) = false := by simp; omega
  have e1 : ((n : Int) != 0) = true := by simp; omega
  have HH := Lib.hid h1
  clear h1
  go_enter Tryd.func21, Tryd.ntmps21
  go_wp2
  go_loopw [3, 4] (fun o c wr => ∃ (m : Nat) (l : List Int), c = .int .i64 m ∧ m ≤ n ∧ o = .string (strOfNums l) ∧ decs n = decs m ++ l ∧ Below w.heap.size w wr)
    (fun _ c _ => (intOf c).toNat)
  case atStart => exact ⟨n, [], rfl, Nat.le_refl _, rfl, by simp, Below.refl _ _⟩
  case round =>
    obtain ⟨m, l, rfl, hmk, rfl, hd, hb⟩ := hrel
    have hll : l.length ≤ 20 := by rw [hd] at hlen; simp at hlen; omega
    have HD := Lib.hid hd
    have HB := Lib.hid hb
    have hle : w.heap.size ≤ wr.heap.size := hb.size
    clear hd hb
    by_cases hm : 0 < m
    · have hm1 : (0 : Int) < m := by omega
      have g0 : ((m : Int) == 0) = false := by simp; omega
      have g1 : ((m : Int) != 0) = true := by simp; omega
      have g2 : ¬ (m : Int) % 10 < 0 := by omega
      have hcv := conv_owned (P := Tryd.prog) (src := 46) (dst := 9) (w := wr.alloc (.cells #[.int .u8 (48 + (m : Int) % 10)] 5)) (base := wr.heap.size) (v := .slice (some ⟨wr.heap.size, 0, none⟩) 1 1) (n := 1) (ns := [48 + (m : Int) % 10]) Tryd.underlying46 Tryd.underlying5 Tryd.underlying9 (World.ownsRow_lit wr #[.int .u8 (48 + (m : Int) % 10)] 1 (Nat.le_refl _) (by simp [maxLen]) rfl)
      have hadd := fun (w : World) => run_string_add_sum (P := Tryd.prog) w (strOfNums [48 + (m : Int) % 10]) (strOfNums l) (by rw [strOfNums_size, strOfNums_size]; simp; omega)
      simp only [strOfNums_append] at hadd
      go_wp2
      go_roundw
      case rel =>
        refine ⟨m / 10, (48 + (m : Int) % 10) :: l, by go_num, by omega, rfl, ?_, HB.out.alloc hle _⟩
        rw [HD.out, decs_pos hm]
        simp
      case measure => simp [intOf]; omega
    · obtain rfl : m = 0 := by omega
      have HR := Lib.hid (show strOfNums l = itoaText n from by
        have e := HD.out
        rw [decs_zero, List.nil_append] at e
        rw [HI.out, e])
      go_wp2
      go_ret
      exact ⟨by rw [← HR.out]; rfl, HB.out⟩

set_option maxHeartbeats 400000 in
theorem specFormatInt_neg (n : Nat) (w : World) (h0 : 0 < n) (h1 : n ≤ 9223372036854775808) :
    Calls Tryd.prog 21 #[.int .i64 (-(n : Int))] w fun e w' => e = .returned (.string (itoaText (-(n : Int)))) ∧ Below w.heap.size w w' := by
  have hlen := decs_len10 20 n (by omega)
  have HI := Lib.hid (itoa_neg h0)
  obtain ⟨q, hq⟩ : ∃ q : Int, q = -(n : Int) := ⟨_, rfl⟩
  rw [← hq] at HI ⊢
  have e0 : (q == 0) = false := by simp; omega
  have e1 : (q != 0) = true := by simp; omega
  have e2 : q < 0 := by omega
  have HQ := Lib.hid hq
  have HH := Lib.hid h1
  clear h1 hq
  go_enter Tryd.func21, Tryd.ntmps21
  go_wp2
  go_loopw [3, 4] (fun o c wr => ∃ (m : Nat) (l : List Int) (x : Int), c = .int .i64 x ∧ x = -(m : Int) ∧ m ≤ n ∧ o = .string (strOfNums l) ∧ decs n = decs m ++ l ∧ Below w.heap.size w wr)
    (fun _ c _ => (-(intOf c)).toNat)
  case atStart => exact ⟨n, [], q, rfl, HQ.out, Nat.le_refl _, rfl, by simp, Below.refl _ _⟩
  case round =>
    obtain ⟨m, l, x, rfl, hx, hmk, rfl, hd, hb⟩ := hrel
    have hll : l.length ≤ 20 := by rw [hd] at hlen; simp at hlen; omega
    have HD := Lib.hid hd
    have HB := Lib.hid hb
    have HX := Lib.hid hx
    have hle : w.heap.size ≤ wr.heap.size := hb.size
    clear hd hb
    by_cases hm : 0 < m
    · have hm1 : x < 0 := by omega
      have g0 : (x == 0) = false := by simp; omega
      have g1 : (x != 0) = true := by simp; omega
      have t2 : x.tdiv 10 = -((m : Int) / 10) := by rw [hx, Int.neg_tdiv, Int.tdiv_eq_ediv_of_nonneg (by omega)]
      have t3 : wrap64 (-((m : Int) / 10)) = -((m : Int) / 10) := by have := HH.out; exact IntWalk.wrap64_in _ ⟨by omega, by omega⟩
      by_cases hd0 : (m : Int) % 10 = 0
      · have t1 : x.tmod 10 = 0 := by rw [hx, Int.neg_tmod, Int.tmod_eq_emod_of_nonneg (by omega), hd0]; rfl
        have hcv := conv_owned (P := Tryd.prog) (src := 46) (dst := 9) (w := wr.alloc (.cells #[.int .u8 (48)] 5)) (base := wr.heap.size) (v := .slice (some ⟨wr.heap.size, 0, none⟩) 1 1) (n := 1) (ns := [48]) Tryd.underlying46 Tryd.underlying5 Tryd.underlying9 (World.ownsRow_lit wr #[.int .u8 (48)] 1 (Nat.le_refl _) (by simp [maxLen]) rfl)
        have hadd := fun (w : World) => run_string_add_sum (P := Tryd.prog) w (strOfNums [48]) (strOfNums l) (by rw [strOfNums_size, strOfNums_size]; simp; omega)
        simp only [strOfNums_append] at hadd
        have HM := Lib.hid hd0
        clear hx hd0
        go_wp2
        go_roundw
        case rel =>
          refine ⟨m / 10, 48 :: l, -((m : Int) / 10), by rw [t3], by omega, by omega, rfl, ?_, HB.out.alloc hle _⟩
          rw [HD.out, decs_pos hm, HM.out]
          simp
        case measure => have := HX.out; rw [t3]; simp [intOf]; omega
      · have t1 : x.tmod 10 = -((m : Int) % 10) := by rw [hx, Int.neg_tmod, Int.tmod_eq_emod_of_nonneg (by omega)]
        have g2 : -((m : Int) % 10) < 0 := by omega
        have g3 : 0 < (m : Int) % 10 := by omega
        have hcv := conv_owned (P := Tryd.prog) (src := 46) (dst := 9) (w := wr.alloc (.cells #[.int .u8 (48 + (m : Int) % 10)] 5)) (base := wr.heap.size) (v := .slice (some ⟨wr.heap.size, 0, none⟩) 1 1) (n := 1) (ns := [48 + (m : Int) % 10]) Tryd.underlying46 Tryd.underlying5 Tryd.underlying9 (World.ownsRow_lit wr #[.int .u8 (48 + (m : Int) % 10)] 1 (Nat.le_refl _) (by simp [maxLen]) rfl)
        have hadd := fun (w : World) => run_string_add_sum (P := Tryd.prog) w (strOfNums [48 + (m : Int) % 10]) (strOfNums l) (by rw [strOfNums_size, strOfNums_size]; simp; omega)
        simp only [strOfNums_append] at hadd
        clear hx hd0
        go_wp2
        go_roundw
        case rel =>
          refine ⟨m / 10, (48 + (m : Int) % 10) :: l, -((m : Int) / 10), by rw [t3], by omega, by omega, rfl, ?_, HB.out.alloc hle _⟩
          rw [HD.out, decs_pos hm]
          simp
        case measure => have := HX.out; rw [t3]; simp [intOf]; omega
    · obtain rfl : m = 0 := by omega
      obtain rfl : x = 0 := by rw [hx]; rfl
      clear hx
      have hadd := fun (w : World) => run_string_add_sum (P := Tryd.prog) w ⟨#[45]⟩ (strOfNums l) (by rw [strOfNums_size, ByteArray.size_mk']; simp; omega)
      have HR := Lib.hid (show Value.string (⟨#[45]⟩ ++ strOfNums l) = .string (itoaText q) from by
        have e := HD.out
        rw [decs_zero, List.nil_append] at e
        rw [HI.out, e]
        show Value.string (strOfNums [45] ++ strOfNums l) = _
        rw [strOfNums_append]; rfl)
      go_wp2
      go_ret
      exact ⟨by rw [← HR.out]; rfl, HB.out⟩

theorem specFormatInt_zero (w : World) : Calls Tryd.prog 21 #[.int .i64 0] w fun e w' => e = .returned (.string (itoaText 0)) ∧ Below w.heap.size w w' := by
  have h : itoaText 0 = ⟨#[48]⟩ := by simp [itoaText, Lib.itoa, Lib.decDigits]
  rw [h]
  go_enter Tryd.func21, Tryd.ntmps21
  go_wp2
  go_ret
  exact ⟨rfl, Below.refl _ _⟩

theorem specFormatInt_any (n : Int) (w : World) (h0 : -9223372036854775808 ≤ n) (h1 : n ≤ 9223372036854775807) :
    Calls Tryd.prog 21 #[.int .i64 n] w fun e w' => e = .returned (.string (itoaText n)) ∧ Below w.heap.size w w' := by
  by_cases hz : n = 0
  · subst hz; exact specFormatInt_zero w
  · by_cases hp : 0 < n
    · obtain ⟨m, rfl⟩ := Int.eq_ofNat_of_zero_le (by omega : 0 ≤ n)
      exact specFormatInt_pos m w (by omega) (by omega) h1
    · obtain ⟨m, hm⟩ := Int.eq_ofNat_of_zero_le (by omega : 0 ≤ -n)
      obtain rfl : n = -(m : Int) := by omega
      exact specFormatInt_neg m w (by omega) (by omega)

theorem wf_i64 {n : Int} (h : (Lit.int .i64 n).wf = true) : -9223372036854775808 ≤ n ∧ n ≤ 9223372036854775807 := by
  simp [Lit.wf, IntKind.min, IntKind.max, IntKind.signed, IntKind.bits] at h
  omega

end Go.Proofs.YticpfciebpdkdaaDoor
