/- DERIVED. strconv.Itoa at this program: every int's decimal numeral, where the library's table of powers of ten is as its text lays it. (One application of the library's contract; the numbers are this program's.) · FormatInt, the program's and the reference's: every int's decimal numeral. The program's: where the library's table of powers of ten is as its text lays it. · ParseInt, the program's and the reference's: the number whose numeral a text is, if it has at most nine digits. Called with any text of at most 1048576 bytes; the program's: where the library's table of powers of ten is as its text lays it. · The program's ParseInt and the law, called with any text, where the library's table of powers of ten is as its text lays it. -/
import Derived.Shelf.LaysM
import Derived.Shelf.Strconv.Itoa3
import Derived.Test.YtnfnhbldphiohaaDoorProg
import Derived.Test.YtnfnhbldphiohaaDoorText
import Derived.Test.YtnfnhbldphiohaaDoorCore
import Derived.Lib.OthersKept
namespace Go.Proofs.YtnfnhbldphiohaaDoor
open Go.Shelf Go.RowKit
def itoaRen : Go.Shelf.Ren := ⟨fun | 171 => 81 | 243 => 103 | 246 => 108 | 283 => 110 | 284 => 111 | 285 => 112 | 286 => 113 | 129 => 115 | 317 => 114 | 318 => 116 | 319 => 117 | 320 => 118 | 337 => 119 | 338 => 120 | n => n, fun | 3 => 3 | 9 => 9 | 2 => 2 | 4 => 4 | 171 => 138 | 0 => 0 | 53 => 139 | 37 => 22 | 5 => 5 | 173 => 142 | 212 => 145 | 51 => 131 | 20 => 20 | 213 => 146 | 46 => 122 | 232 => 150 | 233 => 151 | n => n, fun | 17 => 3 | 18 => 4 | 19 => 5 | n => n⟩
theorem itoaLays : Go.Proofs.LaysM.n171 Tryd.prog itoaRen := {
  mixed := by kernel_rfl
  f129 := Tryd.func115.trans (congrArg some (by kernel_rfl))
  f171 := Tryd.func81.trans (congrArg some (by kernel_rfl))
  f243 := Tryd.func103.trans (congrArg some (by kernel_rfl))
  f246 := Tryd.func108.trans (congrArg some (by kernel_rfl))
  f283 := Tryd.func110.trans (congrArg some (by kernel_rfl))
  f284 := Tryd.func111.trans (congrArg some (by kernel_rfl))
  f285 := Tryd.func112.trans (congrArg some (by kernel_rfl))
  f286 := Tryd.func113.trans (congrArg some (by kernel_rfl))
  f317 := Tryd.func114.trans (congrArg some (by kernel_rfl))
  f318 := Tryd.func116.trans (congrArg some (by kernel_rfl))
  f319 := Tryd.func117.trans (congrArg some (by kernel_rfl))
  f320 := Tryd.func118.trans (congrArg some (by kernel_rfl))
  f337 := Tryd.func119.trans (congrArg some (by kernel_rfl))
  f338 := Tryd.func120.trans (congrArg some (by kernel_rfl))
  t0 := Tryd.underlying0
  a0 := Tryd.isAgg0
  z0 := Tryd.sizeOf0
  v0 := Tryd.zeroValue0
  t2 := Tryd.underlying2
  a2 := Tryd.isAgg2
  z2 := Tryd.sizeOf2
  v2 := Tryd.zeroValue2
  t3 := Tryd.underlying3
  a3 := Tryd.isAgg3
  z3 := Tryd.sizeOf3
  v3 := Tryd.zeroValue3
  t4 := Tryd.underlying4
  a4 := Tryd.isAgg4
  z4 := Tryd.sizeOf4
  v4 := Tryd.zeroValue4
  t5 := Tryd.underlying5
  a5 := Tryd.isAgg5
  z5 := Tryd.sizeOf5
  v5 := Tryd.zeroValue5
  t9 := Tryd.underlying9
  a9 := Tryd.isAgg9
  z9 := Tryd.sizeOf9
  v9 := Tryd.zeroValue9
  t20 := Tryd.underlying20
  a20 := Tryd.isAgg20
  z20 := Tryd.sizeOf20
  v20 := Tryd.zeroValue20
  t37 := Tryd.underlying22
  a37 := Tryd.isAgg22
  z37 := Tryd.sizeOf22
  v37 := Tryd.zeroValue22
  t46 := Tryd.underlying122
  a46 := Tryd.isAgg122
  z46 := Tryd.sizeOf122
  v46 := Tryd.zeroValue122
  t51 := Tryd.underlying131
  a51 := Tryd.isAgg131
  z51 := Tryd.sizeOf131
  v51 := Tryd.zeroValue131
  t53 := Tryd.underlying139
  a53 := Tryd.isAgg139
  z53 := Tryd.sizeOf139
  v53 := Tryd.zeroValue139
  t171 := Tryd.underlying138
  a171 := Tryd.isAgg138
  z171 := Tryd.sizeOf138
  v171 := Tryd.zeroValue138
  t173 := Tryd.underlying142
  a173 := Tryd.isAgg142
  z173 := Tryd.sizeOf142
  v173 := Tryd.zeroValue142
  t212 := Tryd.underlying145
  a212 := Tryd.isAgg145
  z212 := Tryd.sizeOf145
  v212 := Tryd.zeroValue145
  t213 := Tryd.underlying146
  a213 := Tryd.isAgg146
  z213 := Tryd.sizeOf146
  t232 := Tryd.underlying150
  a232 := Tryd.isAgg150
  z232 := Tryd.sizeOf150
  v232 := Tryd.zeroValue150
  t233 := Tryd.underlying151
  a233 := Tryd.isAgg151
  z233 := Tryd.sizeOf151
  v233 := Tryd.zeroValue151
  g17 := by kernel_rfl
  g18 := by kernel_rfl
  g19 := by kernel_rfl
  i0 := by kernel_rfl
  i2 := by kernel_rfl
  i3 := by kernel_rfl
  i4 := by kernel_rfl
  i5 := by kernel_rfl
  i9 := by kernel_rfl
  i20 := by kernel_rfl
  i37 := by kernel_rfl
  i46 := by kernel_rfl
  i51 := by kernel_rfl
  i53 := by kernel_rfl
  i171 := by kernel_rfl
  i173 := by kernel_rfl
  i212 := by kernel_rfl
  i232 := by kernel_rfl
  i233 := by kernel_rfl
  m17 := by kernel_rfl
  m18 := by kernel_rfl
  m19 := by kernel_rfl }
open Go.RowKit Go.Sort Go.Lib in
theorem itoa_any (n : Int) (h0 : -9223372036854775808 ≤ n) (h1 : n ≤ 9223372036854775807) (w : World) (htab : Lib.TabIs Tryd.prog w "internal/strconv.uint64pow10" .u64 Lib.pow10Tab) :
    Calls Tryd.prog 81 #[.int .i64 n] w fun e w' => e = .returned (.string ⟨(Lib.itoa n).toArray⟩) ∧ ∃ k os, w' = grow (w.drewN k) os := Any.strconv_Itoa itoaLays n h0 h1 w htab
end Go.Proofs.YtnfnhbldphiohaaDoor

namespace Go.Proofs.YtnfnhbldphiohaaDoor
open Go.RowKit

def itoaText (n : Int) : ByteArray := ⟨(Lib.itoa n).toArray⟩

theorem decDigits_eq (k : Nat) : 0 < k → (Lib.decDigits k).map (fun c => (c.toNat : Int)) = decs k := by
  induction k using Nat.strongRecOn with
  | _ k ih =>
    intro h
    rw [Lib.decDigits, decs_pos h]
    by_cases h10 : k < 10
    · rw [dif_pos h10, show k / 10 = 0 from by omega, decs_zero]
      have : (UInt8.ofNat (48 + k)).toNat = 48 + k := by simp; omega
      simp only [List.map_cons, List.map_nil, this, List.nil_append]
      congr 1
      omega
    · rw [dif_neg h10, List.map_append, ih (k / 10) (by omega) (by omega)]
      have : (UInt8.ofNat (48 + k % 10)).toNat = 48 + k % 10 := by simp; omega
      simp only [List.map_cons, List.map_nil, this]
      congr 2
theorem strOfNums_map (l : List UInt8) : strOfNums (l.map fun c => (c.toNat : Int)) = ⟨l.toArray⟩ := by
  unfold strOfNums
  congr 2
  rw [List.map_map]
  conv => rhs; rw [← List.map_id l]
  apply List.map_congr_left
  intro c _
  simp
theorem itoa_pos {n : Nat} (h : 0 < n) : itoaText n = strOfNums (decs n) := by
  rw [← decDigits_eq n h, strOfNums_map, itoaText, Lib.itoa, if_neg (by omega)]
  rfl
theorem itoa_neg {n : Nat} (h : 0 < n) : itoaText (-(n : Int)) = strOfNums (45 :: decs n) := by
  have : (45 : Int) :: decs n = (45 :: Lib.decDigits n).map (fun c => (c.toNat : Int)) := by rw [List.map_cons, decDigits_eq n h]; rfl
  rw [this, strOfNums_map, itoaText, Lib.itoa, if_pos (by omega)]
  simp

theorem below_grow (w : World) (os : Array Obj) : Below w.heap.size w (Go.Sort.grow w os) :=
  ⟨rfl, rfl, rfl, by simp [Go.Sort.grow], fun k hk => by simp [Go.Sort.grow, Array.getElem?_append, hk]⟩

/-- A table of the library's stands as long as what was there stands. -/
theorem tab_below {P : Program} {w w' : World} {name : String} {k : IntKind} {zs : List Int} (h : Lib.TabIs P w name k zs) (hb : Below w.heap.size w w') : Lib.TabIs P w' name k zs := by
  unfold Lib.TabIs World.var? at h ⊢
  cases hg : P.globalNamed name with
  | none => rw [hg] at h; cases h
  | some g =>
    rw [hg] at h
    simp only [Option.bind_some] at h ⊢
    have hlt : g < w.heap.size := by
      rcases Nat.lt_or_ge g w.heap.size with h' | h'
      · exact h'
      · rw [Array.getElem?_eq_none h'] at h; cases h
    rw [hb.block g hlt]
    exact h

theorem implFormatInt_any (n : Int) (h0 : -9223372036854775808 ≤ n) (h1 : n ≤ 9223372036854775807) (w : World) (htab : Lib.TabIs Tryd.prog w "internal/strconv.uint64pow10" .u64 Lib.pow10Tab) :
    Calls Tryd.prog 63 #[.int .i64 n] w fun e w' => e = .returned (.string (itoaText n)) ∧ Below w.heap.size w w' := by
  have HT := Lib.hid htab
  have HA := Lib.hid h0
  have HB := Lib.hid h1
  clear htab h0 h1
  go_enter Tryd.func63, Tryd.ntmps63
  go_wp2_with fail
  refine (itoa_any n HA.out HB.out _ HT.out).mono ?_
  rintro e w' ⟨rfl, k, os, rfl⟩
  go_wp2
  go_ret
  exact ⟨rfl, (below_drewN (Below.refl _ _) k).trans (below_grow (w.drewN k) os)⟩

set_option maxHeartbeats 400000 in
theorem specFormatInt_pos (n : Nat) (w : World) (h0 : 0 < n) (h1 : n ≤ 9223372036854775808) (h2 : (n : Int) ≤ 9223372036854775807) :
    Calls Tryd.prog 69 #[.int .i64 n] w fun e w' => e = .returned (.string (itoaText n)) ∧ Below w.heap.size w w' := by
  have hlen := decs_len10 20 n (by omega)
  have HI := Lib.hid (itoa_pos h0)
  have e0 : ((n : Int) == 0) = false := by simp; omega
  have e1 : ((n : Int) != 0) = true := by simp; omega
  have HH := Lib.hid h1
  clear h1
  go_enter Tryd.func69, Tryd.ntmps69
  go_wp2
  go_loopw [3, 4] (fun o c wr => ∃ (m : Nat) (l : List Int), c = .int .i64 m ∧ m ≤ n ∧ o = .string (strOfNums l) ∧ decs n = decs m ++ l ∧ Below w.heap.size w wr)
    (fun _ c _ => (intOf c).toNat)
  case atStart => exact ⟨n, [], rfl, Nat.le_refl _, rfl, by simp, Below.refl _ _⟩
  case round =>
    obtain ⟨m, l, rfl, hmk, rfl, hd, hb⟩ := hrel
    have hll : l.length ≤ 20 := by rw [hd] at hlen; simp at hlen; omega
    have HD := Lib.hid hd
    have HB := Lib.hid hb
    have hle : w.heap.size ≤ wr.heap.size := hb.size
    clear hd hb
    by_cases hm : 0 < m
    · have hm1 : (0 : Int) < m := by omega
      have g0 : ((m : Int) == 0) = false := by simp; omega
      have g1 : ((m : Int) != 0) = true := by simp; omega
      have g2 : ¬ (m : Int) % 10 < 0 := by omega
      have hcv := conv_owned (P := Tryd.prog) (src := 22) (dst := 9) (w := wr.alloc (.cells #[.int .u8 (48 + (m : Int) % 10)] 5)) (base := wr.heap.size) (v := .slice (some ⟨wr.heap.size, 0, none⟩) 1 1) (n := 1) (ns := [48 + (m : Int) % 10]) Tryd.underlying22 Tryd.underlying5 Tryd.underlying9 (World.ownsRow_lit wr #[.int .u8 (48 + (m : Int) % 10)] 1 (Nat.le_refl _) (by simp [maxLen]) rfl)
      have hadd := fun (w : World) => run_string_add_sum (P := Tryd.prog) w (strOfNums [48 + (m : Int) % 10]) (strOfNums l) (by rw [strOfNums_size, strOfNums_size]; simp; omega)
      simp only [strOfNums_append] at hadd
      go_wp2
      go_roundw
      case rel =>
        refine ⟨m / 10, (48 + (m : Int) % 10) :: l, by go_num, by omega, rfl, ?_, HB.out.alloc hle _⟩
        rw [HD.out, decs_pos hm]
        simp
      case measure => simp [intOf]; omega
    · obtain rfl : m = 0 := by omega
      have HR := Lib.hid (show strOfNums l = itoaText n from by
        have e := HD.out
        rw [decs_zero, List.nil_append] at e
        rw [HI.out, e])
      go_wp2
      go_ret
      exact ⟨by rw [← HR.out]; rfl, HB.out⟩

set_option maxHeartbeats 400000 in
theorem specFormatInt_neg (n : Nat) (w : World) (h0 : 0 < n) (h1 : n ≤ 9223372036854775808) :
    Calls Tryd.prog 69 #[.int .i64 (-(n : Int))] w fun e w' => e = .returned (.string (itoaText (-(n : Int)))) ∧ Below w.heap.size w w' := by
  have hlen := decs_len10 20 n (by omega)
  have HI := Lib.hid (itoa_neg h0)
  obtain ⟨q, hq⟩ : ∃ q : Int, q = -(n : Int) := ⟨_, rfl⟩
  rw [← hq] at HI ⊢
  have e0 : (q == 0) = false := by simp; omega
  have e1 : (q != 0) = true := by simp; omega
  have e2 : q < 0 := by omega
  have HQ := Lib.hid hq
  have HH := Lib.hid h1
  clear h1 hq
  go_enter Tryd.func69, Tryd.ntmps69
  go_wp2
  go_loopw [3, 4] (fun o c wr => ∃ (m : Nat) (l : List Int) (x : Int), c = .int .i64 x ∧ x = -(m : Int) ∧ m ≤ n ∧ o = .string (strOfNums l) ∧ decs n = decs m ++ l ∧ Below w.heap.size w wr)
    (fun _ c _ => (-(intOf c)).toNat)
  case atStart => exact ⟨n, [], q, rfl, HQ.out, Nat.le_refl _, rfl, by simp, Below.refl _ _⟩
  case round =>
    obtain ⟨m, l, x, rfl, hx, hmk, rfl, hd, hb⟩ := hrel
    have hll : l.length ≤ 20 := by rw [hd] at hlen; simp at hlen; omega
    have HD := Lib.hid hd
    have HB := Lib.hid hb
    have HX := Lib.hid hx
    have hle : w.heap.size ≤ wr.heap.size := hb.size
    clear hd hb
    by_cases hm : 0 < m
    · have hm1 : x < 0 := by omega
      have g0 : (x == 0) = false := by simp; omega
      have g1 : (x != 0) = true := by simp; omega
      have t2 : x.tdiv 10 = -((m : Int) / 10) := by rw [hx, Int.neg_tdiv, Int.tdiv_eq_ediv_of_nonneg (by omega)]
      have t3 : wrap64 (-((m : Int) / 10)) = -((m : Int) / 10) := by have := HH.out; exact IntWalk.wrap64_in _ ⟨by omega, by omega⟩
      by_cases hd0 : (m : Int) % 10 = 0
      · have t1 : x.tmod 10 = 0 := by rw [hx, Int.neg_tmod, Int.tmod_eq_emod_of_nonneg (by omega), hd0]; rfl
        have hcv := conv_owned (P := Tryd.prog) (src := 22) (dst := 9) (w := wr.alloc (.cells #[.int .u8 (48)] 5)) (base := wr.heap.size) (v := .slice (some ⟨wr.heap.size, 0, none⟩) 1 1) (n := 1) (ns := [48]) Tryd.underlying22 Tryd.underlying5 Tryd.underlying9 (World.ownsRow_lit wr #[.int .u8 (48)] 1 (Nat.le_refl _) (by simp [maxLen]) rfl)
        have hadd := fun (w : World) => run_string_add_sum (P := Tryd.prog) w (strOfNums [48]) (strOfNums l) (by rw [strOfNums_size, strOfNums_size]; simp; omega)
        simp only [strOfNums_append] at hadd
        have HM := Lib.hid hd0
        clear hx hd0
        go_wp2
        go_roundw
        case rel =>
          refine ⟨m / 10, 48 :: l, -((m : Int) / 10), by rw [t3], by omega, by omega, rfl, ?_, HB.out.alloc hle _⟩
          rw [HD.out, decs_pos hm, HM.out]
          simp
        case measure => have := HX.out; rw [t3]; simp [intOf]; omega
      · have t1 : x.tmod 10 = -((m : Int) % 10) := by rw [hx, Int.neg_tmod, Int.tmod_eq_emod_of_nonneg (by omega)]
        have g2 : -((m : Int) % 10) < 0 := by omega
        have g3 : 0 < (m : Int) % 10 := by omega
        have hcv := conv_owned (P := Tryd.prog) (src := 22) (dst := 9) (w := wr.alloc (.cells #[.int .u8 (48 + (m : Int) % 10)] 5)) (base := wr.heap.size) (v := .slice (some ⟨wr.heap.size, 0, none⟩) 1 1) (n := 1) (ns := [48 + (m : Int) % 10]) Tryd.underlying22 Tryd.underlying5 Tryd.underlying9 (World.ownsRow_lit wr #[.int .u8 (48 + (m : Int) % 10)] 1 (Nat.le_refl _) (by simp [maxLen]) rfl)
        have hadd := fun (w : World) => run_string_add_sum (P := Tryd.prog) w (strOfNums [48 + (m : Int) % 10]) (strOfNums l) (by rw [strOfNums_size, strOfNums_size]; simp; omega)
        simp only [strOfNums_append] at hadd
        clear hx hd0
        go_wp2
        go_roundw
        case rel =>
          refine ⟨m / 10, (48 + (m : Int) % 10) :: l, -((m : Int) / 10), by rw [t3], by omega, by omega, rfl, ?_, HB.out.alloc hle _⟩
          rw [HD.out, decs_pos hm]
          simp
        case measure => have := HX.out; rw [t3]; simp [intOf]; omega
    · obtain rfl : m = 0 := by omega
      obtain rfl : x = 0 := by rw [hx]; rfl
      clear hx
      have hadd := fun (w : World) => run_string_add_sum (P := Tryd.prog) w ⟨#[45]⟩ (strOfNums l) (by rw [strOfNums_size, ByteArray.size_mk']; simp; omega)
      have HR := Lib.hid (show Value.string (⟨#[45]⟩ ++ strOfNums l) = .string (itoaText q) from by
        have e := HD.out
        rw [decs_zero, List.nil_append] at e
        rw [HI.out, e]
        show Value.string (strOfNums [45] ++ strOfNums l) = _
        rw [strOfNums_append]; rfl)
      go_wp2
      go_ret
      exact ⟨by rw [← HR.out]; rfl, HB.out⟩

theorem specFormatInt_zero (w : World) : Calls Tryd.prog 69 #[.int .i64 0] w fun e w' => e = .returned (.string (itoaText 0)) ∧ Below w.heap.size w w' := by
  have h : itoaText 0 = ⟨#[48]⟩ := by simp [itoaText, Lib.itoa, Lib.decDigits]
  rw [h]
  go_enter Tryd.func69, Tryd.ntmps69
  go_wp2
  go_ret
  exact ⟨rfl, Below.refl _ _⟩

theorem specFormatInt_any (n : Int) (w : World) (h0 : -9223372036854775808 ≤ n) (h1 : n ≤ 9223372036854775807) :
    Calls Tryd.prog 69 #[.int .i64 n] w fun e w' => e = .returned (.string (itoaText n)) ∧ Below w.heap.size w w' := by
  by_cases hz : n = 0
  · subst hz; exact specFormatInt_zero w
  · by_cases hp : 0 < n
    · obtain ⟨m, rfl⟩ := Int.eq_ofNat_of_zero_le (by omega : 0 ≤ n)
      exact specFormatInt_pos m w (by omega) (by omega) h1
    · obtain ⟨m, hm⟩ := Int.eq_ofNat_of_zero_le (by omega : 0 ≤ -n)
      obtain rfl : n = -(m : Int) := by omega
      exact specFormatInt_neg m w (by omega) (by omega)

theorem wf_i64 {n : Int} (h : (Lit.int .i64 n).wf = true) : -9223372036854775808 ≤ n ∧ n ≤ 9223372036854775807 := by
  simp [Lit.wf, IntKind.min, IntKind.max, IntKind.signed, IntKind.bits] at h
  omega

/-- The value of the n digits from place o on. -/
def vl (s : ByteArray) (o : Nat) : Nat → Int
  | 0 => 0
  | k + 1 => 10 * vl s o k + (bt s (o + k) - 48)
def digs (s : ByteArray) (o n : Nat) : Prop := ∀ j, j < n → 48 ≤ bt s (o + j) ∧ bt s (o + j) ≤ 57
theorem digs_succ {s : ByteArray} {o n : Nat} (h : digs s o n) (h1 : 48 ≤ bt s (o + n)) (h2 : bt s (o + n) ≤ 57) : digs s o (n + 1) := fun j hj => by
  by_cases e : j = n
  · subst e; exact ⟨h1, h2⟩
  · exact h j (by omega)
theorem vl_bound (s : ByteArray) (o : Nat) : ∀ n, digs s o n → 0 ≤ vl s o n ∧ vl s o n < ((10 ^ n : Nat) : Int)
  | 0, _ => by simp [vl]
  | n + 1, h => by
    have ih := vl_bound s o n (fun j hj => h j (by omega))
    have := h n (by omega)
    rw [vl, Nat.pow_succ]
    omega
theorem vl_nine (s : ByteArray) (o n : Nat) (hn : n ≤ 9) (h : digs s o n) : 0 ≤ vl s o n ∧ vl s o n ≤ 999999999 := by
  have h1 := vl_bound s o n h
  have h2 : 10 ^ n ≤ 10 ^ 9 := Nat.pow_le_pow_right (by omega) hn
  omega

def isNeg (s : ByteArray) : Prop := 0 < s.size ∧ bt s 0 = 45
instance (s : ByteArray) : Decidable (isNeg s) := by unfold isNeg; infer_instance
def off (s : ByteArray) : Nat := if isNeg s then 1 else 0
def sval (s : ByteArray) : Int := if isNeg s then -(vl s (off s) (s.size - off s)) else vl s (off s) (s.size - off s)
def okI (s : ByteArray) : Bool := decide (1 ≤ s.size - off s ∧ s.size - off s ≤ 9 ∧ (∀ j, j < s.size - off s → 48 ≤ bt s (off s + j) ∧ bt s (off s + j) ≤ 57) ∧ itoaText (sval s) = s)
def pval (s : ByteArray) : Int := if okI s = true then sval s else 0
theorem okI_iff (s : ByteArray) : okI s = true ↔ 1 ≤ s.size - off s ∧ s.size - off s ≤ 9 ∧ digs s (off s) (s.size - off s) ∧ itoaText (sval s) = s := by unfold okI digs; exact decide_eq_true_iff
theorem okI_no {s : ByteArray} (h : ¬ (1 ≤ s.size - off s ∧ s.size - off s ≤ 9 ∧ digs s (off s) (s.size - off s) ∧ itoaText (sval s) = s)) : okI s = false := by
  rw [← Bool.not_eq_true, okI_iff]; exact h
theorem pval_no {s : ByteArray} (h : okI s = false) : pval s = 0 := by rw [pval, h]; rfl
theorem pval_yes {s : ByteArray} (h : okI s = true) : pval s = sval s := by rw [pval, if_pos h]

theorem itoa_zero : itoaText 0 = ⟨#[48]⟩ := by simp [itoaText, Lib.itoa, Lib.decDigits]
theorem itoa_size_pos {n : Nat} (h : n ≤ 999999999) : (itoaText n).size ≤ 9 := by
  by_cases h0 : n = 0
  · subst h0; rw [show ((0 : Nat) : Int) = 0 from rfl, itoa_zero]; decide
  · rw [itoa_pos (by omega), strOfNums_size]; exact decs_len10 9 n (by omega)
theorem itoa_size_neg {n : Nat} (h : n ≤ 999999999) : (itoaText (-(n : Int))).size ≤ 10 := by
  by_cases h0 : n = 0
  · subst h0; rw [show (-((0 : Nat) : Int)) = 0 from rfl, itoa_zero]; decide
  · rw [itoa_neg (by omega), strOfNums_size]; have := decs_len10 9 n (by omega); simp; omega

/-- With digits alone and a value of at most nine digits, the numeral decides. -/
theorem okI_by {s : ByteArray} (hd : digs s (off s) (s.size - off s)) (hv : 0 ≤ vl s (off s) (s.size - off s)) (hm : vl s (off s) (s.size - off s) ≤ 999999999) : okI s = decide (itoaText (sval s) = s) := by
  by_cases he : itoaText (sval s) = s
  · rw [decide_eq_true he, okI_iff]
    obtain ⟨v, hvv⟩ := Int.eq_ofNat_of_zero_le hv
    refine ⟨?_, ?_, hd, he⟩
    · rcases Nat.lt_or_ge 0 (s.size - off s) with h | h
      · exact h
      · exfalso
        have h0 : s.size - off s = 0 := by omega
        have hz : sval s = 0 := by unfold sval; rw [h0]; split <;> simp [vl]
        rw [hz, itoa_zero] at he
        have hsz : s.size = 1 := by rw [← he]; rfl
        have hneg : isNeg s := by
          rcases Decidable.em (isNeg s) with h | h
          · exact h
          · have : off s = 0 := by unfold off; rw [if_neg h]
            omega
        have hb := hneg.2
        rw [← he] at hb
        exact absurd hb (by decide)
    · rcases Nat.lt_or_ge 9 (s.size - off s) with h | h
      · exfalso
        have hsz := congrArg ByteArray.size he
        by_cases hneg : isNeg s
        · have ho : off s = 1 := by unfold off; rw [if_pos hneg]
          have : sval s = -(v : Int) := by unfold sval; rw [if_pos hneg, hvv]
          rw [this] at hsz
          have := itoa_size_neg (n := v) (by omega)
          omega
        · have ho : off s = 0 := by unfold off; rw [if_neg hneg]
          have : sval s = (v : Int) := by unfold sval; rw [if_neg hneg, hvv]
          rw [this] at hsz
          have := itoa_size_pos (n := v) (by omega)
          omega
      · omega
  · rw [decide_eq_false he]
    exact okI_no (fun h => he h.2.2.2)

def ParsedInt (s : ByteArray) (w : World) (e : Ending) (w' : World) : Prop := e = .returned (.tuple #[.int .i64 (pval s), .bool (okI s)]) ∧ Below w.heap.size w w'
theorem parsed_no {s : ByteArray} {w w' : World} (h : okI s = false) (hb : Below w.heap.size w w') : ParsedInt s w (.returned (.tuple #[.int .i64 0, .bool false])) w' := ⟨by rw [h, pval_no h], hb⟩
theorem parsed_yes {s : ByteArray} {w w' : World} {v : Int} (h : okI s = true) (hv : v = sval s) (hb : Below w.heap.size w w') : ParsedInt s w (.returned (.tuple #[.int .i64 v, .bool true])) w' := ⟨by rw [h, pval_yes h, hv], hb⟩

/-- What the reference reads behind the sign. -/
theorem spec_tail (s t : ByteArray) (ht : t.size = s.size - off s) (hb : ∀ j, j < t.size → bt t j = bt s (off s + j)) (k : Nat) (hk : k ≤ t.size) : vl t 0 k = vl s (off s) k := by
  induction k with
  | zero => rfl
  | succ k ih => rw [vl, vl, ih (by omega), Nat.zero_add, hb k (by omega)]

theorem bt_tail (s : ByteArray) (j : Nat) (h : j < s.size - 1) : bt (s.extract 1 s.size) j = bt s (1 + j) := by
  have h1 : j < (s.extract 1 s.size).size := by rw [ByteArray.size_extract]; omega
  rw [← bt_eq _ j h1, ← bt_eq _ (1 + j) (by omega)]
  have : (s.extract 1 s.size)[j]'h1 = s[1 + j]'(by omega) := by simp [ByteArray.getElem_extract]
  rw [this]

set_option maxHeartbeats 4000000 in
theorem specParseInt_neg (s : ByteArray) (w : World) (hl : s.size ≤ 1048576) (hneg : isNeg s) :
    Calls Tryd.prog 87 #[.string s] w (ParsedInt s w) := by
  have hoff : off s = 1 := by unfold off; rw [if_pos hneg]
  have HN := Lib.hid hneg
  obtain ⟨hpos, hmin⟩ := hneg
  have e0 := bt_eq s 0 hpos
  rw [hmin] at e0
  have HO := Lib.hid hoff
  have HM := Lib.hid hmin
  clear hoff hmin
  obtain ⟨t, ht⟩ : ∃ t, t = s.extract 1 s.size := ⟨_, rfl⟩
  have hsz : t.size = s.size - 1 := by rw [ht, ByteArray.size_extract]; omega
  have HT := Lib.hid ht
  have HS := Lib.hid (by rw [HO.out]; exact hsz : t.size = s.size - off s)
  have HB := Lib.hid (fun j hj => by rw [HO.out, HT.out]; exact bt_tail s j (by omega) : ∀ j, j < t.size → bt t j = bt s (off s + j))
  have HSZ := Lib.hid hsz
  clear ht hsz
  by_cases h1 : s.size - 1 < 1
  · have c1 : ((s.size - 1 : Nat) : Int) < 1 := by omega
    go_enter Tryd.func87, Tryd.ntmps87
    go_wp2
    go_ret2
    exact parsed_no (okI_no (fun h => by have := HO.out; omega)) (Below.refl _ _)
  · by_cases h9 : 9 < s.size - 1
    · have c1 : ¬ ((s.size - 1 : Nat) : Int) < 1 := by omega
      have c9 : 9 < ((s.size - 1 : Nat) : Int) := by omega
      go_enter Tryd.func87, Tryd.ntmps87
      go_wp2
      go_ret2
      exact parsed_no (okI_no (fun h => by have := HO.out; omega)) (Below.refl _ _)
    · have c1 : ¬ ((s.size - 1 : Nat) : Int) < 1 := by omega
      have c9 : ¬ 9 < ((s.size - 1 : Nat) : Int) := by omega
      have l9 : t.size ≤ 9 := by have := HSZ.out; omega
      have lts : t.size < s.size := by have := HSZ.out; omega
      go_enter Tryd.func87, Tryd.ntmps87
      go_wp2
      rw [← HT.out]
      go_loop [5, 6] (fun nv i => ∃ (j : Nat) (q : Int), i = .int .i64 j ∧ j ≤ t.size ∧ nv = .int .i64 q ∧ q = vl t 0 j ∧ 0 ≤ q ∧ q ≤ 999999999 ∧ digs t 0 j) (fun _ i => t.size - (intOf i).toNat)
      case atStart => exact ⟨0, 0, rfl, Nat.zero_le _, rfl, rfl, by omega, by omega, fun j hj => by omega⟩
      case round =>
        obtain ⟨j, q, rfl, hj, rfl, hq, q0, q1, hd⟩ := hrel
        have HQ := Lib.hid hq
        have HDG := Lib.hid hd
        clear hq hd
        by_cases hlt : j < t.size
        · have e1 := bt_eq t j hlt
          obtain ⟨x, hx⟩ : ∃ x, x = bt t j := ⟨_, rfl⟩
          rw [← hx] at e1
          have HX := Lib.hid hx
          obtain ⟨x0, x1⟩ := bt_bound t j
          rw [← hx] at x0 x1
          clear hx
          have hbad : ¬ (48 ≤ x ∧ x ≤ 57) → okI s = false := fun hn => okI_no (fun h => hn (by
            have := h.2.2.1 j (by rw [← HS.out]; exact hlt)
            rw [← HB.out j hlt, ← HX.out] at this
            exact this))
          have HBD := Lib.hid hbad
          clear hbad
          by_cases hx1 : x < 48
          · go_wp2
            go_ret2
            exact parsed_no (HBD.out (by omega)) (Below.refl _ _)
          · by_cases hx2 : 57 < x
            · go_wp2
              go_ret2
              exact parsed_no (HBD.out (by omega)) (Below.refl _ _)
            · have hd2 := digs_succ (n := j) HDG.out (by rw [Nat.zero_add, ← HX.out]; omega) (by rw [Nat.zero_add, ← HX.out]; omega)
              have hv2 := vl_nine t 0 (j + 1) (by omega) hd2
              have hq2 : vl t 0 (j + 1) = 10 * q + (x - 48) := by rw [vl, Nat.zero_add, ← HQ.out, ← HX.out]
              rw [hq2] at hv2
              obtain ⟨v0, v1⟩ := hv2
              have HD2 := Lib.hid hd2
              have HQ2 := Lib.hid hq2
              clear hd2 hq2
              go_wp2
              go_round
              case rel => exact ⟨j + 1, 10 * q + x - 48, by go_num, by omega, rfl, by rw [HQ2.out]; omega, by omega, by omega, HD2.out⟩
              case measure => simp [intOf]; omega
        · have he : j = t.size := by omega
          have hdd : digs s (off s) (s.size - off s) := fun l hl => by
            rw [← HS.out] at hl
            rw [← HB.out l hl]
            have := HDG.out l (by omega)
            rw [Nat.zero_add] at this
            exact this
          have hvv : q = vl s (off s) (s.size - off s) := by rw [HQ.out, he, ← HS.out]; exact spec_tail s t HS.out HB.out _ (Nat.le_refl _)
          have hok := okI_by hdd (by rw [← hvv]; exact q0) (by rw [← hvv]; exact q1)
          have HV := Lib.hid hvv
          have HOK := Lib.hid hok
          clear he hdd hvv hok
          have hsv : -q = sval s := by unfold sval; rw [if_pos HN.out, ← HV.out]
          have HSV := Lib.hid hsv
          clear hsv
          go_wp2_with fail
          refine (specFormatInt_any (-q) _ (by omega) (by omega)).mono ?_
          rintro e w1 ⟨rfl, hb1⟩
          have HB1 := Lib.hid hb1
          clear hb1
          by_cases heq : itoaText (-q) = s
          · have hyes : okI s = true := by rw [HOK.out, ← HSV.out]; exact decide_eq_true heq
            have b0 : ((itoaText (-q)).toList == s.toList) = true := by rw [heq]; simp
            have b1 : (!(itoaText (-q)).toList == s.toList) = false := by rw [heq]; simp
            have HYES := Lib.hid hyes
            clear heq hyes
            go_wp2
            go_ret2
            exact parsed_yes HYES.out HSV.out HB1.out
          · have hno : okI s = false := by rw [HOK.out, ← HSV.out]; exact decide_eq_false heq
            have b0 := toList_ne heq
            have b1 : (!(itoaText (-q)).toList == s.toList) = true := by rw [toList_ne heq]; rfl
            have HNO := Lib.hid hno
            clear heq hno
            go_wp2
            go_ret2
            exact parsed_no HNO.out HB1.out

set_option maxHeartbeats 4000000 in
theorem specParseInt_pos (t : ByteArray) (w : World) (hl : t.size ≤ 1048576) (hneg : ¬ isNeg t) :
    Calls Tryd.prog 87 #[.string t] w (ParsedInt t w) := by
  have hoff : off t = 0 := by unfold off; rw [if_neg hneg]
  have HO := Lib.hid hoff
  have HS := Lib.hid (by rw [HO.out]; rfl : t.size = t.size - off t)
  have HB := Lib.hid (fun j _ => by rw [HO.out, Nat.zero_add] : ∀ j, j < t.size → bt t j = bt t (off t + j))
  have HNT := Lib.hid hneg
  clear hoff hneg
  have hpre : t.size = 0 ∨ (0 < t.size ∧ ¬ bt t 0 = 45) := by
    rcases Nat.eq_zero_or_pos t.size with h | h
    · exact .inl h
    · exact .inr ⟨h, fun e => HNT.out ⟨h, e⟩⟩
  rcases hpre with h0 | ⟨hpos, hmin⟩
  · have c0 : ¬ 0 < t.size := by omega
    have c1 : (t.size : Int) < 1 := by omega
    have HZ := Lib.hid h0
    clear h0
    go_enter Tryd.func87, Tryd.ntmps87
    go_wp2
    go_ret2
    exact parsed_no (okI_no (fun h => by have := HS.out; have := HZ.out; omega)) (Below.refl _ _)
  · have e0 := bt_eq t 0 hpos
    obtain ⟨y, hy⟩ : ∃ y, y = bt t 0 := ⟨_, rfl⟩
    rw [← hy] at e0 hmin
    have hy45 : (y == 45) = false := by simp; exact hmin
    clear hy
    by_cases h9 : 9 < t.size
    · have c1 : ¬ (t.size : Int) < 1 := by omega
      have c9 : 9 < (t.size : Int) := by omega
      go_enter Tryd.func87, Tryd.ntmps87
      go_wp2
      go_ret2
      exact parsed_no (okI_no (fun h => by have := HS.out; omega)) (Below.refl _ _)
    · have c1 : ¬ (t.size : Int) < 1 := by omega
      have c9 : ¬ 9 < (t.size : Int) := by omega
      have l9 : t.size ≤ 9 := by omega
      go_enter Tryd.func87, Tryd.ntmps87
      go_wp2
      go_loop [5, 6] (fun nv i => ∃ (j : Nat) (q : Int), i = .int .i64 j ∧ j ≤ t.size ∧ nv = .int .i64 q ∧ q = vl t 0 j ∧ 0 ≤ q ∧ q ≤ 999999999 ∧ digs t 0 j) (fun _ i => t.size - (intOf i).toNat)
      case atStart => exact ⟨0, 0, rfl, Nat.zero_le _, rfl, rfl, by omega, by omega, fun j hj => by omega⟩
      case round =>
        obtain ⟨j, q, rfl, hj, rfl, hq, q0, q1, hd⟩ := hrel
        have HQ := Lib.hid hq
        have HDG := Lib.hid hd
        clear hq hd
        by_cases hlt : j < t.size
        · have e1 := bt_eq t j hlt
          obtain ⟨x, hx⟩ : ∃ x, x = bt t j := ⟨_, rfl⟩
          rw [← hx] at e1
          have HX := Lib.hid hx
          obtain ⟨x0, x1⟩ := bt_bound t j
          rw [← hx] at x0 x1
          clear hx
          have hbad : ¬ (48 ≤ x ∧ x ≤ 57) → okI t = false := fun hn => okI_no (fun h => hn (by
            have := h.2.2.1 j (by rw [← HS.out]; exact hlt)
            rw [← HB.out j hlt, ← HX.out] at this
            exact this))
          have HBD := Lib.hid hbad
          clear hbad
          by_cases hx1 : x < 48
          · go_wp2
            go_ret2
            exact parsed_no (HBD.out (by omega)) (Below.refl _ _)
          · by_cases hx2 : 57 < x
            · go_wp2
              go_ret2
              exact parsed_no (HBD.out (by omega)) (Below.refl _ _)
            · have hd2 := digs_succ (n := j) HDG.out (by rw [Nat.zero_add, ← HX.out]; omega) (by rw [Nat.zero_add, ← HX.out]; omega)
              have hv2 := vl_nine t 0 (j + 1) (by omega) hd2
              have hq2 : vl t 0 (j + 1) = 10 * q + (x - 48) := by rw [vl, Nat.zero_add, ← HQ.out, ← HX.out]
              rw [hq2] at hv2
              obtain ⟨v0, v1⟩ := hv2
              have HD2 := Lib.hid hd2
              have HQ2 := Lib.hid hq2
              clear hd2 hq2
              go_wp2
              go_round
              case rel => exact ⟨j + 1, 10 * q + x - 48, by go_num, by omega, rfl, by rw [HQ2.out]; omega, by omega, by omega, HD2.out⟩
              case measure => simp [intOf]; omega
        · have he : j = t.size := by omega
          have hdd : digs t (off t) (t.size - off t) := fun l hl => by
            rw [← HS.out] at hl
            rw [← HB.out l hl]
            have := HDG.out l (by omega)
            rw [Nat.zero_add] at this
            exact this
          have hvv : q = vl t (off t) (t.size - off t) := by rw [HQ.out, he, ← HS.out]; exact spec_tail t t HS.out HB.out _ (Nat.le_refl _)
          have hok := okI_by hdd (by rw [← hvv]; exact q0) (by rw [← hvv]; exact q1)
          have HV := Lib.hid hvv
          have HOK := Lib.hid hok
          clear he hdd hvv hok
          have hsv : q = sval t := by unfold sval; rw [if_neg HNT.out, ← HV.out]
          have HSV := Lib.hid hsv
          clear hsv
          go_wp2_with fail
          refine (specFormatInt_any (q) _ (by omega) (by omega)).mono ?_
          rintro e w1 ⟨rfl, hb1⟩
          have HB1 := Lib.hid hb1
          clear hb1
          by_cases heq : itoaText (q) = t
          · have hyes : okI t = true := by rw [HOK.out, ← HSV.out]; exact decide_eq_true heq
            have b0 : ((itoaText (q)).toList == t.toList) = true := by rw [heq]; simp
            have b1 : (!(itoaText (q)).toList == t.toList) = false := by rw [heq]; simp
            have HYES := Lib.hid hyes
            clear heq hyes
            go_wp2
            go_ret2
            exact parsed_yes HYES.out HSV.out HB1.out
          · have hno : okI t = false := by rw [HOK.out, ← HSV.out]; exact decide_eq_false heq
            have b0 := toList_ne heq
            have b1 : (!(itoaText (q)).toList == t.toList) = true := by rw [toList_ne heq]; rfl
            have HNO := Lib.hid hno
            clear heq hno
            go_wp2
            go_ret2
            exact parsed_no HNO.out HB1.out

theorem specParseInt_any (s : ByteArray) (w : World) (hl : s.size ≤ 1048576) :
    Calls Tryd.prog 87 #[.string s] w (ParsedInt s w) := by
  by_cases h : isNeg s
  · exact specParseInt_neg s w hl h
  · exact specParseInt_pos s w hl h
end Go.Proofs.YtnfnhbldphiohaaDoor

namespace Go.Proofs.YtnfnhbldphiohaaDoor
open Go.RowKit

theorem dig10 (c : Int) : (48 ≤ c ∧ c ≤ 57 ∧ digVal 10 c = c - 48) ∨ (¬ (48 ≤ c ∧ c ≤ 57) ∧ digVal 10 c = -1) := by
  unfold digVal
  by_cases h : 48 ≤ c ∧ c ≤ 57
  · left; exact ⟨h.1, h.2, if_pos h⟩
  · right; exact ⟨h, by rw [if_neg h, if_neg (by omega)]⟩

theorem off_le (s : ByteArray) (pos : Nat) (h : pos = 0 → ¬ isNeg s) : off s ≤ pos := by
  unfold off; split
  · rename_i hn
    rcases Nat.eq_zero_or_pos pos with h0 | h0
    · exact absurd hn (h h0)
    · omega
  · omega

/-- A byte that is no digit, behind the sign. -/
theorem okI_bad {s : ByteArray} (pos : Nat) (h : pos < s.size) (ho : off s ≤ pos) (hb : ¬ (48 ≤ bt s pos ∧ bt s pos ≤ 57)) : okI s = false :=
  okI_no (fun h' => hb (by
    have := h'.2.2.1 (pos - off s) (by omega)
    rw [show off s + (pos - off s) = pos from by omega] at this
    exact this))
/-- A value with more than nine digits. -/
theorem okI_big {s : ByteArray} (pos : Nat) (h : pos < s.size) (ho : off s ≤ pos) (hb : 999999999 < vl s (off s) (pos + 1 - off s)) : okI s = false :=
  okI_no (fun h' => by
    have := vl_nine s (off s) (pos + 1 - off s) (by omega) (fun j hj => h'.2.2.1 j (by omega))
    omega)

set_option maxHeartbeats 4000000 in
theorem implParseInt_any (s : ByteArray) (w : World) (htab : Lib.TabIs Tryd.prog w "internal/strconv.uint64pow10" .u64 Lib.pow10Tab) :
    Calls Tryd.prog 102 #[.string s] w (ParsedInt s w) := by
  have HT := Lib.hid htab
  clear htab
  go_enter Tryd.func102, Tryd.ntmps102
  go_wp2
  go_loopw [4, 5] (fun nv gv wr => ∃ (pos : Nat) (q g : Int), nv = .int .i64 q ∧ gv = .int .i64 g ∧ wr = w.iter s pos ∧ pos ≤ s.size ∧ q = vl s (off s) (pos - off s) ∧ 0 ≤ q ∧ q ≤ 999999999 ∧ digs s (off s) (pos - off s) ∧ g = (if isNeg s ∧ 0 < pos then -1 else 1))
    (fun _ _ wr => s.size - wr.iterPos w.heap.size)
  case atStart => exact ⟨0, 0, 1, rfl, rfl, rfl, Nat.zero_le _, by simp [vl], by omega, by omega, fun j hj => by omega, by simp⟩
  case round =>
    obtain ⟨pos, q, g, rfl, rfl, rfl, hps, hq, q0, q1, hd, hg⟩ := hrel
    have HQ := Lib.hid hq
    have HD := Lib.hid hd
    have HG := Lib.hid hg
    have HBB := Lib.hid (show Below w.heap.size w (w.iter s (pos + (Utf8.decode s pos).2)) from (Below.refl _ _).alloc (Nat.le_refl _) _)
    clear hq hd hg
    by_cases hp : pos < s.size
    · have hle := decode_le s pos
      have hnx : ∀ ty, (Instr.next (.pointer (some ⟨w.heap.size, 0, none⟩)) true ty).run Tryd.prog (w.iter s pos) = _ := fun ty => run_next_any w s pos ty hp
      rcases decode_at s pos hp with ⟨c1, hdec⟩ | ⟨c1, c2⟩
      · rw [hdec] at hnx hle HBB
        simp only [bt_nat] at hnx
        simp only [] at HBB
        obtain ⟨b1, b2⟩ := bt_bound s pos
        obtain ⟨c, hc⟩ : ∃ c, c = bt s pos := ⟨_, rfl⟩
        rw [← hc] at c1 b1 b2 hnx
        have HC := Lib.hid hc
        clear hdec hle hc
        by_cases hsign : pos = 0 ∧ c = 45
        · obtain ⟨rfl, rfl⟩ := hsign
          have hn : isNeg s := ⟨hp, HC.out.symm⟩
          have ho : off s = 1 := by unfold off; rw [if_pos hn]
          have hqz : q = 0 := by rw [HQ.out, ho]; rfl
          have HN := Lib.hid hn
          have HO := Lib.hid ho
          have HQZ := Lib.hid hqz
          clear hn ho hqz
          go_wp2
          go_roundw
          case rel => exact ⟨1, q, -1, rfl, rfl, rfl, by omega, by rw [HQZ.out, HO.out]; rfl, by omega, by omega, fun j hj => by have := HO.out; omega, by rw [if_pos ⟨HN.out, by omega⟩]⟩
          case measure => simp; omega
        · have ho : off s ≤ pos := off_le s pos (fun h0 hn => hsign ⟨h0, by rw [HC.out, h0]; exact hn.2⟩)
          have HO := Lib.hid ho
          have hneg1 : (if isNeg s ∧ 0 < pos then (-1 : Int) else 1) = (if isNeg s ∧ 0 < pos + 1 then -1 else 1) := by
            by_cases hn : isNeg s
            · by_cases h0 : 0 < pos
              · rw [if_pos ⟨hn, h0⟩, if_pos ⟨hn, by omega⟩]
              · exact absurd ⟨by omega, by rw [HC.out, show pos = 0 from by omega]; exact hn.2⟩ hsign
            · rw [if_neg (fun h => hn h.1), if_neg (fun h => hn h.1)]
          have HG1 := Lib.hid hneg1
          have key : ((pos : Int) == 0) = false ∨ (((pos : Int) == 0) = true ∧ (c == 45) = false) := by
            by_cases h0 : pos = 0
            · right; exact ⟨by simp; exact h0, by simp; exact fun h => hsign ⟨h0, h⟩⟩
            · left; simp; exact h0
          clear ho hsign hneg1
          obtain ⟨y, hy⟩ : ∃ y, y = digVal 10 c := ⟨_, rfl⟩
          have hdig := dig10 c
          rw [← hy] at hdig
          have HY := Lib.hid hy
          clear hy
          rcases hdig with ⟨d1, d2, d3⟩ | ⟨d1, d3⟩
          · have hy0 : 0 ≤ y := by omega
            have hy1 : y ≤ 9 := by omega
            have hr := digRes_yes (b := 10) (c := c) (by rw [← HY.out]; omega)
            rw [← HY.out] at hr
            have HR := Lib.hid hr
            have hstep : vl s (off s) (pos + 1 - off s) = 10 * q + y := by
              have := HO.out
              rw [show pos + 1 - off s = (pos - off s) + 1 from by omega, vl, show off s + (pos - off s) = pos from by omega, ← HQ.out, ← HC.out]
              omega
            have HST := Lib.hid hstep
            have hdg : digs s (off s) (pos + 1 - off s) := by
              have := HO.out
              rw [show pos + 1 - off s = (pos - off s) + 1 from by omega]
              refine digs_succ HD.out ?_ ?_
              · rw [show off s + (pos - off s) = pos from by omega, ← HC.out]; exact d1
              · rw [show off s + (pos - off s) = pos from by omega, ← HC.out]; exact d2
            have HDG := Lib.hid hdg
            clear hr hstep hdg d3
            by_cases hbig : 999999999 < 10 * q + y
            · have hno := Lib.hid (okI_big pos hp HO.out (by rw [HST.out]; exact hbig))
              rcases key with p0 | ⟨p0, p1⟩
              all_goals
                go_wp2_with fail
                refine (digitValue_any c 10 _ b1 (by omega) (by omega) (by omega)).mono ?_
                rw [HR.out]
                rintro e w2 ⟨rfl, rfl⟩
                go_wp2
                go_ret2
                exact parsed_no hno.out HBB.out
            · rcases key with p0 | ⟨p0, p1⟩
              all_goals
                go_wp2_with fail
                refine (digitValue_any c 10 _ b1 (by omega) (by omega) (by omega)).mono ?_
                rw [HR.out]
                rintro e w2 ⟨rfl, rfl⟩
                go_wp2
                go_roundw
                case rel => exact ⟨pos + 1, 10 * q + y, g, rfl, rfl, rfl, by omega, by rw [HST.out], by omega, by omega, HDG.out, by rw [HG.out]; exact HG1.out⟩
                case measure => simp; omega
          · have hr := digRes_no (b := 10) (c := c) (by rw [← HY.out]; omega)
            have HR := Lib.hid hr
            have hno := Lib.hid (okI_bad pos hp HO.out (by rw [← HC.out]; exact d1))
            clear hr d1 d3
            rcases key with p0 | ⟨p0, p1⟩
            all_goals
              go_wp2_with fail
              refine (digitValue_any c 10 _ b1 (by omega) (by omega) (by omega)).mono ?_
              rw [HR.out]
              rintro e w2 ⟨rfl, rfl⟩
              go_wp2
              go_ret2
              exact parsed_no hno.out HBB.out
      · obtain ⟨r, hr0⟩ : ∃ r, r = (Utf8.decode s pos).1 := ⟨_, rfl⟩
        rw [← hr0] at hnx hle c2
        have hno := Lib.hid (okI_bad pos hp (off_le s pos (fun h0 hn => by have := hn.2; rw [← h0] at this; omega)) (by omega))
        have hr := digRes_no (b := 10) (c := (r : Int)) (by rw [digVal_high 10 _ (by omega) (by omega)]; omega)
        have HR := Lib.hid hr
        have HZ := Lib.hid hr0
        have p1 : ((r : Int) == 45) = false := by simp; omega
        clear hr hr0 c1
        by_cases h0 : pos = 0
        · have p0 : ((pos : Int) == 0) = true := by simp; exact h0
          clear h0
          go_wp2_with fail
          refine (digitValue_any (r : Int) 10 _ (by omega) (by omega) (by omega) (by omega)).mono ?_
          rw [HR.out]
          rintro e w2 ⟨rfl, rfl⟩
          go_wp2
          go_ret2
          exact parsed_no hno.out HBB.out
        · have p0 : ((pos : Int) == 0) = false := by simp; exact h0
          clear h0
          go_wp2_with fail
          refine (digitValue_any (r : Int) 10 _ (by omega) (by omega) (by omega) (by omega)).mono ?_
          rw [HR.out]
          rintro e w2 ⟨rfl, rfl⟩
          go_wp2
          go_ret2
          exact parsed_no hno.out HBB.out
    · have he : pos = s.size := by omega
      have HB0 := Lib.hid (show Below w.heap.size w (w.iter s pos) from (Below.refl _ _).alloc (Nat.le_refl _) _)
      have HTI := Lib.hid (tab_below HT.out HB0.out)
      have hok := okI_by (s := s) (by rw [← he]; exact HD.out) (by rw [← he, ← HQ.out]; exact q0) (by rw [← he, ← HQ.out]; exact q1)
      have HOK := Lib.hid hok
      have hnx : ∀ ty, (Instr.next (.pointer (some ⟨w.heap.size, 0, none⟩)) true ty).run Tryd.prog (w.iter s pos) = _ := fun ty => run_next_end w s pos ty hp
      have hg2 : (isNeg s ∧ g = -1) ∨ (¬ isNeg s ∧ g = 1) := by
        by_cases hn : isNeg s
        · left; exact ⟨hn, by rw [HG.out, if_pos ⟨hn, by have := hn.1; omega⟩]⟩
        · right; exact ⟨hn, by rw [HG.out, if_neg (fun h => hn h.1)]⟩
      clear hok
      rcases hg2 with ⟨hn, rfl⟩ | ⟨hn, rfl⟩
      · have hsv : -q = sval s := by unfold sval; rw [if_pos hn, ← he, ← HQ.out]
        have HSV := Lib.hid hsv
        clear hsv hn he
        go_wp2_with fail
        refine (implFormatInt_any (-q) (by omega) (by omega) _ HTI.out).mono ?_
        rintro e w1 ⟨rfl, hb1⟩
        have HB1 := Lib.hid (HB0.out.trans (hb1.mono HB0.out.size))
        clear hb1
        by_cases heq : itoaText (-q) = s
        · have hyes : okI s = true := by rw [HOK.out, ← HSV.out]; exact decide_eq_true heq
          have b0 : ((itoaText (-q)).toList == s.toList) = true := by rw [heq]; simp
          have b1 : (!(itoaText (-q)).toList == s.toList) = false := by rw [heq]; simp
          have HYES := Lib.hid hyes
          clear heq hyes
          go_wp2
          go_ret2
          exact parsed_yes HYES.out HSV.out HB1.out
        · have hno : okI s = false := by rw [HOK.out, ← HSV.out]; exact decide_eq_false heq
          have b0 := toList_ne heq
          have b1 : (!(itoaText (-q)).toList == s.toList) = true := by rw [toList_ne heq]; rfl
          have HNO := Lib.hid hno
          clear heq hno
          go_wp2
          go_ret2
          exact parsed_no HNO.out HB1.out
      · have hsv : q = sval s := by unfold sval; rw [if_neg hn, ← he, ← HQ.out]
        have HSV := Lib.hid hsv
        clear hsv hn he
        go_wp2_with fail
        refine (implFormatInt_any (q) (by omega) (by omega) _ HTI.out).mono ?_
        rintro e w1 ⟨rfl, hb1⟩
        have HB1 := Lib.hid (HB0.out.trans (hb1.mono HB0.out.size))
        clear hb1
        by_cases heq : itoaText (q) = s
        · have hyes : okI s = true := by rw [HOK.out, ← HSV.out]; exact decide_eq_true heq
          have b0 : ((itoaText (q)).toList == s.toList) = true := by rw [heq]; simp
          have b1 : (!(itoaText (q)).toList == s.toList) = false := by rw [heq]; simp
          have HYES := Lib.hid hyes
          clear heq hyes
          go_wp2
          go_ret2
          exact parsed_yes HYES.out HSV.out HB1.out
        · have hno : okI s = false := by rw [HOK.out, ← HSV.out]; exact decide_eq_false heq
          have b0 := toList_ne heq
          have b1 : (!(itoaText (q)).toList == s.toList) = true := by rw [toList_ne heq]; rfl
          have HNO := Lib.hid hno
          clear heq hno
          go_wp2
          go_ret2
          exact parsed_no HNO.out HB1.out

end Go.Proofs.YtnfnhbldphiohaaDoor
