/- DERIVED. ParseInt, the program's and the reference's: the number whose numeral a text is, if it has at most nine digits. Called with any text of at most 1048576 bytes; the program's: where the library's table of powers of ten is as its text lays it. -/
import Derived.Test.YticpfciebpdkdaaDoorFmtInt
import Derived.Test.YticpfciebpdkdaaDoorDigit
import Derived.Test.YticpfciebpdkdaaDoorText
import Derived.Lib.OthersKept
namespace Go.Proofs.YticpfciebpdkdaaDoor
open Go.RowKit

/-- The value of the n digits from place o on. -/
def vl (s : ByteArray) (o : Nat) : Nat → Int
  | 0 => 0
  | k + 1 => 10 * vl s o k + (bt s (o + k) - 48)
def digs (s : ByteArray) (o n : Nat) : Prop := ∀ j, j < n → 48 ≤ bt s (o + j) ∧ bt s (o + j) ≤ 57
theorem digs_succ {s : ByteArray} {o n : Nat} (h : digs s o n) (h1 : 48 ≤ bt s (o + n)) (h2 : bt s (o + n) ≤ 57) : digs s o (n + 1) := fun j hj => by
  by_cases e : j = n
  · subst e; exact ⟨h1, h2⟩
  · exact h j (by omega)
theorem vl_bound (s : ByteArray) (o : Nat) : ∀ n, digs s o n → 0 ≤ vl s o n ∧ vl s o n < ((10 ^ n : Nat) : Int)
  | 0, _ => by simp [vl]
  | n + 1, h => by
    have ih := vl_bound s o n (fun j hj => h j (by omega))
    have := h n (by omega)
    rw [vl, Nat.pow_succ]
    omega
theorem vl_nine (s : ByteArray) (o n : Nat) (hn : n ≤ 9) (h : digs s o n) : 0 ≤ vl s o n ∧ vl s o n ≤ 999999999 := by
  have h1 := vl_bound s o n h
  have h2 : 10 ^ n ≤ 10 ^ 9 := Nat.pow_le_pow_right (by omega) hn
  omega

def isNeg (s : ByteArray) : Prop := 0 < s.size ∧ bt s 0 = 45
instance (s : ByteArray) : Decidable (isNeg s) := by unfold isNeg; infer_instance
def off (s : ByteArray) : Nat := if isNeg s then 1 else 0
def sval (s : ByteArray) : Int := if isNeg s then -(vl s (off s) (s.size - off s)) else vl s (off s) (s.size - off s)
def okI (s : ByteArray) : Bool := decide (1 ≤ s.size - off s ∧ s.size - off s ≤ 9 ∧ (∀ j, j < s.size - off s → 48 ≤ bt s (off s + j) ∧ bt s (off s + j) ≤ 57) ∧ itoaText (sval s) = s)
def pval (s : ByteArray) : Int := if okI s = true then sval s else 0
theorem okI_iff (s : ByteArray) : okI s = true ↔ 1 ≤ s.size - off s ∧ s.size - off s ≤ 9 ∧ digs s (off s) (s.size - off s) ∧ itoaText (sval s) = s := by unfold okI digs; exact decide_eq_true_iff
theorem okI_no {s : ByteArray} (h : ¬ (1 ≤ s.size - off s ∧ s.size - off s ≤ 9 ∧ digs s (off s) (s.size - off s) ∧ itoaText (sval s) = s)) : okI s = false := by
  rw [← Bool.not_eq_true, okI_iff]; exact h
theorem pval_no {s : ByteArray} (h : okI s = false) : pval s = 0 := by rw [pval, h]; rfl
theorem pval_yes {s : ByteArray} (h : okI s = true) : pval s = sval s := by rw [pval, if_pos h]

theorem itoa_zero : itoaText 0 = ⟨#[48]⟩ := by simp [itoaText, Lib.itoa, Lib.decDigits]
theorem itoa_size_pos {n : Nat} (h : n ≤ 999999999) : (itoaText n).size ≤ 9 := by
  by_cases h0 : n = 0
  · subst h0; rw [show ((0 : Nat) : Int) = 0 from rfl, itoa_zero]; decide
  · rw [itoa_pos (by omega), strOfNums_size]; exact decs_len10 9 n (by omega)
theorem itoa_size_neg {n : Nat} (h : n ≤ 999999999) : (itoaText (-(n : Int))).size ≤ 10 := by
  by_cases h0 : n = 0
  · subst h0; rw [show (-((0 : Nat) : Int)) = 0 from rfl, itoa_zero]; decide
  · rw [itoa_neg (by omega), strOfNums_size]; have := decs_len10 9 n (by omega); simp; omega

/-- With digits alone and a value of at most nine digits, the numeral decides. -/
theorem okI_by {s : ByteArray} (hd : digs s (off s) (s.size - off s)) (hv : 0 ≤ vl s (off s) (s.size - off s)) (hm : vl s (off s) (s.size - off s) ≤ 999999999) : okI s = decide (itoaText (sval s) = s) := by
  by_cases he : itoaText (sval s) = s
  · rw [decide_eq_true he, okI_iff]
    obtain ⟨v, hvv⟩ := Int.eq_ofNat_of_zero_le hv
    refine ⟨?_, ?_, hd, he⟩
    · rcases Nat.lt_or_ge 0 (s.size - off s) with h | h
      · exact h
      · exfalso
        have h0 : s.size - off s = 0 := by omega
        have hz : sval s = 0 := by unfold sval; rw [h0]; split <;> simp [vl]
        rw [hz, itoa_zero] at he
        have hsz : s.size = 1 := by rw [← he]; rfl
        have hneg : isNeg s := by
          rcases Decidable.em (isNeg s) with h | h
          · exact h
          · have : off s = 0 := by unfold off; rw [if_neg h]
            omega
        have hb := hneg.2
        rw [← he] at hb
        exact absurd hb (by decide)
    · rcases Nat.lt_or_ge 9 (s.size - off s) with h | h
      · exfalso
        have hsz := congrArg ByteArray.size he
        by_cases hneg : isNeg s
        · have ho : off s = 1 := by unfold off; rw [if_pos hneg]
          have : sval s = -(v : Int) := by unfold sval; rw [if_pos hneg, hvv]
          rw [this] at hsz
          have := itoa_size_neg (n := v) (by omega)
          omega
        · have ho : off s = 0 := by unfold off; rw [if_neg hneg]
          have : sval s = (v : Int) := by unfold sval; rw [if_neg hneg, hvv]
          rw [this] at hsz
          have := itoa_size_pos (n := v) (by omega)
          omega
      · omega
  · rw [decide_eq_false he]
    exact okI_no (fun h => he h.2.2.2)

def ParsedInt (s : ByteArray) (w : World) (e : Ending) (w' : World) : Prop := e = .returned (.tuple #[.int .i64 (pval s), .bool (okI s)]) ∧ Below w.heap.size w w'
theorem parsed_no {s : ByteArray} {w w' : World} (h : okI s = false) (hb : Below w.heap.size w w') : ParsedInt s w (.returned (.tuple #[.int .i64 0, .bool false])) w' := ⟨by rw [h, pval_no h], hb⟩
theorem parsed_yes {s : ByteArray} {w w' : World} {v : Int} (h : okI s = true) (hv : v = sval s) (hb : Below w.heap.size w w') : ParsedInt s w (.returned (.tuple #[.int .i64 v, .bool true])) w' := ⟨by rw [h, pval_yes h, hv], hb⟩

/-- What the reference reads behind the sign. -/
theorem spec_tail (s t : ByteArray) (ht : t.size = s.size - off s) (hb : ∀ j, j < t.size → bt t j = bt s (off s + j)) (k : Nat) (hk : k ≤ t.size) : vl t 0 k = vl s (off s) k := by
  induction k with
  | zero => rfl
  | succ k ih => rw [vl, vl, ih (by omega), Nat.zero_add, hb k (by omega)]

theorem bt_tail (s : ByteArray) (j : Nat) (h : j < s.size - 1) : bt (s.extract 1 s.size) j = bt s (1 + j) := by
  have h1 : j < (s.extract 1 s.size).size := by rw [ByteArray.size_extract]; omega
  rw [← bt_eq _ j h1, ← bt_eq _ (1 + j) (by omega)]
  have : (s.extract 1 s.size)[j]'h1 = s[1 + j]'(by omega) := by simp [ByteArray.getElem_extract]
  rw [this]

set_option maxHeartbeats 4000000 in
theorem specParseInt_neg (s : ByteArray) (w : World) (hl : s.size ≤ 1048576) (hneg : isNeg s) :
    Calls Tryd.prog 29 #[.string s] w (ParsedInt s w) := by
  have hoff : off s = 1 := by unfold off; rw [if_pos hneg]
  have HN := Lib.hid hneg
  obtain ⟨hpos, hmin⟩ := hneg
  have e0 := bt_eq s 0 hpos
  rw [hmin] at e0
  have HO := Lib.hid hoff
  have HM := Lib.hid hmin
  clear hoff hmin
  obtain ⟨t, ht⟩ : ∃ t, t = s.extract 1 s.size := ⟨_, rfl⟩
  have hsz : t.size = s.size - 1 := by rw [ht, ByteArray.size_extract]; omega
  have HT := Lib.hid ht
  have HS := Lib.hid (by rw [HO.out]; exact hsz : t.size = s.size - off s)
  have HB := Lib.hid (fun j hj => by rw [HO.out, HT.out]; exact bt_tail s j (by omega) : ∀ j, j < t.size → bt t j = bt s (off s + j))
  have HSZ := Lib.hid hsz
  clear ht hsz
  by_cases h1 : s.size - 1 < 1
  · have c1 : ((s.size - 1 : Nat) : Int) < 1 := by omega
    go_enter Tryd.func29, Tryd.ntmps29
    go_wp2
    go_ret2
    exact parsed_no (okI_no (fun h => by have := HO.out; omega)) (Below.refl _ _)
  · by_cases h9 : 9 < s.size - 1
    · have c1 : ¬ ((s.size - 1 : Nat) : Int) < 1 := by omega
      have c9 : 9 < ((s.size - 1 : Nat) : Int) := by omega
      go_enter Tryd.func29, Tryd.ntmps29
      go_wp2
      go_ret2
      exact parsed_no (okI_no (fun h => by have := HO.out; omega)) (Below.refl _ _)
    · have c1 : ¬ ((s.size - 1 : Nat) : Int) < 1 := by omega
      have c9 : ¬ 9 < ((s.size - 1 : Nat) : Int) := by omega
      have l9 : t.size ≤ 9 := by have := HSZ.out; omega
      have lts : t.size < s.size := by have := HSZ.out; omega
      go_enter Tryd.func29, Tryd.ntmps29
      go_wp2
      rw [← HT.out]
      go_loop [5, 6] (fun nv i => ∃ (j : Nat) (q : Int), i = .int .i64 j ∧ j ≤ t.size ∧ nv = .int .i64 q ∧ q = vl t 0 j ∧ 0 ≤ q ∧ q ≤ 999999999 ∧ digs t 0 j) (fun _ i => t.size - (intOf i).toNat)
      case atStart => exact ⟨0, 0, rfl, Nat.zero_le _, rfl, rfl, by omega, by omega, fun j hj => by omega⟩
      case round =>
        obtain ⟨j, q, rfl, hj, rfl, hq, q0, q1, hd⟩ := hrel
        have HQ := Lib.hid hq
        have HDG := Lib.hid hd
        clear hq hd
        by_cases hlt : j < t.size
        · have e1 := bt_eq t j hlt
          obtain ⟨x, hx⟩ : ∃ x, x = bt t j := ⟨_, rfl⟩
          rw [← hx] at e1
          have HX := Lib.hid hx
          obtain ⟨x0, x1⟩ := bt_bound t j
          rw [← hx] at x0 x1
          clear hx
          have hbad : ¬ (48 ≤ x ∧ x ≤ 57) → okI s = false := fun hn => okI_no (fun h => hn (by
            have := h.2.2.1 j (by rw [← HS.out]; exact hlt)
            rw [← HB.out j hlt, ← HX.out] at this
            exact this))
          have HBD := Lib.hid hbad
          clear hbad
          by_cases hx1 : x < 48
          · go_wp2
            go_ret2
            exact parsed_no (HBD.out (by omega)) (Below.refl _ _)
          · by_cases hx2 : 57 < x
            · go_wp2
              go_ret2
              exact parsed_no (HBD.out (by omega)) (Below.refl _ _)
            · have hd2 := digs_succ (n := j) HDG.out (by rw [Nat.zero_add, ← HX.out]; omega) (by rw [Nat.zero_add, ← HX.out]; omega)
              have hv2 := vl_nine t 0 (j + 1) (by omega) hd2
              have hq2 : vl t 0 (j + 1) = 10 * q + (x - 48) := by rw [vl, Nat.zero_add, ← HQ.out, ← HX.out]
              rw [hq2] at hv2
              obtain ⟨v0, v1⟩ := hv2
              have HD2 := Lib.hid hd2
              have HQ2 := Lib.hid hq2
              clear hd2 hq2
              go_wp2
              go_round
              case rel => exact ⟨j + 1, 10 * q + x - 48, by go_num, by omega, rfl, by rw [HQ2.out]; omega, by omega, by omega, HD2.out⟩
              case measure => simp [intOf]; omega
        · have he : j = t.size := by omega
          have hdd : digs s (off s) (s.size - off s) := fun l hl => by
            rw [← HS.out] at hl
            rw [← HB.out l hl]
            have := HDG.out l (by omega)
            rw [Nat.zero_add] at this
            exact this
          have hvv : q = vl s (off s) (s.size - off s) := by rw [HQ.out, he, ← HS.out]; exact spec_tail s t HS.out HB.out _ (Nat.le_refl _)
          have hok := okI_by hdd (by rw [← hvv]; exact q0) (by rw [← hvv]; exact q1)
          have HV := Lib.hid hvv
          have HOK := Lib.hid hok
          clear he hdd hvv hok
          have hsv : -q = sval s := by unfold sval; rw [if_pos HN.out, ← HV.out]
          have HSV := Lib.hid hsv
          clear hsv
          go_wp2_with fail
          refine (specFormatInt_any (-q) _ (by omega) (by omega)).mono ?_
          rintro e w1 ⟨rfl, hb1⟩
          have HB1 := Lib.hid hb1
          clear hb1
          by_cases heq : itoaText (-q) = s
          · have hyes : okI s = true := by rw [HOK.out, ← HSV.out]; exact decide_eq_true heq
            have b0 : ((itoaText (-q)).toList == s.toList) = true := by rw [heq]; simp
            have b1 : (!(itoaText (-q)).toList == s.toList) = false := by rw [heq]; simp
            have HYES := Lib.hid hyes
            clear heq hyes
            go_wp2
            go_ret2
            exact parsed_yes HYES.out HSV.out HB1.out
          · have hno : okI s = false := by rw [HOK.out, ← HSV.out]; exact decide_eq_false heq
            have b0 := toList_ne heq
            have b1 : (!(itoaText (-q)).toList == s.toList) = true := by rw [toList_ne heq]; rfl
            have HNO := Lib.hid hno
            clear heq hno
            go_wp2
            go_ret2
            exact parsed_no HNO.out HB1.out

set_option maxHeartbeats 4000000 in
theorem specParseInt_pos (t : ByteArray) (w : World) (hl : t.size ≤ 1048576) (hneg : ¬ isNeg t) :
    Calls Tryd.prog 29 #[.string t] w (ParsedInt t w) := by
  have hoff : off t = 0 := by unfold off; rw [if_neg hneg]
  have HO := Lib.hid hoff
  have HS := Lib.hid (by rw [HO.out]; rfl : t.size = t.size - off t)
  have HB := Lib.hid (fun j _ => by rw [HO.out, Nat.zero_add] : ∀ j, j < t.size → bt t j = bt t (off t + j))
  have HNT := Lib.hid hneg
  clear hoff hneg
  have hpre : t.size = 0 ∨ (0 < t.size ∧ ¬ bt t 0 = 45) := by
    rcases Nat.eq_zero_or_pos t.size with h | h
    · exact .inl h
    · exact .inr ⟨h, fun e => HNT.out ⟨h, e⟩⟩
  rcases hpre with h0 | ⟨hpos, hmin⟩
  · have c0 : ¬ 0 < t.size := by omega
    have c1 : (t.size : Int) < 1 := by omega
    have HZ := Lib.hid h0
    clear h0
    go_enter Tryd.func29, Tryd.ntmps29
    go_wp2
    go_ret2
    exact parsed_no (okI_no (fun h => by have := HS.out; have := HZ.out; omega)) (Below.refl _ _)
  · have e0 := bt_eq t 0 hpos
    obtain ⟨y, hy⟩ : ∃ y, y = bt t 0 := ⟨_, rfl⟩
    rw [← hy] at e0 hmin
    have hy45 : (y == 45) = false := by simp; exact hmin
    clear hy
    by_cases h9 : 9 < t.size
    · have c1 : ¬ (t.size : Int) < 1 := by omega
      have c9 : 9 < (t.size : Int) := by omega
      go_enter Tryd.func29, Tryd.ntmps29
      go_wp2
      go_ret2
      exact parsed_no (okI_no (fun h => by have := HS.out; omega)) (Below.refl _ _)
    · have c1 : ¬ (t.size : Int) < 1 := by omega
      have c9 : ¬ 9 < (t.size : Int) := by omega
      have l9 : t.size ≤ 9 := by omega
      go_enter Tryd.func29, Tryd.ntmps29
      go_wp2
      go_loop [5, 6] (fun nv i => ∃ (j : Nat) (q : Int), i = .int .i64 j ∧ j ≤ t.size ∧ nv = .int .i64 q ∧ q = vl t 0 j ∧ 0 ≤ q ∧ q ≤ 999999999 ∧ digs t 0 j) (fun _ i => t.size - (intOf i).toNat)
      case atStart => exact ⟨0, 0, rfl, Nat.zero_le _, rfl, rfl, by omega, by omega, fun j hj => by omega⟩
      case round =>
        obtain ⟨j, q, rfl, hj, rfl, hq, q0, q1, hd⟩ := hrel
        have HQ := Lib.hid hq
        have HDG := Lib.hid hd
        clear hq hd
        by_cases hlt : j < t.size
        · have e1 := bt_eq t j hlt
          obtain ⟨x, hx⟩ : ∃ x, x = bt t j := ⟨_, rfl⟩
          rw [← hx] at e1
          have HX := Lib.hid hx
          obtain ⟨x0, x1⟩ := bt_bound t j
          rw [← hx] at x0 x1
          clear hx
          have hbad : ¬ (48 ≤ x ∧ x ≤ 57) → okI t = false := fun hn => okI_no (fun h => hn (by
            have := h.2.2.1 j (by rw [← HS.out]; exact hlt)
            rw [← HB.out j hlt, ← HX.out] at this
            exact this))
          have HBD := Lib.hid hbad
          clear hbad
          by_cases hx1 : x < 48
          · go_wp2
            go_ret2
            exact parsed_no (HBD.out (by omega)) (Below.refl _ _)
          · by_cases hx2 : 57 < x
            · go_wp2
              go_ret2
              exact parsed_no (HBD.out (by omega)) (Below.refl _ _)
            · have hd2 := digs_succ (n := j) HDG.out (by rw [Nat.zero_add, ← HX.out]; omega) (by rw [Nat.zero_add, ← HX.out]; omega)
              have hv2 := vl_nine t 0 (j + 1) (by omega) hd2
              have hq2 : vl t 0 (j + 1) = 10 * q + (x - 48) := by rw [vl, Nat.zero_add, ← HQ.out, ← HX.out]
              rw [hq2] at hv2
              obtain ⟨v0, v1⟩ := hv2
              have HD2 := Lib.hid hd2
              have HQ2 := Lib.hid hq2
              clear hd2 hq2
              go_wp2
              go_round
              case rel => exact ⟨j + 1, 10 * q + x - 48, by go_num, by omega, rfl, by rw [HQ2.out]; omega, by omega, by omega, HD2.out⟩
              case measure => simp [intOf]; omega
        · have he : j = t.size := by omega
          have hdd : digs t (off t) (t.size - off t) := fun l hl => by
            rw [← HS.out] at hl
            rw [← HB.out l hl]
            have := HDG.out l (by omega)
            rw [Nat.zero_add] at this
            exact this
          have hvv : q = vl t (off t) (t.size - off t) := by rw [HQ.out, he, ← HS.out]; exact spec_tail t t HS.out HB.out _ (Nat.le_refl _)
          have hok := okI_by hdd (by rw [← hvv]; exact q0) (by rw [← hvv]; exact q1)
          have HV := Lib.hid hvv
          have HOK := Lib.hid hok
          clear he hdd hvv hok
          have hsv : q = sval t := by unfold sval; rw [if_neg HNT.out, ← HV.out]
          have HSV := Lib.hid hsv
          clear hsv
          go_wp2_with fail
          refine (specFormatInt_any (q) _ (by omega) (by omega)).mono ?_
          rintro e w1 ⟨rfl, hb1⟩
          have HB1 := Lib.hid hb1
          clear hb1
          by_cases heq : itoaText (q) = t
          · have hyes : okI t = true := by rw [HOK.out, ← HSV.out]; exact decide_eq_true heq
            have b0 : ((itoaText (q)).toList == t.toList) = true := by rw [heq]; simp
            have b1 : (!(itoaText (q)).toList == t.toList) = false := by rw [heq]; simp
            have HYES := Lib.hid hyes
            clear heq hyes
            go_wp2
            go_ret2
            exact parsed_yes HYES.out HSV.out HB1.out
          · have hno : okI t = false := by rw [HOK.out, ← HSV.out]; exact decide_eq_false heq
            have b0 := toList_ne heq
            have b1 : (!(itoaText (q)).toList == t.toList) = true := by rw [toList_ne heq]; rfl
            have HNO := Lib.hid hno
            clear heq hno
            go_wp2
            go_ret2
            exact parsed_no HNO.out HB1.out

theorem specParseInt_any (s : ByteArray) (w : World) (hl : s.size ≤ 1048576) :
    Calls Tryd.prog 29 #[.string s] w (ParsedInt s w) := by
  by_cases h : isNeg s
  · exact specParseInt_neg s w hl h
  · exact specParseInt_pos s w hl h

end Go.Proofs.YticpfciebpdkdaaDoor
