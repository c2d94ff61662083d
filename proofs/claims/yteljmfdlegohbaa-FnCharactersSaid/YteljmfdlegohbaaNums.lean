/- DERIVED. strconv.Itoa at this program: every int's decimal numeral, where the library's table of powers of ten is as its text lays it. (One application of the library's contract; the numbers are this program's.) · FormatInt, the program's and the reference's: every int's decimal numeral. The program's: where the library's table of powers of ten is as its text lays it. · ParseInt, the program's and the reference's: the number whose numeral a text is, if it has at most nine digits. Called with any text of at most 1048576 bytes; the program's: where the library's table of powers of ten is as its text lays it. · The program's ParseInt and the law, called with any text, where the library's table of powers of ten is as its text lays it. -/
import Derived.Shelf.LaysM
import Derived.Shelf.Strconv.Itoa3
import Derived.Test.YteljmfdlegohbaaProg
import Derived.Test.YteljmfdlegohbaaText
import Derived.Test.YteljmfdlegohbaaCore
import Derived.Lib.OthersKept
namespace Go.Proofs.Yteljmfdlegohbaa
open Go.Shelf Go.RowKit
def itoaText (n : Int) : ByteArray := ⟨(Lib.itoa n).toArray⟩

theorem decDigits_eq (k : Nat) : 0 < k → (Lib.decDigits k).map (fun c => (c.toNat : Int)) = decs k := by
  induction k using Nat.strongRecOn with
  | _ k ih =>
    intro h
    rw [Lib.decDigits, decs_pos h]
    by_cases h10 : k < 10
    · rw [dif_pos h10, show k / 10 = 0 from by omega, decs_zero]
      have : (UInt8.ofNat (48 + k)).toNat = 48 + k := by simp; omega
      simp only [List.map_cons, List.map_nil, this, List.nil_append]
      congr 1
      omega
    · rw [dif_neg h10, List.map_append, ih (k / 10) (by omega) (by omega)]
      have : (UInt8.ofNat (48 + k % 10)).toNat = 48 + k % 10 := by simp; omega
      simp only [List.map_cons, List.map_nil, this]
      congr 2
theorem strOfNums_map (l : List UInt8) : strOfNums (l.map fun c => (c.toNat : Int)) = ⟨l.toArray⟩ := by
  unfold strOfNums
  congr 2
  rw [List.map_map]
  conv => rhs; rw [← List.map_id l]
  apply List.map_congr_left
  intro c _
  simp
theorem itoa_pos {n : Nat} (h : 0 < n) : itoaText n = strOfNums (decs n) := by
  rw [← decDigits_eq n h, strOfNums_map, itoaText, Lib.itoa, if_neg (by omega)]
  rfl
theorem itoa_neg {n : Nat} (h : 0 < n) : itoaText (-(n : Int)) = strOfNums (45 :: decs n) := by
  have : (45 : Int) :: decs n = (45 :: Lib.decDigits n).map (fun c => (c.toNat : Int)) := by rw [List.map_cons, decDigits_eq n h]; rfl
  rw [this, strOfNums_map, itoaText, Lib.itoa, if_pos (by omega)]
  simp

theorem below_grow (w : World) (os : Array Obj) : Below w.heap.size w (Go.Sort.grow w os) :=
  ⟨rfl, rfl, rfl, by simp [Go.Sort.grow], fun k hk => by simp [Go.Sort.grow, Array.getElem?_append, hk]⟩

/-- A table of the library's stands as long as what was there stands. -/
theorem tab_below {P : Program} {w w' : World} {name : String} {k : IntKind} {zs : List Int} (h : Lib.TabIs P w name k zs) (hb : Below w.heap.size w w') : Lib.TabIs P w' name k zs := by
  unfold Lib.TabIs World.var? at h ⊢
  cases hg : P.globalNamed name with
  | none => rw [hg] at h; cases h
  | some g =>
    rw [hg] at h
    simp only [Option.bind_some] at h ⊢
    have hlt : g < w.heap.size := by
      rcases Nat.lt_or_ge g w.heap.size with h' | h'
      · exact h'
      · rw [Array.getElem?_eq_none h'] at h; cases h
    rw [hb.block g hlt]
    exact h

theorem wf_i64 {n : Int} (h : (Lit.int .i64 n).wf = true) : -9223372036854775808 ≤ n ∧ n ≤ 9223372036854775807 := by
  simp [Lit.wf, IntKind.min, IntKind.max, IntKind.signed, IntKind.bits] at h
  omega

/-- The value of the n digits from place o on. -/
def vl (s : ByteArray) (o : Nat) : Nat → Int
  | 0 => 0
  | k + 1 => 10 * vl s o k + (bt s (o + k) - 48)
def digs (s : ByteArray) (o n : Nat) : Prop := ∀ j, j < n → 48 ≤ bt s (o + j) ∧ bt s (o + j) ≤ 57
theorem digs_succ {s : ByteArray} {o n : Nat} (h : digs s o n) (h1 : 48 ≤ bt s (o + n)) (h2 : bt s (o + n) ≤ 57) : digs s o (n + 1) := fun j hj => by
  by_cases e : j = n
  · subst e; exact ⟨h1, h2⟩
  · exact h j (by omega)
theorem vl_bound (s : ByteArray) (o : Nat) : ∀ n, digs s o n → 0 ≤ vl s o n ∧ vl s o n < ((10 ^ n : Nat) : Int)
  | 0, _ => by simp [vl]
  | n + 1, h => by
    have ih := vl_bound s o n (fun j hj => h j (by omega))
    have := h n (by omega)
    rw [vl, Nat.pow_succ]
    omega
theorem vl_nine (s : ByteArray) (o n : Nat) (hn : n ≤ 9) (h : digs s o n) : 0 ≤ vl s o n ∧ vl s o n ≤ 999999999 := by
  have h1 := vl_bound s o n h
  have h2 : 10 ^ n ≤ 10 ^ 9 := Nat.pow_le_pow_right (by omega) hn
  omega

def isNeg (s : ByteArray) : Prop := 0 < s.size ∧ bt s 0 = 45
instance (s : ByteArray) : Decidable (isNeg s) := by unfold isNeg; infer_instance
def off (s : ByteArray) : Nat := if isNeg s then 1 else 0
def sval (s : ByteArray) : Int := if isNeg s then -(vl s (off s) (s.size - off s)) else vl s (off s) (s.size - off s)
def okI (s : ByteArray) : Bool := decide (1 ≤ s.size - off s ∧ s.size - off s ≤ 9 ∧ (∀ j, j < s.size - off s → 48 ≤ bt s (off s + j) ∧ bt s (off s + j) ≤ 57) ∧ itoaText (sval s) = s)
def pval (s : ByteArray) : Int := if okI s = true then sval s else 0
theorem okI_iff (s : ByteArray) : okI s = true ↔ 1 ≤ s.size - off s ∧ s.size - off s ≤ 9 ∧ digs s (off s) (s.size - off s) ∧ itoaText (sval s) = s := by unfold okI digs; exact decide_eq_true_iff
theorem okI_no {s : ByteArray} (h : ¬ (1 ≤ s.size - off s ∧ s.size - off s ≤ 9 ∧ digs s (off s) (s.size - off s) ∧ itoaText (sval s) = s)) : okI s = false := by
  rw [← Bool.not_eq_true, okI_iff]; exact h
theorem pval_no {s : ByteArray} (h : okI s = false) : pval s = 0 := by rw [pval, h]; rfl
theorem pval_yes {s : ByteArray} (h : okI s = true) : pval s = sval s := by rw [pval, if_pos h]

theorem itoa_zero : itoaText 0 = ⟨#[48]⟩ := by simp [itoaText, Lib.itoa, Lib.decDigits]
theorem itoa_size_pos {n : Nat} (h : n ≤ 999999999) : (itoaText n).size ≤ 9 := by
  by_cases h0 : n = 0
  · subst h0; rw [show ((0 : Nat) : Int) = 0 from rfl, itoa_zero]; decide
  · rw [itoa_pos (by omega), strOfNums_size]; exact decs_len10 9 n (by omega)
theorem itoa_size_neg {n : Nat} (h : n ≤ 999999999) : (itoaText (-(n : Int))).size ≤ 10 := by
  by_cases h0 : n = 0
  · subst h0; rw [show (-((0 : Nat) : Int)) = 0 from rfl, itoa_zero]; decide
  · rw [itoa_neg (by omega), strOfNums_size]; have := decs_len10 9 n (by omega); simp; omega

/-- With digits alone and a value of at most nine digits, the numeral decides. -/
theorem okI_by {s : ByteArray} (hd : digs s (off s) (s.size - off s)) (hv : 0 ≤ vl s (off s) (s.size - off s)) (hm : vl s (off s) (s.size - off s) ≤ 999999999) : okI s = decide (itoaText (sval s) = s) := by
  by_cases he : itoaText (sval s) = s
  · rw [decide_eq_true he, okI_iff]
    obtain ⟨v, hvv⟩ := Int.eq_ofNat_of_zero_le hv
    refine ⟨?_, ?_, hd, he⟩
    · rcases Nat.lt_or_ge 0 (s.size - off s) with h | h
      · exact h
      · exfalso
        have h0 : s.size - off s = 0 := by omega
        have hz : sval s = 0 := by unfold sval; rw [h0]; split <;> simp [vl]
        rw [hz, itoa_zero] at he
        have hsz : s.size = 1 := by rw [← he]; rfl
        have hneg : isNeg s := by
          rcases Decidable.em (isNeg s) with h | h
          · exact h
          · have : off s = 0 := by unfold off; rw [if_neg h]
            omega
        have hb := hneg.2
        rw [← he] at hb
        exact absurd hb (by decide)
    · rcases Nat.lt_or_ge 9 (s.size - off s) with h | h
      · exfalso
        have hsz := congrArg ByteArray.size he
        by_cases hneg : isNeg s
        · have ho : off s = 1 := by unfold off; rw [if_pos hneg]
          have : sval s = -(v : Int) := by unfold sval; rw [if_pos hneg, hvv]
          rw [this] at hsz
          have := itoa_size_neg (n := v) (by omega)
          omega
        · have ho : off s = 0 := by unfold off; rw [if_neg hneg]
          have : sval s = (v : Int) := by unfold sval; rw [if_neg hneg, hvv]
          rw [this] at hsz
          have := itoa_size_pos (n := v) (by omega)
          omega
      · omega
  · rw [decide_eq_false he]
    exact okI_no (fun h => he h.2.2.2)

def ParsedInt (s : ByteArray) (w : World) (e : Ending) (w' : World) : Prop := e = .returned (.tuple #[.int .i64 (pval s), .bool (okI s)]) ∧ Below w.heap.size w w'
theorem parsed_no {s : ByteArray} {w w' : World} (h : okI s = false) (hb : Below w.heap.size w w') : ParsedInt s w (.returned (.tuple #[.int .i64 0, .bool false])) w' := ⟨by rw [h, pval_no h], hb⟩
theorem parsed_yes {s : ByteArray} {w w' : World} {v : Int} (h : okI s = true) (hv : v = sval s) (hb : Below w.heap.size w w') : ParsedInt s w (.returned (.tuple #[.int .i64 v, .bool true])) w' := ⟨by rw [h, pval_yes h, hv], hb⟩

/-- What the reference reads behind the sign. -/
theorem spec_tail (s t : ByteArray) (ht : t.size = s.size - off s) (hb : ∀ j, j < t.size → bt t j = bt s (off s + j)) (k : Nat) (hk : k ≤ t.size) : vl t 0 k = vl s (off s) k := by
  induction k with
  | zero => rfl
  | succ k ih => rw [vl, vl, ih (by omega), Nat.zero_add, hb k (by omega)]

theorem bt_tail (s : ByteArray) (j : Nat) (h : j < s.size - 1) : bt (s.extract 1 s.size) j = bt s (1 + j) := by
  have h1 : j < (s.extract 1 s.size).size := by rw [ByteArray.size_extract]; omega
  rw [← bt_eq _ j h1, ← bt_eq _ (1 + j) (by omega)]
  have : (s.extract 1 s.size)[j]'h1 = s[1 + j]'(by omega) := by simp [ByteArray.getElem_extract]
  rw [this]

theorem dig10 (c : Int) : (48 ≤ c ∧ c ≤ 57 ∧ digVal 10 c = c - 48) ∨ (¬ (48 ≤ c ∧ c ≤ 57) ∧ digVal 10 c = -1) := by
  unfold digVal
  by_cases h : 48 ≤ c ∧ c ≤ 57
  · left; exact ⟨h.1, h.2, if_pos h⟩
  · right; exact ⟨h, by rw [if_neg h, if_neg (by omega)]⟩

theorem off_le (s : ByteArray) (pos : Nat) (h : pos = 0 → ¬ isNeg s) : off s ≤ pos := by
  unfold off; split
  · rename_i hn
    rcases Nat.eq_zero_or_pos pos with h0 | h0
    · exact absurd hn (h h0)
    · omega
  · omega

/-- A byte that is no digit, behind the sign. -/
theorem okI_bad {s : ByteArray} (pos : Nat) (h : pos < s.size) (ho : off s ≤ pos) (hb : ¬ (48 ≤ bt s pos ∧ bt s pos ≤ 57)) : okI s = false :=
  okI_no (fun h' => hb (by
    have := h'.2.2.1 (pos - off s) (by omega)
    rw [show off s + (pos - off s) = pos from by omega] at this
    exact this))
/-- A value with more than nine digits. -/
theorem okI_big {s : ByteArray} (pos : Nat) (h : pos < s.size) (ho : off s ≤ pos) (hb : 999999999 < vl s (off s) (pos + 1 - off s)) : okI s = false :=
  okI_no (fun h' => by
    have := vl_nine s (off s) (pos + 1 - off s) (by omega) (fun j hj => h'.2.2.1 j (by omega))
    omega)

end Go.Proofs.Yteljmfdlegohbaa
