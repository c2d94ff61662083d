/- DERIVED. Bytes of a text, and the row of the table of types that a string has. · The laws' own small functions on slices of bytes, each called with a slice that reads as known numbers: a copy has these numbers, two slices are compared as their numbers are. · Texts of bytes that a call has made, and the decimal digits of a number. No condition. · FormatHex, the program's and the reference's: each returns two digits for each byte, and the empty text for more than 2000 bytes. Called with a slice that reads as known numbers from 0 to 255. · The laws' own small functions on slices of strings: comparing, writing marks, telling the marks. · SplitText, the program's and the reference's: the parts of a text between the bytes that are equal to one. Called with any text of at most 1048576 bytes and any byte. · The value of a hexadecimal digit, the program's and the reference's, called with any byte or rune from 0 on. -/
import Derived.Test.YteljmfdlegohbaaCore
import Derived.Test.YteljmfdlegohbaaProg
import Derived.Laws.RangeAny
import Derived.Laws.BytesArg
import Derived.Deep.RegionHeld3
import Derived.Deep.AppendLies
namespace Go.Proofs.Yteljmfdlegohbaa
open Go.RowKit

theorem info_str : (Try.prog.info? 9).map (fun i => (i.zero, i.size, i.bytes)) = some (some (.string ByteArray.empty), 1, 16) := by kernel_rfl

/-- Byte number i of a text. -/
def bt (s : ByteArray) (i : Nat) : Int := if h : i < s.size then ((s[i]'h).toNat : Int) else 0
theorem bt_eq (s : ByteArray) (i : Nat) (h : i < s.size) : ((s[i]'h).toNat : Int) = bt s i := by unfold bt; rw [dif_pos h]
theorem bt_bound (s : ByteArray) (i : Nat) : 0 ≤ bt s i ∧ bt s i < 256 := by
  unfold bt; split
  · rename_i h; have := (s[i]'h).toNat_lt; omega
  · omega

theorem toList_ne {x y : ByteArray} (h : x ≠ y) : (x.toList == y.toList) = false := by
  rw [ByteArray.toList_eq, ByteArray.toList_eq]
  apply beq_false_of_ne
  intro e
  apply h
  cases x; cases y
  simp at e
  simp [e]

theorem decode_at (s : ByteArray) (pos : Nat) (h : pos < s.size) : (bt s pos < 128 ∧ Utf8.decode s pos = ((bt s pos).toNat, 1)) ∨ (128 ≤ bt s pos ∧ 128 ≤ (Utf8.decode s pos).1) := by
  have hb := bt_eq s pos h
  by_cases ha : (s[pos]'h).toNat < 128
  · left
    refine ⟨by omega, ?_⟩
    rw [decode_ascii s pos h ha, ← hb]
    rfl
  · right
    exact ⟨by omega, (decode_high s pos h (by omega)).1⟩

theorem bt_nat (s : ByteArray) (i : Nat) : ((bt s i).toNat : Int) = bt s i := Int.toNat_of_nonneg (bt_bound s i).1

end Go.Proofs.Yteljmfdlegohbaa

namespace Go.Proofs.Yteljmfdlegohbaa
open Go.RowKit

theorem info_u8 : (Try.prog.info? 5).map (fun i => (i.zero, i.size, i.bytes)) = some (some (.int .u8 0), 1, 1) := by kernel_rfl

theorem ints_done {zs : List Int} {xs : List Value} {k : IntKind} (hl : xs.length = zs.length) (h : ∀ j, j < zs.length → xs[j]? = some (.int k (zs.getD j 0))) : xs = zs.map (.int k) := by
  apply List.ext_getElem?
  intro j
  by_cases hj : j < zs.length
  · rw [h j hj]; simp [List.getElem?_eq_getElem hj]
  · rw [List.getElem?_eq_none (by omega), List.getElem?_eq_none (by simp; omega)]

theorem made_bound {i0 : TypeInfo} {n : Nat} (h : i0.bytes = 1) (hn : n ≤ 1048576) : i0.bytes * n ≤ 281474976710656 := by rw [h]; omega

theorem take_same {za zb : List Int} (hl : za.length = zb.length) (h : ∀ j, j < za.length → za.getD j 0 = zb.getD j 0) : za = zb := by
  apply List.ext_getElem hl
  intro j h1 h2
  have := h j h1
  simpa [List.getElem?_eq_getElem h1, List.getElem?_eq_getElem h2] using this

theorem conv_owned {P : Program} {src dst e : TypeId} {w : World} {base : Nat} {v : Value} {n : Nat} {ns : List Int} (hs : P.underlying src = some (.slice e)) (he : P.underlying e = some (.int .u8)) (hd : P.underlying dst = some .string)
    (h : w.ownsRow base e 1 v n (ns.map (.int .u8))) : (convert src dst v).run P w = .ok (.string (strOfNums ns)) w := by
  have hl : ns.length = n := by simpa using h.1
  rcases h.2 with ⟨rfl, hn⟩ | ⟨g, cap, cur, rfl, hg, hh, hnc, hcm, hcs, ht⟩
  · have : ns = [] := List.eq_nil_of_length_eq_zero (by omega)
    subst this
    exact run_convert_bytes_nil w src e hs he 0 0 dst hd
  · refine run_convert_bytes_arg w src e hs he g 0 n cap ns hl (fun i hi => ?_) dst hd
    have := World.ownsRow.cellAt h i (by omega)
    simp only [Nat.zero_add]
    rw [this]
    simp [List.getElem?_eq_getElem (show i < ns.length by omega)]

/-- The decimal digits of a number, none for 0. -/
def decs (k : Nat) : List Int := if _h : k = 0 then [] else decs (k / 10) ++ [48 + (k : Int) % 10]
termination_by k
decreasing_by omega
theorem decs_zero : decs 0 = [] := by rw [decs, dif_pos rfl]
theorem decs_pos {k : Nat} (h : 0 < k) : decs k = decs (k / 10) ++ [48 + (k : Int) % 10] := by
  rw [decs, dif_neg (by omega)]
theorem decs_len (k : Nat) : (decs k).length ≤ k := by
  induction k using Nat.strongRecOn with
  | _ k ih =>
    by_cases h : k = 0
    · subst h; simp [decs_zero]
    · rw [decs_pos (by omega)]
      have := ih (k / 10) (by omega)
      simp; omega

theorem strOfNums_append (a b : List Int) : strOfNums a ++ strOfNums b = strOfNums (a ++ b) := by
  unfold strOfNums
  rw [ByteArray.mk_append_mk, List.map_append]

theorem decs_len10 (j : Nat) : ∀ k : Nat, k < 10 ^ j → (decs k).length ≤ j := by
  induction j with
  | zero => intro k h; obtain rfl : k = 0 := by omega
            simp [decs_zero]
  | succ j ih =>
    intro k h
    by_cases h0 : k = 0
    · subst h0; simp [decs_zero]
    · rw [decs_pos (by omega), List.length_append]
      have := ih (k / 10) (by rw [Nat.pow_succ] at h; omega)
      simp; omega
end Go.Proofs.Yteljmfdlegohbaa

namespace Go.Proofs.Yteljmfdlegohbaa
open Go.RowKit

/-- The letter of a digit from 0 to 15. -/
def hexByte (d : Int) : Int := if d < 10 then 48 + d else 87 + d
def hexs (zs : List Int) : List Int := zs.flatMap fun x => [hexByte (x / 16), hexByte (x % 16)]
theorem hexs_snoc (zs : List Int) (x : Int) : hexs (zs ++ [x]) = hexs zs ++ [hexByte (x / 16), hexByte (x % 16)] := by simp [hexs]
theorem hexs_length (zs : List Int) : (hexs zs).length = 2 * zs.length := by
  unfold hexs; induction zs with
  | nil => rfl
  | cons x r ih => simp [ih]; omega
theorem take_snoc (zs : List Int) (k : Nat) (h : k < zs.length) : zs.take (k + 1) = zs.take k ++ [zs.getD k 0] := by
  rw [List.take_succ_eq_append_getElem h]; simp [List.getElem?_eq_getElem h]

def hexText (zs : List Int) : ByteArray := if zs.length ≤ 2000 then strOfNums (hexs zs) else strOfNums []

theorem hexGet : ∀ m : Fin 16, (((⟨#[48, 49, 50, 51, 52, 53, 54, 55, 56, 57, 97, 98, 99, 100, 101, 102]⟩ : ByteArray)[m.val]'(m.isLt)).toNat : Int) = hexByte m.val := by decide
theorem index_hex {P : Program} (t : TypeId) (ht : P.underlying t = some .string) (d : Int) (h0 : 0 ≤ d) (h1 : d < 16) (k : IntKind) (w : World) :
    (Instr.index t (.string ⟨#[48, 49, 50, 51, 52, 53, 54, 55, 56, 57, 97, 98, 99, 100, 101, 102]⟩) (.int k d)).run P w = .ok (.int .u8 (hexByte d)) w := by
  obtain ⟨m, rfl⟩ := Int.eq_ofNat_of_zero_le h0
  have hm : m < 16 := by omega
  rw [run_index_string w t _ k _ ht, dif_pos ⟨h0, by show (m : Int) < (16 : Nat); omega⟩]
  have := hexGet ⟨m, hm⟩
  simp only [Int.toNat_natCast]
  rw [this]

theorem strs_same {za zb : List ByteArray} (hl : za.length = zb.length) (h : ∀ j, j < za.length → za.getD j ByteArray.empty = zb.getD j ByteArray.empty) : za = zb := by
  apply List.ext_getElem hl
  intro j h1 h2
  have := h j h1
  simpa [List.getElem?_eq_getElem h1, List.getElem?_eq_getElem h2] using this
theorem getD_map_str (zs : List ByteArray) (j : Nat) (h : j < (zs.map Value.string).length) : (zs.map Value.string)[j] = .string (zs.getD j ByteArray.empty) := by
  have : j < zs.length := by simpa using h
  simp [List.getElem?_eq_getElem this]
/-- The parts that are closed ahead of place i, and where the open one begins. -/
def cuts (s : ByteArray) (c : Int) : Nat → List ByteArray × Nat
  | 0 => ([], 0)
  | i + 1 => if bt s i = c then ((cuts s c i).1 ++ [s.extract (cuts s c i).2 i], i + 1) else cuts s c i
theorem cuts_hit {s : ByteArray} {c : Int} {i : Nat} (h : bt s i = c) : cuts s c (i + 1) = ((cuts s c i).1 ++ [s.extract (cuts s c i).2 i], i + 1) := by rw [cuts, if_pos h]
theorem cuts_miss {s : ByteArray} {c : Int} {i : Nat} (h : ¬ bt s i = c) : cuts s c (i + 1) = cuts s c i := by rw [cuts, if_neg h]
theorem cuts_le (s : ByteArray) (c : Int) (i : Nat) : (cuts s c i).2 ≤ i ∧ (cuts s c i).1.length ≤ i := by
  induction i with
  | zero => simp [cuts]
  | succ i ih => by_cases h : bt s i = c
                 · rw [cuts_hit h]; simp; omega
                 · rw [cuts_miss h]; omega
def parts (s : ByteArray) (c : Int) : List ByteArray := (cuts s c s.size).1 ++ [s.extract (cuts s c s.size).2 s.size]
theorem parts_len (s : ByteArray) (c : Int) : (parts s c).length ≤ s.size + 1 := by have := (cuts_le s c s.size).2; simp [parts]; omega

theorem extract_le (s : ByteArray) (a b : Nat) : (s.extract a b).size ≤ s.size := by rw [ByteArray.size_extract]; omega
theorem cuts_sizes (s : ByteArray) (c : Int) : ∀ i, ∀ p ∈ (cuts s c i).1, p.size ≤ s.size
  | 0, p, hp => by simp [cuts] at hp
  | i + 1, p, hp => by
    by_cases h : bt s i = c
    · rw [cuts_hit h] at hp
      rcases List.mem_append.1 hp with h1 | h1
      · exact cuts_sizes s c i p h1
      · rw [List.mem_singleton.1 h1]; exact extract_le _ _ _
    · rw [cuts_miss h] at hp
      exact cuts_sizes s c i p hp
theorem parts_sizes (s : ByteArray) (c : Int) (k : Nat) : ((parts s c).getD k ByteArray.empty).size ≤ s.size := by
  rw [List.getD_eq_getElem?_getD]
  rcases h : (parts s c)[k]? with _ | p
  · exact Nat.zero_le _
  · have hp := List.mem_of_getElem? h
    unfold parts at hp
    rcases List.mem_append.1 hp with h1 | h1
    · exact cuts_sizes s c _ p h1
    · rw [List.mem_singleton.1 h1]; exact extract_le _ _ _

def Splitted (B : Nat) (s : ByteArray) (c : Int) (w : World) (e : Ending) (w' : World) : Prop :=
  ∃ v, e = .returned v ∧ w'.ownsRow B 9 1 v (parts s c).length ((parts s c).map .string) ∧ Below B w w'

set_option maxRecDepth 100000 in
set_option maxHeartbeats 1000000 in
theorem specSplit_any (s : ByteArray) (c : Int) (w : World) (hl : s.size ≤ 1048576) :
    Calls Try.prog 196 #[.string s, .int .u8 c] w (Splitted w.heap.size s c w) := by
  have hlit := World.ownsRow_lit (e := 9) (size := 1) w #[] 0 (Nat.le_refl _) (by simp [maxLen]) rfl
  have hbel : Below w.heap.size w (w.alloc (.cells #[] 9)) := (Below.refl _ _).alloc (Nat.le_refl _) _
  have HL := Lib.hid hlit
  have HB := Lib.hid hbel
  clear hlit hbel
  obtain ⟨i0, hi, hz0, hz1, hz2⟩ := info_parts info_str
  go_enter Try.func196, Try.ntmps196
  go_wp2
  go_loopw [5, 6, 7] (fun u f i wr => (∃ (k n : Nat) (l : List ByteArray) (g : Nat), k ≤ s.size ∧ i = .int .i64 k ∧ f = .int .i64 g ∧ g ≤ k ∧ n ≤ k ∧ n = l.length ∧ (l, g) = cuts s c k ∧ wr.ownsRow w.heap.size 9 1 u n (l.map .string) ∧ Below w.heap.size w wr) ∨
      (i = .int .i64 (s.size + 1 : Nat) ∧ wr.ownsRow w.heap.size 9 1 u (parts s c).length ((parts s c).map .string) ∧ Below w.heap.size w wr))
    (fun _ _ i _ => s.size + 1 - (intOf i).toNat)
  case atStart => exact .inl ⟨0, 0, [], 0, Nat.zero_le _, rfl, rfl, Nat.le_refl _, Nat.le_refl _, rfl, rfl, HL.out, HB.out⟩
  case round =>
    rcases hrel with ⟨k, n, l, g, hk, rfl, rfl, hgk, hnk, hnl, hcut, hown, hb⟩ | ⟨rfl, hown, hb⟩
    · have HC := Lib.hid hcut
      have HN := Lib.hid hnl
      have HW := Lib.hid hown
      have HBB := Lib.hid hb
      have hle : w.heap.size ≤ wr.heap.size := hb.size
      have b63 : n + 1 ≤ maxLen := by unfold maxLen; omega
      have b47 : (n + 1) * 16 ≤ 140737488355328 := by omega
      clear hcut hnl hown hb
      by_cases hlt : k < s.size
      · have e1 := bt_eq s k hlt
        have hne : ((k : Int) == (s.size : Int)) = false := by simp; omega
        obtain ⟨x, hx⟩ : ∃ x, x = bt s k := ⟨_, rfl⟩
        rw [← hx] at e1
        have HX := Lib.hid hx
        clear hx
        by_cases hxc : x = c
        · subst hxc
          go_wp2_with (at_builtin; refine wpList_append_own _ rfl _ _ 201 rfl w.heap.size 9 i0 (.string ByteArray.empty) 1 16 Try.underlying201 hi hz0 hz1 hz2 rfl (by decide) _ _ _ rfl (HW.out.alloc _) ⟨wr.heap.size, 0, none⟩ 1 1 [.string (s.extract g k)] rfl rfl ?c1 ?c2 b63 b47 ?c5 ?_)
          case c1 => exact cell_one_new _ _ _
          case c2 => intro u hu; simp at hu; subst hu; rfl
          case c5 => simp; omega
          · intro v' w1 hown1 hgrow _
            have HG := Lib.hid hown1
            have HB1 := Lib.hid ((HBB.out.alloc hle _).grown hgrow (by simp; omega) (fun j hj => (HW.out.lt j hj).1))
            clear hown1 hgrow
            go_wp2
            go_roundw
            case rel =>
              have hc := cuts_hit (s := s) (c := x) (i := k) HX.out.symm
              rw [← HC.out] at hc
              exact .inl ⟨k + 1, n + 1, l ++ [s.extract g k], k + 1, by omega, by go_num, by go_num, Nat.le_refl _, by omega, by simp [HN.out], hc.symm, by simpa using HG.out, HB1.out⟩
            case measure => simp [intOf]; omega
        · go_wp2
          go_roundw
          case rel =>
            have hc := cuts_miss (s := s) (c := c) (i := k) (by rw [← HX.out]; exact hxc)
            rw [← HC.out] at hc
            exact .inl ⟨k + 1, n, l, g, by omega, by go_num, rfl, by omega, by omega, HN.out, hc.symm, HW.out, HBB.out⟩
          case measure => simp [intOf]; omega
      · obtain rfl : k = s.size := by omega
        go_wp2_with (at_builtin; refine wpList_append_own _ rfl _ _ 201 rfl w.heap.size 9 i0 (.string ByteArray.empty) 1 16 Try.underlying201 hi hz0 hz1 hz2 rfl (by decide) _ _ _ rfl (HW.out.alloc _) ⟨wr.heap.size, 0, none⟩ 1 1 [.string (s.extract g s.size)] rfl rfl ?c1 ?c2 b63 b47 ?c5 ?_)
        case c1 => exact cell_one_new _ _ _
        case c2 => intro u hu; simp at hu; subst hu; rfl
        case c5 => simp; omega
        · intro v' w1 hown1 hgrow _
          have HG := Lib.hid hown1
          have HB1 := Lib.hid ((HBB.out.alloc hle _).grown hgrow (by simp; omega) (fun j hj => (HW.out.lt j hj).1))
          clear hown1 hgrow
          go_wp2
          go_roundw
          case rel =>
            have hp : parts s c = l ++ [s.extract g s.size] := by rw [parts, ← HC.out]
            refine .inr ⟨by go_num, ?_, HB1.out⟩
            rw [hp, List.map_append, List.length_append, ← HN.out]
            exact HG.out
          case measure => simp [intOf]
    · have HW := Lib.hid hown
      have HBB := Lib.hid hb
      clear hown hb
      go_wp2
      go_ret
      exact ⟨_, rfl, HW.out, HBB.out⟩

/-- The value of a digit to the base 'base' (10 or 16); -1 if it is none. -/
def digVal (base c : Int) : Int :=
  if 48 ≤ c ∧ c ≤ 57 then c - 48 else if 97 ≤ c ∧ c < 87 + base then c - 87 else -1

theorem digVal_lt (base c : Int) (h : 10 ≤ base) : digVal base c < base := by unfold digVal; split <;> try split
                                                                              all_goals omega
theorem digVal_ge (base c : Int) : -1 ≤ digVal base c := by unfold digVal; split <;> try split
                                                            all_goals omega
theorem digVal_high (base c : Int) (hb : base ≤ 16) (h : 128 ≤ c) : digVal base c = -1 := by unfold digVal; rw [if_neg (by omega), if_neg (by omega)]

/-- What digitValue returns. -/
def digRes (base c : Int) : Value := if digVal base c < 0 then .tuple #[.int .i64 0, .bool false] else .tuple #[.int .i64 (digVal base c), .bool true]

theorem digRes_no {b c : Int} (h : digVal b c < 0) : digRes b c = .tuple #[.int .i64 0, .bool false] := by rw [digRes, if_pos h]
theorem digRes_yes {b c : Int} (h : ¬ digVal b c < 0) : digRes b c = .tuple #[.int .i64 (digVal b c), .bool true] := by rw [digRes, if_neg h]

end Go.Proofs.Yteljmfdlegohbaa
