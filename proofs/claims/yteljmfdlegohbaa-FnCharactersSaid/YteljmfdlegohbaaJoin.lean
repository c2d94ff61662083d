/- DERIVED. A strings.Builder that the call itself has made: WriteString adds the text's bytes, String tells them. The new length takes at most 140737488355328 bytes. · JoinText, the program's and the reference's: the elements of a slice of strings with a text between each two. Called with at most 1048576 strings whose joined text takes at most 70368744177664 bytes. · The program's JoinText over its own joinParts and a strings.Builder, called with at most 1048576 strings whose joined text takes at most 70368744177664 bytes. · Plain facts on the parts of a text: joined again they are the text, and no part has the byte between them. · Texts of digits and of parts, read again: the plain mathematics of texts. No condition. -/
import Derived.Test.YteljmfdlegohbaaText
import Derived.Shelf.Strings.Builder1
import Derived.Lib.AppendStr
import Derived.Lib.Strings
import Derived.Test.YteljmfdlegohbaaNums
namespace Go.Proofs.Yteljmfdlegohbaa
open Go.RowKit Go.Shelf

def stringRen : Go.Shelf.Ren := ⟨fun | 169 => 108 | n => n, fun | 70 => 145 | 9 => 9 | 0 => 0 | 72 => 147 | 37 => 22 | 127 => 216 | 3 => 3 | 5 => 5 | n => n, fun | n => n⟩
theorem stringLays : Lays.n169 Try.prog stringRen := { mixed := by kernel_rfl, f169 := Try.func108.trans (congrArg some (by kernel_rfl)), t0 := Try.underlying0, a0 := Try.isAgg0, z0 := Try.sizeOf0, v0 := Try.zeroValue0, t3 := Try.underlying3, a3 := Try.isAgg3, z3 := Try.sizeOf3, v3 := Try.zeroValue3, t9 := Try.underlying9, a9 := Try.isAgg9, z9 := Try.sizeOf9, v9 := Try.zeroValue9, t37 := Try.underlying22, a37 := Try.isAgg22, z37 := Try.sizeOf22, v37 := Try.zeroValue22, t70 := Try.underlying145, a70 := Try.isAgg145, z70 := Try.sizeOf145, v70 := Try.zeroValue145, t72 := Try.underlying147, a72 := Try.isAgg147, z72 := Try.sizeOf147, v72 := Try.zeroValue147, t127 := Try.underlying216, a127 := Try.isAgg216, z127 := Try.sizeOf216, v127 := Try.zeroValue216 }
theorem stringExtra : Builder.Extra Try.prog stringRen := { sizeBuilder := by kernel_rfl, liesBuilder := by kernel_rfl, t5 := Try.underlying5, a5 := Try.isAgg5, z5 := Try.sizeOf5, v5 := Try.zeroValue5, infoByte := by kernel_rfl, cellsByte := by kernel_rfl, sizeByte := by kernel_rfl, neB5 := by decide }
theorem bString_any (B b : Nat) (l : List UInt8) (w : World) (h : Lib.IsBuilder 147 5 B b (Lib.byteCells l) w) (hBw : B ≤ w.heap.size) :
    Calls Try.prog 108 #[.pointer (some ⟨b, 0, none⟩)] w fun e w' => e = .returned (.string ⟨l.toArray⟩) ∧ Below B w w' :=
  Any.Builder_String_any stringLays stringExtra B b l w h hBw

theorem sizeB : (Try.prog.info? 147).map (·.size) = some 2 := by kernel_rfl
theorem liesB : liesAt Try.prog Try.prog.depth 147 (2 / Try.prog.cellsOf 147) 0 147 1 = true := by kernel_rfl

set_option maxHeartbeats 1000000 in
set_option maxRecDepth 100000 in
theorem copyCheck_any (B b : Nat) (bs : List Value) (w : World) (h : Lib.IsBuilder 147 5 B b bs w) :
    Calls Try.prog 168 #[.pointer (some ⟨b, 0, none⟩)] w fun e w' => e = .returned (.tuple #[]) ∧ (Lib.BuilderAt 147 5 B b (.pointer (some ⟨b, 0, none⟩)) bs w' ∧ Below B w w') := by
  obtain ⟨j, hj, hjs⟩ := Option.map_eq_some_iff.1 sizeB
  rcases h with h | h
  · have h0 := h.cell0
    have hsh := h.shape
    have hfz := h.frozen0
    have HH := Lib.hid h
    clear h
    go_enter Try.func168, Try.ntmps168
    go_wp2
    rw [Lib.run_to_unsafe w ⟨b, 0, none⟩ Try.underlying145 Try.underlying230 hj (by rw [hjs]; decide) hsh (Nat.zero_lt_succ 1)]
    simp only [Result.andThen]
    rw [Oper.upon_value]
    go_wp2
    rw [run_callFunc_extern Try.func190 (by kernel_rfl) (by kernel_rfl) (by kernel_rfl) (e := Extern.AbiNoEscape.same) (by kernel_rfl)]
    rw [Lib.run_noEscape]
    simp only [Result.andThen]
    rw [Oper.upon_value]
    go_wp2
    rw [Lib.run_from_unsafe w ⟨b, 0, none⟩ Try.underlying230 Try.underlying145 hj hsh liesB]
    simp only [Result.andThen]
    rw [Oper.upon_value]
    go_wp2
    go_end0
    exact ⟨rfl, HH.out.used _, (Below.refl B w).setCell (p := ⟨b, 0, none⟩) HH.out.1 _⟩
  · have h0 := h.cell0
    have HH := Lib.hid h
    clear h
    go_enter Try.func168, Try.ntmps168
    go_wp2
    rw [Lib.run_neq_ptr_same w _ Try.underlying145 hj]
    go_wp2
    go_end0
    exact ⟨rfl, HH.out, Below.refl B _⟩

set_option maxHeartbeats 1000000 in
set_option maxRecDepth 100000 in
theorem bWrite_any (B b : Nat) (bs : List Value) (s : ByteArray) (w : World) (h : Lib.IsBuilder 147 5 B b bs w) (hlen : bs.length + s.size ≤ 140737488355328) (hBw : B ≤ w.heap.size) :
    Calls Try.prog 107 #[.pointer (some ⟨b, 0, none⟩), .string s] w fun e w' => e = .returned (.tuple #[.int .i64 s.size, .nilIface]) ∧ (Lib.IsBuilder 147 5 B b (bs ++ Lib.strCells s) w' ∧ Below B w w') := by
  obtain ⟨i0, hi, hz0, hz1, hz2⟩ := info_parts info_u8
  go_enter Try.func107, Try.ntmps107
  go_wp2_with fail
  refine (copyCheck_any B b bs _ h).mono ?_
  rintro e w1 ⟨rfl, h1, hb1⟩
  obtain ⟨hB, v, hbk, hown, hne⟩ := h1
  have c0 : w1.cell? ⟨b, 0, none⟩ = some (.pointer (some ⟨b, 0, none⟩)) := by rw [Lib.cell_of_heap hbk]; rfl
  have c1 : w1.cell? ⟨b, 1, none⟩ = some v := by rw [Lib.cell_of_heap hbk]; rfl
  go_wp2_with (at_builtin; refine Lib.wpList_append_own_string _ rfl _ _ 22 9 rfl B 5 i0 Try.underlying22 Try.underlying9 hi hz0 hz1 hz2 _ _ _ rfl hown s rfl ?c3 ?c4 ?c5 ?_)
  case c3 => unfold maxLen; omega
  case c4 => omega
  case c5 => have := hb1.size; omega
  intro v' w2 hown' hgrow _
  have hlt : b < w1.heap.size := (Array.getElem?_eq_some_iff.mp hbk).1
  have hb2 : w2.heap[b]? = some (.cells #[.pointer (some ⟨b, 0, none⟩), v] 147 (0, 0)) := by rw [hgrow.block b hlt (fun e => hne e.symm)]; exact hbk
  have d0 : w2.cell? ⟨b, 0, none⟩ = some (.pointer (some ⟨b, 0, none⟩)) := by rw [Lib.cell_of_heap hb2]; rfl
  have d1 : w2.cell? ⟨b, 1, none⟩ = some v := by rw [Lib.cell_of_heap hb2]; rfl
  have f1 : w2.frozen? ⟨b, 1, none⟩ = false := Lib.frozen_of_heap hb2 1
  obtain ⟨ao, n', cap, rfl⟩ : ∃ ao n' cap, v' = .slice ao n' cap := by
    rcases hown'.2 with ⟨hv, _⟩ | ⟨g, cap, cur, hv, _⟩
    · exact ⟨_, _, _, hv⟩
    · exact ⟨_, _, _, hv⟩
  go_wp2
  go_ret2
  refine ⟨rfl, .inr ?_, ?_⟩
  · exact Lib.BuilderAt.put (T := 147) (e := 5) hB hb2 (bs' := bs ++ Lib.strCells s) (by simpa [Lib.strCells_length] using hown') (by decide)
  · exact (hb1.grown hgrow (by have := hb1.size; omega) (fun k hk => (hown.lt k hk).1)).setCell (p := ⟨b, 1, none⟩) hB _
end Go.Proofs.Yteljmfdlegohbaa

namespace Go.Proofs.Yteljmfdlegohbaa
open Go.RowKit

theorem strCells_eq (s : ByteArray) : Lib.strCells s = Lib.byteCells s.data.toList := rfl
def nums (l : List UInt8) : List Int := l.map fun c => (c.toNat : Int)
theorem byteCells_eq (l : List UInt8) : Lib.byteCells l = (nums l).map (.int .u8) := by simp [Lib.byteCells, nums]
theorem strOfNums_nums (l : List UInt8) : strOfNums (nums l) = ⟨l.toArray⟩ := by
  unfold strOfNums nums
  congr 2
  rw [List.map_map]
  conv => rhs; rw [← List.map_id l]
  apply List.map_congr_left
  intro c _
  simp

/-- The joined bytes of the first k elements. -/
def jn (ss : List ByteArray) (sep : ByteArray) : Nat → List UInt8
  | 0 => []
  | k + 1 => (if 0 < k then jn ss sep k ++ sep.data.toList else jn ss sep k) ++ (ss.getD k ByteArray.empty).data.toList
theorem jn_first (ss : List ByteArray) (sep : ByteArray) : jn ss sep 1 = (ss.getD 0 ByteArray.empty).data.toList := by simp [jn]
theorem jn_later (ss : List ByteArray) (sep : ByteArray) {k : Nat} (h : 0 < k) : jn ss sep (k + 1) = jn ss sep k ++ sep.data.toList ++ (ss.getD k ByteArray.empty).data.toList := by rw [jn, if_pos h]
def joined (ss : List ByteArray) (sep : ByteArray) : ByteArray := ⟨(jn ss sep ss.length).toArray⟩

theorem size_toList (s : ByteArray) : s.data.toList.length = s.size := by rw [Array.length_toList]; rfl

theorem jn_le (m : Nat) (ss : List ByteArray) (sep : ByteArray) (h : ∀ s ∈ ss, s.size ≤ m) : ∀ k, k ≤ ss.length → (jn ss sep k).length ≤ k * (m + sep.size) := by
  intro k
  induction k with
  | zero => intro _; simp [jn]
  | succ k ih =>
    intro hk
    have hs : (ss.getD k ByteArray.empty).size ≤ m := by
      rw [List.getD_eq_getElem?_getD, List.getElem?_eq_getElem (by omega)]
      exact h _ (List.getElem_mem _)
    rcases Nat.eq_zero_or_pos k with rfl | hp
    · rw [jn_first, size_toList]; omega
    · rw [jn_later _ _ hp, List.length_append, List.length_append, size_toList, size_toList]
      have := ih (by omega)
      rw [Nat.add_mul]
      omega

theorem ba_ext {a b : ByteArray} (h : a.data.toList = b.data.toList) : a = b := by
  cases a; cases b; simp at h; simp [h]
theorem ext_list (s : ByteArray) (f i : Nat) : (s.extract f i).data.toList = (s.data.toList.drop f).take (i - f) := by
  simp [ByteArray.data_extract, Array.toList_extract, List.extract_eq_take_drop]
theorem ext_size (s : ByteArray) (f i : Nat) (h : i ≤ s.size) : (s.extract f i).size = i - f := by
  rw [ByteArray.size_extract]; omega

/-- A byte between 0 and 255 as a byte. -/
def byte8 (c : Int) : UInt8 := UInt8.ofNat c.toNat
theorem bt_byte (s : ByteArray) (i : Nat) (h : i < s.size) (c : Int) (hc : bt s i = c) : s.data.toList[i]'(by rw [Array.length_toList]; exact h) = byte8 c := by
  subst hc
  rw [← bt_eq s i h]
  unfold byte8
  rw [Int.toNat_natCast, UInt8.ofNat_toNat]
  rfl
theorem bt_ext (s : ByteArray) (f i j : Nat) (hi : i ≤ s.size) (h : j < i - f) : bt (s.extract f i) j = bt s (f + j) := by
  have h1 : j < (s.extract f i).size := by rw [ext_size s f i hi]; exact h
  have h2 : f + j < s.size := by omega
  rw [← bt_eq _ j h1, ← bt_eq _ _ h2]
  have : (s.extract f i)[j]'h1 = s[f + j]'h2 := by
    simp [ByteArray.getElem_extract]
  rw [this]

/-- No byte of the text is c. -/
def Without (s : ByteArray) (c : Int) : Prop := ∀ j, j < s.size → bt s j ≠ c

theorem cuts_open (s : ByteArray) (c : Int) (i : Nat) (hi : i ≤ s.size) : ∀ j, (cuts s c i).2 ≤ j → j < i → bt s j ≠ c := by
  induction i with
  | zero => intro j _ hj; omega
  | succ i ih =>
    intro j hj1 hj2
    by_cases h : bt s i = c
    · rw [cuts_hit h] at hj1; simp at hj1; omega
    · rw [cuts_miss h] at hj1
      by_cases e : j = i
      · subst e; exact h
      · exact ih (by omega) j hj1 (by omega)
theorem without_ext (s : ByteArray) (c : Int) (i : Nat) (hi : i ≤ s.size) : Without (s.extract (cuts s c i).2 i) c := by
  intro j hj
  rw [ext_size s _ _ hi] at hj
  rw [bt_ext s _ _ j hi hj]
  exact cuts_open s c i hi _ (by omega) (by omega)
theorem cuts_without (s : ByteArray) (c : Int) (i : Nat) (hi : i ≤ s.size) : ∀ p ∈ (cuts s c i).1, Without p c ∧ p.size ≤ s.size := by
  induction i with
  | zero => intro p hp; simp [cuts] at hp
  | succ i ih =>
    intro p hp
    by_cases h : bt s i = c
    · rw [cuts_hit h] at hp
      simp at hp
      rcases hp with hp | rfl
      · exact ih (by omega) p hp
      · exact ⟨without_ext s c i (by omega), by rw [ext_size s _ _ (by omega)]; omega⟩
    · rw [cuts_miss h] at hp
      exact ih (by omega) p hp
theorem parts_without (s : ByteArray) (c : Int) : ∀ p ∈ parts s c, Without p c ∧ p.size ≤ s.size := by
  intro p hp
  simp [parts] at hp
  rcases hp with hp | rfl
  · exact cuts_without s c _ (Nat.le_refl _) p hp
  · exact ⟨without_ext s c _ (Nat.le_refl _), by rw [ext_size s _ _ (Nat.le_refl _)]; omega⟩
theorem cuts_none (s : ByteArray) (c : Int) (h : Without s c) (i : Nat) (hi : i ≤ s.size) : cuts s c i = ([], 0) := by
  induction i with
  | zero => rfl
  | succ i ih => rw [cuts_miss (h i (by omega)), ih (by omega)]
theorem parts_one (s : ByteArray) (c : Int) (h : Without s c) : (parts s c).length = 1 := by
  rw [parts, cuts_none s c h _ (Nat.le_refl _)]; rfl

/-- The parts, each with the byte behind it. -/
def closed (c : Int) (l : List ByteArray) : List UInt8 := l.flatMap fun p => p.data.toList ++ [byte8 c]
theorem closed_snoc (c : Int) (l : List ByteArray) (p : ByteArray) : closed c (l ++ [p]) = closed c l ++ (p.data.toList ++ [byte8 c]) := by simp [closed]

theorem cuts_text (s : ByteArray) (c : Int) (i : Nat) (hi : i ≤ s.size) : closed c (cuts s c i).1 ++ (s.data.toList.drop (cuts s c i).2).take (i - (cuts s c i).2) = s.data.toList.take i := by
  induction i with
  | zero => simp [cuts, closed]
  | succ i ih =>
    have hlen : i < s.data.toList.length := by rw [size_toList]; omega
    have hle := (cuts_le s c i).1
    have hstep : (s.data.toList.drop (cuts s c i).2).take (i + 1 - (cuts s c i).2) = (s.data.toList.drop (cuts s c i).2).take (i - (cuts s c i).2) ++ [s.data.toList[i]] := by
      rw [show i + 1 - (cuts s c i).2 = (i - (cuts s c i).2) + 1 from by omega]
      rw [List.take_succ_eq_append_getElem (by rw [List.length_drop]; omega)]
      rw [List.getElem_drop]
      congr 3
      omega
    rw [List.take_succ_eq_append_getElem hlen, ← ih (by omega)]
    by_cases h : bt s i = c
    · rw [cuts_hit h]
      simp only [Nat.sub_self, List.take_zero, List.append_nil, closed_snoc, ext_list]
      rw [bt_byte s i (by omega) c h]
      simp
    · rw [cuts_miss h, hstep]
      simp

theorem jn_closed (ss : List ByteArray) (sep : ByteArray) (c : Int) (hsep : sep.data.toList = [byte8 c]) (k : Nat) (hk : k < ss.length) : jn ss sep (k + 1) = closed c (ss.take k) ++ (ss.getD k ByteArray.empty).data.toList := by
  induction k with
  | zero => rw [jn_first]; simp [closed]
  | succ k ih =>
    rw [jn_later ss sep (by omega), ih (by omega), List.take_succ_eq_append_getElem (by omega : k < ss.length), closed_snoc, hsep]
    simp [List.getElem?_eq_getElem (show k < ss.length by omega)]

theorem joined_parts (s sep : ByteArray) (c : Int) (hsep : sep.data.toList = [byte8 c]) : joined (parts s c) sep = s := by
  apply ba_ext
  have h := cuts_text s c s.size (Nat.le_refl _)
  have hl : (parts s c).length = (cuts s c s.size).1.length + 1 := by simp [parts]
  unfold joined
  rw [hl, jn_closed _ _ c hsep _ (by omega)]
  have e1 : (parts s c).take (cuts s c s.size).1.length = (cuts s c s.size).1 := by unfold parts; exact List.take_left
  have e2 : (parts s c).getD (cuts s c s.size).1.length ByteArray.empty = s.extract (cuts s c s.size).2 s.size := by simp [parts]
  rw [e1, e2, ext_list, h]
  show (s.data.toList.take s.size).toArray.toList = _
  rw [List.take_of_length_le (by rw [size_toList]; exact Nat.le_refl _)]
end Go.Proofs.Yteljmfdlegohbaa

namespace Go.Proofs.Yteljmfdlegohbaa
open Go.RowKit

theorem bt_list (l : List UInt8) (i : Nat) (h : i < l.length) : bt ⟨l.toArray⟩ i = ((l[i]).toNat : Int) := by
  have hs : i < (⟨l.toArray⟩ : ByteArray).size := by show i < l.toArray.size; simpa using h
  rw [← bt_eq _ i hs]
  rfl
theorem size_list (l : List UInt8) : (⟨l.toArray⟩ : ByteArray).size = l.length := by show l.toArray.size = _; simp
theorem itoa_nat (n : Nat) : itoaText (n : Int) = ⟨(Lib.decDigits n).toArray⟩ := by
  rw [itoaText, Lib.itoa, if_neg (by omega)]
  rfl
theorem dec_mem (n : Nat) : ∀ c ∈ Lib.decDigits n, 48 ≤ (c.toNat : Int) ∧ (c.toNat : Int) ≤ 57 := by
  induction n using Nat.strongRecOn with
  | _ n ih =>
    intro c hc
    rw [Lib.decDigits] at hc
    by_cases h10 : n < 10
    · rw [dif_pos h10] at hc
      rw [List.mem_singleton.1 hc]
      have : (UInt8.ofNat (48 + n)).toNat = 48 + n := by simp; omega
      omega
    · rw [dif_neg h10] at hc
      rcases List.mem_append.1 hc with h | h
      · exact ih (n / 10) (by omega) c h
      · rw [List.mem_singleton.1 h]
        have : (UInt8.ofNat (48 + n % 10)).toNat = 48 + n % 10 := by simp; omega
        omega
theorem dec_ne (n : Nat) : 0 < (Lib.decDigits n).length := by
  rw [Lib.decDigits]
  split <;> simp
def dval (l : List UInt8) : Int := l.foldl (fun a c => 10 * a + ((c.toNat : Int) - 48)) 0
theorem dval_dec (n : Nat) : dval (Lib.decDigits n) = n := by
  induction n using Nat.strongRecOn with
  | _ n ih =>
    rw [Lib.decDigits]
    by_cases h10 : n < 10
    · rw [dif_pos h10]
      have : (UInt8.ofNat (48 + n)).toNat = 48 + n := by simp; omega
      simp only [dval, List.foldl_cons, List.foldl_nil, this]
      omega
    · rw [dif_neg h10]
      have h1 : (UInt8.ofNat (48 + n % 10)).toNat = 48 + n % 10 := by simp; omega
      have h2 := ih (n / 10) (by omega)
      unfold dval at h2 ⊢
      rw [List.foldl_append, h2]
      simp only [List.foldl_cons, List.foldl_nil, h1]
      omega
theorem vl_dval (l : List UInt8) : ∀ k, k ≤ l.length → vl ⟨l.toArray⟩ 0 k = dval (l.take k)
  | 0, _ => rfl
  | k + 1, h => by
    rw [vl, vl_dval l k (by omega), Nat.zero_add, bt_list l k (by omega), List.take_add_one, List.getElem?_eq_getElem (by omega : k < l.length)]
    unfold dval
    rw [List.foldl_append]
    rfl
theorem itoa_reads (n : Nat) (h : n ≤ 999999999) : okI (itoaText (n : Int)) = true ∧ pval (itoaText (n : Int)) = n := by
  have hs := itoa_size_pos h
  have hsl : (itoaText (n : Int)).size = (Lib.decDigits n).length := by rw [itoa_nat, size_list]
  have hp := dec_ne n
  have hb : ∀ i, i < (itoaText (n : Int)).size → 48 ≤ bt (itoaText (n : Int)) i ∧ bt (itoaText (n : Int)) i ≤ 57 := by
    intro i hi
    rw [hsl] at hi
    rw [itoa_nat, bt_list _ i hi]
    exact dec_mem n _ (List.getElem_mem _)
  have hn : ¬ isNeg (itoaText (n : Int)) := fun h => by have := hb 0 h.1; have := h.2; omega
  have ho : off (itoaText (n : Int)) = 0 := by unfold off; rw [if_neg hn]
  have hv : sval (itoaText (n : Int)) = n := by
    unfold sval
    rw [if_neg hn, ho, Nat.sub_zero, hsl]
    conv => lhs; rw [itoa_nat]
    rw [vl_dval _ _ (Nat.le_refl _), List.take_length, dval_dec]
  have hok : okI (itoaText (n : Int)) = true := by
    rw [okI_iff, ho, hv]
    exact ⟨by omega, by omega, fun j hj => by rw [Nat.zero_add]; exact hb j (by omega), rfl⟩
  exact ⟨hok, by rw [pval_yes hok, hv]⟩
theorem itoa_bytes (n : Nat) (i : Nat) (hi : i < (itoaText (n : Int)).size) : 48 ≤ bt (itoaText (n : Int)) i ∧ bt (itoaText (n : Int)) i ≤ 57 := by
  have hsl : (itoaText (n : Int)).size = (Lib.decDigits n).length := by rw [itoa_nat, size_list]
  rw [hsl] at hi
  rw [itoa_nat, bt_list _ i hi]
  exact dec_mem n _ (List.getElem_mem _)

theorem bt_getD (s : ByteArray) (i : Nat) : bt s i = (s.data.toList.map fun c => (c.toNat : Int)).getD i 0 := by
  by_cases h : i < s.size
  · rw [← bt_eq s i h, List.getD_eq_getElem?_getD, List.getElem?_map, List.getElem?_eq_getElem (by rw [size_toList]; exact h)]
    rfl
  · unfold bt
    rw [dif_neg h, List.getD_eq_getElem?_getD, List.getElem?_eq_none (by simp; omega)]
    rfl
theorem bt_left (a b : ByteArray) (i : Nat) (h : i < a.size) : bt (a ++ b) i = bt a i := by
  rw [bt_getD, bt_getD, ByteArray.data_append, Array.toList_append, List.map_append, List.getD_eq_getElem?_getD, List.getElem?_append_left (by simpa [size_toList] using h), ← List.getD_eq_getElem?_getD]
theorem bt_right (a b : ByteArray) (i : Nat) : bt (a ++ b) (a.size + i) = bt b i := by
  rw [bt_getD, bt_getD, ByteArray.data_append, Array.toList_append, List.map_append, List.getD_eq_getElem?_getD, List.getElem?_append_right (by simp), ← List.getD_eq_getElem?_getD]
  simp
theorem extract_left (a b : ByteArray) : (a ++ b).extract 0 a.size = a := by
  apply ba_ext
  rw [ext_list, ByteArray.data_append, Array.toList_append, List.drop_zero, Nat.sub_zero, List.take_left' (by rw [size_toList])]
theorem extract_right (a b : ByteArray) : (a ++ b).extract a.size (a ++ b).size = b := by
  apply ba_ext
  rw [ext_list, ByteArray.data_append, Array.toList_append, List.drop_left' (by rw [size_toList]), ByteArray.size_append, Nat.add_sub_cancel_left, List.take_of_length_le (by rw [size_toList]; exact Nat.le_refl _)]
def cl (b : UInt8) (l : List (List UInt8)) : List UInt8 := l.flatMap fun p => p ++ [b]
theorem cut_same {b : UInt8} : ∀ {x y r q : List UInt8}, b ∉ x → b ∉ y → x ++ b :: r = y ++ b :: q → x = y ∧ r = q
  | [], [], r, q, _, _, h => ⟨rfl, by simpa using h⟩
  | [], c :: y, _, _, _, hy, h => by
    have : b = c := by simp at h; exact h.1
    exact absurd (by rw [this]; simp) hy
  | c :: x, [], _, _, hx, _, h => by
    have : b = c := by simp at h; exact h.1.symm
    exact absurd (by rw [this]; simp) hx
  | c :: x, d :: y, r, q, hx, hy, h => by
    simp only [List.cons_append, List.cons.injEq] at h
    obtain ⟨h1, h2⟩ := cut_same (x := x) (y := y) (fun hm => hx (List.mem_cons_of_mem _ hm)) (fun hm => hy (List.mem_cons_of_mem _ hm)) h.2
    exact ⟨by rw [h.1, h1], h2⟩
theorem cl_inj {b : UInt8} : ∀ {xs ys : List (List UInt8)} {p q : List UInt8}, (∀ x ∈ xs, b ∉ x) → (∀ y ∈ ys, b ∉ y) → b ∉ p → b ∉ q → cl b xs ++ p = cl b ys ++ q → xs = ys ∧ p = q
  | [], [], p, q, _, _, _, _, h => ⟨rfl, by simpa [cl] using h⟩
  | [], y :: ys, p, q, _, _, hp, _, h => by
    have : p = y ++ [b] ++ cl b ys ++ q := by simpa [cl] using h
    exact absurd (by rw [this]; simp) hp
  | x :: xs, [], p, q, _, _, _, hq, h => by
    have : q = x ++ [b] ++ cl b xs ++ p := by simpa [cl] using h.symm
    exact absurd (by rw [this]; simp) hq
  | x :: xs, y :: ys, p, q, hx, hy, hp, hq, h => by
    have h1 : x ++ b :: (cl b xs ++ p) = y ++ b :: (cl b ys ++ q) := by simpa [cl] using h
    obtain ⟨rfl, h2⟩ := cut_same (hx x (by simp)) (hy y (by simp)) h1
    obtain ⟨h3, h4⟩ := cl_inj (fun z hz => hx z (by simp [hz])) (fun z hz => hy z (by simp [hz])) hp hq h2
    exact ⟨by rw [h3], h4⟩
theorem without_mem {p : ByteArray} {c : Int} (h0 : 0 ≤ c) (h1 : c < 256) (h : Without p c) : byte8 c ∉ p.data.toList := fun hm => by
  obtain ⟨j, hj, he⟩ := List.getElem_of_mem hm
  have hjs : j < p.size := by rw [size_toList] at hj; exact hj
  refine h j hjs ?_
  rw [bt_getD, List.getD_eq_getElem?_getD, List.getElem?_map, List.getElem?_eq_getElem hj, he]
  show ((byte8 c).toNat : Int) = c
  unfold byte8
  simp
  omega
theorem closed_cl (c : Int) (l : List ByteArray) : closed c l = cl (byte8 c) (l.map fun p => p.data.toList) := by
  unfold closed cl
  rw [List.flatMap_map]
theorem map_data_inj : ∀ {xs ys : List ByteArray}, (xs.map fun p => p.data.toList) = (ys.map fun p => p.data.toList) → xs = ys
  | [], [], _ => rfl
  | [], _ :: _, h => by simp at h
  | _ :: _, [], h => by simp at h
  | x :: xs, y :: ys, h => by
    simp only [List.map_cons, List.cons.injEq] at h
    rw [ba_ext h.1, map_data_inj h.2]
theorem parts_joined (ss : List ByteArray) (sep : ByteArray) (c : Int) (h0 : 0 ≤ c) (h1 : c < 256) (hsep : sep.data.toList = [byte8 c]) (hn : 0 < ss.length) (hw : ∀ p ∈ ss, Without p c) : parts (joined ss sep) c = ss := by
  obtain ⟨s, hs⟩ : ∃ s, s = joined ss sep := ⟨_, rfl⟩
  rw [← hs]
  have hd : s.data.toList = jn ss sep ss.length := by rw [hs]; simp [joined]
  obtain ⟨m, hm⟩ : ∃ m, ss.length = m + 1 := ⟨ss.length - 1, by omega⟩
  rw [hm, jn_closed ss sep c hsep m (by omega), closed_cl] at hd
  have h := cuts_text s c s.size (Nat.le_refl _)
  rw [List.take_of_length_le (i := s.size) (by rw [size_toList]; exact Nat.le_refl _), ← ext_list, closed_cl, hd] at h
  have hwm : ∀ p ∈ ss, byte8 c ∉ p.data.toList := fun p hp => without_mem h0 h1 (hw p hp)
  have hlast : ss.getD m ByteArray.empty ∈ ss := by
    rw [List.getD_eq_getElem?_getD, List.getElem?_eq_getElem (by omega : m < ss.length)]
    exact List.getElem_mem _
  obtain ⟨g1, g2⟩ := cl_inj (b := byte8 c)
    (fun x hx => by
      obtain ⟨p, hp, rfl⟩ := List.mem_map.1 hx
      exact without_mem h0 h1 (cuts_without s c s.size (Nat.le_refl _) p hp).1)
    (fun x hx => by
      obtain ⟨p, hp, rfl⟩ := List.mem_map.1 hx
      exact hwm p (List.mem_of_mem_take hp))
    (without_mem h0 h1 (without_ext s c s.size (Nat.le_refl _))) (hwm _ hlast) h
  have g3 : (cuts s c s.size).1 = ss.take m := map_data_inj g1
  have g4 : s.extract (cuts s c s.size).2 s.size = ss.getD m ByteArray.empty := ba_ext g2
  unfold parts
  rw [g3, g4, List.getD_eq_getElem?_getD, List.getElem?_eq_getElem (by omega : m < ss.length)]
  have : ss.take m ++ [ss[m]'(by omega)] = ss.take (m + 1) := by rw [List.take_add_one, List.getElem?_eq_getElem (by omega : m < ss.length)]; rfl
  rw [show (some (ss[m]'(by omega))).getD ByteArray.empty = ss[m]'(by omega) from rfl, this, List.take_of_length_le (by omega)]

end Go.Proofs.Yteljmfdlegohbaa
