/- DERIVED. Plain facts on the parts of a text: joined again they are the text, and no part has the byte between them. -/
import Derived.Test.YticpfciebpdkdaaDoorSplit
import Derived.Test.YticpfciebpdkdaaDoorJoin
import Derived.Lib.Strings
namespace Go.Proofs.YticpfciebpdkdaaDoor
open Go.RowKit

theorem ba_ext {a b : ByteArray} (h : a.data.toList = b.data.toList) : a = b := by
  cases a; cases b; simp at h; simp [h]
theorem ext_list (s : ByteArray) (f i : Nat) : (s.extract f i).data.toList = (s.data.toList.drop f).take (i - f) := by
  simp [ByteArray.data_extract, Array.toList_extract, List.extract_eq_take_drop]
theorem ext_size (s : ByteArray) (f i : Nat) (h : i ≤ s.size) : (s.extract f i).size = i - f := by
  rw [ByteArray.size_extract]; omega

/-- A byte between 0 and 255 as a byte. -/
def byte8 (c : Int) : UInt8 := UInt8.ofNat c.toNat
theorem bt_byte (s : ByteArray) (i : Nat) (h : i < s.size) (c : Int) (hc : bt s i = c) : s.data.toList[i]'(by rw [Array.length_toList]; exact h) = byte8 c := by
  subst hc
  rw [← bt_eq s i h]
  unfold byte8
  rw [Int.toNat_natCast, UInt8.ofNat_toNat]
  rfl
theorem bt_ext (s : ByteArray) (f i j : Nat) (hi : i ≤ s.size) (h : j < i - f) : bt (s.extract f i) j = bt s (f + j) := by
  have h1 : j < (s.extract f i).size := by rw [ext_size s f i hi]; exact h
  have h2 : f + j < s.size := by omega
  rw [← bt_eq _ j h1, ← bt_eq _ _ h2]
  have : (s.extract f i)[j]'h1 = s[f + j]'h2 := by
    simp [ByteArray.getElem_extract]
  rw [this]

/-- No byte of the text is c. -/
def Without (s : ByteArray) (c : Int) : Prop := ∀ j, j < s.size → bt s j ≠ c

theorem cuts_open (s : ByteArray) (c : Int) (i : Nat) (hi : i ≤ s.size) : ∀ j, (cuts s c i).2 ≤ j → j < i → bt s j ≠ c := by
  induction i with
  | zero => intro j _ hj; omega
  | succ i ih =>
    intro j hj1 hj2
    by_cases h : bt s i = c
    · rw [cuts_hit h] at hj1; simp at hj1; omega
    · rw [cuts_miss h] at hj1
      by_cases e : j = i
      · subst e; exact h
      · exact ih (by omega) j hj1 (by omega)
theorem without_ext (s : ByteArray) (c : Int) (i : Nat) (hi : i ≤ s.size) : Without (s.extract (cuts s c i).2 i) c := by
  intro j hj
  rw [ext_size s _ _ hi] at hj
  rw [bt_ext s _ _ j hi hj]
  exact cuts_open s c i hi _ (by omega) (by omega)
theorem cuts_without (s : ByteArray) (c : Int) (i : Nat) (hi : i ≤ s.size) : ∀ p ∈ (cuts s c i).1, Without p c ∧ p.size ≤ s.size := by
  induction i with
  | zero => intro p hp; simp [cuts] at hp
  | succ i ih =>
    intro p hp
    by_cases h : bt s i = c
    · rw [cuts_hit h] at hp
      simp at hp
      rcases hp with hp | rfl
      · exact ih (by omega) p hp
      · exact ⟨without_ext s c i (by omega), by rw [ext_size s _ _ (by omega)]; omega⟩
    · rw [cuts_miss h] at hp
      exact ih (by omega) p hp
theorem parts_without (s : ByteArray) (c : Int) : ∀ p ∈ parts s c, Without p c ∧ p.size ≤ s.size := by
  intro p hp
  simp [parts] at hp
  rcases hp with hp | rfl
  · exact cuts_without s c _ (Nat.le_refl _) p hp
  · exact ⟨without_ext s c _ (Nat.le_refl _), by rw [ext_size s _ _ (Nat.le_refl _)]; omega⟩
theorem cuts_none (s : ByteArray) (c : Int) (h : Without s c) (i : Nat) (hi : i ≤ s.size) : cuts s c i = ([], 0) := by
  induction i with
  | zero => rfl
  | succ i ih => rw [cuts_miss (h i (by omega)), ih (by omega)]
theorem parts_one (s : ByteArray) (c : Int) (h : Without s c) : (parts s c).length = 1 := by
  rw [parts, cuts_none s c h _ (Nat.le_refl _)]; rfl

/-- The parts, each with the byte behind it. -/
def closed (c : Int) (l : List ByteArray) : List UInt8 := l.flatMap fun p => p.data.toList ++ [byte8 c]
theorem closed_snoc (c : Int) (l : List ByteArray) (p : ByteArray) : closed c (l ++ [p]) = closed c l ++ (p.data.toList ++ [byte8 c]) := by simp [closed]

theorem cuts_text (s : ByteArray) (c : Int) (i : Nat) (hi : i ≤ s.size) : closed c (cuts s c i).1 ++ (s.data.toList.drop (cuts s c i).2).take (i - (cuts s c i).2) = s.data.toList.take i := by
  induction i with
  | zero => simp [cuts, closed]
  | succ i ih =>
    have hlen : i < s.data.toList.length := by rw [size_toList]; omega
    have hle := (cuts_le s c i).1
    have hstep : (s.data.toList.drop (cuts s c i).2).take (i + 1 - (cuts s c i).2) = (s.data.toList.drop (cuts s c i).2).take (i - (cuts s c i).2) ++ [s.data.toList[i]] := by
      rw [show i + 1 - (cuts s c i).2 = (i - (cuts s c i).2) + 1 from by omega]
      rw [List.take_succ_eq_append_getElem (by rw [List.length_drop]; omega)]
      rw [List.getElem_drop]
      congr 3
      omega
    rw [List.take_succ_eq_append_getElem hlen, ← ih (by omega)]
    by_cases h : bt s i = c
    · rw [cuts_hit h]
      simp only [Nat.sub_self, List.take_zero, List.append_nil, closed_snoc, ext_list]
      rw [bt_byte s i (by omega) c h]
      simp
    · rw [cuts_miss h, hstep]
      simp

theorem jn_closed (ss : List ByteArray) (sep : ByteArray) (c : Int) (hsep : sep.data.toList = [byte8 c]) (k : Nat) (hk : k < ss.length) : jn ss sep (k + 1) = closed c (ss.take k) ++ (ss.getD k ByteArray.empty).data.toList := by
  induction k with
  | zero => rw [jn_first]; simp [closed]
  | succ k ih =>
    rw [jn_later ss sep (by omega), ih (by omega), List.take_succ_eq_append_getElem (by omega : k < ss.length), closed_snoc, hsep]
    simp [List.getElem?_eq_getElem (show k < ss.length by omega)]

theorem joined_parts (s sep : ByteArray) (c : Int) (hsep : sep.data.toList = [byte8 c]) : joined (parts s c) sep = s := by
  apply ba_ext
  have h := cuts_text s c s.size (Nat.le_refl _)
  have hl : (parts s c).length = (cuts s c s.size).1.length + 1 := by simp [parts]
  unfold joined
  rw [hl, jn_closed _ _ c hsep _ (by omega)]
  have e1 : (parts s c).take (cuts s c s.size).1.length = (cuts s c s.size).1 := by unfold parts; exact List.take_left
  have e2 : (parts s c).getD (cuts s c s.size).1.length ByteArray.empty = s.extract (cuts s c s.size).2 s.size := by simp [parts]
  rw [e1, e2, ext_list, h]
  show (s.data.toList.take s.size).toArray.toList = _
  rw [List.take_of_length_le (by rw [size_toList]; exact Nat.le_refl _)]

end Go.Proofs.YticpfciebpdkdaaDoor
