/- DERIVED. Texts of digits and of parts, read again: the plain mathematics of texts. No condition. -/
import Derived.Test.YticpfciebpdkdaaDoorParseInt
import Derived.Test.YticpfciebpdkdaaDoorPartsMath
import Derived.Test.YticpfciebpdkdaaDoorJoin
namespace Go.Proofs.YticpfciebpdkdaaDoor
open Go.RowKit

theorem bt_list (l : List UInt8) (i : Nat) (h : i < l.length) : bt ⟨l.toArray⟩ i = ((l[i]).toNat : Int) := by
  have hs : i < (⟨l.toArray⟩ : ByteArray).size := by show i < l.toArray.size; simpa using h
  rw [← bt_eq _ i hs]
  rfl
theorem size_list (l : List UInt8) : (⟨l.toArray⟩ : ByteArray).size = l.length := by show l.toArray.size = _; simp
theorem itoa_nat (n : Nat) : itoaText (n : Int) = ⟨(Lib.decDigits n).toArray⟩ := by
  rw [itoaText, Lib.itoa, if_neg (by omega)]
  rfl
theorem dec_mem (n : Nat) : ∀ c ∈ Lib.decDigits n, 48 ≤ (c.toNat : Int) ∧ (c.toNat : Int) ≤ 57 := by
  induction n using Nat.strongRecOn with
  | _ n ih =>
    intro c hc
    rw [Lib.decDigits] at hc
    by_cases h10 : n < 10
    · rw [dif_pos h10] at hc
      rw [List.mem_singleton.1 hc]
      have : (UInt8.ofNat (48 + n)).toNat = 48 + n := by simp; omega
      omega
    · rw [dif_neg h10] at hc
      rcases List.mem_append.1 hc with h | h
      · exact ih (n / 10) (by omega) c h
      · rw [List.mem_singleton.1 h]
        have : (UInt8.ofNat (48 + n % 10)).toNat = 48 + n % 10 := by simp; omega
        omega
theorem dec_ne (n : Nat) : 0 < (Lib.decDigits n).length := by
  rw [Lib.decDigits]
  split <;> simp
def dval (l : List UInt8) : Int := l.foldl (fun a c => 10 * a + ((c.toNat : Int) - 48)) 0
theorem dval_dec (n : Nat) : dval (Lib.decDigits n) = n := by
  induction n using Nat.strongRecOn with
  | _ n ih =>
    rw [Lib.decDigits]
    by_cases h10 : n < 10
    · rw [dif_pos h10]
      have : (UInt8.ofNat (48 + n)).toNat = 48 + n := by simp; omega
      simp only [dval, List.foldl_cons, List.foldl_nil, this]
      omega
    · rw [dif_neg h10]
      have h1 : (UInt8.ofNat (48 + n % 10)).toNat = 48 + n % 10 := by simp; omega
      have h2 := ih (n / 10) (by omega)
      unfold dval at h2 ⊢
      rw [List.foldl_append, h2]
      simp only [List.foldl_cons, List.foldl_nil, h1]
      omega
theorem vl_dval (l : List UInt8) : ∀ k, k ≤ l.length → vl ⟨l.toArray⟩ 0 k = dval (l.take k)
  | 0, _ => rfl
  | k + 1, h => by
    rw [vl, vl_dval l k (by omega), Nat.zero_add, bt_list l k (by omega), List.take_add_one, List.getElem?_eq_getElem (by omega : k < l.length)]
    unfold dval
    rw [List.foldl_append]
    rfl
theorem itoa_reads (n : Nat) (h : n ≤ 999999999) : okI (itoaText (n : Int)) = true ∧ pval (itoaText (n : Int)) = n := by
  have hs := itoa_size_pos h
  have hsl : (itoaText (n : Int)).size = (Lib.decDigits n).length := by rw [itoa_nat, size_list]
  have hp := dec_ne n
  have hb : ∀ i, i < (itoaText (n : Int)).size → 48 ≤ bt (itoaText (n : Int)) i ∧ bt (itoaText (n : Int)) i ≤ 57 := by
    intro i hi
    rw [hsl] at hi
    rw [itoa_nat, bt_list _ i hi]
    exact dec_mem n _ (List.getElem_mem _)
  have hn : ¬ isNeg (itoaText (n : Int)) := fun h => by have := hb 0 h.1; have := h.2; omega
  have ho : off (itoaText (n : Int)) = 0 := by unfold off; rw [if_neg hn]
  have hv : sval (itoaText (n : Int)) = n := by
    unfold sval
    rw [if_neg hn, ho, Nat.sub_zero, hsl]
    conv => lhs; rw [itoa_nat]
    rw [vl_dval _ _ (Nat.le_refl _), List.take_length, dval_dec]
  have hok : okI (itoaText (n : Int)) = true := by
    rw [okI_iff, ho, hv]
    exact ⟨by omega, by omega, fun j hj => by rw [Nat.zero_add]; exact hb j (by omega), rfl⟩
  exact ⟨hok, by rw [pval_yes hok, hv]⟩
theorem itoa_bytes (n : Nat) (i : Nat) (hi : i < (itoaText (n : Int)).size) : 48 ≤ bt (itoaText (n : Int)) i ∧ bt (itoaText (n : Int)) i ≤ 57 := by
  have hsl : (itoaText (n : Int)).size = (Lib.decDigits n).length := by rw [itoa_nat, size_list]
  rw [hsl] at hi
  rw [itoa_nat, bt_list _ i hi]
  exact dec_mem n _ (List.getElem_mem _)

theorem bt_getD (s : ByteArray) (i : Nat) : bt s i = (s.data.toList.map fun c => (c.toNat : Int)).getD i 0 := by
  by_cases h : i < s.size
  · rw [← bt_eq s i h, List.getD_eq_getElem?_getD, List.getElem?_map, List.getElem?_eq_getElem (by rw [size_toList]; exact h)]
    rfl
  · unfold bt
    rw [dif_neg h, List.getD_eq_getElem?_getD, List.getElem?_eq_none (by simp; omega)]
    rfl
theorem bt_left (a b : ByteArray) (i : Nat) (h : i < a.size) : bt (a ++ b) i = bt a i := by
  rw [bt_getD, bt_getD, ByteArray.data_append, Array.toList_append, List.map_append, List.getD_eq_getElem?_getD, List.getElem?_append_left (by simpa [size_toList] using h), ← List.getD_eq_getElem?_getD]
theorem bt_right (a b : ByteArray) (i : Nat) : bt (a ++ b) (a.size + i) = bt b i := by
  rw [bt_getD, bt_getD, ByteArray.data_append, Array.toList_append, List.map_append, List.getD_eq_getElem?_getD, List.getElem?_append_right (by simp), ← List.getD_eq_getElem?_getD]
  simp
theorem extract_left (a b : ByteArray) : (a ++ b).extract 0 a.size = a := by
  apply ba_ext
  rw [ext_list, ByteArray.data_append, Array.toList_append, List.drop_zero, Nat.sub_zero, List.take_left' (by rw [size_toList])]
theorem extract_right (a b : ByteArray) : (a ++ b).extract a.size (a ++ b).size = b := by
  apply ba_ext
  rw [ext_list, ByteArray.data_append, Array.toList_append, List.drop_left' (by rw [size_toList]), ByteArray.size_append, Nat.add_sub_cancel_left, List.take_of_length_le (by rw [size_toList]; exact Nat.le_refl _)]
def cl (b : UInt8) (l : List (List UInt8)) : List UInt8 := l.flatMap fun p => p ++ [b]
theorem cut_same {b : UInt8} : ∀ {x y r q : List UInt8}, b ∉ x → b ∉ y → x ++ b :: r = y ++ b :: q → x = y ∧ r = q
  | [], [], r, q, _, _, h => ⟨rfl, by simpa using h⟩
  | [], c :: y, _, _, _, hy, h => by
    have : b = c := by simp at h; exact h.1
    exact absurd (by rw [this]; simp) hy
  | c :: x, [], _, _, hx, _, h => by
    have : b = c := by simp at h; exact h.1.symm
    exact absurd (by rw [this]; simp) hx
  | c :: x, d :: y, r, q, hx, hy, h => by
    simp only [List.cons_append, List.cons.injEq] at h
    obtain ⟨h1, h2⟩ := cut_same (x := x) (y := y) (fun hm => hx (List.mem_cons_of_mem _ hm)) (fun hm => hy (List.mem_cons_of_mem _ hm)) h.2
    exact ⟨by rw [h.1, h1], h2⟩
theorem cl_inj {b : UInt8} : ∀ {xs ys : List (List UInt8)} {p q : List UInt8}, (∀ x ∈ xs, b ∉ x) → (∀ y ∈ ys, b ∉ y) → b ∉ p → b ∉ q → cl b xs ++ p = cl b ys ++ q → xs = ys ∧ p = q
  | [], [], p, q, _, _, _, _, h => ⟨rfl, by simpa [cl] using h⟩
  | [], y :: ys, p, q, _, _, hp, _, h => by
    have : p = y ++ [b] ++ cl b ys ++ q := by simpa [cl] using h
    exact absurd (by rw [this]; simp) hp
  | x :: xs, [], p, q, _, _, _, hq, h => by
    have : q = x ++ [b] ++ cl b xs ++ p := by simpa [cl] using h.symm
    exact absurd (by rw [this]; simp) hq
  | x :: xs, y :: ys, p, q, hx, hy, hp, hq, h => by
    have h1 : x ++ b :: (cl b xs ++ p) = y ++ b :: (cl b ys ++ q) := by simpa [cl] using h
    obtain ⟨rfl, h2⟩ := cut_same (hx x (by simp)) (hy y (by simp)) h1
    obtain ⟨h3, h4⟩ := cl_inj (fun z hz => hx z (by simp [hz])) (fun z hz => hy z (by simp [hz])) hp hq h2
    exact ⟨by rw [h3], h4⟩
theorem without_mem {p : ByteArray} {c : Int} (h0 : 0 ≤ c) (h1 : c < 256) (h : Without p c) : byte8 c ∉ p.data.toList := fun hm => by
  obtain ⟨j, hj, he⟩ := List.getElem_of_mem hm
  have hjs : j < p.size := by rw [size_toList] at hj; exact hj
  refine h j hjs ?_
  rw [bt_getD, List.getD_eq_getElem?_getD, List.getElem?_map, List.getElem?_eq_getElem hj, he]
  show ((byte8 c).toNat : Int) = c
  unfold byte8
  simp
  omega
theorem closed_cl (c : Int) (l : List ByteArray) : closed c l = cl (byte8 c) (l.map fun p => p.data.toList) := by
  unfold closed cl
  rw [List.flatMap_map]
theorem map_data_inj : ∀ {xs ys : List ByteArray}, (xs.map fun p => p.data.toList) = (ys.map fun p => p.data.toList) → xs = ys
  | [], [], _ => rfl
  | [], _ :: _, h => by simp at h
  | _ :: _, [], h => by simp at h
  | x :: xs, y :: ys, h => by
    simp only [List.map_cons, List.cons.injEq] at h
    rw [ba_ext h.1, map_data_inj h.2]
theorem parts_joined (ss : List ByteArray) (sep : ByteArray) (c : Int) (h0 : 0 ≤ c) (h1 : c < 256) (hsep : sep.data.toList = [byte8 c]) (hn : 0 < ss.length) (hw : ∀ p ∈ ss, Without p c) : parts (joined ss sep) c = ss := by
  obtain ⟨s, hs⟩ : ∃ s, s = joined ss sep := ⟨_, rfl⟩
  rw [← hs]
  have hd : s.data.toList = jn ss sep ss.length := by rw [hs]; simp [joined]
  obtain ⟨m, hm⟩ : ∃ m, ss.length = m + 1 := ⟨ss.length - 1, by omega⟩
  rw [hm, jn_closed ss sep c hsep m (by omega), closed_cl] at hd
  have h := cuts_text s c s.size (Nat.le_refl _)
  rw [List.take_of_length_le (i := s.size) (by rw [size_toList]; exact Nat.le_refl _), ← ext_list, closed_cl, hd] at h
  have hwm : ∀ p ∈ ss, byte8 c ∉ p.data.toList := fun p hp => without_mem h0 h1 (hw p hp)
  have hlast : ss.getD m ByteArray.empty ∈ ss := by
    rw [List.getD_eq_getElem?_getD, List.getElem?_eq_getElem (by omega : m < ss.length)]
    exact List.getElem_mem _
  obtain ⟨g1, g2⟩ := cl_inj (b := byte8 c)
    (fun x hx => by
      obtain ⟨p, hp, rfl⟩ := List.mem_map.1 hx
      exact without_mem h0 h1 (cuts_without s c s.size (Nat.le_refl _) p hp).1)
    (fun x hx => by
      obtain ⟨p, hp, rfl⟩ := List.mem_map.1 hx
      exact hwm p (List.mem_of_mem_take hp))
    (without_mem h0 h1 (without_ext s c s.size (Nat.le_refl _))) (hwm _ hlast) h
  have g3 : (cuts s c s.size).1 = ss.take m := map_data_inj g1
  have g4 : s.extract (cuts s c s.size).2 s.size = ss.getD m ByteArray.empty := ba_ext g2
  unfold parts
  rw [g3, g4, List.getD_eq_getElem?_getD, List.getElem?_eq_getElem (by omega : m < ss.length)]
  have : ss.take m ++ [ss[m]'(by omega)] = ss.take (m + 1) := by rw [List.take_add_one, List.getElem?_eq_getElem (by omega : m < ss.length)]; rfl
  rw [show (some (ss[m]'(by omega))).getD ByteArray.empty = ss[m]'(by omega) from rfl, this, List.take_of_length_le (by omega)]

end Go.Proofs.YticpfciebpdkdaaDoor
