/- DERIVED. A keymap is read from its bytes: unK (packK K L) = (K, L, true) for every valid keymap. No condition. · A keymap is read from its text: kmP (kmS K L) = (K, L, true) for every valid keymap. No condition. · The laws' sameMap: two keymaps that read alike are the same. -/
import Derived.Test.YtnfnhbldphiohaaDoorKmSpec4
import Derived.Test.YtnfnhbldphiohaaDoorKmSpec5
import Derived.Test.YtnfnhbldphiohaaDoorKmPa
import Derived.Test.YtnfnhbldphiohaaDoorAcMath
import Derived.Test.YtnfnhbldphiohaaDoorKmSpec
import Derived.Laws.StructEq
import Derived.WalkSmall
import Derived.Test.YtnfnhbldphiohaaDoorLawBits
namespace Go.Proofs.YtnfnhbldphiohaaDoor
open Go.RowKit

theorem unpack_pack6 {a : Ac} (h : okAc a.k a.c a.m a.n = true) : unpackV (packV a) = (a, true) := by
  obtain ⟨k, c, m, n⟩ := a
  have hl := okAc_lim2 h
  simp only at h hl
  have e1 : (16 * k + n) / 16 = k := by omega
  have e2 : (16 * k + n) % 16 = n := by omega
  have hp : packV ⟨k, c, m, n⟩ = [16 * k + n, c, m] := by rw [packV, if_pos h]
  rw [hp]
  unfold unpackV
  simp only [List.length_cons, List.length_nil, List.getD_cons_zero, List.getD_cons_succ, e1, e2, if_pos h]
  rfl
theorem packV_three {a : Ac} (h : okAc a.k a.c a.m a.n = true) : packV a = [16 * a.k + a.n, a.c, a.m] := by rw [packV, if_pos h]
theorem okA_ac {N j : Nat} {a : Ac} (h : okA N j a = true) : okAc a.k a.c a.m a.n = true := by
  unfold okA at h
  simp only [Bool.and_eq_true] at h
  exact h.1
theorem lD_mem {L : List (List Ac)} {j : Nat} (hj : j < L.length) : lD L j = L[j] := by unfold lD; rw [List.getD_eq_getElem?_getD, List.getElem?_eq_getElem hj]; rfl
theorem acD_mem {l : List Ac} {k : Nat} (hk : k < l.length) : acD l k = l[k] := by unfold acD; rw [List.getD_eq_getElem?_getD, List.getElem?_eq_getElem hk]; rfl
theorem rowB_len3 : ∀ (l : List Ac), (∀ a ∈ l, okAc a.k a.c a.m a.n = true) → (rowB l).length = 3 * l.length
  | [], _ => rfl
  | a :: l, h => by
    have h1 := rowB_len3 l (fun x hx => h x (List.mem_cons_of_mem _ hx))
    have e : rowB (a :: l) = packV a ++ rowB l := rfl
    rw [e, List.length_append, h1, packV_three (h a List.mem_cons_self), List.length_cons]
    simp only [List.length_cons, List.length_nil]
    omega
theorem rows_len3 (K : Nat) : ∀ (L : List (List Ac)), (∀ l ∈ L, l.length = K ∧ ∀ a ∈ l, okAc a.k a.c a.m a.n = true) → (L.flatMap rowB).length = 3 * K * L.length
  | [], _ => rfl
  | l :: L, h => by
    have h1 := rows_len3 K L (fun x hx => h x (List.mem_cons_of_mem _ hx))
    have h2 := h l List.mem_cons_self
    rw [List.flatMap_cons, List.length_append, h1, rowB_len3 l h2.2, h2.1, List.length_cons, Nat.mul_succ]
    omega
theorem okKm_all {K : Nat} {L : List (List Ac)} (h : okKm (K : Int) L = true) : ∀ l ∈ L, l.length = K ∧ ∀ a ∈ l, okAc a.k a.c a.m a.n = true := by
  intro l hl
  obtain ⟨j, hj, rfl⟩ := List.getElem_of_mem hl
  have h1 := (okKm_at h).2.2 j hj
  rw [lD_mem hj] at h1
  refine ⟨by omega, fun a ha => ?_⟩
  obtain ⟨k, hk, rfl⟩ := List.getElem_of_mem ha
  have := okA_ac (h1.2 k hk)
  rwa [acD_mem hk] at this
/-- The bytes ahead of an action are so many, and the keymap's bytes go on with the action's. -/
theorem pkB_at {K : Nat} {L : List (List Ac)} (h : okKm (K : Int) L = true) {j k : Nat} (hj : j < L.length) (hk : k < K) : (pkB K L j k).length = 2 + 3 * K * j + 3 * k ∧ ∃ r, packK K L = pkB K L j k ++ (packV (acD (lD L j) k) ++ r) := by
  have hall := okKm_all h
  have hrow := hall (lD L j) (by rw [lD_mem hj]; exact List.getElem_mem hj)
  constructor
  · unfold pkB
    have e1 := rows_len3 K (L.take j) (fun l hl => hall l (List.mem_of_mem_take hl))
    have e2 := rowB_len3 ((lD L j).take k) (fun a ha => hrow.2 a (List.mem_of_mem_take ha))
    rw [List.length_append, List.length_append, e1, e2, List.length_take, List.length_take, hrow.1]
    simp only [List.length_cons, List.length_nil, Nat.min_eq_left (Nat.le_of_lt hj), Nat.min_eq_left (Nat.le_of_lt hk)]
  · have eL : L = L.take j ++ lD L j :: L.drop (j + 1) := by
      rw [lD_mem hj, ← List.drop_eq_getElem_cons hj, List.take_append_drop]
    have hk' : k < (lD L j).length := by rw [hrow.1]; exact hk
    have el : lD L j = (lD L j).take k ++ acD (lD L j) k :: (lD L j).drop (k + 1) := by
      rw [acD_mem hk', ← List.drop_eq_getElem_cons hk', List.take_append_drop]
    have eB : rowB (lD L j) = rowB ((lD L j).take k) ++ (packV (acD (lD L j) k) ++ rowB ((lD L j).drop (k + 1))) := by
      conv => lhs; rw [el]
      unfold rowB
      rw [List.flatMap_append, List.flatMap_cons]
    refine ⟨rowB ((lD L j).drop (k + 1)) ++ (L.drop (j + 1)).flatMap rowB, ?_⟩
    have eF : L.flatMap rowB = (L.take j).flatMap rowB ++ (rowB (lD L j) ++ (L.drop (j + 1)).flatMap rowB) := by
      conv => lhs; rw [eL]
      rw [List.flatMap_append, List.flatMap_cons]
    rw [packK, if_pos h, eF, eB, pkB]
    simp [List.append_assoc]
theorem unA_at {K : Nat} {L : List (List Ac)} (h : okKm (K : Int) L = true) {j k : Nat} (hj : j < L.length) (hk : k < K) : unA (packK K L) (2 + 3 * K * j + 3 * k) = (acD (lD L j) k, true) := by
  obtain ⟨hl, r, he⟩ := pkB_at h hj hk
  have hrow := okKm_all h (lD L j) (by rw [lD_mem hj]; exact List.getElem_mem hj)
  have hok := hrow.2 (acD (lD L j) k) (by rw [acD_mem (by rw [hrow.1]; exact hk)]; exact List.getElem_mem _)
  have hg : ∀ i, i < 3 → (packK K L).getD (2 + 3 * K * j + 3 * k + i) 0 = (packV (acD (lD L j) k)).getD i 0 := fun i hi => by
    have h3 : (packV (acD (lD L j) k)).length = 3 := by rw [packV_three hok]; rfl
    rw [he, List.getD_eq_getElem?_getD, List.getElem?_append_right (by omega), hl, show 2 + 3 * K * j + 3 * k + i - (2 + 3 * K * j + 3 * k) = i by omega, List.getElem?_append_left (by omega), ← List.getD_eq_getElem?_getD]
  unfold unA
  rw [show (packK K L).getD (2 + 3 * K * j + 3 * k) 0 = (packV (acD (lD L j) k)).getD 0 0 from hg 0 (by omega), hg 1 (by omega), hg 2 (by omega)]
  have e : [(packV (acD (lD L j) k)).getD 0 0, (packV (acD (lD L j) k)).getD 1 0, (packV (acD (lD L j) k)).getD 2 0] = packV (acD (lD L j) k) := by rw [packV_three hok]; rfl
  rw [e]
  exact unpack_pack6 hok
theorem take_acD {l : List Ac} {k : Nat} (hk : k < l.length) : l.take (k + 1) = l.take k ++ [acD l k] := by
  rw [acD_mem hk, List.take_succ_eq_append_getElem hk]
theorem unRow_at {K : Nat} {L : List (List Ac)} (h : okKm (K : Int) L = true) {j : Nat} (hj : j < L.length) : ∀ k, k ≤ K → unRow (packK K L) (2 + 3 * K * j) k = (lD L j).take k ∧ unOkR (packK K L) (2 + 3 * K * j) k = true
  | 0, _ => ⟨by simp [unRow], rfl⟩
  | k + 1, hk => by
    obtain ⟨h1, h2⟩ := unRow_at h hj k (by omega)
    have hrow := okKm_all h (lD L j) (by rw [lD_mem hj]; exact List.getElem_mem hj)
    have h3 := unA_at h hj (show k < K by omega)
    exact ⟨by rw [unRow, h1, h3, take_acD (by rw [hrow.1]; omega)], by rw [unOkR, h2, h3]; rfl⟩
theorem unL_at {K : Nat} {L : List (List Ac)} (h : okKm (K : Int) L = true) : ∀ j, j ≤ L.length → unL (packK K L) K j = L.take j ∧ unOkL (packK K L) K j = true
  | 0, _ => ⟨by simp [unL], rfl⟩
  | j + 1, hj => by
    obtain ⟨h1, h2⟩ := unL_at h j (by omega)
    have hj' : j < L.length := by omega
    have hrow := okKm_all h (lD L j) (by rw [lD_mem hj']; exact List.getElem_mem hj')
    obtain ⟨h3, h4⟩ := unRow_at h hj' K (Nat.le_refl _)
    rw [List.take_of_length_le (by omega)] at h3
    exact ⟨by rw [unL, h1, h3, lD_mem hj', List.take_succ_eq_append_getElem hj'], by rw [unOkL, h2, h4]; rfl⟩
/-- A keymap is read from its bytes. -/
theorem unK_packK {K : Nat} {L : List (List Ac)} (h : okKm (K : Int) L = true) : unK (packK K L) = ⟨K, L, true⟩ := by
  have hlen : (packK K L).length = 2 + 3 * K * L.length := by
    rw [packK, if_pos h, List.length_append, rows_len3 K L (okKm_all h)]; rfl
  have g0 : (packK (K : Int) L).getD 0 0 = K := by rw [packK, if_pos h]; rfl
  have g1 : (packK (K : Int) L).getD 1 0 = L.length := by rw [packK, if_pos h]; rfl
  obtain ⟨h1, h2⟩ := unL_at h L.length (Nat.le_refl _)
  rw [List.take_length] at h1
  rw [unK, g0, g1, Int.toNat_natCast, Int.toNat_natCast, if_pos ⟨by omega, hlen⟩, unG, h1, h2, if_pos ⟨rfl, h⟩]
end Go.Proofs.YtnfnhbldphiohaaDoor

namespace Go.Proofs.YtnfnhbldphiohaaDoor
open Go.RowKit

/-- The bytes of joined texts. -/
def tj (ss : List ByteArray) (sep : ByteArray) : List UInt8 := jn ss sep ss.length
theorem jn_cons (a : ByteArray) (ss : List ByteArray) (sep : ByteArray) : ∀ k, jn (a :: ss) sep (k + 2) = a.data.toList ++ sep.data.toList ++ jn ss sep (k + 1)
  | 0 => by
    rw [jn_later _ _ (by omega), jn_first, jn_first]
    simp
  | k + 1 => by
    rw [jn_later (a :: ss) sep (by omega), jn_cons a ss sep k, jn_later ss sep (k := k + 1) (by omega)]
    simp [List.append_assoc]
theorem tj_one (a sep : ByteArray) : tj [a] sep = a.data.toList := by
  show jn [a] sep 1 = _
  rw [jn_first]; rfl
theorem tj_cons (a b sep : ByteArray) (ss : List ByteArray) : tj (a :: b :: ss) sep = a.data.toList ++ sep.data.toList ++ tj (b :: ss) sep := jn_cons a (b :: ss) sep ss.length
theorem tj_app (sep : ByteArray) : ∀ (xs ys : List ByteArray), xs ≠ [] → ys ≠ [] → tj (xs ++ ys) sep = tj xs sep ++ sep.data.toList ++ tj ys sep
  | [], _, h, _ => absurd rfl h
  | [a], y :: ys, _, _ => by
    show tj (a :: y :: ys) sep = _
    rw [tj_cons, tj_one]
  | a :: b :: xs, ys, _, hy => by
    have ih := tj_app sep (b :: xs) ys (by simp) hy
    show tj (a :: b :: (xs ++ ys)) sep = _
    rw [tj_cons, tj_cons, show b :: (xs ++ ys) = (b :: xs) ++ ys from rfl, ih]
    simp [List.append_assoc]
  | _ :: _, [], _, h => absurd rfl h
theorem joined_data (ss : List ByteArray) (sep : ByteArray) : (joined ss sep).data.toList = tj ss sep := by simp [joined, tj]
/-- The words of rows, with a bar between two rows. -/
def rowsW : List (List Ac) → List ByteArray
  | [] => []
  | [r] => r.map acW
  | r :: s :: L => r.map acW ++ sBar :: rowsW (s :: L)
theorem rowsW_ne : ∀ {L : List (List Ac)}, L ≠ [] → (∀ l ∈ L, l ≠ []) → rowsW L ≠ []
  | [], h, _ => absurd rfl h
  | [r], _, h => by
    have := h r (by simp)
    cases r with
    | nil => exact absurd rfl this
    | cons a r => simp [rowsW]
  | r :: s :: L, _, _ => by simp [rowsW]
theorem rows_text : ∀ (L : List (List Ac)), L ≠ [] → (∀ l ∈ L, l ≠ []) → tj (L.map rowT) barS = tj (rowsW L) blankS
  | [], h, _ => absurd rfl h
  | [r], _, _ => by
    show tj [rowT r] barS = tj (r.map acW) blankS
    rw [tj_one, rowT, joined_data]
  | r :: s :: L, _, h => by
    have ih := rows_text (s :: L) (by simp) (fun l hl => h l (List.mem_cons_of_mem _ hl))
    have hr : r.map acW ≠ [] := by
      have := h r (by simp)
      cases r with
      | nil => exact absurd rfl this
      | cons a r => simp
    have hw := rowsW_ne (L := s :: L) (by simp) (fun l hl => h l (List.mem_cons_of_mem _ hl))
    show tj (rowT r :: rowT s :: L.map rowT) barS = tj (r.map acW ++ sBar :: rowsW (s :: L)) blankS
    rw [tj_cons, show rowT s :: L.map rowT = (s :: L).map rowT from rfl, ih, tj_app blankS _ _ hr (by simp), rowT, joined_data]
    obtain ⟨u, us, hu⟩ : ∃ u us, rowsW (s :: L) = u :: us := by
      cases hq : rowsW (s :: L) with
      | nil => exact absurd hq hw
      | cons u us => exact ⟨u, us, rfl⟩
    rw [hu, tj_cons]
    simp [barS, blankS, List.append_assoc]
theorem rowsW_bar : ∀ (L : List (List Ac)), L ≠ [] → rowsW L ++ [sBar] = L.flatMap (fun r => r.map acW ++ [sBar])
  | [], h => absurd rfl h
  | [r], _ => by simp [rowsW]
  | r :: s :: L, _ => by
    have ih := rowsW_bar (s :: L) (by simp)
    rw [rowsW, List.flatMap_cons, ← ih]
    simp
set_option maxRecDepth 1000000 in
theorem nms_plain2 : nms.all (fun s => wo s 32 && wo s 124) = true := by kernel_rfl
set_option maxRecDepth 1000000 in
theorem mds_plain2 : (List.range 16).all (fun m => wo (mdN m 4) 32 && wo (mdN m 4) 124) = true := by kernel_rfl
theorem nm_without2 {c : Int} {x : UInt8} (hx : x = 32 ∨ x = 124) : Without (nmV c) (x.toNat : Int) := by
  by_cases h : inB c 1 56 = true
  · have := List.all_eq_true.1 nms_plain2 _ (nm_mem h)
    rw [Bool.and_eq_true] at this
    rcases hx with rfl | rfl
    · exact wo_without this.1
    · exact wo_without this.2
  · have e : nmV c = ⟨#[]⟩ := by rw [nmV, if_neg h]
    rw [e]; exact empty_without _
theorem md_without2 {m : Int} {x : UInt8} (hx : x = 32 ∨ x = 124) : Without (mdV m) (x.toNat : Int) := by
  by_cases h : inB m 1 15 = true
  · have h1 := of_decide_eq_true (show decide (1 ≤ m ∧ m ≤ 15) = true from h)
    have := List.all_eq_true.1 mds_plain2 m.toNat (by rw [List.mem_range]; omega)
    rw [Bool.and_eq_true] at this
    rw [mdV, if_pos h]
    rcases hx with rfl | rfl
    · exact wo_without this.1
    · exact wo_without this.2
  · have e : mdV m = ⟨#[]⟩ := by rw [mdV, if_neg h]
    rw [e]; exact empty_without _
theorem few_without2 {n : Int} {x : UInt8} (hx : x = 32 ∨ x = 124) (h0 : 0 ≤ n) (h1 : n ≤ 3) : Without (itoaText n) (x.toNat : Int) := by
  have h : n = 0 ∨ n = 1 ∨ n = 2 ∨ n = 3 := by omega
  rw [itoa_few h0 h1]
  rcases h with rfl | rfl | rfl | rfl <;> rcases hx with rfl | rfl <;> exact one_without (by decide)
theorem lit_without2 {s : ByteArray} {x : UInt8} (hx : x = 32 ∨ x = 124) (h1 : wo s 32 = true) (h2 : wo s 124 = true) : Without s (x.toNat : Int) := by
  rcases hx with rfl | rfl
  · exact wo_without h1
  · exact wo_without h2
theorem acT_without {k c m n : Int} {x : UInt8} (hx : x = 32 ∨ x = 124) (h : okAc k c m n = true) : Without (acT k c m n) (x.toNat : Int) := by
  obtain ⟨⟨k0, k1⟩, -, -, n0, n3⟩ := okAc_lim h
  have hn := nm_without2 (c := c) hx
  have hm := md_without2 (m := m) hx
  have hi := few_without2 hx n0 n3
  have hk : k = 0 ∨ k = 1 ∨ k = 2 ∨ k = 3 ∨ k = 4 ∨ k = 5 ∨ k = 6 ∨ k = 7 ∨ k = 8 ∨ k = 9 ∨ k = 10 := by omega
  have o45 : Without ⟨#[45]⟩ (x.toNat : Int) := by rcases hx with rfl | rfl <;> exact one_without (by decide)
  have o47 : Without ⟨#[47]⟩ (x.toNat : Int) := by rcases hx with rfl | rfl <;> exact one_without (by decide)
  clear h
  rcases hk with rfl | rfl | rfl | rfl | rfl | rfl | rfl | rfl | rfl | rfl | rfl
  · exact lit_without2 (s := ⟨#[110, 111, 110, 101]⟩) hx (by rfl) (by rfl)
  · exact lit_without2 (s := ⟨#[112, 97, 115, 115]⟩) hx (by rfl) (by rfl)
  · by_cases hz : m = 0
    · have e : acT 2 c m n = nmV c := if_pos hz
      rw [e]; exact hn
    · have e : acT 2 c m n = mdV m ++ ⟨#[45]⟩ ++ nmV c := if_neg hz
      rw [e]; exact without_app (without_app hm o45) hn
  · exact without_app (a := ⟨#[109, 111, 58]⟩) (lit_without2 hx (by rfl) (by rfl)) hi
  · exact without_app (a := ⟨#[116, 103, 58]⟩) (lit_without2 hx (by rfl) (by rfl)) hi
  · exact without_app (a := ⟨#[116, 111, 58]⟩) (lit_without2 hx (by rfl) (by rfl)) hi
  · exact without_app (without_app hm o47) hn
  · exact without_app (without_app hi o47) hn
  · exact without_app (a := ⟨#[111, 110, 99, 101, 58]⟩) (lit_without2 hx (by rfl) (by rfl)) hm
  · exact without_app (a := ⟨#[109, 97, 99, 114, 111, 58]⟩) (lit_without2 hx (by rfl) (by rfl)) hi
  · exact lit_without2 (s := ⟨#[99, 97, 112, 115]⟩) hx (by rfl) (by rfl)
theorem acW_word {a : Ac} (h : okAc a.k a.c a.m a.n = true) : Without (acW a) 32 ∧ acW a ≠ sBar ∧ acP (acW a) = (a, true) := by
  have e : acW a = acT a.k a.c a.m a.n := by rw [acW, acS, if_pos h]
  refine ⟨by rw [e]; exact acT_without (x := 32) (.inl rfl) h, fun hb => ?_, acP_acS h⟩
  have h2 := acT_without (x := 124) (.inr rfl) h
  rw [← e, hb] at h2
  exact h2 0 (by decide) (by rfl)
theorem pkN_fold (ws : List ByteArray) : ∀ i, i ≤ ws.length → pkN ws i = (ws.take i).foldl pkStep ⟨[], [], 0, true⟩
  | 0, _ => rfl
  | i + 1, h => by
    rw [pkN, pkN_fold ws i (by omega), List.take_succ_eq_append_getElem (by omega : i < ws.length), List.foldl_append, List.getD_eq_getElem?_getD, List.getElem?_eq_getElem (by omega : i < ws.length)]
    rfl
theorem fold_row : ∀ (r : List Ac) (l : List (List Ac)) (r0 : List Ac) (k : Int), (∀ a ∈ r, okAc a.k a.c a.m a.n = true) → (r.map acW).foldl pkStep ⟨l, r0, k, true⟩ = ⟨l, r0 ++ r, k, true⟩
  | [], l, r0, k, _ => by simp
  | a :: r, l, r0, k, h => by
    have ha := acW_word (h a List.mem_cons_self)
    have ih := fold_row r l (r0 ++ [a]) k (fun x hx => h x (List.mem_cons_of_mem _ hx))
    rw [List.map_cons, List.foldl_cons, pkStep, if_neg ha.2.1, ha.2.2]
    show (r.map acW).foldl pkStep ⟨l, r0 ++ [a], k, true && true⟩ = _
    rw [show (true && true) = true from rfl, ih]
    simp
theorem fold_rows (K : Nat) : ∀ (L l : List (List Ac)) (k : Int), (∀ r ∈ L, r.length = K ∧ ∀ a ∈ r, okAc a.k a.c a.m a.n = true) → (L.flatMap (fun r => r.map acW ++ [sBar])).foldl pkStep ⟨l, [], k, true⟩ = ⟨l ++ L, [], if L = [] then k else (K : Int), true⟩
  | [], l, k, _ => by simp
  | r :: L, l, k, h => by
    have hr := h r List.mem_cons_self
    have ih := fold_rows K L (l ++ [r]) (K : Int) (fun x hx => h x (List.mem_cons_of_mem _ hx))
    rw [List.flatMap_cons, List.foldl_append, List.foldl_append, fold_row r l [] k hr.2, List.foldl_cons, List.foldl_nil, pkStep, if_pos rfl, List.nil_append, hr.1, ih]
    simp
/-- A keymap is read from its text. -/
theorem kmP_kmS {K : Nat} {L : List (List Ac)} (h : okKm (K : Int) L = true) : kmP (kmS K L) = ⟨K, L, true⟩ := by
  obtain ⟨⟨k1, -⟩, ⟨l1, -⟩, -⟩ := okKm_at h
  have hall := okKm_all h
  have hne : L ≠ [] := fun e => by rw [e] at l1; simp at l1
  have hrn : ∀ l ∈ L, l ≠ [] := fun l hl e => by have := (hall l hl).1; rw [e] at this; simp at this; omega
  have hs : kmS K L = joined (rowsW L) blankS := by
    rw [kmS, if_pos h]
    apply ba_ext
    rw [joined_data, joined_data, rows_text L hne hrn]
  have hwords : ∀ p ∈ rowsW L, Without p 32 := by
    have : ∀ (M : List (List Ac)), (∀ l ∈ M, ∀ a ∈ l, okAc a.k a.c a.m a.n = true) → ∀ p ∈ rowsW M, Without p 32 := by
      intro M
      induction M with
      | nil => intro _ p hp; simp [rowsW] at hp
      | cons r M ih =>
        intro hM p hp
        have hrow : ∀ p ∈ r.map acW, Without p 32 := fun p hp => by
          obtain ⟨a, ha, rfl⟩ := List.mem_map.1 hp
          exact (acW_word (hM r List.mem_cons_self a ha)).1
        cases M with
        | nil => exact hrow p hp
        | cons s M =>
          rw [rowsW] at hp
          rcases List.mem_append.1 hp with h1 | h1
          · exact hrow p h1
          · rcases List.mem_cons.1 h1 with h2 | h2
            · rw [h2]; exact one_without (by decide)
            · exact ih (fun l hl => hM l (List.mem_cons_of_mem _ hl)) p h2
    exact this L (fun l hl => (hall l hl).2)
  have hp : parts (kmS K L) 32 = rowsW L := by
    rw [hs]
    exact parts_joined (rowsW L) blankS 32 (by omega) (by omega) (by rfl) (List.length_pos_iff.2 (rowsW_ne hne hrn)) hwords
  have hw : wordsOf (kmS K L) = L.flatMap (fun r => r.map acW ++ [sBar]) := by rw [wordsOf, hp, rowsW_bar L hne]
  rw [kmP, pkN_fold _ _ (Nat.le_refl _), List.take_length, hw, fold_rows K L [] 0 hall, if_neg hne, List.nil_append, pkEnd, if_pos ⟨rfl, h⟩]
end Go.Proofs.YtnfnhbldphiohaaDoor

namespace Go.Proofs.YtnfnhbldphiohaaDoor
open Go.RowKit

/-- What a walk knows of a keymap's rows: places of the rows and of their actions. -/
theorem LdS.places {w : World} {a : Option Addr} {N cap : Nat} {L : List (List Ac)} (h : LdS w (.slice a N cap) L) (hN : N = L.length) (hp : 0 < N) (hr : ∀ j, j < N → 0 < (lD L j).length) : ∃ b off, a = some ⟨b, off, none⟩ ∧ b < w.heap.size ∧
    ∀ i, i < N → ∃ b3 off3 c3, w.cell? ⟨b, off + i, none⟩ = some (.slice (some ⟨b3, off3, none⟩) (lD L i).length c3) ∧ b3 < w.heap.size ∧ ∀ k, k < (lD L i).length → w.cell? ⟨b3, off3 + k * 4, none⟩ = some (.int .i64 (acD (lD L i) k).k) ∧ w.cell? ⟨b3, off3 + k * 4 + 1, none⟩ = some (.int .i64 (acD (lD L i) k).c) ∧ w.cell? ⟨b3, off3 + k * 4 + 2, none⟩ = some (.int .i64 (acD (lD L i) k).m) ∧ w.cell? ⟨b3, off3 + k * 4 + 3, none⟩ = some (.int .i64 (acD (lD L i) k).n) := by
  rcases RdS.cases h with ⟨hnil, _⟩ | ⟨b, off, cp, us, hpos, hsl, hlt, hc⟩
  · rw [hnil] at hN; simp at hN; omega
  · have hsl2 : a = some ⟨b, off, none⟩ ∧ cap = cp := by simpa [hN] using hsl
    obtain ⟨rfl, rfl⟩ := hsl2
    refine ⟨b, off, rfl, hlt, fun i hi => ?_⟩
    obtain ⟨d0, hrow⟩ := hc i (by omega)
    obtain ⟨ua, uc, hu⟩ := RdN.shape hrow
    rw [hu] at d0 hrow
    obtain ⟨b3, off3, rfl, hlt3, -⟩ := row_at hrow (hr i hi)
    refine ⟨b3, off3, uc, d0, hlt3, fun k hk => ?_⟩
    obtain ⟨b4, off4, he, -, h1, h2, h3, h4⟩ := row_at hrow hk
    obtain ⟨rfl, rfl⟩ : b3 = b4 ∧ off3 = off4 := by simpa using he
    exact ⟨h1, h2, h3, h4⟩

end Go.Proofs.YtnfnhbldphiohaaDoor
