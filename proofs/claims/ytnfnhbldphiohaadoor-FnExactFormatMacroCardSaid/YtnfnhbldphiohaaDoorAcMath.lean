/- DERIVED. What is read of an action's text is the action: names, modifiers and numbers are told apart by their bytes. No condition. · An action is read from its text: acP (acS a) = (a, true) for every valid action. No condition. · The program's ParseAction: it answers as the reference's, where the tables are as their texts lay them. · The program's ParseAction: it answers as the reference's, where the tables are as their texts lay them. -/
import Derived.Test.YtnfnhbldphiohaaDoorAcPa2
import Derived.Test.YtnfnhbldphiohaaDoorJoin
import Derived.Test.YtnfnhbldphiohaaDoorAcPaI
import Derived.Test.YtnfnhbldphiohaaDoorAcTap
namespace Go.Proofs.YtnfnhbldphiohaaDoor
open Go.RowKit

def wo (s : ByteArray) (c : UInt8) : Bool := s.data.toList.all (· != c)
theorem wo_without {s : ByteArray} {c : UInt8} (h : wo s c = true) : Without s (c.toNat : Int) := by
  intro j hj e
  have hl : j < s.data.toList.length := by rw [Array.length_toList]; exact hj
  rw [bt_getD, List.getD_eq_getElem?_getD, List.getElem?_map, List.getElem?_eq_getElem hl] at e
  simp only [Option.map_some, Option.getD_some] at e
  have h1 := List.all_eq_true.1 h _ (List.getElem_mem hl)
  have h2 : s.data.toList[j] = c := UInt8.toNat_inj.1 (by omega)
  rw [h2] at h1
  simp at h1
set_option maxRecDepth 1000000 in
theorem nms_plain : nms.all (fun s => wo s 58 && (wo s 47 && wo s 45)) = true := by kernel_rfl
set_option maxRecDepth 1000000 in
theorem mds_plain : (List.range 16).all (fun m => wo (mdN m 4) 58 && (wo (mdN m 4) 47 && wo (mdN m 4) 45)) = true := by kernel_rfl
set_option maxRecDepth 1000000 in
theorem code_back : (List.range 57).all (fun c => decide (codeV (nmV (c : Int)) = c)) = true := by kernel_rfl
set_option maxRecDepth 1000000 in
theorem mods_back : (List.range 16).all (fun m => decide (pmV (mdV (m : Int)) = m)) = true := by kernel_rfl
theorem parts_two (a b : ByteArray) (x : UInt8) (c : Int) (hc : c = (x.toNat : Int)) (ha : Without a c) (hb : Without b c) : parts (a ++ ⟨#[x]⟩ ++ b) c = [a, b] := by
  have hx : byte8 c = x := by rw [hc, byte8]; simp
  have hj : joined [a, b] ⟨#[x]⟩ = a ++ ⟨#[x]⟩ ++ b := by
    apply ba_ext
    simp [joined, jn, ByteArray.data_append]
  rw [← hj]
  exact parts_joined [a, b] ⟨#[x]⟩ c (by omega) (by rw [hc]; have := x.toNat_lt; omega) (by rw [hx]) (by simp) (by
    intro p hp
    simp only [List.mem_cons, List.not_mem_nil, or_false] at hp
    rcases hp with rfl | rfl
    · exact ha
    · exact hb)
end Go.Proofs.YtnfnhbldphiohaaDoor

namespace Go.Proofs.YtnfnhbldphiohaaDoor
open Go.RowKit

theorem without_app {a b : ByteArray} {c : Int} (ha : Without a c) (hb : Without b c) : Without (a ++ b) c := by
  intro j hj
  rw [ByteArray.size_append] at hj
  rcases Nat.lt_or_ge j a.size with h | h
  · rw [bt_left a b j h]; exact ha j h
  · obtain ⟨i, rfl⟩ := Nat.exists_eq_add_of_le h
    rw [bt_right]; exact hb i (by omega)
theorem one_without {x : UInt8} {c : Int} (h : c ≠ (x.toNat : Int)) : Without ⟨#[x]⟩ c := by
  intro j hj e
  have h0 : j = 0 := by have : (⟨#[x]⟩ : ByteArray).size = 1 := rfl; omega
  subst h0
  exact h e.symm
theorem lit_parts {s : ByteArray} {c : UInt8} (h : wo s c = true) : (parts s (c.toNat : Int)).length = 1 := parts_one s _ (wo_without h)
theorem two_len {a b : ByteArray} {x : UInt8} {c : Int} (hc : c = (x.toNat : Int)) (ha : Without a c) (hb : Without b c) : (parts (a ++ ⟨#[x]⟩ ++ b) c).length = 2 := by rw [parts_two a b x c hc ha hb]; rfl
theorem ne_of_parts {s t : ByteArray} {c : Int} (h1 : (parts s c).length = 2) (h2 : (parts t c).length = 1) : s ≠ t := fun e => by rw [e, h2] at h1; exact absurd h1 (by decide)
theorem pt_two (a b : ByteArray) (x : UInt8) (c : Int) (hc : c = (x.toNat : Int)) (ha : Without a c) (hb : Without b c) : pt (a ++ ⟨#[x]⟩ ++ b) c 0 = a ∧ pt (a ++ ⟨#[x]⟩ ++ b) c 1 = b := by
  unfold pt; rw [parts_two a b x c hc ha hb]; exact ⟨rfl, rfl⟩
theorem acG_colon {a b : ByteArray} (ha : Without a 58) (hb : Without b 58) : acG (a ++ ⟨#[58]⟩ ++ b) = leftV 8 a b := by
  have h2 := two_len (x := 58) (c := 58) rfl ha hb
  have hp := pt_two a b 58 58 rfl ha hb
  unfold acG
  rw [if_neg (ne_of_parts h2 (lit_parts (c := 58) (by rfl))), if_neg (ne_of_parts h2 (lit_parts (c := 58) (by rfl))), if_neg (ne_of_parts h2 (lit_parts (c := 58) (by rfl))), if_pos h2, hp.1, hp.2]
theorem acG_slash {a b : ByteArray} (h58 : Without (a ++ ⟨#[47]⟩ ++ b) 58) (ha : Without a 47) (hb : Without b 47) : acG (a ++ ⟨#[47]⟩ ++ b) = if okI a = true then ⟨7, codeV b, 0, pval a⟩ else ⟨6, codeV b, pmV a, 0⟩ := by
  have h2 := two_len (x := 47) (c := 47) rfl ha hb
  have hp := pt_two a b 47 47 rfl ha hb
  have h1 := parts_one _ 58 h58
  unfold acG
  rw [if_neg (ne_of_parts h2 (lit_parts (c := 47) (by rfl))), if_neg (ne_of_parts h2 (lit_parts (c := 47) (by rfl))), if_neg (ne_of_parts h2 (lit_parts (c := 47) (by rfl))), if_neg (by omega), if_pos h2, hp.1, hp.2]
theorem acG_dash {a b : ByteArray} (h58 : Without (a ++ ⟨#[45]⟩ ++ b) 58) (h47 : Without (a ++ ⟨#[45]⟩ ++ b) 47) (ha : Without a 45) (hb : Without b 45) : acG (a ++ ⟨#[45]⟩ ++ b) = ⟨2, codeV b, pmV a, 0⟩ := by
  have h2 := two_len (x := 45) (c := 45) rfl ha hb
  have hp := pt_two a b 45 45 rfl ha hb
  have h1 := parts_one _ 58 h58
  have h3 := parts_one _ 47 h47
  unfold acG
  rw [if_neg (ne_of_parts h2 (lit_parts (c := 45) (by rfl))), if_neg (ne_of_parts h2 (lit_parts (c := 45) (by rfl))), if_neg (ne_of_parts h2 (lit_parts (c := 45) (by rfl))), if_neg (by omega), if_neg (by omega), if_pos h2, hp.1, hp.2]
theorem acG_plain {s : ByteArray} (h0 : s ≠ sNone) (h1 : s ≠ sPass) (h2 : s ≠ sCaps) (h58 : Without s 58) (h47 : Without s 47) (h45 : Without s 45) : acG s = ⟨2, codeV s, 0, 0⟩ := by
  have p1 := parts_one s 58 h58
  have p2 := parts_one s 47 h47
  have p3 := parts_one s 45 h45
  unfold acG
  rw [if_neg h0, if_neg h1, if_neg h2, if_neg (by omega), if_neg (by omega), if_neg (by omega)]
theorem nm_mem {c : Int} (h : inB c 1 56 = true) : nmV c ∈ nms := by
  have h1 := of_decide_eq_true (show decide (1 ≤ c ∧ c ≤ 56) = true from h)
  have hl : c.toNat - 1 < nms.length := by rw [nms_len]; omega
  rw [nmV, if_pos h, List.getD_eq_getElem?_getD, List.getElem?_eq_getElem hl]
  exact List.getElem_mem hl
theorem nm_without {c : Int} (h : inB c 1 56 = true) : Without (nmV c) 58 ∧ Without (nmV c) 47 ∧ Without (nmV c) 45 := by
  have := List.all_eq_true.1 nms_plain _ (nm_mem h)
  rw [Bool.and_eq_true, Bool.and_eq_true] at this
  exact ⟨wo_without (c := 58) this.1, wo_without (c := 47) this.2.1, wo_without (c := 45) this.2.2⟩
theorem md_without {m : Int} (h : inB m 1 15 = true) : Without (mdV m) 58 ∧ Without (mdV m) 47 ∧ Without (mdV m) 45 := by
  have h1 := of_decide_eq_true (show decide (1 ≤ m ∧ m ≤ 15) = true from h)
  have := List.all_eq_true.1 mds_plain m.toNat (by rw [List.mem_range]; omega)
  rw [Bool.and_eq_true, Bool.and_eq_true] at this
  rw [mdV, if_pos h]
  exact ⟨wo_without (c := 58) this.1, wo_without (c := 47) this.2.1, wo_without (c := 45) this.2.2⟩
theorem code_of {c : Int} (h : inB c 1 56 = true) : (codeV (nmV c) : Int) = c := by
  have h1 := of_decide_eq_true (show decide (1 ≤ c ∧ c ≤ 56) = true from h)
  have := List.all_eq_true.1 code_back c.toNat (by rw [List.mem_range]; omega)
  have h2 := of_decide_eq_true this
  rw [Int.toNat_of_nonneg (by omega)] at h2
  omega
theorem mods_of {m : Int} (h : inB m 1 15 = true) : (pmV (mdV m) : Int) = m := by
  have h1 := of_decide_eq_true (show decide (1 ≤ m ∧ m ≤ 15) = true from h)
  have := List.all_eq_true.1 mods_back m.toNat (by rw [List.mem_range]; omega)
  have h2 := of_decide_eq_true this
  rw [Int.toNat_of_nonneg (by omega)] at h2
  omega
set_option maxRecDepth 1000000 in
theorem nms_words : nms.all (fun s => !decide (s = sNone) && (!decide (s = sPass) && (!decide (s = sCaps) && !decide (s = ⟨#[]⟩)))) = true := by kernel_rfl
set_option maxRecDepth 1000000 in
theorem code_none : codeV ⟨#[]⟩ = 0 := by kernel_rfl
theorem nm_words {c : Int} (h : inB c 1 56 = true) : nmV c ≠ sNone ∧ nmV c ≠ sPass ∧ nmV c ≠ sCaps ∧ nmV c ≠ ⟨#[]⟩ := by
  have := List.all_eq_true.1 nms_words _ (nm_mem h)
  simpa using this
theorem few_without {n : Int} (h0 : 0 ≤ n) (h1 : n ≤ 3) : Without (itoaText n) 58 ∧ Without (itoaText n) 47 ∧ Without (itoaText n) 45 := by
  have h : n = 0 ∨ n = 1 ∨ n = 2 ∨ n = 3 := by omega
  rw [itoa_few h0 h1]
  rcases h with rfl | rfl | rfl | rfl <;> exact ⟨one_without (by decide), one_without (by decide), one_without (by decide)⟩
theorem few_reads {n : Int} (h0 : 0 ≤ n) (h1 : n ≤ 3) : okI (itoaText n) = true ∧ pval (itoaText n) = n := by
  obtain ⟨q, rfl⟩ := Int.eq_ofNat_of_zero_le h0
  exact itoa_reads q (by omega)
theorem okI_letter {s : ByteArray} (h0 : 0 < s.size) (h : 57 < bt s 0) : okI s = false := by
  have hneg : ¬ isNeg s := fun e => by have := e.2; omega
  have ho : off s = 0 := by unfold off; rw [if_neg hneg]
  unfold okI
  rw [decide_eq_false]
  rintro ⟨h1, h2, h3, h4⟩
  rw [ho] at h3
  have := h3 0 (by omega)
  simp at this
  omega
theorem mds_head : (List.range 16).all (fun m => decide (m = 0) || (decide (0 < (mdN m 4).size) && decide (57 < bt (mdN m 4) 0))) = true := by kernel_rfl
theorem md_head {m : Int} (h : inB m 1 15 = true) : 0 < (mdV m).size ∧ 57 < bt (mdV m) 0 := by
  have h1 := of_decide_eq_true (show decide (1 ≤ m ∧ m ≤ 15) = true from h)
  have := List.all_eq_true.1 mds_head m.toNat (by rw [List.mem_range]; omega)
  rw [mdV, if_pos h]
  simp only [Bool.or_eq_true, Bool.and_eq_true, decide_eq_true_eq] at this
  rcases this with h2 | h2
  · omega
  · exact h2
theorem empty_without (c : Int) : Without ⟨#[]⟩ c := fun _ hj => absurd hj (Nat.not_lt_zero _)
theorem app_ne {a b : ByteArray} {x : UInt8} : a ++ ⟨#[x]⟩ ++ b ≠ ⟨#[]⟩ := fun e => by
  have := congrArg ByteArray.size e
  rw [ByteArray.size_append, ByteArray.size_append] at this
  have h1 : (⟨#[x]⟩ : ByteArray).size = 1 := rfl
  have h2 : (⟨#[]⟩ : ByteArray).size = 0 := rfl
  omega
theorem sMo_colon : (⟨#[109, 111, 58]⟩ : ByteArray) = sMo ++ ⟨#[58]⟩ := by rfl
theorem sTg_colon : (⟨#[116, 103, 58]⟩ : ByteArray) = sTg ++ ⟨#[58]⟩ := by rfl
theorem sTo_colon : (⟨#[116, 111, 58]⟩ : ByteArray) = sTo ++ ⟨#[58]⟩ := by rfl
theorem sMacro_colon : (⟨#[109, 97, 99, 114, 111, 58]⟩ : ByteArray) = sMacro ++ ⟨#[58]⟩ := by rfl
theorem sOnce_colon : (⟨#[111, 110, 99, 101, 58]⟩ : ByteArray) = (⟨#[111, 110, 99, 101]⟩ : ByteArray) ++ ⟨#[58]⟩ := by rfl
theorem acG_acT {k c m n : Int} (h : okAc k c m n = true) : acG (acT k c m n) = ⟨k, c, m, n⟩ ∧ acT k c m n ≠ ⟨#[]⟩ := by
  obtain ⟨⟨k0, k1⟩, ⟨c0, c1⟩, ⟨m0, m1⟩, n0, n3⟩ := okAc_lim h
  have hk : k = 0 ∨ k = 1 ∨ k = 2 ∨ k = 3 ∨ k = 4 ∨ k = 5 ∨ k = 6 ∨ k = 7 ∨ k = 8 ∨ k = 9 ∨ k = 10 := by omega
  rcases hk with rfl | rfl | rfl | rfl | rfl | rfl | rfl | rfl | rfl | rfl | rfl
  · have : c = 0 ∧ m = 0 ∧ n = 0 := by simpa [okAc] using h
    obtain ⟨rfl, rfl, rfl⟩ := this
    exact ⟨rfl, by decide⟩
  · have : c = 0 ∧ m = 0 ∧ n = 0 := by simpa [okAc] using h
    obtain ⟨rfl, rfl, rfl⟩ := this
    exact ⟨rfl, by decide⟩
  · have hh : n = 0 ∧ (inB c 1 56 = true ∨ c = 0 ∧ inB m 1 15 = true) ∧ (inB m 1 15 = true ∨ m = 0) := by simpa [okAc] using h
    obtain ⟨rfl, h1, h2⟩ := hh
    by_cases hm : m = 0
    · subst hm
      have hc : inB c 1 56 = true := by
        rcases h1 with h1 | ⟨_, h1⟩
        · exact h1
        · exact absurd h1 (by decide)
      have hw := nm_words hc
      have hs := nm_without hc
      have e : acT 2 c 0 0 = nmV c := rfl
      rw [e]
      exact ⟨by rw [acG_plain hw.1 hw.2.1 hw.2.2.1 hs.1 hs.2.1 hs.2.2, code_of hc], hw.2.2.2⟩
    · have hmm : inB m 1 15 = true := h2.resolve_right hm
      have e : acT 2 c m 0 = mdV m ++ ⟨#[45]⟩ ++ nmV c := by show (if m = 0 then _ else _) = _; rw [if_neg hm]
      have hd := md_without hmm
      rw [e]
      refine ⟨?_, app_ne⟩
      by_cases hc : inB c 1 56 = true
      · have hs := nm_without hc
        rw [acG_dash (without_app (without_app hd.1 (one_without (by decide))) hs.1) (without_app (without_app hd.2.1 (one_without (by decide))) hs.2.1) hd.2.2 hs.2.2, code_of hc, mods_of hmm]
      · have hc0 : c = 0 := by rcases h1 with h1 | h1; exact absurd h1 hc; exact h1.1
        subst hc0
        have e2 : nmV 0 = ⟨#[]⟩ := rfl
        rw [e2, acG_dash (without_app (without_app hd.1 (one_without (by decide))) (empty_without _)) (without_app (without_app hd.2.1 (one_without (by decide))) (empty_without _)) hd.2.2 (empty_without _), code_none, mods_of hmm]
        rfl
  · have hh : inB n 1 3 = true ∧ c = 0 ∧ m = 0 := by simpa [okAc] using h
    obtain ⟨_, rfl, rfl⟩ := hh
    have e : acT 3 0 0 n = sMo ++ ⟨#[58]⟩ ++ itoaText n := by rw [← sMo_colon]; rfl
    rw [e, acG_colon (wo_without (c := 58) (by rfl)) (few_without n0 n3).1, leftV, if_pos rfl, (few_reads n0 n3).2]
    exact ⟨rfl, app_ne⟩
  · have hh : inB n 1 3 = true ∧ c = 0 ∧ m = 0 := by simpa [okAc] using h
    obtain ⟨_, rfl, rfl⟩ := hh
    have e : acT 4 0 0 n = sTg ++ ⟨#[58]⟩ ++ itoaText n := by rw [← sTg_colon]; rfl
    rw [e, acG_colon (wo_without (c := 58) (by rfl)) (few_without n0 n3).1, leftV, if_neg (by decide), if_pos rfl, (few_reads n0 n3).2]
    exact ⟨rfl, app_ne⟩
  · have hh : inB n 0 3 = true ∧ c = 0 ∧ m = 0 := by simpa [okAc] using h
    obtain ⟨_, rfl, rfl⟩ := hh
    have e : acT 5 0 0 n = sTo ++ ⟨#[58]⟩ ++ itoaText n := by rw [← sTo_colon]; rfl
    rw [e, acG_colon (wo_without (c := 58) (by rfl)) (few_without n0 n3).1, leftV, if_neg (by decide), if_neg (by decide), if_pos rfl, (few_reads n0 n3).2]
    exact ⟨rfl, app_ne⟩
  · have hh : inB c 1 56 = true ∧ inB m 1 15 = true ∧ n = 0 := by simpa [okAc] using h
    obtain ⟨hc, hm, rfl⟩ := hh
    have e : acT 6 c m 0 = mdV m ++ ⟨#[47]⟩ ++ nmV c := rfl
    have hd := md_without hm
    have hs := nm_without hc
    have hl := md_head hm
    rw [e, acG_slash (without_app (without_app hd.1 (one_without (by decide))) hs.1) hd.2.1 hs.2.1, if_neg (by rw [okI_letter hl.1 hl.2]; decide), code_of hc, mods_of hm]
    exact ⟨rfl, app_ne⟩
  · have hh : inB c 1 56 = true ∧ inB n 1 3 = true ∧ m = 0 := by simpa [okAc] using h
    obtain ⟨hc, hn, rfl⟩ := hh
    have e : acT 7 c 0 n = itoaText n ++ ⟨#[47]⟩ ++ nmV c := rfl
    have hd := few_without n0 n3
    have hs := nm_without hc
    rw [e, acG_slash (without_app (without_app hd.1 (one_without (by decide))) hs.1) hd.2.1 hs.2.1, if_pos (few_reads n0 n3).1, code_of hc, (few_reads n0 n3).2]
    exact ⟨rfl, app_ne⟩
  · have hh : inB m 1 15 = true ∧ c = 0 ∧ n = 0 := by simpa [okAc] using h
    obtain ⟨hm, rfl, rfl⟩ := hh
    have e : acT 8 0 m 0 = (⟨#[111, 110, 99, 101]⟩ : ByteArray) ++ ⟨#[58]⟩ ++ mdV m := by rw [← sOnce_colon]; rfl
    rw [e, acG_colon (wo_without (c := 58) (by rfl)) (md_without hm).1, leftV, if_neg (by decide), if_neg (by decide), if_neg (by decide), if_neg (by decide), mods_of hm]
    exact ⟨rfl, app_ne⟩
  · have hh : inB n 0 3 = true ∧ c = 0 ∧ m = 0 := by simpa [okAc] using h
    obtain ⟨_, rfl, rfl⟩ := hh
    have e : acT 9 0 0 n = sMacro ++ ⟨#[58]⟩ ++ itoaText n := by rw [← sMacro_colon]; rfl
    rw [e, acG_colon (wo_without (c := 58) (by rfl)) (few_without n0 n3).1, leftV, if_neg (by decide), if_neg (by decide), if_neg (by decide), if_pos rfl, (few_reads n0 n3).2]
    exact ⟨rfl, app_ne⟩
  · have : c = 0 ∧ m = 0 ∧ n = 0 := by simpa [okAc] using h
    obtain ⟨rfl, rfl, rfl⟩ := this
    exact ⟨rfl, by decide⟩
/-- An action is read from its text. -/
theorem acP_acS {k c m n : Int} (h : okAc k c m n = true) : acP (acS k c m n) = (⟨k, c, m, n⟩, true) := by
  obtain ⟨h1, h2⟩ := acG_acT h
  have e : acS k c m n = acT k c m n := by rw [acS, if_pos h]
  rw [e, acP, h1, if_neg]
  rintro (h3 | h3)
  · exact h2 h3
  · exact h3 e
end Go.Proofs.YtnfnhbldphiohaaDoor

namespace Go.Proofs.YtnfnhbldphiohaaDoor
open Go.RowKit

/-- Cut at a byte that stands behind a text without it. -/
theorem indexByte_app : ∀ (a : List UInt8) (x : UInt8) (t : List UInt8), x ∉ a → Lib.indexByte (a ++ x :: t) x = a.length
  | [], x, t, _ => by simp [Lib.indexByte]
  | b :: a, x, t, h => by
    have h1 : ¬ b = x := fun e => h (by rw [e]; exact List.mem_cons_self)
    have h2 := indexByte_app a x t (fun e => h (List.mem_cons_of_mem _ e))
    simp only [List.cons_append, Lib.indexByte, h2]
    rw [if_neg (by simpa using h1), if_neg (by simp <;> omega)]
    simp
theorem indexByte_none : ∀ (a : List UInt8) (x : UInt8), x ∉ a → Lib.indexByte a x = -1
  | [], x, _ => rfl
  | b :: a, x, h => by
    have h1 : ¬ b = x := fun e => h (by rw [e]; exact List.mem_cons_self)
    have h2 := indexByte_none a x (fun e => h (List.mem_cons_of_mem _ e))
    simp only [Lib.indexByte, h2]
    rw [if_neg (by simpa using h1), if_pos (by rfl)]
theorem without_list {a : ByteArray} {x : UInt8} (h : Without a (x.toNat : Int)) : x ∉ a.data.toList := by
  have := without_mem (c := (x.toNat : Int)) (by omega) (by have := x.toNat_lt; omega) h
  rwa [show byte8 (x.toNat : Int) = x from by rw [byte8]; simp] at this
theorem cutV_hit (a b : ByteArray) (x : UInt8) (c : Int) (hc : c = (x.toNat : Int)) (ha : Without a c) : cutV (a ++ ⟨#[x]⟩ ++ b) x = (a, b, true) := by
  subst hc
  have h1 : ixB (a ++ ⟨#[x]⟩ ++ b) x = a.size := by
    unfold ixB
    rw [ByteArray.data_append, ByteArray.data_append, Array.toList_append, Array.toList_append, List.append_assoc]
    show Lib.indexByte (a.data.toList ++ x :: b.data.toList) x = _
    rw [indexByte_app _ _ _ (without_list ha), Array.length_toList]; rfl
  rw [cutV, h1, if_neg (by omega), Int.toNat_natCast]
  have e1 : (a ++ ⟨#[x]⟩ ++ b).extract 0 a.size = a := by
    rw [ByteArray.append_assoc]; exact extract_left _ _
  have e2 : (a ++ ⟨#[x]⟩ ++ b).extract (a.size + 1) (a ++ ⟨#[x]⟩ ++ b).size = b := by
    have := extract_right (a ++ ⟨#[x]⟩) b
    rwa [ByteArray.size_append, show (⟨#[x]⟩ : ByteArray).size = 1 from rfl] at this
  rw [e1, e2]
theorem cutV_miss (a : ByteArray) (x : UInt8) (c : Int) (hc : c = (x.toNat : Int)) (ha : Without a c) : cutV a x = (a, ⟨#[]⟩, false) := by
  subst hc
  rw [cutV, if_pos (by rw [ixB, indexByte_none _ _ (without_list ha)]; omega)]
set_option maxRecDepth 1000000 in
theorem nms_kinds : nms.all (fun s => decide (kindV s = 2)) = true := by kernel_rfl
theorem nm_kind {c : Int} (h : inB c 1 56 = true) : kindV (nmV c) = 2 := of_decide_eq_true (List.all_eq_true.1 nms_kinds _ (nm_mem h))
theorem word_plain : (List.range 11).all (fun j => wo (wdTab.getD j ⟨#[]⟩) 45) = true := by kernel_rfl
theorem dash_kind {a b : ByteArray} : kindV (a ++ ⟨#[45]⟩ ++ b) = 2 := kindN_miss 11 0 (fun q _ hq hw => by
  have h1 := List.all_eq_true.1 word_plain q (List.mem_range.2 (by omega))
  have h2 := wo_without (c := 45) h1
  rw [hw.2] at h2
  refine h2 a.size (by rw [ByteArray.size_append, ByteArray.size_append]; have : (⟨#[45]⟩ : ByteArray).size = 1 := rfl; omega) ?_
  rw [bt_left _ _ _ (by rw [ByteArray.size_append]; have : (⟨#[45]⟩ : ByteArray).size = 1 := rfl; omega)]
  have := bt_right a ⟨#[45]⟩ 0
  rw [Nat.add_zero] at this
  rw [this]; rfl)
theorem gaV_slash {a b : ByteArray} (ha : Without a 47) : gaV (a ++ ⟨#[47]⟩ ++ b) = gtV a (codeV b) := by
  unfold gaV
  rw [cutV_hit a b 47 47 rfl ha]
  exact if_pos rfl
theorem gaV_colon {a b : ByteArray} (h47 : Without (a ++ ⟨#[58]⟩ ++ b) 47) (ha : Without a 58) (k : Nat) (hk : kindV a = k) (h2 : k ≠ 2) : gaV (a ++ ⟨#[58]⟩ ++ b) = if k = 8 then ⟨8, 0, pmV b, 0⟩ else ⟨k, 0, 0, pval b⟩ := by
  unfold gaV
  rw [cutV_miss _ 47 47 rfl h47, cutV_hit a b 58 58 rfl ha]
  show (if kindV a = 2 then _ else if kindV a = 8 then _ else _) = _
  rw [hk, if_neg h2]
theorem gaV_plain {s : ByteArray} (h47 : Without s 47) (h58 : Without s 58) : gaV s = if kindV s = 2 then gkV s else if kindV s = 8 then ⟨8, 0, pmV ⟨#[]⟩, 0⟩ else ⟨kindV s, 0, 0, pval ⟨#[]⟩⟩ := by
  unfold gaV
  rw [cutV_miss _ 47 47 rfl h47, cutV_miss _ 58 58 rfl h58]
  rfl
theorem gaV_acT {k c m n : Int} (h : okAc k c m n = true) : gaV (acT k c m n) = ⟨k, c, m, n⟩ := by
  obtain ⟨⟨k0, k1⟩, ⟨c0, c1⟩, ⟨m0, m1⟩, n0, n3⟩ := okAc_lim h
  have hk : k = 0 ∨ k = 1 ∨ k = 2 ∨ k = 3 ∨ k = 4 ∨ k = 5 ∨ k = 6 ∨ k = 7 ∨ k = 8 ∨ k = 9 ∨ k = 10 := by omega
  have colon : ∀ (a : ByteArray) (k : Nat), wo a 58 = true → wo a 47 = true → kindV a = k → k ≠ 2 → k ≠ 8 → gaV (a ++ ⟨#[58]⟩ ++ itoaText n) = ⟨k, 0, 0, n⟩ := fun a k ha ha2 hk h2 h8 => by
    have hf := few_without n0 n3
    rw [gaV_colon (without_app (without_app (wo_without (c := 47) ha2) (one_without (by decide))) hf.2.1) (wo_without (c := 58) ha) k hk h2, if_neg h8, (few_reads n0 n3).2]
  rcases hk with rfl | rfl | rfl | rfl | rfl | rfl | rfl | rfl | rfl | rfl | rfl
  · have : c = 0 ∧ m = 0 ∧ n = 0 := by simpa [okAc] using h
    obtain ⟨rfl, rfl, rfl⟩ := this
    show gaV sNone = _
    rw [gaV_plain (wo_without (c := 47) (by rfl)) (wo_without (c := 58) (by rfl))]
    rfl
  · have : c = 0 ∧ m = 0 ∧ n = 0 := by simpa [okAc] using h
    obtain ⟨rfl, rfl, rfl⟩ := this
    show gaV sPass = _
    rw [gaV_plain (wo_without (c := 47) (by rfl)) (wo_without (c := 58) (by rfl))]
    rfl
  · have hh : n = 0 ∧ (inB c 1 56 = true ∨ c = 0 ∧ inB m 1 15 = true) ∧ (inB m 1 15 = true ∨ m = 0) := by simpa [okAc] using h
    obtain ⟨rfl, h1, h2⟩ := hh
    by_cases hm : m = 0
    · subst hm
      have hc : inB c 1 56 = true := by
        rcases h1 with h1 | ⟨_, h1⟩
        · exact h1
        · exact absurd h1 (by decide)
      have hs := nm_without hc
      have e : acT 2 c 0 0 = nmV c := rfl
      rw [e, gaV_plain hs.2.1 hs.1, if_pos (nm_kind hc), gkV, cutV_miss _ 45 45 rfl hs.2.2, if_neg (by simp), code_of hc]
    · have hmm : inB m 1 15 = true := h2.resolve_right hm
      have e : acT 2 c m 0 = mdV m ++ ⟨#[45]⟩ ++ nmV c := by show (if m = 0 then _ else _) = _; rw [if_neg hm]
      have hd := md_without hmm
      have hs : Without (nmV c) 58 ∧ Without (nmV c) 47 ∧ (codeV (nmV c) : Int) = c := by
        by_cases hc : inB c 1 56 = true
        · exact ⟨(nm_without hc).1, (nm_without hc).2.1, code_of hc⟩
        · have hc0 : c = 0 := by rcases h1 with h1 | h1; exact absurd h1 hc; exact h1.1
          subst hc0
          have e2 : nmV 0 = ⟨#[]⟩ := rfl
          rw [e2, code_none]
          exact ⟨empty_without _, empty_without _, rfl⟩
      rw [e, gaV_plain (without_app (without_app hd.2.1 (one_without (by decide))) hs.2.1) (without_app (without_app hd.1 (one_without (by decide))) hs.1), if_pos dash_kind, gkV, cutV_hit _ _ 45 45 rfl hd.2.2, if_pos rfl, hs.2.2, mods_of hmm]
  · have hh : inB n 1 3 = true ∧ c = 0 ∧ m = 0 := by simpa [okAc] using h
    obtain ⟨_, rfl, rfl⟩ := hh
    have e : acT 3 0 0 n = sMo ++ ⟨#[58]⟩ ++ itoaText n := by rw [← sMo_colon]; rfl
    rw [e]; exact colon sMo 3 (by rfl) (by rfl) (by rfl) (by decide) (by decide)
  · have hh : inB n 1 3 = true ∧ c = 0 ∧ m = 0 := by simpa [okAc] using h
    obtain ⟨_, rfl, rfl⟩ := hh
    have e : acT 4 0 0 n = sTg ++ ⟨#[58]⟩ ++ itoaText n := by rw [← sTg_colon]; rfl
    rw [e]; exact colon sTg 4 (by rfl) (by rfl) (by rfl) (by decide) (by decide)
  · have hh : inB n 0 3 = true ∧ c = 0 ∧ m = 0 := by simpa [okAc] using h
    obtain ⟨_, rfl, rfl⟩ := hh
    have e : acT 5 0 0 n = sTo ++ ⟨#[58]⟩ ++ itoaText n := by rw [← sTo_colon]; rfl
    rw [e]; exact colon sTo 5 (by rfl) (by rfl) (by rfl) (by decide) (by decide)
  · have hh : inB c 1 56 = true ∧ inB m 1 15 = true ∧ n = 0 := by simpa [okAc] using h
    obtain ⟨hc, hm, rfl⟩ := hh
    have e : acT 6 c m 0 = mdV m ++ ⟨#[47]⟩ ++ nmV c := rfl
    have hm0 : pmV (mdV m) ≠ 0 := by
      have := mods_of hm
      have := of_decide_eq_true (show decide (1 ≤ m ∧ m ≤ 15) = true from hm)
      omega
    rw [e, gaV_slash (md_without hm).2.1, gtV, if_neg hm0, code_of hc, mods_of hm]
  · have hh : inB c 1 56 = true ∧ inB n 1 3 = true ∧ m = 0 := by simpa [okAc] using h
    obtain ⟨hc, hn, rfl⟩ := hh
    have e : acT 7 c 0 n = itoaText n ++ ⟨#[47]⟩ ++ nmV c := rfl
    have hm0 : pmV (itoaText n) = 0 := by
      have h : n = 0 ∨ n = 1 ∨ n = 2 ∨ n = 3 := by omega
      rw [itoa_few n0 n3]
      rcases h with rfl | rfl | rfl | rfl <;> rfl
    rw [e, gaV_slash (few_without n0 n3).2.1, gtV, if_pos hm0, code_of hc, (few_reads n0 n3).2]
  · have hh : inB m 1 15 = true ∧ c = 0 ∧ n = 0 := by simpa [okAc] using h
    obtain ⟨hm, rfl, rfl⟩ := hh
    have e : acT 8 0 m 0 = (⟨#[111, 110, 99, 101]⟩ : ByteArray) ++ ⟨#[58]⟩ ++ mdV m := by rw [← sOnce_colon]; rfl
    have hd := md_without hm
    rw [e, gaV_colon (without_app (without_app (wo_without (c := 47) (by rfl)) (one_without (by decide))) hd.2.1) (wo_without (c := 58) (by rfl)) 8 (by rfl) (by decide), if_pos rfl, mods_of hm]
  · have hh : inB n 0 3 = true ∧ c = 0 ∧ m = 0 := by simpa [okAc] using h
    obtain ⟨_, rfl, rfl⟩ := hh
    have e : acT 9 0 0 n = sMacro ++ ⟨#[58]⟩ ++ itoaText n := by rw [← sMacro_colon]; rfl
    rw [e]; exact colon sMacro 9 (by rfl) (by rfl) (by rfl) (by decide) (by decide)
  · have : c = 0 ∧ m = 0 ∧ n = 0 := by simpa [okAc] using h
    obtain ⟨rfl, rfl, rfl⟩ := this
    show gaV sCaps = _
    rw [gaV_plain (wo_without (c := 47) (by rfl)) (wo_without (c := 58) (by rfl))]
    rfl
/-- What the program's ParseAction tells. -/
theorem acP_ga (s : ByteArray) (z : Ac) (hz : z = gaV s) : acP s = if okAc z.k z.c z.m z.n = true ∧ acS z.k z.c z.m z.n = s then (z, true) else (⟨0, 0, 0, 0⟩, false) := by
  split
  · rename_i h
    rw [← h.2]
    exact acP_acS h.1
  · rename_i h
    by_cases h2 : s = ⟨#[]⟩ ∨ ¬ acS (acG s).k (acG s).c (acG s).m (acG s).n = s
    · rw [acP, if_pos h2]
    · exfalso
      have h3 : acS (acG s).k (acG s).c (acG s).m (acG s).n = s := Classical.byContradiction fun e => h2 (.inr e)
      have h4 : ¬ s = ⟨#[]⟩ := fun e => h2 (.inl e)
      have hok : okAc (acG s).k (acG s).c (acG s).m (acG s).n = true := by
        by_cases h5 : okAc (acG s).k (acG s).c (acG s).m (acG s).n = true
        · exact h5
        · rw [acS, if_neg h5] at h3; exact absurd h3.symm h4
      have h6 : acT (acG s).k (acG s).c (acG s).m (acG s).n = s := by rw [acS, if_pos hok] at h3; exact h3
      have h7 := gaV_acT hok
      rw [h6, ← hz] at h7
      exact h (by rw [h7]; exact ⟨hok, h3⟩)
end Go.Proofs.YtnfnhbldphiohaaDoor

namespace Go.Proofs.YtnfnhbldphiohaaDoor
open Go.RowKit

theorem implFormatAction_n (k c m n : Int) (T : ByteArray) (hT : T = acS k c m n) (w : World) (ht : AcTabs w) : Calls Tryd.prog 32 #[acv k c m n] w fun e w' => e = .returned (.string T) ∧ Below w.heap.size w w' := by
  rw [hT]; exact implFormatAction_any k c m n w ht

set_option maxHeartbeats 4000000 in
set_option maxRecDepth 100000 in
theorem implParseAction_any (s : ByteArray) (w : World) (ht : AcTabs w) (hl : s.size ≤ 1048576) : Calls Tryd.prog 59 #[.string s] w fun e w' => e = .returned (.tuple #[acv (acP s).1.k (acP s).1.c (acP s).1.m (acP s).1.n, .bool (acP s).2]) ∧ Below w.heap.size w w' := by
  obtain ⟨z, hz⟩ : ∃ z, z = gaV s := ⟨_, rfl⟩
  have hp := acP_ga s z hz
  obtain ⟨⟨r, rb⟩, hr⟩ : ∃ r, r = acP s := ⟨_, rfl⟩
  rw [← hr] at hp ⊢
  obtain ⟨v, hv⟩ : ∃ v, v = okAc z.k z.c z.m z.n := ⟨_, rfl⟩
  obtain ⟨T, hT⟩ : ∃ T, T = acS z.k z.c z.m z.n := ⟨_, rfl⟩
  rw [← hv, ← hT] at hp
  have HZ := Lib.hid hz
  have HP := Lib.hid hp
  have HV := Lib.hid hv
  have HTX := Lib.hid hT
  have HL := Lib.hid hl
  have HT := Lib.hid ht
  clear hz hp hr hv hT hl ht
  obtain ⟨V, hV⟩ : ∃ V, V = w.alloc (.cells #[.int .i64 0, .int .i64 0, .int .i64 0, .int .i64 0] 67) := ⟨_, rfl⟩
  have HG0 := Lib.hid (show V.heap[w.heap.size]? = some (.cells #[.int .i64 0, .int .i64 0, .int .i64 0, .int .i64 0] 67 (0, 0)) by rw [hV]; exact heap_alloc_new w _)
  have HB0 := Lib.hid (show Below w.heap.size w V by rw [hV]; exact (Below.refl _ _).alloc (Nat.le_refl _) _)
  have HS0 := Lib.hid (show w.heap.size < V.heap.size by rw [hV]; simp)
  have HV2 := Lib.hid hV
  clear hV
  have HT0 := Lib.hid (HT.out.below HB0.out)
  go_enter Tryd.func59, Tryd.ntmps59
  go_wp2_with fail
  rw [← HV2.out]
  refine (guessAction_any s z HZ.out _ HT0.out HL.out).mono ?_
  rintro e w1 ⟨rfl, hb⟩
  have HB1 := Lib.hid (HB0.out.trans (hb.mono HB0.out.size))
  have HG1 := Lib.hid ((hb.block _ HS0.out).trans HG0.out)
  have HS1 := Lib.hid (Nat.lt_of_lt_of_le HS0.out hb.size)
  have HT1 := Lib.hid (HT0.out.below hb)
  clear hb
  go_upto_region 2 with (fail)
  obtain ⟨g, hg⟩ : ∃ g, g = w1.heap.size := ⟨_, rfl⟩
  obtain ⟨U, hU⟩ : ∃ U, U = w1.alloc (.cells #[.int .i64 z.k, .int .i64 z.c, .int .i64 z.m, .int .i64 z.n] 67) := ⟨_, rfl⟩
  have hA2 : U.heap[g]? = some (.cells #[.int .i64 z.k, .int .i64 z.c, .int .i64 z.m, .int .i64 z.n] 67 (0, 0)) := by rw [hU, hg]; exact heap_alloc_new w1 _
  have hU1 : Below w1.heap.size w1 U := by rw [hU]; exact (Below.refl _ _).alloc (Nat.le_refl _) _
  have hB2 := HB1.out.trans (hU1.mono HB1.out.size)
  have hG2 := (hU1.block _ HS1.out).trans HG1.out
  have hS2 : g < U.heap.size := by rw [hU, hg]; simp
  have hgw : w.heap.size < g := by rw [hg]; exact HS1.out
  have HTU := Lib.hid (HT1.out.below hU1)
  rw [← hU, ← hg]
  clear hU hU1 hg HB1 HG1 HS1
  obtain ⟨c0, -⟩ := cells_of_heap hA2 0 (by simp)
  obtain ⟨c1, -⟩ := cells_of_heap hA2 1 (by simp)
  obtain ⟨c2, -⟩ := cells_of_heap hA2 2 (by simp)
  obtain ⟨c3, -⟩ := cells_of_heap hA2 3 (by simp)
  simp only [List.getElem_toArray, List.getElem_cons_zero, List.getElem_cons_succ] at c0 c1 c2 c3
  have HA2 := Lib.hid hA2
  have HB2 := Lib.hid hB2
  have HG2 := Lib.hid hG2
  have HS2 := Lib.hid hS2
  have HGW := Lib.hid hgw
  clear hA2 hB2 hG2 hS2 hgw
  go_wp2_with fail
  refine (implIsAction_q z.k z.c z.m z.n v HV.out _).mono ?_
  rintro e w3 ⟨rfl, hb⟩
  have HB3 := Lib.hid (HB2.out.trans (hb.mono HB2.out.size))
  have HG3 := Lib.hid ((hb.block _ (Nat.lt_trans HGW.out HS2.out)).trans HG2.out)
  have HA3 := Lib.hid ((hb.block _ HS2.out).trans HA2.out)
  have HS3 := Lib.hid (Nat.lt_of_lt_of_le HS2.out hb.size)
  have HT3 := Lib.hid (HTU.out.below hb)
  clear hb c0 c1 c2 c3
  cases v
  · have HP2 := Lib.hid (show (r, rb) = (⟨0, 0, 0, 0⟩, false) by rw [HP.out, if_neg (fun h => by simp at h)])
    obtain ⟨x0, p0⟩ := cells_of_heap HG3.out 0 (by simp)
    obtain ⟨x1, p1⟩ := cells_of_heap HG3.out 1 (by simp)
    obtain ⟨x2, p2⟩ := cells_of_heap HG3.out 2 (by simp)
    obtain ⟨x3, p3⟩ := cells_of_heap HG3.out 3 (by simp)
    go_wp2
    clear x0 x1 x2 x3 p0 p1 p2 p3
    obtain ⟨wf, hwf⟩ : ∃ x, x = putW (w3) (w.heap.size) 0 [.int .i64 0, .int .i64 0, .int .i64 0, .int .i64 0] := ⟨_, rfl⟩
    have kf := putW_all [.int .i64 0, .int .i64 0, .int .i64 0, .int .i64 0] HG3.out rfl
    have bf := putW_below (b := w.heap.size) (by first | omega | simp) [.int .i64 0, .int .i64 0, .int .i64 0, .int .i64 0] 0 _ HB3.out
    rw [← hwf] at kf bf
    have cf := hwf.symm
    simp only [putW, Nat.reduceAdd] at cf
    rw [cf]
    clear cf hwf
    have f0 := (cells_of_heap kf 0 (by simp)).1
    have f1 := (cells_of_heap kf 1 (by simp)).1
    have f2 := (cells_of_heap kf 2 (by simp)).1
    have f3 := (cells_of_heap kf 3 (by simp)).1
    simp only [List.getElem_toArray, List.getElem_cons_zero, List.getElem_cons_succ] at f0 f1 f2 f3
    refine bodyPost_ret (v := .tuple #[acv 0 0 0 0, .bool false]) (by simp [results, Tryd.results59, go_sem, f0, f1, f2, f3]) rfl ⟨by obtain ⟨rfl, rfl⟩ := Prod.mk.inj HP2.out; rfl, bf⟩
  · obtain ⟨c0, -⟩ := cells_of_heap HA3.out 0 (by simp)
    obtain ⟨c1, -⟩ := cells_of_heap HA3.out 1 (by simp)
    obtain ⟨c2, -⟩ := cells_of_heap HA3.out 2 (by simp)
    obtain ⟨c3, -⟩ := cells_of_heap HA3.out 3 (by simp)
    simp only [List.getElem_toArray, List.getElem_cons_zero, List.getElem_cons_succ] at c0 c1 c2 c3
    go_wp2_with fail
    refine (implFormatAction_n z.k z.c z.m z.n T HTX.out _ HT3.out).mono ?_
    rintro e w4 ⟨rfl, hb⟩
    have HB4 := Lib.hid (HB3.out.trans (hb.mono HB3.out.size))
    have HG4 := Lib.hid ((hb.block _ (Nat.lt_trans HGW.out HS3.out)).trans HG3.out)
    have HA4 := Lib.hid ((hb.block _ HS3.out).trans HA3.out)
    clear hb c0 c1 c2 c3
    obtain ⟨c0, -⟩ := cells_of_heap HA4.out 0 (by simp)
    obtain ⟨c1, -⟩ := cells_of_heap HA4.out 1 (by simp)
    obtain ⟨c2, -⟩ := cells_of_heap HA4.out 2 (by simp)
    obtain ⟨c3, -⟩ := cells_of_heap HA4.out 3 (by simp)
    simp only [List.getElem_toArray, List.getElem_cons_zero, List.getElem_cons_succ] at c0 c1 c2 c3
    obtain ⟨x0, p0⟩ := cells_of_heap HG4.out 0 (by simp)
    obtain ⟨x1, p1⟩ := cells_of_heap HG4.out 1 (by simp)
    obtain ⟨x2, p2⟩ := cells_of_heap HG4.out 2 (by simp)
    obtain ⟨x3, p3⟩ := cells_of_heap HG4.out 3 (by simp)
    by_cases heq : T = s
    · have HP2 := Lib.hid (show (r, rb) = (z, true) by rw [HP.out, if_pos (by simp [heq])])
      have b0 : (T.toList == s.toList) = true := by rw [heq]; simp
      have b1 : (!(T.toList == s.toList)) = false := by rw [b0]; rfl
      clear heq
      go_wp2
      clear c0 c1 c2 c3 x0 x1 x2 x3 p0 p1 p2 p3 b0 b1
      obtain ⟨wf, hwf⟩ : ∃ x, x = putW (w4) (w.heap.size) 0 [.int .i64 z.k, .int .i64 z.c, .int .i64 z.m, .int .i64 z.n] := ⟨_, rfl⟩
      have kf := putW_all [.int .i64 z.k, .int .i64 z.c, .int .i64 z.m, .int .i64 z.n] HG4.out rfl
      have bf := putW_below (b := w.heap.size) (by first | omega | simp) [.int .i64 z.k, .int .i64 z.c, .int .i64 z.m, .int .i64 z.n] 0 _ HB4.out
      rw [← hwf] at kf bf
      have cf := hwf.symm
      simp only [putW, Nat.reduceAdd] at cf
      rw [cf]
      clear cf hwf
      have f0 := (cells_of_heap kf 0 (by simp)).1
      have f1 := (cells_of_heap kf 1 (by simp)).1
      have f2 := (cells_of_heap kf 2 (by simp)).1
      have f3 := (cells_of_heap kf 3 (by simp)).1
      simp only [List.getElem_toArray, List.getElem_cons_zero, List.getElem_cons_succ] at f0 f1 f2 f3
      refine bodyPost_ret (v := .tuple #[acv z.k z.c z.m z.n, .bool true]) (by simp [results, Tryd.results59, go_sem, f0, f1, f2, f3]) rfl ⟨by obtain ⟨rfl, rfl⟩ := Prod.mk.inj HP2.out; rfl, bf⟩
    · have HP2 := Lib.hid (show (r, rb) = (⟨0, 0, 0, 0⟩, false) by rw [HP.out, if_neg (fun h => heq h.2)])
      have b0 : (T.toList == s.toList) = false := toList_ne heq
      have b1 : (!(T.toList == s.toList)) = true := by rw [b0]; rfl
      clear heq
      go_wp2
      clear c0 c1 c2 c3 x0 x1 x2 x3 p0 p1 p2 p3 b0 b1
      obtain ⟨wf, hwf⟩ : ∃ x, x = putW (w4) (w.heap.size) 0 [.int .i64 0, .int .i64 0, .int .i64 0, .int .i64 0] := ⟨_, rfl⟩
      have kf := putW_all [.int .i64 0, .int .i64 0, .int .i64 0, .int .i64 0] HG4.out rfl
      have bf := putW_below (b := w.heap.size) (by first | omega | simp) [.int .i64 0, .int .i64 0, .int .i64 0, .int .i64 0] 0 _ HB4.out
      rw [← hwf] at kf bf
      have cf := hwf.symm
      simp only [putW, Nat.reduceAdd] at cf
      rw [cf]
      clear cf hwf
      have f0 := (cells_of_heap kf 0 (by simp)).1
      have f1 := (cells_of_heap kf 1 (by simp)).1
      have f2 := (cells_of_heap kf 2 (by simp)).1
      have f3 := (cells_of_heap kf 3 (by simp)).1
      simp only [List.getElem_toArray, List.getElem_cons_zero, List.getElem_cons_succ] at f0 f1 f2 f3
      refine bodyPost_ret (v := .tuple #[acv 0 0 0 0, .bool false]) (by simp [results, Tryd.results59, go_sem, f0, f1, f2, f3]) rfl ⟨by obtain ⟨rfl, rfl⟩ := Prod.mk.inj HP2.out; rfl, bf⟩

end Go.Proofs.YtnfnhbldphiohaaDoor
