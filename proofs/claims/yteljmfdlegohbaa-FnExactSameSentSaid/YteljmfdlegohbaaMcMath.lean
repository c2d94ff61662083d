/- DERIVED. The reports of a valid macro: each has what the held keys' report has and is valid, the last one is that report; there is none just when there is no step. No condition. -/
import Derived.Test.YteljmfdlegohbaaMcDef
import Derived.Test.YteljmfdlegohbaaHdMath
namespace Go.Proofs.Yteljmfdlegohbaa
open Go.RowKit

/-- All that is down are codes and modifiers as an ActKey's. -/
def DwOk (d : List Hd) : Prop := ∀ e ∈ d, (0 ≤ e.c ∧ e.c ≤ 56) ∧ 0 ≤ e.m ∧ e.m ≤ 15
theorem dwOk_at {d : List Hd} (h : DwOk d) {j : Nat} (hj : j < d.length) : (0 ≤ (hdD d j).c ∧ (hdD d j).c ≤ 56) ∧ 0 ≤ (hdD d j).m ∧ (hdD d j).m ≤ 15 := by
  refine h _ ?_
  rw [hdD, List.getD_eq_getElem?_getD, List.getElem?_eq_getElem hj]
  exact List.getElem_mem hj
theorem dwOk_snoc {d : List Hd} {x : St} (h : DwOk d) (hx : okX d x = true) : DwOk (d ++ [stA x]) := by
  intro e he
  rcases List.mem_append.1 he with h1 | h1
  · exact h e h1
  · rw [List.mem_singleton.1 h1]
    exact okAc_key (okX_at hx).2.1
theorem dwOk_erase {d : List Hd} (h : DwOk d) (k : Nat) : DwOk (d.eraseIdx k) := fun e he => h e (List.mem_of_mem_eraseIdx he)
theorem dwOk_nx {d : List Hd} {x : St} (h : DwOk d) (hx : okX d x = true) : DwOk (nxS d x) := by
  unfold nxS
  split
  · exact dwOk_snoc h hx
  · split
    · exact dwOk_erase h _
    · exact h
theorem dwOk_dw {l : List St} : ∀ {m : Nat}, mcN l m = true → DwOk (dwN l m)
  | 0, _ => fun e he => by simp [dwN] at he
  | m + 1, h => by
    have hx := mcN_at h m (Nat.lt_succ_self _)
    rw [mcN, Bool.and_eq_true] at h
    exact dwOk_nx (dwOk_dw h.1) hx
theorem mrM_bit (r : Nat) (d : List Hd) (b : Nat) : ∀ n, (mrM r d n).testBit b = true ↔ r.testBit b = true ∨ ∃ i, i < n ∧ (hdD d i).m.toNat.testBit b = true
  | 0 => by simp [mrM]
  | n + 1 => by
    rw [mrM, Nat.testBit_or, Bool.or_eq_true, mrM_bit r d b n, ex_succ]
    exact or_assoc
theorem mrM_and (r : Nat) (d : List Hd) (n : Nat) : mrM r d n &&& r = r := bits_same fun b => by
  rw [Nat.testBit_and, Bool.and_eq_true, mrM_bit]
  exact ⟨fun h => h.2, fun h => ⟨.inl h, h⟩⟩
theorem mrM_lt {r : Nat} {d : List Hd} (hr : r < 2 ^ 4) (h : DwOk d) : ∀ n, n ≤ d.length → mrM r d n < 2 ^ 4
  | 0, _ => hr
  | n + 1, hn => by
    have := dwOk_at h (j := n) (by omega)
    exact Nat.or_lt_two_pow (mrM_lt hr h n (by omega)) (by omega)
theorem mrK_mem (z : List Int) (d : List Hd) : ∀ k, ∀ x ∈ mrK z d k, 1 ≤ x ∧ x ≤ (k : Int)
  | 0, x, h => by simp [mrK] at h
  | k + 1, x, h => by
    rw [mrK] at h
    split at h
    · rcases List.mem_append.1 h with h1 | h1
      · have := mrK_mem z d k x h1; omega
      · rw [List.mem_singleton.1 h1]; omega
    · have := mrK_mem z d k x h; omega
theorem mrK_asc (z : List Int) (d : List Hd) : ∀ k, (mrK z d k).Pairwise (· < ·)
  | 0 => List.Pairwise.nil
  | k + 1 => by
    rw [mrK]
    split
    · rw [List.pairwise_append]
      refine ⟨mrK_asc z d k, List.pairwise_singleton _ _, fun x hx y hy => ?_⟩
      have := (mrK_mem z d k x hx).2
      rw [List.mem_singleton.1 hy]; omega
    · exact mrK_asc z d k
theorem mrK_in {z : List Int} {d : List Hd} {c : Nat} (h1 : 1 ≤ c) (h : (c : Int) ∈ z) : ∀ k, c ≤ k → (c : Int) ∈ mrK z d k
  | 0, hk => by omega
  | k + 1, hk => by
    rw [mrK]
    by_cases hc : c = k + 1
    · subst hc
      rw [if_pos (by rw [mrOn, decide_eq_true h, Bool.true_or])]
      exact List.mem_append_right _ (List.mem_singleton.2 rfl)
    · have := mrK_in (d := d) h1 h k (by omega)
      split
      · exact List.mem_append_left _ this
      · exact this
/-- With nothing down the codes are those of the held keys. -/
theorem mrK_nilZ (l : List Hd) (Z : List Int) (hZ : Z = codesN l 56) : ∀ k, k ≤ 56 → mrK Z [] k = codesN l k
  | 0, _ => rfl
  | k + 1, hk => by
    have hon : mrOn Z [] ((k + 1 : Nat) : Int) = hasC l ((k + 1 : Nat) : Int) l.length := by
      rw [hZ]
      rw [mrOn, show hasC [] ((k + 1 : Nat) : Int) ([] : List Hd).length = false from rfl, Bool.or_false]
      rcases hc : hasC l ((k + 1 : Nat) : Int) l.length with _ | _
      · exact decide_eq_false fun hm => by rw [codesN_has 56 _ hm] at hc; exact absurd hc (by decide)
      · exact decide_eq_true (codesN_in (by omega) hc 56 hk)
    rw [mrK, codesN, hon, mrK_nilZ l Z hZ k (by omega)]
theorem mrK_nil (l : List Hd) : ∀ k, k ≤ 56 → mrK (codesN l 56) [] k = codesN l k := mrK_nilZ l _ rfl
theorem mrV_nil {l : List Hd} (h : okHd l = true) : mrV l [] = (((rofM l : Nat) : Int), rofK l) := by
  rw [mrV, rofK, if_pos h, mrK_nil l 56 (Nat.le_refl _)]; rfl
/-- A report that may stand among a macro's. -/
structure MrOk (l : List Hd) (r : Rv) : Prop where
  nat : ∃ M : Nat, r.1 = M ∧ M &&& rofM l = rofM l ∧ M < 2 ^ 4
  keys : ∀ z ∈ rofK l, z ∈ r.2
  ok : okRp r.1 r.2 = true
  len : r.2.length ≤ 56
theorem rofM_lt {l : List Hd} (h : okHd l = true) : rofM l < 2 ^ 4 := by rw [rofM, if_pos h]; exact mdOf_lt h l.length (Nat.le_refl _)
theorem mrV_ok {l d : List Hd} (h : okHd l = true) (hd : DwOk d) : MrOk l (mrV l d) := by
  have hlt := mrM_lt (rofM_lt h) hd d.length (Nat.le_refl _)
  refine ⟨⟨_, rfl, mrM_and _ _ _, hlt⟩, fun z hz => ?_, okRp_of (by rw [mrV]; exact ⟨by omega, by omega⟩) (mrK_asc _ _ 56) (fun z hz => mrK_mem _ _ 56 z hz), mrK_len _ _ 56⟩
  have hz' := hz
  rw [rofK, if_pos h] at hz'
  have := codesN_mem l 56 z hz'
  obtain ⟨c, rfl⟩ : ∃ c : Nat, z = c := ⟨z.toNat, by omega⟩
  exact mrK_in (by omega) hz 56 (by omega)
theorem mrX_ok {l d : List Hd} {x : St} (h : okHd l = true) (hd : DwOk d) (hx : okX d x = true) : ∀ r ∈ mrX l d x, MrOk l r := by
  intro r hr
  unfold mrX at hr
  split at hr
  · rcases List.mem_cons.1 hr with rfl | hr
    · exact mrV_ok h (dwOk_snoc hd hx)
    · rw [List.mem_singleton.1 hr]; exact mrV_ok h hd
  · split at hr
    · rw [List.mem_singleton.1 hr]; exact mrV_ok h (dwOk_snoc hd hx)
    · rw [List.mem_singleton.1 hr]; exact mrV_ok h (dwOk_erase hd _)
theorem mrX_pos (l d : List Hd) (x : St) : 1 ≤ (mrX l d x).length ∧ (mrX l d x).length ≤ 2 := by
  unfold mrX; split
  · simp
  · split <;> simp
theorem mrN_ok {l : List Hd} {s : List St} (h : okHd l = true) : ∀ {m : Nat}, mcN s m = true → ∀ r ∈ mrN l s m, MrOk l r
  | 0, _, r, hr => by simp [mrN] at hr
  | m + 1, hm, r, hr => by
    have hx := mcN_at hm m (Nat.lt_succ_self _)
    rw [mcN, Bool.and_eq_true] at hm
    rw [mrN] at hr
    rcases List.mem_append.1 hr with h1 | h1
    · exact mrN_ok h hm.1 r h1
    · exact mrX_ok h (dwOk_dw hm.1) hx r h1
theorem mrN_len (l : List Hd) (s : List St) : ∀ m, m ≤ (mrN l s m).length ∧ (mrN l s m).length ≤ 2 * m
  | 0 => by simp [mrN]
  | m + 1 => by
    have := mrN_len l s m
    have := mrX_pos l (dwN s m) (stD s m)
    rw [mrN, List.length_append]; omega
theorem mrP_ok {l : List Hd} {s : List St} (h : okHd l = true) (hs : okMc s = true) : ∀ r ∈ mrP l s, MrOk l r := by
  have hm := hs
  rw [okMc, Bool.and_eq_true] at hm
  rw [mrP, h, hs, Bool.and_self, if_pos rfl]
  exact mrN_ok h hm.1
theorem mrP_len {l : List Hd} {s : List St} (h : okHd l = true) (hs : okMc s = true) : s.length ≤ (mrP l s).length ∧ (mrP l s).length ≤ 2 * s.length := by
  rw [mrP, h, hs, Bool.and_self, if_pos rfl]
  exact mrN_len l s _
theorem mrP_len_any (l : List Hd) (s : List St) : (mrP l s).length ≤ 16 := by
  rw [mrP]; split
  · rename_i h
    rw [Bool.and_eq_true] at h
    have := (mrN_len l s s.length).2
    have := (okMc_at h.2).1
    omega
  · simp
theorem mrN_keys (l : List Hd) (s : List St) : ∀ m, ∀ r ∈ mrN l s m, r.2.length ≤ 56
  | 0, r, hr => by simp [mrN] at hr
  | m + 1, r, hr => by
    rw [mrN] at hr
    rcases List.mem_append.1 hr with h1 | h1
    · exact mrN_keys l s m r h1
    · unfold mrX at h1
      split at h1
      · rcases List.mem_cons.1 h1 with rfl | h1
        · exact mrK_len _ _ 56
        · rw [List.mem_singleton.1 h1]; exact mrK_len _ _ 56
      · split at h1 <;> (rw [List.mem_singleton.1 h1]; exact mrK_len _ _ 56)
theorem mrP_keys (l : List Hd) (s : List St) : ∀ r ∈ mrP l s, r.2.length ≤ 56 := by
  rw [mrP]; split
  · exact mrN_keys l s _
  · intro r hr; simp at hr
/-- The last report is that of the held keys. -/
theorem mrP_last {l : List Hd} {s : List St} (h : okHd l = true) (hs : okMc s = true) (h0 : s ≠ []) : (mrP l s).getLast? = some (((rofM l : Nat) : Int), rofK l) := by
  obtain ⟨-, hd, hok⟩ := okMc_at hs
  rw [mrP, h, hs, Bool.and_self, if_pos rfl]
  obtain ⟨m, hm⟩ : ∃ m, s.length = m + 1 := ⟨s.length - 1, by have := List.length_pos_iff.mpr h0; omega⟩
  rw [hm] at hd ⊢
  have hx := okX_at (hok m (by omega))
  rw [mrN, ← mrV_nil h]
  rw [dwN] at hd
  have hnil : nxS (dwN s m) (stD s m) = [] := List.eq_nil_of_length_eq_zero hd
  have key : (mrX l (dwN s m) (stD s m)).getLast? = some (mrV l []) := by
    unfold nxS at hnil
    unfold mrX
    by_cases h1 : (stD s m).k = 1
    · rw [if_pos h1] at hnil; simp at hnil
    · rw [if_neg h1] at hnil
      by_cases h2 : (stD s m).k = 2
      · rw [if_pos h2] at hnil
        rw [if_neg (by omega), if_neg h1, hnil]; rfl
      · rw [if_neg h2] at hnil
        rw [if_pos (by omega), hnil]; rfl
  rw [List.getLast?_append, key]; rfl

end Go.Proofs.Yteljmfdlegohbaa
