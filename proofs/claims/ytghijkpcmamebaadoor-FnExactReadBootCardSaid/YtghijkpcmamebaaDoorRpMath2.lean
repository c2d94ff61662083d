/- DERIVED. What is read of a report's text is the report. -/
import Derived.Test.YtghijkpcmamebaaDoorRpPa
import Derived.Test.YtghijkpcmamebaaDoorAcMath
namespace Go.Proofs.YtghijkpcmamebaaDoor
open Go.RowKit

set_option maxRecDepth 1000000 in
theorem nms_comma : nms.all (fun s => wo s 44) = true := by kernel_rfl
theorem nm_comma {c : Int} (h : inB c 1 56 = true) : Without (nmV c) 44 := wo_without (c := 44) (List.all_eq_true.1 nms_comma _ (nm_mem h))
theorem wo7_jn (ss : List ByteArray) (sep : ByteArray) (x : UInt8) (h : ∀ s ∈ ss, x ∉ s.data.toList) (hs : x ∉ sep.data.toList) : ∀ k, x ∉ jn ss sep k
  | 0 => by simp [jn]
  | k + 1 => by
    have ih := wo7_jn ss sep x h hs k
    have hk : x ∉ (ss.getD k ByteArray.empty).data.toList := by
      rw [List.getD_eq_getElem?_getD]
      rcases hc : ss[k]? with _ | p
      · exact fun hm => by cases hm
      · exact h p (List.mem_of_getElem? hc)
    rcases Nat.eq_zero_or_pos k with rfl | hp
    · rw [jn_first]; exact hk
    · rw [jn_later _ _ hp]
      simp only [List.mem_append, not_or]
      exact ⟨⟨ih, hs⟩, hk⟩
theorem without_not {s : ByteArray} {c : Int} {x : UInt8} (hc : c = (x.toNat : Int)) (h : x ∉ s.data.toList) : Without s c := by
  intro j hj e
  have hl : j < s.data.toList.length := by rw [Array.length_toList]; exact hj
  rw [bt_getD, List.getD_eq_getElem?_getD, List.getElem?_map, List.getElem?_eq_getElem hl] at e
  have e2 : ((s.data.toList[j].toNat : Nat) : Int) = c := e
  have e3 : s.data.toList[j] = x := UInt8.toNat_inj.mp (by omega)
  exact h (e3 ▸ List.getElem_mem hl)
theorem joined_without (ss : List ByteArray) (sep : ByteArray) (c : Int) (x : UInt8) (hc : c = (x.toNat : Int)) (h : ∀ s ∈ ss, Without s c) (hs : x ∉ sep.data.toList) : Without (joined ss sep) c := by
  refine without_not hc ?_
  have hd : (joined ss sep).data.toList = jn ss sep ss.length := by simp [joined]
  rw [hd]
  exact wo7_jn ss sep x (fun s hm => without_list (by rw [← hc]; exact h s hm)) hs _
theorem md_zero : mdV 0 = ⟨#[]⟩ := by kernel_rfl
theorem mods_all {r : Int} (h : 0 ≤ r ∧ r ≤ 15) : (pmV (mdV r) : Int) = r := by
  have := List.all_eq_true.1 mods_back r.toNat (by rw [List.mem_range]; omega)
  have h2 := of_decide_eq_true this
  rw [Int.toNat_of_nonneg (by omega)] at h2
  omega
theorem md_colon {r : Int} (h : 0 ≤ r ∧ r ≤ 15) : Without (mdV r) 58 := by
  by_cases h0 : r = 0
  · subst h0; rw [md_zero]; exact empty_without _
  · exact (md_without (show inB r 1 15 = true from decide_eq_true ⟨by omega, h.2⟩)).1
theorem prV_rpT (r : Int) (zs : List Int) (h : okRp r zs = true) : prV (rpT r zs) = ⟨r, zs, true⟩ := by
  obtain ⟨hr, hz⟩ := okRp_at h
  have hm : ∀ z ∈ zs, inB z 1 56 = true := by
    intro z hz2
    obtain ⟨i, hi, rfl⟩ := List.getElem_of_mem hz2
    have h1 := hz i hi
    rw [List.getD_eq_getElem?_getD, List.getElem?_eq_getElem hi] at h1
    exact decide_eq_true h1
  obtain ⟨J, hJ⟩ : ∃ J, J = joined (zs.map nmV) commaS := ⟨_, rfl⟩
  have e : rpT r zs = mdV r ++ ⟨#[58]⟩ ++ J := by rw [rpT, if_pos h, hJ]; rfl
  have hJ58 : Without J 58 := by
    rw [hJ]
    refine joined_without _ _ 58 58 rfl (fun s hs => ?_) (by decide)
    obtain ⟨c, hc, rfl⟩ := List.mem_map.1 hs
    exact (nm_without (hm c hc)).1
  have hp := parts_two (mdV r) J 58 58 rfl (md_colon hr) hJ58
  obtain ⟨p0, p1⟩ := pt_two (mdV r) J 58 58 rfl (md_colon hr) hJ58
  obtain ⟨s, hs⟩ : ∃ s, s = rpT r zs := ⟨_, rfl⟩
  rw [← e, ← hs] at hp p0 p1
  have hR : prR s = r := by rw [prR, prA, p0]; exact mods_all hr
  have hZ : prZ s = zs := by
    rw [prZ, prQ, p1]
    rcases zs with _ | ⟨z, zs⟩
    · rw [if_pos (by rw [hJ]; rfl)]
    · have hpj : parts J 44 = ((z :: zs).map nmV) := by
        rw [hJ]
        refine parts_joined _ commaS 44 (by decide) (by decide) (by rfl) (by simp) (fun p hp => ?_)
        obtain ⟨c, hc, rfl⟩ := List.mem_map.1 hp
        exact nm_comma (hm c hc)
      have hne : J ≠ ⟨#[]⟩ := by
        intro e0
        rw [e0] at hpj
        have e1 : parts ⟨#[]⟩ 44 = [⟨#[]⟩] := by kernel_rfl
        rw [e1] at hpj
        simp only [List.map_cons, List.cons.injEq] at hpj
        exact (nm_words (hm z (List.mem_cons_self ..))).2.2.2 hpj.1.symm
      rw [if_neg hne, hpj, List.map_map]
      have : ∀ l : List Int, (∀ x ∈ l, inB x 1 56 = true) → l.map ((fun t => ((codeV t : Nat) : Int)) ∘ nmV) = l := by
        intro l
        induction l with
        | nil => intro _; rfl
        | cons x l ih =>
          intro hx
          rw [List.map_cons, ih (fun y hy => hx y (List.mem_cons_of_mem _ hy))]
          show ((codeV (nmV x) : Nat) : Int) :: l = x :: l
          rw [code_of (hx x (List.mem_cons_self ..))]
      exact this _ hm
  rw [← hs, prV, hR, hZ, if_pos ⟨by rw [hp]; rfl, hs.symm⟩]

end Go.Proofs.YtghijkpcmamebaaDoor
