/- DERIVED. The program's slices.Delete of one held key, in the row's own memory. Called with a row of at most 1048576 held keys. -/
import Derived.Test.YtjfckchoklepbaaGreatMcImpl
import Derived.Test.YtjfckchoklepbaaGreatMcSpec
namespace Go.Proofs.YtjfckchoklepbaaGreat
open Go.RowKit

theorem zeros5 : (Builtin.zeroCells (Value.agg #[.int .i64 0, .int .i64 0, .int .i64 0, .int .i64 0, .int .i64 0]).cells 1).toList = [.int .i64 0, .int .i64 0, .int .i64 0, .int .i64 0, .int .i64 0] := by simp [Builtin.zeroCells, Value.cells, Array.range, Array.ofFn, go_sem]; rfl
theorem one5 : ∀ u ∈ [Value.int IntKind.i64 0, .int .i64 0, .int .i64 0, .int .i64 0, .int .i64 0], u.oneCell' = true := by
  intro u hu
  simp only [List.mem_cons, List.not_mem_nil, or_false] at hu
  rcases hu with rfl | rfl | rfl | rfl | rfl <;> rfl
theorem zeroHd (v : World) : (zeroValue 43).run Tryz.prog v = .ok (.agg #[.int .i64 0, .int .i64 0, .int .i64 0, .int .i64 0, .int .i64 0]) v := by simp [go_sem]
theorem eraseHd_flat (d : List Hd) (k : Nat) : flatHd (d.take k) ++ flatHd (d.drop (k + 1)) = flatHd (d.eraseIdx k) := by
  unfold flatHd; rw [← List.flatMap_append, List.eraseIdx_eq_take_drop_succ]

set_option maxRecDepth 100000 in
set_option maxHeartbeats 8000000 in
theorem delHd_any (B g cap : Nat) (l : List Hd) (i : Nat) (p q : Int) (w : World) (hp : p = i) (hq : q = (i : Int) + 1) (hi : i < l.length) (hl : l.length ≤ 1048576) (h : w.ownsRow B 43 5 (.slice (some ⟨g, 0, none⟩) l.length cap) l.length (flatHd l)) :
    Calls Tryz.prog 166 #[.slice (some ⟨g, 0, none⟩) l.length cap, .int .i64 p, .int .i64 q] w fun e w' => e = .returned (.slice (some ⟨g, 0, none⟩) (l.length - 1) cap) ∧
      w'.ownsRow B 43 5 (.slice (some ⟨g, 0, none⟩) (l.length - 1) cap) (l.length - 1) (flatHd (l.eraseIdx i)) ∧ w.grownBy w' (some g) := by
  subst hp hq
  obtain ⟨i0, hi0, hz0, hz1, hz2⟩ := info_parts info_hd
  have hcap : l.length ≤ cap ∧ cap ≤ maxLen := by
    rcases h.2 with ⟨e, _⟩ | ⟨g, cap', cur, e, _, _, h2, h3, _⟩
    · simp at e
    · simp only [Value.slice.injEq] at e
      obtain ⟨_, _, rfl⟩ := e
      exact ⟨h2, h3⟩
  have hO0 : w.ownsRow B 43 5 (.slice (some ⟨g, 0, none⟩) i cap) i (flatHd (l.take i)) := by
    refine ⟨by rw [flatHd_len, List.length_take]; omega, ?_⟩
    rcases h.2 with ⟨e, _⟩ | ⟨g, cap', cur, e, h1, h2, h3, h4, h5, h6⟩
    · simp at e
    · simp only [Value.slice.injEq, Option.some.injEq, Addr.mk.injEq] at e
      obtain ⟨⟨rfl, _⟩, _, rfl⟩ := e
      refine .inr ⟨_, cap, cur, rfl, h1, h2, by omega, h4, h5, ?_⟩
      rw [flatHd_take l i (by omega), ← h6, List.take_take, Nat.min_eq_left (by omega)]
  have hn2 := owned_news h ((i + 1) * 5) (flatHd (l.drop (i + 1))) (fun q u hq => by
    rw [flatHd_drop l (i + 1) (by omega), List.getElem?_drop] at hq; exact hq)
  have hl2 : (flatHd (l.drop (i + 1))).length = (l.length - (i + 1)) * 5 := by rw [flatHd_len, List.length_drop]
  obtain ⟨n, hnl⟩ : ∃ n, n = l.length := ⟨_, rfl⟩
  have HN2 := Lib.hid hn2
  have HL2 := Lib.hid hl2
  have HER := Lib.hid (eraseHd_flat l i)
  have HO := Lib.hid hO0
  rw [← hnl] at HL2 hi hl hcap h ⊢
  obtain ⟨hc1, hc2⟩ := hcap
  unfold maxLen at hc2
  clear hn2 hl2 hnl h hO0
  obtain ⟨m, hm⟩ : ∃ m, m = n - (i + 1) := ⟨_, rfl⟩
  rw [← hm] at HL2
  have hm1 : n - (i + 1) = m := hm.symm
  have hm2 : n - (i + m) = 1 := by omega
  have hroom : i + m ≤ cap := by omega
  have hlast : (i + m) * 5 + 5 ≤ cap * 5 := by omega
  have HNM := Lib.hid (show i + m = n - 1 by omega)
  have HROOM := Lib.hid hroom
  have HLAST := Lib.hid hlast
  have hkk : (i : Int) + 1 ≤ (n : Int) := by omega
  have hkc : (i : Int) ≤ (cap : Int) := by omega
  have hkn2 : (i : Int) ≤ (n : Int) := by omega
  have hkc3 : (n : Int) ≤ (cap : Int) := by omega
  have hkc2 : (i : Int) ≤ (i : Int) + 1 := by omega
  have hk02 : (0 : Int) ≤ (i : Int) + 1 := by omega
  have hne : ¬ (i : Int) = (i : Int) + 1 := by omega
  have him1 : (i : Int) + (m : Int) ≤ (n : Int) := by omega
  have him0 : (0 : Int) ≤ (i : Int) + (m : Int) := by omega
  have HB := Lib.hid (Below.refl w.heap.size w)
  clear hm hlast hroom
  go_enter Tryz.func166, Tryz.ntmps166
  go_upto_region 5 with (fail)
  by_cases hcl : cap = i + 1
  · subst hcl
    obtain rfl : m = 0 := by omega
    obtain rfl : n = i + 1 := by omega
    have hii : ¬ i + 1 = i := by omega
    have hsub : i + 1 - i = 1 := by omega
    have HN3 := Lib.hid (show ∀ w', Below w.heap.size w w' → ∀ q u, (flatHd (l.drop (i + 1)))[q]? = some u → w'.cell? ((⟨g, 0, none⟩ : Addr).add q) = some u from fun _ _ q u hq => by have h0 := (List.getElem?_eq_some_iff.mp hq).1; rw [HL2.out] at h0; omega)
    go_region_law ((refine step_append_in (by rfl) (.tmp 22) (.tmp 25) 28 (by rfl) B 43 i0 5 Tryz.underlying28 hi0 hz1 g i (i + 1) (flatHd (l.take i)) (by rfl) (owns_below HO.out (by first | exact (Below.refl _ _) | exact (Below.refl _ _).drew | exact (Below.refl _ _).drew.drew)) ⟨g, 0, none⟩ 0 _ (flatHd (l.drop (i + 1))) (by rfl) HL2.out (HN3.out _ (by first | exact HB.out | exact HB.out.drew | exact HB.out.drew.drew)) (flatHd_one _) HROOM.out ?_; intro w1 hown1 hgrow1; have hg1 : w.grownBy w1 (some g) := (by first | exact hgrow1 | exact grown_trans (grown_drewN w 1 _) hgrow1); rw [HER.out] at hown1; have HO1 := Lib.hid hown1; have HG1 := Lib.hid hg1; clear hown1 hgrow1 hg1))
    all_goals
      have hcl1 : ∀ ty c, (Builtin.clear_ #[28] ty #[.slice (some ⟨g, i * 5, none⟩) 1 c]).run Tryz.prog w1 = .ok (.tuple #[]) (w1.setCells g (i * 5) [.int .i64 0, .int .i64 0, .int .i64 0, .int .i64 0, .int .i64 0]) := fun ty c => run_clear_one _ w1 _ _ ty _ [.int .i64 0, .int .i64 0, .int .i64 0, .int .i64 0, .int .i64 0] Tryz.underlying28 zeroHd zeros5 one5 g (i * 5) _ (fun j hj => (owns_place HO1.out _ (by simp at hj; have := HLAST.out; omega)).1) (fun j hj => (owns_place HO1.out _ (by simp at hj; have := HLAST.out; omega)).2)
      have hcl2 : ∀ ty c, (Builtin.clear_ #[28] ty #[.slice (some ⟨g, i * 5, none⟩) 1 c]).run Tryz.prog w1.drew = .ok (.tuple #[]) (w1.drew.setCells g (i * 5) [.int .i64 0, .int .i64 0, .int .i64 0, .int .i64 0, .int .i64 0]) := fun ty c => run_clear_one _ w1.drew _ _ ty _ [.int .i64 0, .int .i64 0, .int .i64 0, .int .i64 0, .int .i64 0] Tryz.underlying28 zeroHd zeros5 one5 g (i * 5) _ (fun j hj => (owns_place (owns_below HO1.out (Below.refl _ _).drew) _ (by simp at hj; have := HLAST.out; omega)).1) (fun j hj => (owns_place (owns_below HO1.out (Below.refl _ _).drew) _ (by simp at hj; have := HLAST.out; omega)).2)
      go_wp2
      go_ret
      rw [← HNM.out]
      first
        | exact ⟨rfl, owns_beyond _ (owns_beyond _ (owns_beyond _ (owns_beyond _ (owns_beyond _ HO1.out (by omega)) (by omega)) (by omega)) (by omega)) (by omega), grown_trans (grown_trans (grown_trans (grown_trans (grown_trans HG1.out (grown_set _ _ _ _)) (grown_set _ _ _ _)) (grown_set _ _ _ _)) (grown_set _ _ _ _)) (grown_set _ _ _ _)⟩
        | exact ⟨rfl, owns_beyond _ (owns_beyond _ (owns_beyond _ (owns_beyond _ (owns_beyond _ (owns_below HO1.out (Below.refl _ _).drew) (by omega)) (by omega)) (by omega)) (by omega)) (by omega), grown_trans (grown_trans (grown_trans (grown_trans (grown_trans (grown_trans HG1.out (grown_drewN w1 1 _)) (grown_set _ _ _ _)) (grown_set _ _ _ _)) (grown_set _ _ _ _)) (grown_set _ _ _ _)) (grown_set _ _ _ _)⟩
  · go_region_law ((refine step_append_in (by rfl) (.tmp 22) (.tmp 25) 28 (by rfl) B 43 i0 5 Tryz.underlying28 hi0 hz1 g i cap (flatHd (l.take i)) (by rfl) (owns_below HO.out (by first | exact (Below.refl _ _) | exact (Below.refl _ _).drew | exact (Below.refl _ _).drew.drew)) ⟨g, (i + 1) * 5, none⟩ m _ (flatHd (l.drop (i + 1))) (by rfl) HL2.out (HN2.out _ (by first | exact HB.out | exact HB.out.drew | exact HB.out.drew.drew)) (flatHd_one _) HROOM.out ?_; intro w1 hown1 hgrow1; have hg1 : w.grownBy w1 (some g) := (by first | exact hgrow1 | exact grown_trans (grown_drewN w 1 _) hgrow1); rw [HER.out] at hown1; have HO1 := Lib.hid hown1; have HG1 := Lib.hid hg1; clear hown1 hgrow1 hg1))
    all_goals
      have hcl1 : ∀ ty c, (Builtin.clear_ #[28] ty #[.slice (some ⟨g, (i + m) * 5, none⟩) 1 c]).run Tryz.prog w1 = .ok (.tuple #[]) (w1.setCells g ((i + m) * 5) [.int .i64 0, .int .i64 0, .int .i64 0, .int .i64 0, .int .i64 0]) := fun ty c => run_clear_one _ w1 _ _ ty _ [.int .i64 0, .int .i64 0, .int .i64 0, .int .i64 0, .int .i64 0] Tryz.underlying28 zeroHd zeros5 one5 g ((i + m) * 5) _ (fun j hj => (owns_place HO1.out _ (by simp at hj; have := HLAST.out; omega)).1) (fun j hj => (owns_place HO1.out _ (by simp at hj; have := HLAST.out; omega)).2)
      have hcl2 : ∀ ty c, (Builtin.clear_ #[28] ty #[.slice (some ⟨g, (i + m) * 5, none⟩) 1 c]).run Tryz.prog w1.drew = .ok (.tuple #[]) (w1.drew.setCells g ((i + m) * 5) [.int .i64 0, .int .i64 0, .int .i64 0, .int .i64 0, .int .i64 0]) := fun ty c => run_clear_one _ w1.drew _ _ ty _ [.int .i64 0, .int .i64 0, .int .i64 0, .int .i64 0, .int .i64 0] Tryz.underlying28 zeroHd zeros5 one5 g ((i + m) * 5) _ (fun j hj => (owns_place (owns_below HO1.out (Below.refl _ _).drew) _ (by simp at hj; have := HLAST.out; omega)).1) (fun j hj => (owns_place (owns_below HO1.out (Below.refl _ _).drew) _ (by simp at hj; have := HLAST.out; omega)).2)
      go_wp2
      go_ret
      rw [← HNM.out]
      first
        | exact ⟨rfl, owns_beyond _ (owns_beyond _ (owns_beyond _ (owns_beyond _ (owns_beyond _ HO1.out (by omega)) (by omega)) (by omega)) (by omega)) (by omega), grown_trans (grown_trans (grown_trans (grown_trans (grown_trans HG1.out (grown_set _ _ _ _)) (grown_set _ _ _ _)) (grown_set _ _ _ _)) (grown_set _ _ _ _)) (grown_set _ _ _ _)⟩
        | exact ⟨rfl, owns_beyond _ (owns_beyond _ (owns_beyond _ (owns_beyond _ (owns_beyond _ (owns_below HO1.out (Below.refl _ _).drew) (by omega)) (by omega)) (by omega)) (by omega)) (by omega), grown_trans (grown_trans (grown_trans (grown_trans (grown_trans (grown_trans HG1.out (grown_drewN w1 1 _)) (grown_set _ _ _ _)) (grown_set _ _ _ _)) (grown_set _ _ _ _)) (grown_set _ _ _ _)) (grown_set _ _ _ _)⟩

end Go.Proofs.YtjfckchoklepbaaGreat
