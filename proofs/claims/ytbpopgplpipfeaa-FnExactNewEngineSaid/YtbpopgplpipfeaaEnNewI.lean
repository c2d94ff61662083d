/- DERIVED. The program's NewEngine: the engine of a keymap and macros, copied, if it is valid. -/
import Derived.Test.YtbpopgplpipfeaaEnNew
import Derived.Test.YtbpopgplpipfeaaEnImplC
import Derived.Test.YtbpopgplpipfeaaEnImpl
namespace Go.Proofs.Ytbpopgplpipfeaa
open Go.RowKit

set_option maxRecDepth 100000 in
set_option maxHeartbeats 4000000 in
theorem implNewEngine_any (k : Int) (u1 u2 : Value) (L : List (List Ac)) (F : List (List St)) (w : World) (hs : EnSz (newE k L F)) (h1 : LdS w u1 L) (h2 : LdT w u2 F) :
    Calls Try.prog 25 #[kmv k u1, u2] w (EnB (newV k L F) (okEn (newE k L F)) w) := by
  obtain ⟨b, hb⟩ : ∃ b, b = okEn (newE k L F) := ⟨_, rfl⟩
  obtain ⟨R, hR⟩ : ∃ R, R = newV k L F := ⟨_, rfl⟩
  rw [← hR, ← hb]
  rw [newV, ← hb] at hR
  have HR := Lib.hid hR
  clear hR
  obtain ⟨a1, c1, rfl⟩ := RdS.shape h1
  obtain ⟨a2, c2, rfl⟩ := RdSt.shape h2
  obtain ⟨nL, hnL⟩ : ∃ n, n = L.length := ⟨_, rfl⟩
  obtain ⟨nF, hnF⟩ : ∃ n, n = F.length := ⟨_, rfl⟩
  have HRd := Lib.hid (show ∀ w', Below w.heap.size w w' → RdE w' (newE k L F) (.slice a1 nL c1) (.slice a2 nF c2) (.slice none 0 0) from fun w' hw => ⟨by rw [hnL]; exact h1.below hw, by rw [hnF]; exact h2.below hw, rdN_nil _ _⟩)
  have HNL := Lib.hid hnL
  have HNF := Lib.hid hnF
  have HB := Lib.hid hb
  have HS := Lib.hid hs
  rw [← hnL, ← hnF]
  obtain ⟨g, hg⟩ : ∃ g, g = w.heap.size := ⟨_, rfl⟩
  obtain ⟨U, hU⟩ : ∃ U, U = ((w.alloc (.cells #[.int .i64 k, .slice a1 nL c1] 26)).alloc (.cells #[.int .i64 0, .slice none 0 0, .slice none 0 0, .int .i64 0, .slice none 0 0, .int .i64 0, .bool false] 30)).alloc (.cells #[.int .i64 k, .slice a1 nL c1, .slice a2 nF c2, .int .i64 0, .slice none 0 0, .int .i64 0, .bool false] 30) := ⟨_, rfl⟩
  have HR0 := Lib.hid (show U.heap[g + 1]? = some (.cells #[.int .i64 0, .slice none 0 0, .slice none 0 0, .int .i64 0, .slice none 0 0, .int .i64 0, .bool false] 30 (0, 0)) by
    rw [hU, hg, Below.heap_alloc _ _ _ (by simp)]; simpa using heap_alloc_new (w.alloc (.cells #[.int .i64 k, .slice a1 nL c1] 26)) _)
  have HE0 := Lib.hid (show U.heap[g + 1 + 1]? = some (.cells #[.int .i64 k, .slice a1 nL c1, .slice a2 nF c2, .int .i64 0, .slice none 0 0, .int .i64 0, .bool false] 30 (0, 0)) by
    rw [hU, hg]; simpa using heap_alloc_new ((w.alloc (.cells #[.int .i64 k, .slice a1 nL c1] 26)).alloc (.cells #[.int .i64 0, .slice none 0 0, .slice none 0 0, .int .i64 0, .slice none 0 0, .int .i64 0, .bool false] 30)) _)
  have HB0 := Lib.hid (show Below w.heap.size w U by rw [hU]; exact (((Below.refl _ _).alloc (Nat.le_refl _) _).alloc (by simp) _).alloc (by simp; omega) _)
  have HG := Lib.hid hg
  have HU := Lib.hid hU
  clear h1 h2 hnL hnF hb hs hg hU
  go_enter Try.func25, Try.ntmps25
  go_upto_region 2 with (fail)
  rw [← HU.out, ← HG.out]
  obtain ⟨e0, -⟩ := cells_of_heap HE0.out 0 (by simp)
  obtain ⟨e1, -⟩ := cells_of_heap HE0.out 1 (by simp)
  obtain ⟨e2, -⟩ := cells_of_heap HE0.out 2 (by simp)
  obtain ⟨e3, -⟩ := cells_of_heap HE0.out 3 (by simp)
  obtain ⟨e4, -⟩ := cells_of_heap HE0.out 4 (by simp)
  obtain ⟨e5, -⟩ := cells_of_heap HE0.out 5 (by simp)
  obtain ⟨e6, -⟩ := cells_of_heap HE0.out 6 (by simp)
  simp only [List.getElem_toArray, List.getElem_cons_zero, List.getElem_cons_succ] at e0 e1 e2 e3 e4 e5 e6
  go_wp2_with fail
  refine (implIsEngine_any (newE k L F) (.slice a1 nL c1) (.slice a2 nF c2) (.slice none 0 0) _ HS.out (HRd.out _ HB0.out)).mono ?_
  rw [← HB.out]
  rintro r w1 ⟨rfl, hb⟩
  have HB1 := Lib.hid (HB0.out.trans (hb.mono HB0.out.size))
  have HR1 := Lib.hid (blk_below HR0.out hb)
  have HE1 := Lib.hid (blk_below HE0.out hb)
  clear hb e0 e1 e2 e3 e4 e5 e6
  have hle : w.heap.size ≤ g + 1 := by rw [HG.out]; omega
  cases b
  · obtain rfl : R = en0 := HR.out
    obtain ⟨r0, q0⟩ := cells_of_heap HR1.out 0 (by simp)
    obtain ⟨r1, q1⟩ := cells_of_heap HR1.out 1 (by simp)
    obtain ⟨r2, q2⟩ := cells_of_heap HR1.out 2 (by simp)
    obtain ⟨r3, q3⟩ := cells_of_heap HR1.out 3 (by simp)
    obtain ⟨r4, q4⟩ := cells_of_heap HR1.out 4 (by simp)
    obtain ⟨r5, q5⟩ := cells_of_heap HR1.out 5 (by simp)
    obtain ⟨r6, q6⟩ := cells_of_heap HR1.out 6 (by simp)
    go_wp2
    clear r0 r1 r2 r3 r4 r5 r6 q0 q1 q2 q3 q4 q5 q6
    obtain ⟨wf, hwf⟩ : ∃ x, x = putW (w1) (g + 1) 0 [.int .i64 0, .slice none 0 0, .slice none 0 0, .int .i64 0, .slice none 0 0, .int .i64 0, .bool false] := ⟨_, rfl⟩
    have kf := putW_all [.int .i64 0, .slice none 0 0, .slice none 0 0, .int .i64 0, .slice none 0 0, .int .i64 0, .bool false] HR1.out rfl
    have bf := putW_below (b := g + 1) (by first | omega | simp) [.int .i64 0, .slice none 0 0, .slice none 0 0, .int .i64 0, .slice none 0 0, .int .i64 0, .bool false] 0 _ HB1.out
    rw [← hwf] at kf bf
    have cf := hwf.symm
    simp only [putW, Nat.reduceAdd] at cf
    rw [cf]
    clear cf hwf
    have f0 := (cells_of_heap kf 0 (by simp)).1
    have f1 := (cells_of_heap kf 1 (by simp)).1
    have f2 := (cells_of_heap kf 2 (by simp)).1
    have f3 := (cells_of_heap kf 3 (by simp)).1
    have f4 := (cells_of_heap kf 4 (by simp)).1
    have f5 := (cells_of_heap kf 5 (by simp)).1
    have f6 := (cells_of_heap kf 6 (by simp)).1
    simp only [List.getElem_toArray, List.getElem_cons_zero, List.getElem_cons_succ] at f0 f1 f2 f3 f4 f5 f6
    refine bodyPost_ret (v := .tuple #[env 0 (.slice none 0 0) (.slice none 0 0) 0 (.slice none 0 0) 0 false, .bool false]) (by simp [results, Try.results25, go_sem, f0, f1, f2, f3, f4, f5, f6]) rfl ⟨none, 0, none, 0, none, 0, _, rfl, OwE.zero _ _, bf⟩
  · obtain rfl : R = newE k L F := HR.out
    obtain ⟨e0, -⟩ := cells_of_heap HE1.out 0 (by simp)
    obtain ⟨e1, -⟩ := cells_of_heap HE1.out 1 (by simp)
    obtain ⟨e2, -⟩ := cells_of_heap HE1.out 2 (by simp)
    obtain ⟨e3, -⟩ := cells_of_heap HE1.out 3 (by simp)
    obtain ⟨e4, -⟩ := cells_of_heap HE1.out 4 (by simp)
    obtain ⟨e5, -⟩ := cells_of_heap HE1.out 5 (by simp)
    obtain ⟨e6, -⟩ := cells_of_heap HE1.out 6 (by simp)
    simp only [List.getElem_toArray, List.getElem_cons_zero, List.getElem_cons_succ] at e0 e1 e2 e3 e4 e5 e6
    go_wp2_with fail
    refine (implCopyEngine_any (newE k L F) (.slice a1 nL c1) (.slice a2 nF c2) (.slice none 0 0) _ HS.out (HRd.out _ HB1.out)).mono ?_
    rintro r w2 ⟨b1, d1, b2, d2, b3, d3, fp, rfl, hown, hb⟩
    have HB2 := Lib.hid (HB1.out.trans (hb.mono HB1.out.size))
    have HR2 := Lib.hid (blk_below HR1.out hb)
    have HOW := Lib.hid (hown.base HB1.out.size)
    have HNG := Lib.hid (show g + 1 ∉ fp from fun hm => by have := (hown.rng _ hm).1; have := (Array.getElem?_eq_some_iff.mp HR1.out).1; omega)
    clear hb hown e0 e1 e2 e3 e4 e5 e6
    obtain ⟨r0, q0⟩ := cells_of_heap HR2.out 0 (by simp)
    obtain ⟨r1, q1⟩ := cells_of_heap HR2.out 1 (by simp)
    obtain ⟨r2, q2⟩ := cells_of_heap HR2.out 2 (by simp)
    obtain ⟨r3, q3⟩ := cells_of_heap HR2.out 3 (by simp)
    obtain ⟨r4, q4⟩ := cells_of_heap HR2.out 4 (by simp)
    obtain ⟨r5, q5⟩ := cells_of_heap HR2.out 5 (by simp)
    obtain ⟨r6, q6⟩ := cells_of_heap HR2.out 6 (by simp)
    obtain ⟨v1, hv1⟩ : ∃ v, v = Value.slice b1 (newE k L F).L.length d1 := ⟨_, rfl⟩
    obtain ⟨v2, hv2⟩ : ∃ v, v = Value.slice b2 (newE k L F).F.length d2 := ⟨_, rfl⟩
    obtain ⟨v3, hv3⟩ : ∃ v, v = Value.slice b3 (newE k L F).H.length d3 := ⟨_, rfl⟩
    have HV1 := Lib.hid hv1
    have HV2 := Lib.hid hv2
    have HV3 := Lib.hid hv3
    rw [← hv1, ← hv2, ← hv3] at HOW ⊢
    have E0 : env (newE k L F).k v1 v2 (newE k L F).x v3 (newE k L F).o (newE k L F).p = env k v1 v2 0 v3 0 false := rfl
    rw [E0]
    have o1 : v1.oneCell' = true := by rw [hv1]; rfl
    have o2 : v2.oneCell' = true := by rw [hv2]; rfl
    have o3 : v3.oneCell' = true := by rw [hv3]; rfl
    clear hv1 hv2 hv3 E0
    obtain ⟨i1, j1, l1, rfl⟩ : ∃ i j l, v1 = .slice i j l := ⟨_, _, _, HV1.out⟩
    obtain ⟨i2, j2, l2, rfl⟩ : ∃ i j l, v2 = .slice i j l := ⟨_, _, _, HV2.out⟩
    obtain ⟨i3, j3, l3, rfl⟩ : ∃ i j l, v3 = .slice i j l := ⟨_, _, _, HV3.out⟩
    go_wp2
    clear r0 r1 r2 r3 r4 r5 r6 q0 q1 q2 q3 q4 q5 q6 o1 o2 o3
    obtain ⟨wf, hwf⟩ : ∃ x, x = putW (w2) (g + 1) 0 [.int .i64 k, .slice i1 j1 l1, .slice i2 j2 l2, .int .i64 0, .slice i3 j3 l3, .int .i64 0, .bool false] := ⟨_, rfl⟩
    have kf := putW_all [.int .i64 k, .slice i1 j1 l1, .slice i2 j2 l2, .int .i64 0, .slice i3 j3 l3, .int .i64 0, .bool false] HR2.out rfl
    have bf := putW_below (b := g + 1) (by first | omega | simp) [.int .i64 k, .slice i1 j1 l1, .slice i2 j2 l2, .int .i64 0, .slice i3 j3 l3, .int .i64 0, .bool false] 0 _ HB2.out
    have of := HOW.out.putAt (y := g + 1) [.int .i64 k, .slice i1 j1 l1, .slice i2 j2 l2, .int .i64 0, .slice i3 j3 l3, .int .i64 0, .bool false] HNG.out 0
    rw [← hwf] at kf bf of
    have cf := hwf.symm
    simp only [putW, Nat.reduceAdd] at cf
    rw [cf]
    clear cf hwf
    have f0 := (cells_of_heap kf 0 (by simp)).1
    have f1 := (cells_of_heap kf 1 (by simp)).1
    have f2 := (cells_of_heap kf 2 (by simp)).1
    have f3 := (cells_of_heap kf 3 (by simp)).1
    have f4 := (cells_of_heap kf 4 (by simp)).1
    have f5 := (cells_of_heap kf 5 (by simp)).1
    have f6 := (cells_of_heap kf 6 (by simp)).1
    simp only [List.getElem_toArray, List.getElem_cons_zero, List.getElem_cons_succ] at f0 f1 f2 f3 f4 f5 f6
    refine bodyPost_ret (v := .tuple #[env k (.slice i1 j1 l1) (.slice i2 j2 l2) 0 (.slice i3 j3 l3) 0 false, .bool true]) (by simp [results, Try.results25, go_sem, f0, f1, f2, f3, f4, f5, f6]) rfl ⟨b1, d1, b2, d2, b3, d3, _, by rw [HV1.out, HV2.out, HV3.out]; rfl, by rw [HV1.out, HV2.out, HV3.out] at of; exact of, bf⟩

end Go.Proofs.Ytbpopgplpipfeaa
