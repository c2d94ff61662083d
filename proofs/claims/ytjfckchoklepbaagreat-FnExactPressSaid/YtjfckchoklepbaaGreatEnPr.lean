/- DERIVED. The reference's NewEngine: the engine of a keymap and macros, copied, if it is valid. · What presses, releases and taps return: the engine and the reports in memory of their own, apart from each other, and whether it could be done; the engine's, the result's and the copy's boxes on the way. No condition. -/
import Derived.Test.YtjfckchoklepbaaGreatEnCpy
import Derived.Test.YtjfckchoklepbaaGreatEnSpec2
import Derived.Test.YtjfckchoklepbaaGreatEnMath
import Derived.Test.YtjfckchoklepbaaGreatRpsLaw
namespace Go.Proofs.YtjfckchoklepbaaGreat
open Go.RowKit

/-- What a function returns that makes an engine: the engine in memory of its own, and whether it could. -/
def EnB (r : En) (b : Bool) (w : World) (x : Ending) (w' : World) : Prop := ∃ a1 c1 a2 c2 a3 c3 fp, x = .returned (.tuple #[env r.k (.slice a1 r.L.length c1) (.slice a2 r.F.length c2) r.x (.slice a3 r.H.length c3) r.o r.p, .bool b]) ∧ OwE w' w.heap.size r (.slice a1 r.L.length c1) (.slice a2 r.F.length c2) (.slice a3 r.H.length c3) fp ∧ Below w.heap.size w w'
def newE (k : Int) (L : List (List Ac)) (F : List (List St)) : En := ⟨k, L, F, 0, [], 0, false⟩
def newV (k : Int) (L : List (List Ac)) (F : List (List St)) : En := if okEn (newE k L F) = true then newE k L F else en0
theorem OwE.zero (w : World) (B : Nat) : OwE w B en0 (.slice none 0 0) (.slice none 0 0) (.slice none 0 0) [] :=
  ⟨_, _, _, OwB.done (OwB.start (World.ownsRow_nil _ _ _ _)) rfl, OwB.done (OwB.start (World.ownsRow_nil _ _ _ _)) rfl, ⟨World.ownsRow_nil _ _ _ _, rfl⟩, rfl, List.nodup_nil⟩
theorem rdN_nil (w : World) (xs : List Value) : RdN w (.slice none 0 0) 0 xs := ⟨none, 0, rfl, .inl rfl⟩

set_option maxRecDepth 100000 in
set_option maxHeartbeats 4000000 in
theorem specNewEngine_any (k : Int) (u1 u2 : Value) (L : List (List Ac)) (F : List (List St)) (w : World) (hs : EnSz (newE k L F)) (h1 : LdS w u1 L) (h2 : LdT w u2 F) :
    Calls Tryz.prog 208 #[kmv k u1, u2] w (EnB (newV k L F) (okEn (newE k L F)) w) := by
  obtain ⟨b, hb⟩ : ∃ b, b = okEn (newE k L F) := ⟨_, rfl⟩
  obtain ⟨R, hR⟩ : ∃ R, R = newV k L F := ⟨_, rfl⟩
  rw [← hR, ← hb]
  rw [newV, ← hb] at hR
  have HR := Lib.hid hR
  clear hR
  obtain ⟨a1, c1, rfl⟩ := RdS.shape h1
  obtain ⟨a2, c2, rfl⟩ := RdSt.shape h2
  obtain ⟨nL, hnL⟩ : ∃ n, n = L.length := ⟨_, rfl⟩
  obtain ⟨nF, hnF⟩ : ∃ n, n = F.length := ⟨_, rfl⟩
  have HRd := Lib.hid (show ∀ w', Below w.heap.size w w' → RdE w' (newE k L F) (.slice a1 nL c1) (.slice a2 nF c2) (.slice none 0 0) from fun w' hw => ⟨by rw [hnL]; exact h1.below hw, by rw [hnF]; exact h2.below hw, rdN_nil _ _⟩)
  have HNL := Lib.hid hnL
  have HNF := Lib.hid hnF
  have HB := Lib.hid hb
  have HS := Lib.hid hs
  rw [← hnL, ← hnF]
  obtain ⟨g, hg⟩ : ∃ g, g = w.heap.size := ⟨_, rfl⟩
  obtain ⟨U, hU⟩ : ∃ U, U = ((w.alloc (.cells #[.int .i64 k, .slice a1 nL c1] 26)).alloc (.cells #[.int .i64 0, .slice none 0 0, .slice none 0 0, .int .i64 0, .slice none 0 0, .int .i64 0, .bool false] 30)).alloc (.cells #[.int .i64 k, .slice a1 nL c1, .slice a2 nF c2, .int .i64 0, .slice none 0 0, .int .i64 0, .bool false] 30) := ⟨_, rfl⟩
  have HR0 := Lib.hid (show U.heap[g + 1]? = some (.cells #[.int .i64 0, .slice none 0 0, .slice none 0 0, .int .i64 0, .slice none 0 0, .int .i64 0, .bool false] 30 (0, 0)) by
    rw [hU, hg, Below.heap_alloc _ _ _ (by simp)]; simpa using heap_alloc_new (w.alloc (.cells #[.int .i64 k, .slice a1 nL c1] 26)) _)
  have HE0 := Lib.hid (show U.heap[g + 1 + 1]? = some (.cells #[.int .i64 k, .slice a1 nL c1, .slice a2 nF c2, .int .i64 0, .slice none 0 0, .int .i64 0, .bool false] 30 (0, 0)) by
    rw [hU, hg]; simpa using heap_alloc_new ((w.alloc (.cells #[.int .i64 k, .slice a1 nL c1] 26)).alloc (.cells #[.int .i64 0, .slice none 0 0, .slice none 0 0, .int .i64 0, .slice none 0 0, .int .i64 0, .bool false] 30)) _)
  have HB0 := Lib.hid (show Below w.heap.size w U by rw [hU]; exact (((Below.refl _ _).alloc (Nat.le_refl _) _).alloc (by simp) _).alloc (by simp; omega) _)
  have HG := Lib.hid hg
  have HU := Lib.hid hU
  clear h1 h2 hnL hnF hb hs hg hU
  go_enter Tryz.func208, Tryz.ntmps208
  go_upto_region 2 with (fail)
  rw [← HU.out, ← HG.out]
  obtain ⟨e0, -⟩ := cells_of_heap HE0.out 0 (by simp)
  obtain ⟨e1, -⟩ := cells_of_heap HE0.out 1 (by simp)
  obtain ⟨e2, -⟩ := cells_of_heap HE0.out 2 (by simp)
  obtain ⟨e3, -⟩ := cells_of_heap HE0.out 3 (by simp)
  obtain ⟨e4, -⟩ := cells_of_heap HE0.out 4 (by simp)
  obtain ⟨e5, -⟩ := cells_of_heap HE0.out 5 (by simp)
  obtain ⟨e6, -⟩ := cells_of_heap HE0.out 6 (by simp)
  simp only [List.getElem_toArray, List.getElem_cons_zero, List.getElem_cons_succ] at e0 e1 e2 e3 e4 e5 e6
  go_wp2_with fail
  refine (specIsEngine_any (newE k L F) (.slice a1 nL c1) (.slice a2 nF c2) (.slice none 0 0) _ HS.out (HRd.out _ HB0.out)).mono ?_
  rw [← HB.out]
  rintro r w1 ⟨rfl, hb⟩
  have HB1 := Lib.hid (HB0.out.trans (hb.mono HB0.out.size))
  have HR1 := Lib.hid (blk_below HR0.out hb)
  have HE1 := Lib.hid (blk_below HE0.out hb)
  clear hb e0 e1 e2 e3 e4 e5 e6
  have hle : w.heap.size ≤ g + 1 := by rw [HG.out]; omega
  cases b
  · obtain rfl : R = en0 := HR.out
    obtain ⟨r0, q0⟩ := cells_of_heap HR1.out 0 (by simp)
    obtain ⟨r1, q1⟩ := cells_of_heap HR1.out 1 (by simp)
    obtain ⟨r2, q2⟩ := cells_of_heap HR1.out 2 (by simp)
    obtain ⟨r3, q3⟩ := cells_of_heap HR1.out 3 (by simp)
    obtain ⟨r4, q4⟩ := cells_of_heap HR1.out 4 (by simp)
    obtain ⟨r5, q5⟩ := cells_of_heap HR1.out 5 (by simp)
    obtain ⟨r6, q6⟩ := cells_of_heap HR1.out 6 (by simp)
    go_wp2
    clear r0 r1 r2 r3 r4 r5 r6 q0 q1 q2 q3 q4 q5 q6
    obtain ⟨wf, hwf⟩ : ∃ x, x = putW (w1) (g + 1) 0 [.int .i64 0, .slice none 0 0, .slice none 0 0, .int .i64 0, .slice none 0 0, .int .i64 0, .bool false] := ⟨_, rfl⟩
    have kf := putW_all [.int .i64 0, .slice none 0 0, .slice none 0 0, .int .i64 0, .slice none 0 0, .int .i64 0, .bool false] HR1.out rfl
    have bf := putW_below (b := g + 1) (by first | omega | simp) [.int .i64 0, .slice none 0 0, .slice none 0 0, .int .i64 0, .slice none 0 0, .int .i64 0, .bool false] 0 _ HB1.out
    rw [← hwf] at kf bf
    have cf := hwf.symm
    simp only [putW, Nat.reduceAdd] at cf
    rw [cf]
    clear cf hwf
    have f0 := (cells_of_heap kf 0 (by simp)).1
    have f1 := (cells_of_heap kf 1 (by simp)).1
    have f2 := (cells_of_heap kf 2 (by simp)).1
    have f3 := (cells_of_heap kf 3 (by simp)).1
    have f4 := (cells_of_heap kf 4 (by simp)).1
    have f5 := (cells_of_heap kf 5 (by simp)).1
    have f6 := (cells_of_heap kf 6 (by simp)).1
    simp only [List.getElem_toArray, List.getElem_cons_zero, List.getElem_cons_succ] at f0 f1 f2 f3 f4 f5 f6
    refine bodyPost_ret (v := .tuple #[env 0 (.slice none 0 0) (.slice none 0 0) 0 (.slice none 0 0) 0 false, .bool false]) (by simp [results, Tryz.results208, go_sem, f0, f1, f2, f3, f4, f5, f6]) rfl ⟨none, 0, none, 0, none, 0, _, rfl, OwE.zero _ _, bf⟩
  · obtain rfl : R = newE k L F := HR.out
    obtain ⟨e0, -⟩ := cells_of_heap HE1.out 0 (by simp)
    obtain ⟨e1, -⟩ := cells_of_heap HE1.out 1 (by simp)
    obtain ⟨e2, -⟩ := cells_of_heap HE1.out 2 (by simp)
    obtain ⟨e3, -⟩ := cells_of_heap HE1.out 3 (by simp)
    obtain ⟨e4, -⟩ := cells_of_heap HE1.out 4 (by simp)
    obtain ⟨e5, -⟩ := cells_of_heap HE1.out 5 (by simp)
    obtain ⟨e6, -⟩ := cells_of_heap HE1.out 6 (by simp)
    simp only [List.getElem_toArray, List.getElem_cons_zero, List.getElem_cons_succ] at e0 e1 e2 e3 e4 e5 e6
    go_wp2_with fail
    refine (specL9Copy_any (newE k L F) (.slice a1 nL c1) (.slice a2 nF c2) (.slice none 0 0) _ (okEn_iff.1 HB.out.symm).km (okEn_iff.1 HB.out.symm).fl HS.out.fr HS.out.h (HRd.out _ HB1.out)).mono ?_
    rintro r w2 ⟨b1, d1, b2, d2, b3, d3, fp, rfl, hown, hb⟩
    have HB2 := Lib.hid (HB1.out.trans (hb.mono HB1.out.size))
    have HR2 := Lib.hid (blk_below HR1.out hb)
    have HOW := Lib.hid (hown.base HB1.out.size)
    have HNG := Lib.hid (show g + 1 ∉ fp from fun hm => by have := (hown.rng _ hm).1; have := (Array.getElem?_eq_some_iff.mp HR1.out).1; omega)
    clear hb hown e0 e1 e2 e3 e4 e5 e6
    obtain ⟨r0, q0⟩ := cells_of_heap HR2.out 0 (by simp)
    obtain ⟨r1, q1⟩ := cells_of_heap HR2.out 1 (by simp)
    obtain ⟨r2, q2⟩ := cells_of_heap HR2.out 2 (by simp)
    obtain ⟨r3, q3⟩ := cells_of_heap HR2.out 3 (by simp)
    obtain ⟨r4, q4⟩ := cells_of_heap HR2.out 4 (by simp)
    obtain ⟨r5, q5⟩ := cells_of_heap HR2.out 5 (by simp)
    obtain ⟨r6, q6⟩ := cells_of_heap HR2.out 6 (by simp)
    obtain ⟨v1, hv1⟩ : ∃ v, v = Value.slice b1 (newE k L F).L.length d1 := ⟨_, rfl⟩
    obtain ⟨v2, hv2⟩ : ∃ v, v = Value.slice b2 (newE k L F).F.length d2 := ⟨_, rfl⟩
    obtain ⟨v3, hv3⟩ : ∃ v, v = Value.slice b3 (newE k L F).H.length d3 := ⟨_, rfl⟩
    have HV1 := Lib.hid hv1
    have HV2 := Lib.hid hv2
    have HV3 := Lib.hid hv3
    rw [← hv1, ← hv2, ← hv3] at HOW ⊢
    have E0 : env (newE k L F).k v1 v2 (newE k L F).x v3 (newE k L F).o (newE k L F).p = env k v1 v2 0 v3 0 false := rfl
    rw [E0]
    have o1 : v1.oneCell' = true := by rw [hv1]; rfl
    have o2 : v2.oneCell' = true := by rw [hv2]; rfl
    have o3 : v3.oneCell' = true := by rw [hv3]; rfl
    clear hv1 hv2 hv3 E0
    obtain ⟨i1, j1, l1, rfl⟩ : ∃ i j l, v1 = .slice i j l := ⟨_, _, _, HV1.out⟩
    obtain ⟨i2, j2, l2, rfl⟩ : ∃ i j l, v2 = .slice i j l := ⟨_, _, _, HV2.out⟩
    obtain ⟨i3, j3, l3, rfl⟩ : ∃ i j l, v3 = .slice i j l := ⟨_, _, _, HV3.out⟩
    go_wp2
    clear r0 r1 r2 r3 r4 r5 r6 q0 q1 q2 q3 q4 q5 q6 o1 o2 o3
    obtain ⟨wf, hwf⟩ : ∃ x, x = putW (w2) (g + 1) 0 [.int .i64 k, .slice i1 j1 l1, .slice i2 j2 l2, .int .i64 0, .slice i3 j3 l3, .int .i64 0, .bool false] := ⟨_, rfl⟩
    have kf := putW_all [.int .i64 k, .slice i1 j1 l1, .slice i2 j2 l2, .int .i64 0, .slice i3 j3 l3, .int .i64 0, .bool false] HR2.out rfl
    have bf := putW_below (b := g + 1) (by first | omega | simp) [.int .i64 k, .slice i1 j1 l1, .slice i2 j2 l2, .int .i64 0, .slice i3 j3 l3, .int .i64 0, .bool false] 0 _ HB2.out
    have of := HOW.out.putAt (y := g + 1) [.int .i64 k, .slice i1 j1 l1, .slice i2 j2 l2, .int .i64 0, .slice i3 j3 l3, .int .i64 0, .bool false] HNG.out 0
    rw [← hwf] at kf bf of
    have cf := hwf.symm
    simp only [putW, Nat.reduceAdd] at cf
    rw [cf]
    clear cf hwf
    have f0 := (cells_of_heap kf 0 (by simp)).1
    have f1 := (cells_of_heap kf 1 (by simp)).1
    have f2 := (cells_of_heap kf 2 (by simp)).1
    have f3 := (cells_of_heap kf 3 (by simp)).1
    have f4 := (cells_of_heap kf 4 (by simp)).1
    have f5 := (cells_of_heap kf 5 (by simp)).1
    have f6 := (cells_of_heap kf 6 (by simp)).1
    simp only [List.getElem_toArray, List.getElem_cons_zero, List.getElem_cons_succ] at f0 f1 f2 f3 f4 f5 f6
    refine bodyPost_ret (v := .tuple #[env k (.slice i1 j1 l1) (.slice i2 j2 l2) 0 (.slice i3 j3 l3) 0 false, .bool true]) (by simp [results, Tryz.results208, go_sem, f0, f1, f2, f3, f4, f5, f6]) rfl ⟨b1, d1, b2, d2, b3, d3, _, by rw [HV1.out, HV2.out, HV3.out]; rfl, by rw [HV1.out, HV2.out, HV3.out] at of; exact of, bf⟩
end Go.Proofs.YtjfckchoklepbaaGreat

namespace Go.Proofs.YtjfckchoklepbaaGreat
open Go.RowKit

def relV (e : En) (key : Int) : Tpr := if relB e key = true then ⟨relE e key, relR e key, true⟩ else ⟨en0, [], false⟩
def prsV (e : En) (key : Int) (hold : Bool) : Tpr := if prsB e key = true then ⟨prsE e key hold, prsR e key hold, true⟩ else ⟨en0, [], false⟩
def PrO (t : Tpr) (w : World) (x : Ending) (w' : World) : Prop := ∃ a1 c1 a2 c2 a3 c3 fp a4 c4 fq, x = .returned (.tuple #[env t.e.k (.slice a1 t.e.L.length c1) (.slice a2 t.e.F.length c2) t.e.x (.slice a3 t.e.H.length c3) t.e.o t.e.p, .slice a4 t.l.length c4, .bool t.b]) ∧
  OwE w' w.heap.size t.e (.slice a1 t.e.L.length c1) (.slice a2 t.e.F.length c2) (.slice a3 t.e.H.length c3) fp ∧ OwZ rpF w' w.heap.size 1 (.slice a4 t.l.length c4) t.l fq ∧ (∀ b ∈ fp, b ∉ fq) ∧ Below w.heap.size w w'
/-- The held keys of an engine are replaced by a row of their own. -/
theorem OwE.heldNew {w : World} {B : Nat} {e : En} {u1 u2 u3 v : Value} {fp f : List Nat} {H' : List Hd} (h : OwE w B e u1 u2 u3 fp) (h3 : OwF w B 43 5 v H'.length (flatHd H') f) (hd : ∀ b ∈ f, b ∉ fp) :
    ∃ fp', OwE w B ⟨e.k, e.L, e.F, e.x, H', e.o, e.p⟩ u1 u2 v fp' ∧ ∀ b ∈ fp', b ∈ fp ∨ b ∈ f := by
  obtain ⟨f1, f2, f3, h1, h2, -, rfl, hn⟩ := h
  obtain ⟨hn1, hn23, hd1⟩ := List.nodup_append.1 hn
  obtain ⟨hn2, hn3, hd2⟩ := List.nodup_append.1 hn23
  refine ⟨f1 ++ (f2 ++ f), ⟨f1, f2, f, h1, h2, h3, rfl, ?_⟩, fun b hb => ?_⟩
  · refine List.nodup_append.2 ⟨hn1, List.nodup_append.2 ⟨hn2, h3.nodup, fun a ha b hb he => ?_⟩, fun a ha b hb he => ?_⟩
    · subst he; exact hd a hb (List.mem_append_right _ (List.mem_append_left _ ha))
    · subst he
      rcases List.mem_append.1 hb with hb | hb
      · exact hd1 a ha a (List.mem_append_left _ hb) rfl
      · exact hd a hb (List.mem_append_left _ ha)
  · rcases List.mem_append.1 hb with hb | hb
    · exact .inl (List.mem_append_left _ hb)
    · rcases List.mem_append.1 hb with hb | hb
      · exact .inl (List.mem_append_right _ (List.mem_append_left _ hb))
      · exact .inr hb
theorem OwE.heldOf {w : World} {B : Nat} {e : En} {u1 u2 u3 : Value} {fp : List Nat} (h : OwE w B e u1 u2 u3 fp) : ∃ f, OwF w B 43 5 u3 e.H.length (flatHd e.H) f ∧ ∀ b ∈ f, b ∈ fp := by
  obtain ⟨f1, f2, f3, h1, h2, h3, rfl, hn⟩ := h
  exact ⟨f3, h3, fun b hb => List.mem_append_right _ (List.mem_append_right _ hb)⟩
/-- The numbers of an engine are other ones. -/
theorem OwE.nums {w : World} {B : Nat} {e : En} {u1 u2 u3 : Value} {fp : List Nat} (x o : Int) (p : Bool) (h : OwE w B e u1 u2 u3 fp) : OwE w B ⟨e.k, e.L, e.F, x, e.H, o, p⟩ u1 u2 u3 fp := by
  obtain ⟨f1, f2, f3, h1, h2, h3, rfl, hn⟩ := h
  exact ⟨f1, f2, f3, h1, h2, h3, rfl, hn⟩
/-- Worlds with the engine's box at g, the result's box (still empty) at g + 1, and the copy's box at y. -/
structure RlW (w W : World) (g y : Nat) (ce co : Array Value) : Prop where
  hx : W.heap[g]? = some (.cells ce 30 (0, 0))
  hr : W.heap[g + 1]? = some (.cells #[.int .i64 0, .slice none 0 0, .slice none 0 0, .int .i64 0, .slice none 0 0, .int .i64 0, .bool false] 30 (0, 0))
  ho : W.heap[y]? = some (.cells co 30 (0, 0))
  hb : Below w.heap.size w W
  hg : g = w.heap.size
  hy : g + 1 < y
theorem RlW.lt {w W : World} {g y : Nat} {ce co : Array Value} (h : RlW w W g y ce co) : y < W.heap.size := (Array.getElem?_eq_some_iff.mp h.ho).1
theorem RlW.below {w W W' : World} {g y : Nat} {ce co : Array Value} (h : RlW w W g y ce co) (hb : Below W.heap.size W W') : RlW w W' g y ce co :=
  ⟨blk_below h.hx hb, blk_below h.hr hb, blk_below h.ho hb, h.hb.trans (hb.mono h.hb.size), h.hg, h.hy⟩
theorem RlW.set {w W : World} {g y : Nat} {ce co : Array Value} (h : RlW w W g y ce co) (i : Nat) (v : Value) : RlW w (W.setCell ⟨y, i, none⟩ v) g y ce (co.setIfInBounds i v) :=
  ⟨(Below.heap_setCell W ⟨y, i, none⟩ v g (show g ≠ y by have := h.hy; omega)).trans h.hx, (Below.heap_setCell W ⟨y, i, none⟩ v (g + 1) (show g + 1 ≠ y by have := h.hy; omega)).trans h.hr, heap_setCell_same W y i co _ v h.ho, h.hb.setCell (show w.heap.size ≤ y by have := h.hg; have := h.hy; omega) v, h.hg, h.hy⟩
/-- One report in a row of its own reads so. -/
theorem rdQ_one {w : World} {m : Int} {z : List Int} {a : Option Addr} {c : Nat} (h : Rd w (.slice a z.length c) (z.map (.int .i64))) :
    RdQ rpF (w.alloc (.cells #[.int .i64 m, .slice a z.length c] 47)) (.slice (some ⟨w.heap.size, 0, none⟩) 1 1) [(m, z)] := by
  have hk := heap_alloc_new w (.cells #[.int .i64 m, .slice a z.length c] 47)
  refine ⟨[.slice a z.length c], rfl, ⟨_, _, rfl, .inr ⟨w.heap.size, 0, rfl, by simp, fun j hj => ?_⟩⟩, fun j hj => ?_⟩
  · have hj2 : j < 2 := by simpa [pC, rpF] using hj
    rw [Nat.zero_add, (cells_of_heap hk j (by simpa using hj2)).1]
    rcases (show j = 0 ∨ j = 1 by omega) with rfl | rfl <;> rfl
  · obtain rfl : j = 0 := by simpa using hj
    exact h.below (below_alloc1 _ _)
theorem okEn_sz {e : En} (h : okEn e = true) : okKm e.k e.L = true ∧ e.F.length ≤ 4 := ⟨(okEn_iff.1 h).km, (okEn_iff.1 h).fl⟩

end Go.Proofs.YtjfckchoklepbaaGreat
