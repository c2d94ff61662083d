/- DERIVED. The program's pressOf, movesOf, putPress and takePress: each returns what a plain function says, what it makes in memory of its own. No condition. -/
import Derived.Test.YtnfnhbldphiohaaMcStk2
import Derived.WalkSmall
import Derived.Test.YtnfnhbldphiohaaLawBits
namespace Go.Proofs.Ytnfnhbldphiohaa
open Go.RowKit

/-- The moves of a kind, as numbers of functions. -/
def mvF (k : Int) : List FuncId := if k = 0 then [50, 51] else if k = 1 then [50] else if k = 2 then [51] else []
def mvV (f : FuncId) : Value := .func (.func f) #[] #[]

set_option maxRecDepth 100000 in
theorem pressOf_any (k c m : Int) (w : World) : Calls Try.prog 38 #[stv k c m] w fun e w' => e = .returned (acv 2 c m 0) ∧ Below w.heap.size w w' := by
  obtain ⟨V, hV⟩ : ∃ V, V = (w.alloc (.cells #[.int .i64 k, .int .i64 c, .int .i64 m] 42)).alloc (.cells #[.int .i64 0, .int .i64 0, .int .i64 0, .int .i64 0] 47) := ⟨_, rfl⟩
  have hX : Bxd V w.heap.size [.int .i64 k, .int .i64 c, .int .i64 m] := by rw [hV]; exact (Bxd.new _ _ _).below ((Below.refl _ _).alloc (Nat.le_refl _) _) (by simp)
  have hG : V.heap[w.heap.size + 1]? = some (.cells #[.int .i64 0, .int .i64 0, .int .i64 0, .int .i64 0] 47 (0, 0)) := by rw [hV]; have := heap_alloc_new (w.alloc (.cells #[.int .i64 k, .int .i64 c, .int .i64 m] 42)) (.cells #[.int .i64 0, .int .i64 0, .int .i64 0, .int .i64 0] 47); simpa using this
  have hB : Below w.heap.size w V := by rw [hV]; exact ((Below.refl _ _).alloc (Nat.le_refl _) _).alloc (by simp) _
  have hS : w.heap.size + 1 < V.heap.size := by rw [hV]; simp
  have HV2 := Lib.hid hV
  have HX0 := Lib.hid hX
  have HG0 := Lib.hid hG
  have HB0 := Lib.hid hB
  have HS0 := Lib.hid hS
  clear hV hX hG hB hS
  go_enter Try.func38, Try.ntmps38
  go_upto_region 1 with (fail)
  rw [← HV2.out]
  have c0 := HX0.out.at 0 _ rfl
  have c1 := HX0.out.at 1 _ rfl
  have c2 := HX0.out.at 2 _ rfl
  obtain ⟨y0, q0⟩ := cells_of_heap HG0.out 0 (by simp)
  obtain ⟨y1, q1⟩ := cells_of_heap HG0.out 1 (by simp)
  obtain ⟨y2, q2⟩ := cells_of_heap HG0.out 2 (by simp)
  obtain ⟨y3, q3⟩ := cells_of_heap HG0.out 3 (by simp)
  go_wp2
  clear c0 c1 c2 y0 y1 y2 y3 q0 q1 q2 q3
  obtain ⟨wf, hwf⟩ : ∃ x, x = putW (V) (w.heap.size + 1) 0 [.int .i64 2, .int .i64 c, .int .i64 m, .int .i64 0] := ⟨_, rfl⟩
  have kf := putW_all [.int .i64 2, .int .i64 c, .int .i64 m, .int .i64 0] HG0.out rfl
  have bf := putW_below (b := w.heap.size + 1) (by first | omega | simp) [.int .i64 2, .int .i64 c, .int .i64 m, .int .i64 0] 0 _ HB0.out
  rw [← hwf] at kf bf
  have cf := hwf.symm
  simp only [putW, Nat.reduceAdd] at cf
  rw [cf]
  clear cf hwf
  have f0 := (cells_of_heap kf 0 (by simp)).1
  have f1 := (cells_of_heap kf 1 (by simp)).1
  have f2 := (cells_of_heap kf 2 (by simp)).1
  have f3 := (cells_of_heap kf 3 (by simp)).1
  simp only [List.getElem_toArray, List.getElem_cons_zero, List.getElem_cons_succ] at f0 f1 f2 f3
  refine bodyPost_ret (v := acv 2 c m 0) (by simp [results, Try.results38, go_sem, f0, f1, f2, f3]) rfl ⟨rfl, bf⟩

/-- What movesOf returns: a row of functions. -/
def MvO (l : List FuncId) (w : World) (u : Value) (w' : World) : Prop := ∃ a c, u = .slice a l.length c ∧ (∀ w'', (∀ i, w.heap.size ≤ i → w''.heap[i]? = w'.heap[i]?) → Rd w'' (.slice a l.length c) (l.map mvV)) ∧ (∀ p, a = some p → w.heap.size ≤ p.block) ∧ Below w.heap.size w w'
theorem rd_lit (w : World) (vs : List Value) (t : TypeId) (n : Nat) (hn : n = vs.length) : ∀ w'' : World, (∀ i, w.heap.size ≤ i → w''.heap[i]? = (w.alloc (.cells vs.toArray t)).heap[i]?) → Rd w'' (.slice (some ⟨w.heap.size, 0, none⟩) n n) vs := by
  subst hn
  intro w'' h
  have hh : w''.heap[w.heap.size]? = some (.cells vs.toArray t (0, 0)) := (h _ (Nat.le_refl _)).trans (heap_alloc_new w _)
  refine ⟨_, vs.length, rfl, .inr ⟨w.heap.size, 0, rfl, (Array.getElem?_eq_some_iff.mp hh).1, fun j hj => ?_⟩⟩
  rw [Nat.zero_add]
  have := (cells_of_heap hh j (by simpa using hj)).1
  simpa using this
set_option maxRecDepth 100000 in
theorem movesOf_any (k : Int) (w : World) : Calls Try.prog 39 #[.int .i64 k] w fun e w' => ∃ u, e = .returned u ∧ MvO (mvF k) w u w' := by
  by_cases h0 : k = 0
  · subst h0
    go_enter Try.func39, Try.ntmps39
    go_wp2
    go_ret
    exact ⟨_, rfl, _, _, rfl, rd_lit w [mvV 50, mvV 51] _ 2 rfl, fun p hp => by rw [← Option.some.inj hp]; exact Nat.le_refl _, below_alloc1 _ _⟩
  · by_cases h1 : k = 1
    · subst h1
      go_enter Try.func39, Try.ntmps39
      go_wp2
      go_ret
      exact ⟨_, rfl, _, _, rfl, rd_lit w [mvV 50] _ 1 rfl, fun p hp => by rw [← Option.some.inj hp]; exact Nat.le_refl _, below_alloc1 _ _⟩
    · by_cases h2 : k = 2
      · subst h2
        go_enter Try.func39, Try.ntmps39
        go_wp2
        go_ret
        exact ⟨_, rfl, _, _, rfl, rd_lit w [mvV 51] _ 1 rfl, fun p hp => by rw [← Option.some.inj hp]; exact Nat.le_refl _, below_alloc1 _ _⟩
      · have e : mvF k = [] := by rw [mvF, if_neg h0, if_neg h1, if_neg h2]
        rw [e]
        clear e
        go_enter Try.func39, Try.ntmps39
        go_wp2
        go_ret
        exact ⟨_, rfl, _, _, rfl, fun _ _ => ⟨none, 0, rfl, .inl rfl⟩, fun p hp => by simp at hp, Below.refl _ _⟩

/-- What a move returns: nil and false, or the list in memory of its own and true. -/
def MoveO (o : Option (List Ac)) (w : World) (e : Ending) (w' : World) : Prop :=
  (match o with
   | none => e = .returned (.tuple #[.slice none 0 0, .bool false])
   | some l => ∃ g c, e = .returned (.tuple #[.slice (some ⟨g, 0, none⟩) l.length c, .bool true]) ∧ w'.ownsRow w.heap.size 47 4 (.slice (some ⟨g, 0, none⟩) l.length c) l.length (flatAc l)) ∧ Below w.heap.size w w'
def putV (l : List Ac) (a : Ac) : Option (List Ac) := if 0 ≤ fiAI l a then none else some (l ++ [a])
def takeV (l : List Ac) (a : Ac) : Option (List Ac) := if 0 ≤ fiAI l a then some (l.eraseIdx (fiA l a)) else none

theorem cloneStack_n (v : Value) (l : List Ac) (n : Nat) (w : World) (hn : n = l.length) (hl : l.length ≤ 1048576) (hv : NilOr v l.length) (h : RdN w v l.length (flatAc l)) :
    Calls Try.prog 54 #[v] w fun e w' => ∃ a c, e = .returned (.slice a n c) ∧ w'.ownsRow w.heap.size 47 4 (.slice a n c) n (flatAc l) ∧ Below w.heap.size w w' := by
  subst hn; exact cloneStack_any v l w hl hv h

set_option maxRecDepth 100000 in
set_option maxHeartbeats 8000000 in
theorem putPress_any (v : Value) (l : List Ac) (k c m n : Int) (w : World) (hl : l.length ≤ 1000000) (hv : NilOr v l.length) (h : RdN w v l.length (flatAc l)) :
    Calls Try.prog 50 #[v, acv k c m n] w (MoveO (putV l ⟨k, c, m, n⟩) w) := by
  obtain ⟨i0, hi, hz0, hz1, hz2⟩ := info_parts info_ac
  obtain ⟨o, ho⟩ : ∃ o, o = decide (0 ≤ fiAI l ⟨k, c, m, n⟩) := ⟨_, rfl⟩
  obtain ⟨R, hR⟩ : ∃ R, R = putV l ⟨k, c, m, n⟩ := ⟨_, rfl⟩
  rw [← hR]
  have HO := Lib.hid ho
  have HR := Lib.hid hR
  have HL := Lib.hid hl
  have HV := Lib.hid hv
  have H := Lib.hid h
  clear ho hR hl hv h
  obtain ⟨W, hW⟩ : ∃ W, W = w.alloc (.cells #[.int .i64 k, .int .i64 c, .int .i64 m, .int .i64 n] 47) := ⟨_, rfl⟩
  have HX0 := Lib.hid (show Bxd W w.heap.size [.int .i64 k, .int .i64 c, .int .i64 m, .int .i64 n] by rw [hW]; exact Bxd.new _ _ _)
  have HB0 := Lib.hid (show Below w.heap.size w W by rw [hW]; exact (Below.refl _ _).alloc (Nat.le_refl _) _)
  have HS0 := Lib.hid (show w.heap.size < W.heap.size by rw [hW]; simp)
  have HW := Lib.hid hW
  clear hW
  go_enter Try.func50, Try.ntmps50
  go_wp2_with fail
  rw [← HW.out]
  have c0 := HX0.out.at 0 _ rfl
  have c1 := HX0.out.at 1 _ rfl
  have c2 := HX0.out.at 2 _ rfl
  have c3 := HX0.out.at 3 _ rfl
  refine (hasStack_q v l k c m n o HO.out _ (by have := HL.out; unfold maxLen; omega) (H.out.below HB0.out)).mono ?_
  rintro e w1 ⟨rfl, hb⟩
  have HB1 := Lib.hid (HB0.out.trans (hb.mono HB0.out.size))
  have HX1 := Lib.hid (HX0.out.below hb HS0.out)
  have HS1 := Lib.hid (Nat.lt_of_lt_of_le HS0.out hb.size)
  clear hb c0 c1 c2 c3
  cases o
  · have h0 : ¬ 0 ≤ fiAI l ⟨k, c, m, n⟩ := of_decide_eq_false HO.out.symm
    have hr : R = some (l ++ [⟨k, c, m, n⟩]) := by rw [HR.out, putV, if_neg h0]
    subst hr
    obtain ⟨N, hN⟩ : ∃ N, N = l.length := ⟨_, rfl⟩
    have HN := Lib.hid hN
    have hl := HL.out
    rw [← hN] at hl
    have hn1 : (l ++ [(⟨k, c, m, n⟩ : Ac)]).length = N + 1 := by simp [hN]
    have HN1 := Lib.hid hn1
    have b63 : N + 1 ≤ maxLen := by unfold maxLen; omega
    have b47 : (N + 1) * 32 ≤ 140737488355328 := by omega
    have B63 := Lib.hid b63
    have B47 := Lib.hid b47
    clear hN h0 b63 b47 hn1
    go_upto_region 3 with (fail)
    obtain ⟨W1, hW1⟩ : ∃ x, x = w1 := ⟨_, rfl⟩
    subst hW1
    have c0 := HX1.out.at 0 _ rfl
    have c1 := HX1.out.at 1 _ rfl
    have c2 := HX1.out.at 2 _ rfl
    have c3 := HX1.out.at 3 _ rfl
    have X0 := Lib.hid (Below.refl W1.heap.size W1)
    have hS1 := HS1.out
    have HRD := Lib.hid (show RdN W1 v l.length (flatAc l) from H.out.below HB1.out)
    go_region_law (first
      | (go_simp; go_at_call 54; refine (cloneStack_n v l N _ HN.out (by have := HL.out; omega) HV.out (HRD.out.below (by first | exact X0.out | exact X0.out.drew | exact X0.out.drew.drew | exact X0.out.drew.drew.drew | exact X0.out.alloc X0.out.size _ | exact (X0.out.alloc X0.out.size _).drew | exact (X0.out.drew.alloc X0.out.size _) | exact (X0.out.drew.alloc X0.out.size _).drew | exact (X0.out.drew.alloc X0.out.size _).drew.drew | exact (X0.out.drew.drew.alloc X0.out.size _) | exact (X0.out.drew.drew.alloc X0.out.size _).drew))).mono ?_; rintro e v1 ⟨a1, q1, rfl, ho1, hb⟩; have hbr : Below W1.heap.size W1 v1 := below_via (by first | exact X0.out | exact X0.out.drew | exact X0.out.drew.drew | exact X0.out.drew.drew.drew | exact X0.out.alloc X0.out.size _ | exact (X0.out.alloc X0.out.size _).drew | exact (X0.out.drew.alloc X0.out.size _) | exact (X0.out.drew.alloc X0.out.size _).drew | exact (X0.out.drew.alloc X0.out.size _).drew.drew | exact (X0.out.drew.drew.alloc X0.out.size _) | exact (X0.out.drew.drew.alloc X0.out.size _).drew) hb; have k0 := (hbr.cell (p := ⟨w.heap.size, 0, none⟩) hS1).trans c0; have k1 := (hbr.cell (p := ⟨w.heap.size, 1, none⟩) hS1).trans c1; have k2 := (hbr.cell (p := ⟨w.heap.size, 2, none⟩) hS1).trans c2; have k3 := (hbr.cell (p := ⟨w.heap.size, 3, none⟩) hS1).trans c3; have HO1 := Lib.hid (owns_base (B' := W1.heap.size) ho1 (Below.size (by first | exact X0.out | exact X0.out.drew | exact X0.out.drew.drew | exact X0.out.drew.drew.drew | exact X0.out.alloc X0.out.size _ | exact (X0.out.alloc X0.out.size _).drew | exact (X0.out.drew.alloc X0.out.size _) | exact (X0.out.drew.alloc X0.out.size _).drew | exact (X0.out.drew.alloc X0.out.size _).drew.drew | exact (X0.out.drew.drew.alloc X0.out.size _) | exact (X0.out.drew.drew.alloc X0.out.size _).drew))); (first | (have KY := Lib.hid (ky_new X0.out.size hb)) | (have KY := Lib.hid (ky_drew X0.out.size hb)) | skip); have X1 := Lib.hid hbr; clear hbr hb ho1)
      | (refine step_append_any8 (by rfl) (.tmp 10) (.tmp 12) 69 (by rfl) W1.heap.size 47 i0 (.agg #[.int .i64 0, .int .i64 0, .int .i64 0, .int .i64 0]) 4 32 undStk hi hz0 hz1 hz2 rfl (by decide) (.slice a1 N q1) N (flatAc l) (by rfl) (owns_below HO1.out (by first | exact (Below.refl _ _) | exact (Below.refl _ _).drew | exact (Below.refl _ _).drew.drew | exact (Below.refl _ _).drew.drew.drew | exact (Below.refl _ _).alloc (Nat.le_refl _) _ | exact ((Below.refl _ _).alloc (Nat.le_refl _) _).drew | exact ((Below.refl _ _).drew.alloc (Nat.le_refl _) _) | exact ((Below.refl _ _).drew.alloc (Nat.le_refl _) _).drew | exact ((Below.refl _ _).drew.alloc (Nat.le_refl _) _).drew.drew | exact ((Below.refl _ _).drew.drew.alloc (Nat.le_refl _) _) | exact ((Below.refl _ _).drew.drew.alloc (Nat.le_refl _) _).drew)) _ 1 _ [.int .i64 k, .int .i64 c, .int .i64 m, .int .i64 n] (by rfl) rfl (by first | exact World.news_of_block (cs := #[.int .i64 k, .int .i64 c, .int .i64 m, .int .i64 n]) (t := 47) (fr := (0, 0)) (heap_alloc_new _ _) | exact World.news_of_block (cs := #[.int .i64 k, .int .i64 c, .int .i64 m, .int .i64 n]) (t := 47) (fr := (0, 0)) KY.out.1) (by intro u hu; simp at hu; rcases hu with rfl | rfl | rfl | rfl <;> rfl) B63.out B47.out (Below.size (by first | exact X1.out | exact X1.out.drew | exact X1.out.drew.drew | exact X1.out.drew.drew.drew | exact X1.out.alloc X1.out.size _ | exact (X1.out.alloc X1.out.size _).drew | exact (X1.out.drew.alloc X1.out.size _) | exact (X1.out.drew.alloc X1.out.size _).drew | exact (X1.out.drew.alloc X1.out.size _).drew.drew | exact (X1.out.drew.drew.alloc X1.out.size _) | exact (X1.out.drew.drew.alloc X1.out.size _).drew)) ?_; intro v2 w2 hown2 hgrow2; have hb2 : Below W1.heap.size W1 w2 := Below.grown (by first | exact X1.out | exact X1.out.drew | exact X1.out.drew.drew | exact X1.out.drew.drew.drew | exact X1.out.alloc X1.out.size _ | exact (X1.out.alloc X1.out.size _).drew | exact (X1.out.drew.alloc X1.out.size _) | exact (X1.out.drew.alloc X1.out.size _).drew | exact (X1.out.drew.alloc X1.out.size _).drew.drew | exact (X1.out.drew.drew.alloc X1.out.size _) | exact (X1.out.drew.drew.alloc X1.out.size _).drew) hgrow2 (Below.size (by first | exact X1.out | exact X1.out.drew | exact X1.out.drew.drew | exact X1.out.drew.drew.drew | exact X1.out.alloc X1.out.size _ | exact (X1.out.alloc X1.out.size _).drew | exact (X1.out.drew.alloc X1.out.size _) | exact (X1.out.drew.alloc X1.out.size _).drew | exact (X1.out.drew.alloc X1.out.size _).drew.drew | exact (X1.out.drew.drew.alloc X1.out.size _) | exact (X1.out.drew.drew.alloc X1.out.size _).drew)) (fun q hq => (HO1.out.lt q hq).1); have HB2 := Lib.hid hb2; have HO2 := Lib.hid hown2; clear hown2 hgrow2 hb2))
    all_goals
      rcases HO2.out.2 with ⟨_, hz⟩ | ⟨g2, c2, cur, rfl, _⟩
      · exact absurd hz (Nat.succ_ne_zero _)
      · go_wp2
        go_ret2
        refine ⟨⟨g2, c2, by rw [HN1.out]; rfl, ?_⟩, by first | exact HB1.out.trans (HB2.out.mono HB1.out.size) | exact (HB1.out.trans (HB2.out.mono HB1.out.size)).drew⟩
        rw [HN1.out, flatAc_snoc]
        first | exact owns_base HO2.out HB1.out.size | exact owns_below (owns_base HO2.out HB1.out.size) (Below.refl _ _).drew
  · have h0 : 0 ≤ fiAI l ⟨k, c, m, n⟩ := of_decide_eq_true HO.out.symm
    have hr : R = none := by rw [HR.out, putV, if_pos h0]
    subst hr
    clear h0
    go_wp2
    go_ret2
    exact ⟨rfl, HB1.out⟩
theorem delStack_n (B g cap n : Nat) (l : List Ac) (i : Nat) (p q : Int) (w : World) (hn : n = l.length) (hp : p = i) (hq : q = (i : Int) + 1) (hi : i < l.length) (hl : l.length ≤ 1048576) (h : w.ownsRow B 47 4 (.slice (some ⟨g, 0, none⟩) n cap) n (flatAc l)) :
    Calls Try.prog 56 #[.slice (some ⟨g, 0, none⟩) n cap, .int .i64 p, .int .i64 q] w fun e w' => e = .returned (.slice (some ⟨g, 0, none⟩) (n - 1) cap) ∧
      w'.ownsRow B 47 4 (.slice (some ⟨g, 0, none⟩) (n - 1) cap) (n - 1) (flatAc (l.eraseIdx i)) ∧ w.grownBy w' (some g) := by
  subst hn; exact delStack_any B g cap l i p q w hp hq hi hl h

set_option maxRecDepth 100000 in
set_option maxHeartbeats 8000000 in
theorem takePress_any (v : Value) (l : List Ac) (k c m n : Int) (w : World) (hl : l.length ≤ 1000000) (hv : NilOr v l.length) (h : RdN w v l.length (flatAc l)) :
    Calls Try.prog 51 #[v, acv k c m n] w (MoveO (takeV l ⟨k, c, m, n⟩) w) := by
  obtain ⟨i, hi⟩ : ∃ i, i = fiAI l ⟨k, c, m, n⟩ := ⟨_, rfl⟩
  obtain ⟨R, hR⟩ : ∃ R, R = takeV l ⟨k, c, m, n⟩ := ⟨_, rfl⟩
  rw [← hR]
  have hfc := fiAI_cases l ⟨k, c, m, n⟩
  rw [← hi] at hfc
  have hr : R = if 0 ≤ i then some (l.eraseIdx (fiA l ⟨k, c, m, n⟩)) else none := by rw [hR, takeV, ← hi]
  have HI := Lib.hid hi
  have HR := Lib.hid hr
  have HL := Lib.hid hl
  have HV := Lib.hid hv
  have H := Lib.hid h
  have HFC := Lib.hid hfc
  clear hi hR hl hv h hr hfc
  obtain ⟨W, hW⟩ : ∃ W, W = w.alloc (.cells #[.int .i64 k, .int .i64 c, .int .i64 m, .int .i64 n] 47) := ⟨_, rfl⟩
  have HX0 := Lib.hid (show Bxd W w.heap.size [.int .i64 k, .int .i64 c, .int .i64 m, .int .i64 n] by rw [hW]; exact Bxd.new _ _ _)
  have HB0 := Lib.hid (show Below w.heap.size w W by rw [hW]; exact (Below.refl _ _).alloc (Nat.le_refl _) _)
  have HS0 := Lib.hid (show w.heap.size < W.heap.size by rw [hW]; simp)
  have HW := Lib.hid hW
  clear hW
  go_enter Try.func51, Try.ntmps51
  go_wp2_with fail
  rw [← HW.out]
  have c0 := HX0.out.at 0 _ rfl
  have c1 := HX0.out.at 1 _ rfl
  have c2 := HX0.out.at 2 _ rfl
  have c3 := HX0.out.at 3 _ rfl
  refine (ixStack_q v l k c m n i HI.out _ (by have := HL.out; unfold maxLen; omega) (H.out.below HB0.out)).mono ?_
  rintro e w1 ⟨rfl, hb⟩
  have HB1 := Lib.hid (HB0.out.trans (hb.mono HB0.out.size))
  clear hb c0 c1 c2 c3
  obtain ⟨p, hp⟩ : ∃ p, p = fiA l ⟨k, c, m, n⟩ := ⟨_, rfl⟩
  rw [← hp] at HR HFC
  clear hp
  rcases HFC.out with ⟨h0, _⟩ | ⟨h0, hpl⟩
  · subst h0
    obtain rfl : R = none := HR.out
    go_wp2
    go_ret2
    exact ⟨rfl, HB1.out⟩
  · subst h0
    obtain rfl : R = some (l.eraseIdx p) := by rw [HR.out, if_pos (by omega)]
    obtain ⟨N, hN⟩ : ∃ N, N = l.length := ⟨_, rfl⟩
    have HN := Lib.hid hN
    have hl := HL.out
    rw [← hN] at hl hpl
    have hp2 : (p : Int) < (N : Int) := by omega
    have hN2 : (N : Int) ≤ 1000000 := by omega
    have HEL := Lib.hid (show (l.eraseIdx p).length = N - 1 by rw [List.length_eraseIdx_of_lt (by omega)]; omega)
    have HPL := Lib.hid hpl
    clear hN
    go_wp2_with fail
    refine (cloneStack_n v l N _ HN.out (by have := HL.out; omega) HV.out (H.out.below HB1.out)).mono ?_
    rintro e w2 ⟨a2, c2, rfl, ho, hb⟩
    have HB2 := Lib.hid (HB1.out.trans (hb.mono HB1.out.size))
    have HO2 := Lib.hid (owns_base ho HB1.out.size)
    clear ho hb
    rcases HO2.out.2 with ⟨_, hz⟩ | ⟨g2, c3, cur, hs, hge, _⟩
    · omega
    · simp only [Value.slice.injEq] at hs
      obtain ⟨rfl, _, rfl⟩ := hs
      go_wp2_with fail
      refine (delStack_n w.heap.size g2 c2 N l p _ _ _ HN.out rfl (by first | rfl | go_num) (by rw [← HN.out]; exact HPL.out) (by have := HL.out; omega) HO2.out).mono ?_
      rintro e w3 ⟨rfl, ho, hg⟩
      have HB3 := Lib.hid (show Below w.heap.size w w3 from Below.grown HB2.out hg HB2.out.size (fun q hq => by simp at hq; omega))
      have HO3 := Lib.hid ho
      clear ho hg hge
      go_wp2
      go_ret2
      exact ⟨⟨g2, c2, by rw [HEL.out]; rfl, by rw [HEL.out]; exact HO3.out⟩, HB3.out⟩


end Go.Proofs.Ytnfnhbldphiohaa
