/- DERIVED. The reference's SetAction: a keymap with one action anew, in memory of its own. -/
import Derived.Test.YtleheibpgngmiaaKmSpec5
namespace Go.Proofs.Ytleheibpgngmiaa
open Go.RowKit

/-- A keymap with an action set. -/
def setL (L : List (List Ac)) (i k : Nat) (a : Ac) : List (List Ac) := L.set i ((lD L i).set k a)
def setOk (keys : Int) (L : List (List Ac)) (layer key : Int) (a : Ac) : Bool := okKm keys L && (inB layer 0 ((L.length : Int) - 1) && (inB key 0 (keys - 1) && okKm keys (setL L layer.toNat key.toNat a)))
structure Kmr where
  k : Int
  l : List (List Ac)
  b : Bool
def setV (keys : Int) (L : List (List Ac)) (layer key : Int) (a : Ac) : Kmr := if setOk keys L layer key a = true then ⟨keys, setL L layer.toNat key.toNat a, true⟩ else ⟨0, [], false⟩
/-- What a function returns that makes a keymap. -/
def KmOut (r : Kmr) (w : World) (e : Ending) (w' : World) : Prop := ∃ a cap fp, e = .returned (.tuple #[kmv r.k (.slice a r.l.length cap), .bool r.b]) ∧ LoS w' w.heap.size (.slice a r.l.length cap) r.l fp ∧ Below w.heap.size w w'
theorem flatAc_app (A C : List Ac) : flatAc (A ++ C) = flatAc A ++ flatAc C := by simp [flatAc]
theorem flatAc_cons (a : Ac) (C : List Ac) : flatAc (a :: C) = a.cells ++ flatAc C := by simp [flatAc]
theorem flatAc_set (l : List Ac) (k : Nat) (a : Ac) (hk : k < l.length) : flatAc (l.set k a) = (flatAc l).take (k * 4) ++ a.cells ++ (flatAc l).drop (k * 4 + 4) := by
  have h1 : l.set k a = l.take k ++ a :: l.drop (k + 1) := by rw [List.set_eq_take_append_cons_drop, if_pos hk]
  have h2 : l = l.take k ++ l[k] :: l.drop (k + 1) := by rw [← List.drop_eq_getElem_cons hk, List.take_append_drop]
  have e : flatAc l = flatAc (l.take k) ++ (l[k].cells ++ flatAc (l.drop (k + 1))) := by
    conv => lhs; rw [h2]
    rw [flatAc_app, flatAc_cons]
  have hA : (flatAc (l.take k)).length = k * 4 := by rw [flatAc_len, List.length_take]; omega
  have hB : l[k].cells.length = 4 := rfl
  have hd : ∀ X : List Value, X.drop (k * 4 + 4) = (X.drop (k * 4)).drop 4 := fun X => by rw [List.drop_drop]
  rw [h1, flatAc_app, flatAc_cons, e, List.take_left' hA, List.append_assoc, hd, List.drop_left' hA, List.drop_left' hB]
theorem lD_set {L : List (List Ac)} {i : Nat} (h : i < L.length) (l : List Ac) (j : Nat) : lD (L.set i l) j = if j = i then l else lD L j := by
  unfold lD
  rw [List.getD_eq_getElem?_getD, List.getD_eq_getElem?_getD, List.getElem?_set]
  by_cases h2 : i = j
  · subst h2; simp [h]
  · rw [if_neg h2, if_neg (fun e => h2 e.symm)]

set_option maxRecDepth 100000 in
set_option maxHeartbeats 8000000 in
theorem specSetAction_any (keys layer key k c m n : Int) (v : Value) (L : List (List Ac)) (w : World) (hn : L.length ≤ maxLen) (hm : ∀ l ∈ L, l.length ≤ maxLen) (h : LdS w v L) :
    Calls Try.prog 25 #[kmv keys v, .int .i64 layer, .int .i64 key, acv k c m n] w (KmOut (setV keys L layer key ⟨k, c, m, n⟩) w) := by
  obtain ⟨r, hr⟩ : ∃ r, r = setV keys L layer key ⟨k, c, m, n⟩ := ⟨_, rfl⟩
  obtain ⟨o, ho⟩ : ∃ o, o = okKm keys L := ⟨_, rfl⟩
  obtain ⟨p1, hp1⟩ : ∃ p, p = inB layer 0 ((L.length : Int) - 1) := ⟨_, rfl⟩
  obtain ⟨p2, hp2⟩ : ∃ p, p = inB key 0 (keys - 1) := ⟨_, rfl⟩
  obtain ⟨o2, ho2⟩ : ∃ o, o = okKm keys (setL L layer.toNat key.toNat ⟨k, c, m, n⟩) := ⟨_, rfl⟩
  rw [← hr]
  have hr2 := hr
  rw [setV, setOk, ← ho, ← hp1, ← hp2, ← ho2] at hr2
  obtain ⟨xa, xc, rfl⟩ := RdS.shape h
  obtain ⟨N, hN⟩ : ∃ N, N = L.length := ⟨_, rfl⟩
  rw [← hN] at hp1 ⊢
  have HNL := Lib.hid hN
  have HO := Lib.hid ho
  have HP1 := Lib.hid hp1
  have HP2 := Lib.hid hp2
  have HO2 := Lib.hid ho2
  have HR := Lib.hid hr2
  have HN := Lib.hid hn
  have HM := Lib.hid hm
  have H := Lib.hid h
  clear hr hr2 hn hm h ho hp1 hp2 ho2 hN
  obtain ⟨U, hU⟩ : ∃ U, U = ((w.alloc (.cells #[.int .i64 keys, .slice xa N xc] 26)).alloc (.cells #[.int .i64 k, .int .i64 c, .int .i64 m, .int .i64 n] 31)).alloc (.cells #[.int .i64 0, .slice none 0 0] 26) := ⟨_, rfl⟩
  have HGr := Lib.hid (show U.heap[w.heap.size + 1 + 1]? = some (.cells #[.int .i64 0, .slice none 0 0] 26 (0, 0)) by rw [hU]; simpa using heap_alloc_new ((w.alloc (.cells #[.int .i64 keys, .slice xa N xc] 26)).alloc (.cells #[.int .i64 k, .int .i64 c, .int .i64 m, .int .i64 n] 31)) _)
  have HGa := Lib.hid (show U.heap[w.heap.size + 1]? = some (.cells #[.int .i64 k, .int .i64 c, .int .i64 m, .int .i64 n] 31 (0, 0)) by
    rw [hU, Below.heap_alloc _ _ _ (by simp)]; simpa using heap_alloc_new (w.alloc (.cells #[.int .i64 keys, .slice xa N xc] 26)) _)
  have HGm := Lib.hid (show U.heap[w.heap.size]? = some (.cells #[.int .i64 keys, .slice xa N xc] 26 (0, 0)) by
    rw [hU, Below.heap_alloc _ _ _ (by simp; omega), Below.heap_alloc _ _ _ (by simp)]; exact heap_alloc_new w _)
  have HB0 := Lib.hid (show Below w.heap.size w U by rw [hU]; exact (((Below.refl _ _).alloc (Nat.le_refl _) _).alloc (by simp) _).alloc (by simp; omega) _)
  have HSZ := Lib.hid (show U.heap.size = w.heap.size + 1 + 1 + 1 by rw [hU]; simp)
  have HU := Lib.hid hU
  clear hU
  go_enter Try.func25, Try.ntmps25
  have c0 := (cells_of_heap HGm.out 0 (by simp)).1
  have c1 := (cells_of_heap HGm.out 1 (by simp)).1
  go_wp2_with fail
  rw [← HU.out]
  refine (specIsKeymap_q keys _ L o HO.out _ HN.out HM.out (by rw [HNL.out]; exact H.out.below HB0.out)).mono ?_
  rintro e w1 ⟨rfl, hb⟩
  have HB := Lib.hid (HB0.out.trans (hb.mono HB0.out.size))
  have HGr1 := Lib.hid ((hb.block (w.heap.size + 1 + 1) (by rw [HSZ.out]; omega)).trans HGr.out)
  have HGa1 := Lib.hid ((hb.block (w.heap.size + 1) (by rw [HSZ.out]; omega)).trans HGa.out)
  have HGm1 := Lib.hid ((hb.block w.heap.size (by rw [HSZ.out]; omega)).trans HGm.out)
  have HS1 := Lib.hid (show w.heap.size + 1 + 1 < w1.heap.size by have := hb.size; rw [HSZ.out] at this; omega)
  clear hb c0 c1
  have c0 := (cells_of_heap HGm1.out 0 (by simp)).1
  have c1 := (cells_of_heap HGm1.out 1 (by simp)).1
  obtain ⟨y0, q0⟩ := cells_of_heap HGr1.out 0 (by simp)
  obtain ⟨y1, q1⟩ := cells_of_heap HGr1.out 1 (by simp)
  have HNil := Lib.hid (show ∀ wx, Below w.heap.size w wx → r = ⟨0, [], false⟩ → KmOut r w (.returned (.tuple #[kmv 0 (.slice none 0 0), .bool false])) (putW wx (w.heap.size + 1 + 1) 0 [.int .i64 0, .slice none 0 0]) from fun wx hx h => by
    rw [h]
    exact ⟨none, 0, _, rfl, OwB.done (OwB.start (World.ownsRow_nil _ _ _ _)) rfl, putW_below (by omega) _ _ _ hx⟩)
  cases o
  · have HRr := Lib.hid (show r = ⟨0, [], false⟩ from HR.out)
    go_wp2
    clear c0 c1 y0 y1 q0 q1
    obtain ⟨wf, hwf⟩ : ∃ x, x = putW (w1) (w.heap.size + 1 + 1) 0 [.int .i64 0, .slice none 0 0] := ⟨_, rfl⟩
    have kf := putW_all [.int .i64 0, .slice none 0 0] HGr1.out rfl
    have bf := putW_below (b := w.heap.size + 1 + 1) (by first | omega | simp) [.int .i64 0, .slice none 0 0] 0 _ HB.out
    have of := HNil.out _ HB.out HRr.out
    rw [← hwf] at kf bf of
    have cf := hwf.symm
    simp only [putW, Nat.reduceAdd] at cf
    rw [cf]
    clear cf hwf
    have f0 := (cells_of_heap kf 0 (by simp)).1
    have f1 := (cells_of_heap kf 1 (by simp)).1
    simp only [List.getElem_toArray, List.getElem_cons_zero, List.getElem_cons_succ] at f0 f1
    refine bodyPost_ret (v := .tuple #[kmv 0 (.slice none 0 0), .bool false]) (by simp [results, Try.results25, go_sem, f0, f1]) rfl of
  · obtain ⟨⟨k1, k32⟩, ⟨l1, l4⟩, hall⟩ := okKm_at HO.out.symm
    rw [← HNL.out] at l1 l4 hall
    cases p1
    · have HRr := Lib.hid (show r = ⟨0, [], false⟩ from HR.out)
      clear hall
      go_wp2_with fail
      refine (inB_any layer 0 ((N : Int) - 1) _).mono ?_
      rw [← HP1.out]
      rintro e w0 ⟨rfl, rfl⟩
      go_wp2
      clear c0 c1 y0 y1 q0 q1
      obtain ⟨wf, hwf⟩ : ∃ x, x = putW (w1) (w.heap.size + 1 + 1) 0 [.int .i64 0, .slice none 0 0] := ⟨_, rfl⟩
      have kf := putW_all [.int .i64 0, .slice none 0 0] HGr1.out rfl
      have bf := putW_below (b := w.heap.size + 1 + 1) (by first | omega | simp) [.int .i64 0, .slice none 0 0] 0 _ HB.out
      have of := HNil.out _ HB.out HRr.out
      rw [← hwf] at kf bf of
      have cf := hwf.symm
      simp only [putW, Nat.reduceAdd] at cf
      rw [cf]
      clear cf hwf
      have f0 := (cells_of_heap kf 0 (by simp)).1
      have f1 := (cells_of_heap kf 1 (by simp)).1
      simp only [List.getElem_toArray, List.getElem_cons_zero, List.getElem_cons_succ] at f0 f1
      refine bodyPost_ret (v := .tuple #[kmv 0 (.slice none 0 0), .bool false]) (by simp [results, Try.results25, go_sem, f0, f1]) rfl of
    · cases p2
      · have HRr := Lib.hid (show r = ⟨0, [], false⟩ from HR.out)
        clear hall
        go_wp2_with fail
        refine (inB_any layer 0 ((N : Int) - 1) _).mono ?_
        rw [← HP1.out]
        rintro e w0 ⟨rfl, rfl⟩
        go_wp2_with fail
        refine (inB_any key 0 (keys - 1) _).mono ?_
        rw [← HP2.out]
        rintro e w0 ⟨rfl, rfl⟩
        go_wp2
        clear c0 c1 y0 y1 q0 q1
        obtain ⟨wf, hwf⟩ : ∃ x, x = putW (w1) (w.heap.size + 1 + 1) 0 [.int .i64 0, .slice none 0 0] := ⟨_, rfl⟩
        have kf := putW_all [.int .i64 0, .slice none 0 0] HGr1.out rfl
        have bf := putW_below (b := w.heap.size + 1 + 1) (by first | omega | simp) [.int .i64 0, .slice none 0 0] 0 _ HB.out
        have of := HNil.out _ HB.out HRr.out
        rw [← hwf] at kf bf of
        have cf := hwf.symm
        simp only [putW, Nat.reduceAdd] at cf
        rw [cf]
        clear cf hwf
        have f0 := (cells_of_heap kf 0 (by simp)).1
        have f1 := (cells_of_heap kf 1 (by simp)).1
        simp only [List.getElem_toArray, List.getElem_cons_zero, List.getElem_cons_succ] at f0 f1
        refine bodyPost_ret (v := .tuple #[kmv 0 (.slice none 0 0), .bool false]) (by simp [results, Try.results25, go_sem, f0, f1]) rfl of
      · have hly := of_decide_eq_true (show decide (0 ≤ layer ∧ layer ≤ (N : Int) - 1) = true from HP1.out.symm)
        have hky := of_decide_eq_true (show decide (0 ≤ key ∧ key ≤ keys - 1) = true from HP2.out.symm)
        obtain ⟨i, rfl⟩ := Int.eq_ofNat_of_zero_le hly.1
        obtain ⟨q, rfl⟩ := Int.eq_ofNat_of_zero_le hky.1
        obtain ⟨K, rfl⟩ := Int.eq_ofNat_of_zero_le (show 0 ≤ keys by omega)
        have hiN : i < N := by omega
        have hqK : q < K := by omega
        have hlen := (hall i hiN).1
        have hlenN : (lD L i).length = K := by omega
        have HO2' := Lib.hid (show o2 = okKm K (setL L i q ⟨k, c, m, n⟩) from HO2.out)
        have HR' := Lib.hid (show r = if o2 = true then ⟨K, setL L i q ⟨k, c, m, n⟩, true⟩ else ⟨0, [], false⟩ from HR.out)
        have HLen := Lib.hid hlenN
        have HIN := Lib.hid hiN
        have HQK := Lib.hid hqK
        clear hall hly hky hlen
        go_wp2_with fail
        refine (inB_any i 0 ((N : Int) - 1) _).mono ?_
        rw [← HP1.out]
        rintro e w0 ⟨rfl, rfl⟩
        go_wp2_with fail
        refine (inB_any q 0 ((K : Int) - 1) _).mono ?_
        rw [← HP2.out]
        rintro e w0 ⟨rfl, rfl⟩
        go_wp2_with fail
        refine (specCopy_any K _ L _ HO.out.symm (by rw [HNL.out]; exact H.out.below HB.out)).mono ?_
        rintro e w2 ⟨a2, cp2, fp2, rfl, hos, hb⟩
        have HB2 := Lib.hid (HB.out.trans (hb.mono HB.out.size))
        have HGr2 := Lib.hid ((hb.block (w.heap.size + 1 + 1) HS1.out).trans HGr1.out)
        have HGa2 := Lib.hid ((hb.block (w.heap.size + 1) (by have := HS1.out; omega)).trans HGa1.out)
        have HS2 := Lib.hid (show w.heap.size + 1 + 1 < w2.heap.size by have := hb.size; have := HS1.out; omega)
        have HOS := Lib.hid hos
        clear hb hos c0 c1 y0 y1 q0 q1
        go_upto_region 4 with (fail)
        obtain ⟨W3, hW3⟩ : ∃ W3, W3 = w2.alloc (.cells #[.int .i64 K, .slice a2 L.length cp2] 26) := ⟨_, rfl⟩
        obtain ⟨go, hgo⟩ : ∃ g, g = w2.heap.size := ⟨_, rfl⟩
        have h23 : Below w2.heap.size w2 W3 := by rw [hW3]; exact (Below.refl _ _).alloc (Nat.le_refl _) _
        have hGo3 : W3.heap[go]? = some (.cells #[.int .i64 K, .slice a2 L.length cp2] 26 (0, 0)) := by rw [hW3, hgo]; exact heap_alloc_new w2 _
        have hob3 := HOS.out.below h23
        have HB3 := Lib.hid (HB2.out.trans (h23.mono HB2.out.size))
        have HGr3 := Lib.hid ((h23.block (w.heap.size + 1 + 1) HS2.out).trans HGr2.out)
        have HGa3 := Lib.hid ((h23.block (w.heap.size + 1) (by have := HS2.out; omega)).trans HGa2.out)
        have hgs : w.heap.size + 1 + 1 < go := by rw [hgo]; exact HS2.out
        have hgo2 : ∀ x, x < w2.heap.size → x < go := fun x hx => by rw [hgo]; exact hx
        have hfpl : ∀ x ∈ fp2, w1.heap.size ≤ x ∧ x < go := fun x hx => ⟨(HOS.out.rng x hx).1, hgo2 x (HOS.out.rng x hx).2⟩
        rw [← hW3, ← hgo]
        obtain ⟨us, fps, hob, hfp⟩ := hob3
        obtain ⟨G, cG, hGv, hGB, hGlt⟩ := hob.own.form (by rw [← HNL.out]; omega)
        obtain ⟨rfl, rfl⟩ := by simpa using hGv
        have hrow := hob.row i (by rw [← HNL.out]; exact hiN)
        obtain ⟨R, cR, hRv, hRB, hRlt⟩ := hrow.1.form (by rw [hlenN]; omega)
        have husl : us.length = L.length := by have := hob.own.1; omega
        have gi : W3.cell? ⟨G, i, none⟩ = some (.slice (some ⟨R, 0, none⟩) K cR) := by
          rw [hob.own.cellAt i (by rw [← HNL.out]; omega), List.getElem?_eq_getElem (by rw [husl, ← HNL.out]; omega), ← hlenN, ← hRv, uD, List.getD_eq_getElem?_getD, List.getElem?_eq_getElem (by rw [husl, ← HNL.out]; omega)]
          rfl
        have hrw : W3.ownsRow w1.heap.size 31 4 (.slice (some ⟨R, 0, none⟩) (lD L i).length cR) (lD L i).length (flatAc (lD L i)) := by rw [← hRv]; exact hrow.1
        have hfl : (flatAc (lD L i)).length = K * 4 := by rw [flatAc_len, hlenN]
        obtain ⟨x0, s0⟩ : ∃ y, W3.cell? ⟨R, q * 4, none⟩ = some y := ⟨(flatAc (lD L i))[q * 4]'(by omega), by rw [hrw.cellAt (q * 4) (by omega), List.getElem?_eq_getElem]⟩
        obtain ⟨x1, s1⟩ : ∃ y, W3.cell? ⟨R, q * 4 + 1, none⟩ = some y := ⟨(flatAc (lD L i))[q * 4 + 1]'(by omega), by rw [hrw.cellAt (q * 4 + 1) (by omega), List.getElem?_eq_getElem]⟩
        obtain ⟨x2, s2⟩ : ∃ y, W3.cell? ⟨R, q * 4 + 2, none⟩ = some y := ⟨(flatAc (lD L i))[q * 4 + 2]'(by omega), by rw [hrw.cellAt (q * 4 + 2) (by omega), List.getElem?_eq_getElem]⟩
        obtain ⟨x3, s3⟩ : ∃ y, W3.cell? ⟨R, q * 4 + 3, none⟩ = some y := ⟨(flatAc (lD L i))[q * 4 + 3]'(by omega), by rw [hrw.cellAt (q * 4 + 3) (by omega), List.getElem?_eq_getElem]⟩
        have z0 := hrw.frozenAt (q * 4)
        have z1 := hrw.frozenAt (q * 4 + 1)
        have z2 := hrw.frozenAt (q * 4 + 2)
        have z3 := hrw.frozenAt (q * 4 + 3)
        have g0 := (cells_of_heap hGo3 0 (by simp)).1
        have g1 := (cells_of_heap hGo3 1 (by simp)).1
        have a0 := (cells_of_heap HGa3.out 0 (by simp)).1
        have a1 := (cells_of_heap HGa3.out 1 (by simp)).1
        have a2 := (cells_of_heap HGa3.out 2 (by simp)).1
        have a3 := (cells_of_heap HGa3.out 3 (by simp)).1
        have HOB := Lib.hid hob
        have HRV := Lib.hid hRv
        have HRW := Lib.hid hrw
        have HFL := Lib.hid hfl
        have HGo3 := Lib.hid hGo3
        have HFP := Lib.hid hfpl
        have HFPE := Lib.hid hfp
        have hRfp : fD fps i = [R] := by rw [hrow.2, hRv]; simp [ownFp, Value.ownBlock]
        have HRFP := Lib.hid hRfp
        have hRgo : R < go := (hfpl R (by rw [hfp]; exact List.mem_append_right _ (mem_fD (by rw [hRfp]; simp)))).2
        have HRgo := Lib.hid hRgo
        have hNL4 : L.length ≤ 4 := by rw [← HNL.out]; exact l4
        have hiL : i < L.length := by rw [← HNL.out]; exact hiN
        clear hW3 hgo h23 hgo2 hfpl hob hfp hGv hrow hRv hrw hfl hGo3 hRfp
        go_region
        all_goals
          obtain ⟨W4, e4⟩ : ∃ x, x = (putW W3 R (q * 4) [.int .i64 k, .int .i64 c, .int .i64 m, .int .i64 n]).drew := ⟨_, rfl⟩
          have c4 := e4.symm
          simp only [putW, Nat.add_assoc, Nat.reduceAdd] at c4
          rw [c4]
          clear c4 s0 s1 s2 s3 z0 z1 z2 z3 g0 g1 a0 a1 a2 a3 gi
          have hqf : q * 4 + 4 ≤ (flatAc (lD L i)).length := by have := HFL.out; have := HQK.out; omega
          have hput := owns_put HRW.out (q * 4) [.int .i64 k, .int .i64 c, .int .i64 m, .int .i64 n] hqf
          have hset := flatAc_set (lD L i) q ⟨k, c, m, n⟩ (by rw [HLen.out]; exact HQK.out)
          have hsl : ((lD L i).set q ⟨k, c, m, n⟩).length = (lD L i).length := by simp
          have hof : OwF (putW W3 R (q * 4) [.int .i64 k, .int .i64 c, .int .i64 m, .int .i64 n]) w1.heap.size 31 4 (uD us i) ((lD L i).set q ⟨k, c, m, n⟩).length (((lD L i).set q ⟨k, c, m, n⟩).flatMap Ac.cells) (fD fps i) := by
            rw [hsl, HRFP.out, HRV.out]
            refine ⟨?_, by simp [ownFp, Value.ownBlock]⟩
            show World.ownsRow _ _ _ _ _ _ (flatAc ((lD L i).set q ⟨k, c, m, n⟩))
            rw [hset]; exact hput
          have htn : Turn W3 (putW W3 R (q * 4) [.int .i64 k, .int .i64 c, .int .i64 m, .int .i64 n]) (fD fps i) := by rw [HRFP.out]; exact Turn.of_grown (putW_grown _ _ _)
          have hnew := (OwS.turned HOB.out hiL hof htn).below (w' := W4) (by rw [e4]; exact (Below.refl _ _).drew)
          have hsn : (setL L i q ⟨k, c, m, n⟩).length = L.length := by simp [setL]
          have hos4 : LoS W4 w1.heap.size (.slice (some ⟨G, 0, none⟩) (setL L i q ⟨k, c, m, n⟩).length cp2) (setL L i q ⟨k, c, m, n⟩) fp2 := by
            rw [HFPE.out, hsn]
            exact OwB.done hnew hsn.symm
          have hb4 : Below w.heap.size w W4 := by rw [e4]; exact (putW_below (by have := HS1.out; omega) _ _ _ HB3.out).drew
          have hgo4 : W4.heap[go]? = some (.cells #[.int .i64 K, .slice (some ⟨G, 0, none⟩) L.length cp2] 26 (0, 0)) := by rw [e4]; exact (putW_other (by have := HRgo.out; omega) _ _ _).trans HGo3.out
          have hgr4 : W4.heap[w.heap.size + 1 + 1]? = some (.cells #[.int .i64 0, .slice none 0 0] 26 (0, 0)) := by rw [e4]; exact (putW_other (by have := HS1.out; omega) _ _ _).trans HGr3.out
          have hgol : go < W4.heap.size := (Array.getElem?_eq_some_iff.mp hgo4).1
          have hrows : ∀ l ∈ setL L i q ⟨k, c, m, n⟩, l.length ≤ maxLen := by
            intro l hl
            rcases List.mem_or_eq_of_mem_set hl with h1 | h1
            · exact HM.out l h1
            · rw [h1, hsl]; exact lD_le HM.out i
          have HOS4 := Lib.hid hos4
          have HB4 := Lib.hid hb4
          have HGo4 := Lib.hid hgo4
          have HGr4 := Lib.hid hgr4
          have HGol := Lib.hid hgol
          have HSN := Lib.hid hsn
          have HRows := Lib.hid hrows
          rw [← hsn] at hgo4 ⊢
          have g0 := (cells_of_heap hgo4 0 (by simp)).1
          have g1 := (cells_of_heap hgo4 1 (by simp)).1
          clear e4 hqf hput hset hsl hof htn hnew hsn hos4 hb4 hgo4 hgr4 hgol hrows
          go_wp2_with fail
          refine (specIsKeymap_q K _ (setL L i q ⟨k, c, m, n⟩) o2 HO2'.out _ (by rw [HSN.out]; exact HN.out) HRows.out HOS4.out.rd).mono ?_
          rintro e w5 ⟨rfl, hb⟩
          have HB5 := Lib.hid (HB4.out.trans (hb.mono HB4.out.size))
          have HGr5 := Lib.hid ((hb.block (w.heap.size + 1 + 1) (by have := HGol.out; omega)).trans HGr4.out)
          have hgo5 := (hb.block go HGol.out).trans HGo4.out
          have HOS5 := Lib.hid (HOS4.out.below hb)
          rw [← HSN.out] at hgo5
          clear hb g0 g1
          have g0 := (cells_of_heap hgo5 0 (by simp)).1
          have g1 := (cells_of_heap hgo5 1 (by simp)).1
          obtain ⟨y0, q0⟩ := cells_of_heap HGr5.out 0 (by simp)
          obtain ⟨y1, q1⟩ := cells_of_heap HGr5.out 1 (by simp)
          clear hgo5
          cases o2
          · have HRr := Lib.hid (show r = ⟨0, [], false⟩ from HR'.out)
            go_wp2
            clear g0 g1 y0 y1 q0 q1
            obtain ⟨wf, hwf⟩ : ∃ x, x = putW (w5) (w.heap.size + 1 + 1) 0 [.int .i64 0, .slice none 0 0] := ⟨_, rfl⟩
            have kf := putW_all [.int .i64 0, .slice none 0 0] HGr5.out rfl
            have bf := putW_below (b := w.heap.size + 1 + 1) (by first | omega | simp) [.int .i64 0, .slice none 0 0] 0 _ HB5.out
            have of := HNil.out _ HB5.out HRr.out
            rw [← hwf] at kf bf of
            have cf := hwf.symm
            simp only [putW, Nat.reduceAdd] at cf
            rw [cf]
            clear cf hwf
            have f0 := (cells_of_heap kf 0 (by simp)).1
            have f1 := (cells_of_heap kf 1 (by simp)).1
            simp only [List.getElem_toArray, List.getElem_cons_zero, List.getElem_cons_succ] at f0 f1
            refine bodyPost_ret (v := .tuple #[kmv 0 (.slice none 0 0), .bool false]) (by simp [results, Try.results25, go_sem, f0, f1]) rfl of
          · have HRr := Lib.hid (show r = ⟨K, setL L i q ⟨k, c, m, n⟩, true⟩ from HR'.out)
            go_wp2
            clear g0 g1 y0 y1 q0 q1
            obtain ⟨wf, hwf⟩ : ∃ x, x = putW (w5) (w.heap.size + 1 + 1) 0 [.int .i64 K, .slice (some ⟨G, 0, none⟩) (setL L i q ⟨k, c, m, n⟩).length cp2] := ⟨_, rfl⟩
            have kf := putW_all [.int .i64 K, .slice (some ⟨G, 0, none⟩) (setL L i q ⟨k, c, m, n⟩).length cp2] HGr5.out rfl
            have bf := putW_below (b := w.heap.size + 1 + 1) (by first | omega | simp) [.int .i64 K, .slice (some ⟨G, 0, none⟩) (setL L i q ⟨k, c, m, n⟩).length cp2] 0 _ HB5.out
            have of := HOS5.out.put (b := w.heap.size + 1 + 1) [.int .i64 K, .slice (some ⟨G, 0, none⟩) (setL L i q ⟨k, c, m, n⟩).length cp2] 0 HS1.out
            rw [← hwf] at kf bf of
            have cf := hwf.symm
            simp only [putW, Nat.reduceAdd] at cf
            rw [cf]
            clear cf hwf
            have f0 := (cells_of_heap kf 0 (by simp)).1
            have f1 := (cells_of_heap kf 1 (by simp)).1
            simp only [List.getElem_toArray, List.getElem_cons_zero, List.getElem_cons_succ] at f0 f1
            refine bodyPost_ret (v := .tuple #[kmv K (.slice (some ⟨G, 0, none⟩) (setL L i q ⟨k, c, m, n⟩).length cp2), .bool true]) (by simp [results, Try.results25, go_sem, f0, f1]) rfl (by rw [HRr.out]; exact ⟨_, _, _, rfl, of.base HB.out.size, bf⟩)

end Go.Proofs.Ytleheibpgngmiaa
