/- DERIVED. The program's SetAction: a keymap with one action anew, in memory of its own. -/
import Derived.Test.YtleheibpgngmiaaKmImpl3
import Derived.Test.YtleheibpgngmiaaHeld
import Derived.Deep.RegionHeld3
import Derived.Deep.DeepCutAuto
namespace Go.Proofs.Ytleheibpgngmiaa
open Go.RowKit

set_option maxRecDepth 100000 in
set_option maxHeartbeats 8000000 in
theorem implSetAction_any (keys layer key k c m n : Int) (v : Value) (L : List (List Ac)) (w : World) (hn : L.length ≤ maxLen) (hm : ∀ l ∈ L, l.length ≤ maxLen) (h : LdS w v L) :
    Calls Try.prog 27 #[kmv keys v, .int .i64 layer, .int .i64 key, acv k c m n] w (KmOut (setV keys L layer key ⟨k, c, m, n⟩) w) := by
  obtain ⟨r, hr⟩ : ∃ r, r = setV keys L layer key ⟨k, c, m, n⟩ := ⟨_, rfl⟩
  obtain ⟨o, ho⟩ : ∃ o, o = okKm keys L := ⟨_, rfl⟩
  obtain ⟨p1, hp1⟩ : ∃ p, p = inB layer 0 ((L.length : Int) - 1) := ⟨_, rfl⟩
  obtain ⟨p2, hp2⟩ : ∃ p, p = inB key 0 (keys - 1) := ⟨_, rfl⟩
  obtain ⟨o2, ho2⟩ : ∃ o, o = okKm keys (setL L layer.toNat key.toNat ⟨k, c, m, n⟩) := ⟨_, rfl⟩
  rw [← hr]
  have hr2 := hr
  rw [setV, setOk, ← ho, ← hp1, ← hp2, ← ho2] at hr2
  obtain ⟨xa, xc, rfl⟩ := RdS.shape h
  obtain ⟨N, hN⟩ : ∃ N, N = L.length := ⟨_, rfl⟩
  rw [← hN] at hp1 ⊢
  have HNL := Lib.hid hN
  have HO := Lib.hid ho
  have HP1 := Lib.hid hp1
  have HP2 := Lib.hid hp2
  have HO2 := Lib.hid ho2
  have HR := Lib.hid hr2
  have HN := Lib.hid hn
  have HM := Lib.hid hm
  have H := Lib.hid h
  clear hr hr2 hn hm h ho hp1 hp2 ho2 hN
  obtain ⟨U, hU⟩ : ∃ U, U = ((w.alloc (.cells #[.int .i64 keys, .slice xa N xc] 26)).alloc (.cells #[.int .i64 k, .int .i64 c, .int .i64 m, .int .i64 n] 31)).alloc (.cells #[.int .i64 0, .slice none 0 0] 26) := ⟨_, rfl⟩
  have HGr := Lib.hid (show U.heap[w.heap.size + 1 + 1]? = some (.cells #[.int .i64 0, .slice none 0 0] 26 (0, 0)) by rw [hU]; simpa using heap_alloc_new ((w.alloc (.cells #[.int .i64 keys, .slice xa N xc] 26)).alloc (.cells #[.int .i64 k, .int .i64 c, .int .i64 m, .int .i64 n] 31)) _)
  have HGa := Lib.hid (show U.heap[w.heap.size + 1]? = some (.cells #[.int .i64 k, .int .i64 c, .int .i64 m, .int .i64 n] 31 (0, 0)) by
    rw [hU, Below.heap_alloc _ _ _ (by simp)]; simpa using heap_alloc_new (w.alloc (.cells #[.int .i64 keys, .slice xa N xc] 26)) _)
  have HGm := Lib.hid (show U.heap[w.heap.size]? = some (.cells #[.int .i64 keys, .slice xa N xc] 26 (0, 0)) by
    rw [hU, Below.heap_alloc _ _ _ (by simp; omega), Below.heap_alloc _ _ _ (by simp)]; exact heap_alloc_new w _)
  have HB0 := Lib.hid (show Below w.heap.size w U by rw [hU]; exact (((Below.refl _ _).alloc (Nat.le_refl _) _).alloc (by simp) _).alloc (by simp; omega) _)
  have HSZ := Lib.hid (show U.heap.size = w.heap.size + 1 + 1 + 1 by rw [hU]; simp)
  have HU := Lib.hid hU
  clear hU
  go_enter Try.func27, Try.ntmps27
  have c0 := (cells_of_heap HGm.out 0 (by simp)).1
  have c1 := (cells_of_heap HGm.out 1 (by simp)).1
  go_wp2_with fail
  rw [← HU.out]
  refine (implIsKeymap_q keys _ L o HO.out _ HN.out HM.out (by rw [HNL.out]; exact H.out.below HB0.out)).mono ?_
  rintro e w1 ⟨rfl, hb⟩
  have HB := Lib.hid (HB0.out.trans (hb.mono HB0.out.size))
  have HGr1 := Lib.hid ((hb.block (w.heap.size + 1 + 1) (by rw [HSZ.out]; omega)).trans HGr.out)
  have HGa1 := Lib.hid ((hb.block (w.heap.size + 1) (by rw [HSZ.out]; omega)).trans HGa.out)
  have HGm1 := Lib.hid ((hb.block w.heap.size (by rw [HSZ.out]; omega)).trans HGm.out)
  have HS1 := Lib.hid (show w.heap.size + 1 + 1 < w1.heap.size by have := hb.size; rw [HSZ.out] at this; omega)
  clear hb c0 c1
  have c0 := (cells_of_heap HGm1.out 0 (by simp)).1
  have c1 := (cells_of_heap HGm1.out 1 (by simp)).1
  obtain ⟨y0, q0⟩ := cells_of_heap HGr1.out 0 (by simp)
  obtain ⟨y1, q1⟩ := cells_of_heap HGr1.out 1 (by simp)
  have HNil := Lib.hid (show ∀ wx, Below w.heap.size w wx → r = ⟨0, [], false⟩ → KmOut r w (.returned (.tuple #[kmv 0 (.slice none 0 0), .bool false])) (putW wx (w.heap.size + 1 + 1) 0 [.int .i64 0, .slice none 0 0]) from fun wx hx h => by
    rw [h]
    exact ⟨none, 0, _, rfl, OwB.done (OwB.start (World.ownsRow_nil _ _ _ _)) rfl, putW_below (by omega) _ _ _ hx⟩)
  cases o
  · have HRr := Lib.hid (show r = ⟨0, [], false⟩ from HR.out)
    go_wp2
    clear c0 c1 y0 y1 q0 q1
    obtain ⟨wf, hwf⟩ : ∃ x, x = putW (w1) (w.heap.size + 1 + 1) 0 [.int .i64 0, .slice none 0 0] := ⟨_, rfl⟩
    have kf := putW_all [.int .i64 0, .slice none 0 0] HGr1.out rfl
    have bf := putW_below (b := w.heap.size + 1 + 1) (by first | omega | simp) [.int .i64 0, .slice none 0 0] 0 _ HB.out
    have of := HNil.out _ HB.out HRr.out
    rw [← hwf] at kf bf of
    have cf := hwf.symm
    simp only [putW, Nat.reduceAdd] at cf
    rw [cf]
    clear cf hwf
    have f0 := (cells_of_heap kf 0 (by simp)).1
    have f1 := (cells_of_heap kf 1 (by simp)).1
    simp only [List.getElem_toArray, List.getElem_cons_zero, List.getElem_cons_succ] at f0 f1
    refine bodyPost_ret (v := .tuple #[kmv 0 (.slice none 0 0), .bool false]) (by simp [results, Try.results27, go_sem, f0, f1]) rfl of
  · obtain ⟨⟨k1, k32⟩, ⟨l1, l4⟩, hall⟩ := okKm_at HO.out.symm
    rw [← HNL.out] at l1 l4 hall
    obtain ⟨K, rfl⟩ := Int.eq_ofNat_of_zero_le (show 0 ≤ keys by omega)
    obtain ⟨pp, hpp⟩ : ∃ pp, pp = (p1 && p2) := ⟨_, rfl⟩
    have HPP := Lib.hid hpp
    have HRp := Lib.hid (show r = if (pp && o2) = true then ⟨K, setL L layer.toNat key.toNat ⟨k, c, m, n⟩, true⟩ else ⟨0, [], false⟩ by rw [HR.out, hpp, Bool.true_and, Bool.and_assoc])
    clear hpp hall
    go_wp2_with fail
    refine (hasCell_q K layer key _ L w1 pp p1 p2 (by rw [← HNL.out]; exact HP1.out) HP2.out HPP.out HO.out.symm (by rw [HNL.out]; exact H.out.below HB.out)).mono ?_
    rintro e w0 ⟨rfl, rfl⟩
    cases pp
    · have HRr := Lib.hid (show r = ⟨0, [], false⟩ from HRp.out)
      go_wp2
      clear c0 c1 y0 y1 q0 q1
      obtain ⟨wf, hwf⟩ : ∃ x, x = putW (w1) (w.heap.size + 1 + 1) 0 [.int .i64 0, .slice none 0 0] := ⟨_, rfl⟩
      have kf := putW_all [.int .i64 0, .slice none 0 0] HGr1.out rfl
      have bf := putW_below (b := w.heap.size + 1 + 1) (by first | omega | simp) [.int .i64 0, .slice none 0 0] 0 _ HB.out
      have of := HNil.out _ HB.out HRr.out
      rw [← hwf] at kf bf of
      have cf := hwf.symm
      simp only [putW, Nat.reduceAdd] at cf
      rw [cf]
      clear cf hwf
      have f0 := (cells_of_heap kf 0 (by simp)).1
      have f1 := (cells_of_heap kf 1 (by simp)).1
      simp only [List.getElem_toArray, List.getElem_cons_zero, List.getElem_cons_succ] at f0 f1
      refine bodyPost_ret (v := .tuple #[kmv 0 (.slice none 0 0), .bool false]) (by simp [results, Try.results27, go_sem, f0, f1]) rfl of
    · have hpt := HPP.out.symm
      rw [Bool.and_eq_true] at hpt
      have hly := of_decide_eq_true (show decide (0 ≤ layer ∧ layer ≤ (N : Int) - 1) = true by have := HP1.out; rw [hpt.1] at this; exact this.symm)
      have hky := of_decide_eq_true (show decide (0 ≤ key ∧ key ≤ (K : Int) - 1) = true by have := HP2.out; rw [hpt.2] at this; exact this.symm)
      obtain ⟨i, rfl⟩ := Int.eq_ofNat_of_zero_le hly.1
      obtain ⟨q, rfl⟩ := Int.eq_ofNat_of_zero_le hky.1
      have hiN : i < N := by omega
      have hqK : q < K := by omega
      have HO2' := Lib.hid (show o2 = okKm K (setL L i q ⟨k, c, m, n⟩) from HO2.out)
      have HR' := Lib.hid (show r = if o2 = true then ⟨K, setL L i q ⟨k, c, m, n⟩, true⟩ else ⟨0, [], false⟩ from HRp.out)
      have HIN := Lib.hid (show i < L.length by rw [← HNL.out]; exact hiN)
      have HQK := Lib.hid hqK
      have HL4 := Lib.hid l4
      clear hpt hly hky hiN hqK k1 k32 l1 l4 c1 y0 y1 q0 q1
      go_upto_region 4 with (fail)
      have a0 := (cells_of_heap HGa1.out 0 (by simp)).1
      have a1 := (cells_of_heap HGa1.out 1 (by simp)).1
      have a2 := (cells_of_heap HGa1.out 2 (by simp)).1
      have a3 := (cells_of_heap HGa1.out 3 (by simp)).1
      have hsn : (setL L i q ⟨k, c, m, n⟩).length = N := by rw [HNL.out]; simp [setL]
      go_cut [11] (fun sp wx => ∃ (y9 : Nat) (a9 : Option Addr) (c9 : Nat) (f9 : List Nat), sp = .pointer (some ⟨y9, 0, none⟩) ∧ w1.heap.size ≤ y9 ∧ y9 ∉ f9 ∧ wx.heap[y9]? = some (.cells #[.int .i64 K, .slice a9 N c9] 26 (0, 0)) ∧ LoS wx w1.heap.size (.slice a9 N c9) (setL L i q ⟨k, c, m, n⟩) f9 ∧ Below w1.heap.size w1 wx)
      case first =>
        have l0 : w.heap.size < w1.heap.size := by have := HS1.out; omega
        have l1 : w.heap.size + 1 < w1.heap.size := by have := HS1.out; omega
        have n0 : ¬ w.heap.size = w1.heap.size := by omega
        have n1 : ¬ w1.heap.size = w.heap.size := by omega
        have n2 : ¬ w.heap.size + 1 = w1.heap.size := by omega
        have n3 : ¬ w1.heap.size = w.heap.size + 1 := by omega
        have X0 := Lib.hid (Below.refl w1.heap.size w1)
        go_region_held3 (fun w' => w'.cell? ⟨w.heap.size, 0, none⟩ = some (.int .i64 K) ∧ w'.cell? ⟨w.heap.size + 1, 0, none⟩ = some (.int .i64 k) ∧ w'.cell? ⟨w.heap.size + 1, 1, none⟩ = some (.int .i64 c) ∧ w'.cell? ⟨w.heap.size + 1, 2, none⟩ = some (.int .i64 m) ∧ w'.cell? ⟨w.heap.size + 1, 3, none⟩ = some (.int .i64 n)) (first | go_keep | simp [go_sem, *])
          (first | (go_at_call 55; refine (withCell_n N K _ L HNL.out i q k c m n _ HO.out.symm HIN.out HQK.out (by rw [HNL.out]; exact H.out.below (HB.out.trans (Below.mono (by first | exact X0.out | exact X0.out.drew | exact X0.out.drew.drew | exact X0.out.alloc X0.out.size _ | exact (X0.out.alloc X0.out.size _).drew | exact (X0.out.alloc X0.out.size _).drew.drew) HB.out.size)))).mono ?_; rintro e v1 ⟨a9, c9, f9, rfl, h9, hb⟩; have hbr : Below w1.heap.size w1 v1 := below_via (by first | exact X0.out | exact X0.out.drew | exact X0.out.drew.drew | exact X0.out.alloc X0.out.size _ | exact (X0.out.alloc X0.out.size _).drew | exact (X0.out.alloc X0.out.size _).drew.drew) hb; have k0 := (hbr.cell (p := ⟨w.heap.size, 0, none⟩) l0).trans c0; have b0 := (hbr.cell (p := ⟨w.heap.size + 1, 0, none⟩) l1).trans a0; have b1 := (hbr.cell (p := ⟨w.heap.size + 1, 1, none⟩) l1).trans a1; have b2 := (hbr.cell (p := ⟨w.heap.size + 1, 2, none⟩) l1).trans a2; have b3 := (hbr.cell (p := ⟨w.heap.size + 1, 3, none⟩) l1).trans a3; have n10 : ¬ w.heap.size = v1.heap.size := (by have := hbr.size; omega); have n11 : ¬ v1.heap.size = w.heap.size := (by have := hbr.size; omega); have n12 : ¬ w.heap.size + 1 = v1.heap.size := (by have := hbr.size; omega); have n13 : ¬ v1.heap.size = w.heap.size + 1 := (by have := hbr.size; omega); (first | (have KY := Lib.hid (ky_new X0.out.size hb)) | (have KY := Lib.hid (ky_drew X0.out.size hb)) | skip); have H9R := Lib.hid h9.rng; have H9 := Lib.hid (h9.base (B := w1.heap.size) (Below.size (B := w1.heap.size) (w := w1) (by first | exact X0.out | exact X0.out.drew | exact X0.out.drew.drew | exact X0.out.alloc X0.out.size _ | exact (X0.out.alloc X0.out.size _).drew | exact (X0.out.alloc X0.out.size _).drew.drew))); have X1 := Lib.hid hbr; clear hbr hb h9; (try (have e0 := cells_of_heap KY.out.1 0 (by simp); have g0 := e0.2; replace e0 := e0.1; have e1 := cells_of_heap KY.out.1 1 (by simp); have g1 := e1.2; replace e1 := e1.1))))
        all_goals
          go_wp2
          go_meet
          first
            | exact ⟨v1.heap.size, _, _, _, rfl, X1.out.size, fun hm => Nat.lt_irrefl _ (H9R.out _ hm).2, heap_alloc_new _ _, H9.out.below ((Below.refl _ _).alloc (Nat.le_refl _) _), X1.out.alloc X1.out.size _⟩
            | exact ⟨v1.heap.size, _, _, _, rfl, X1.out.size, fun hm => Nat.lt_irrefl _ (H9R.out _ hm).2, heap_alloc_new _ _, H9.out.below ((Below.refl _ _).alloc (Nat.le_refl _) _).drew, (X1.out.alloc X1.out.size _).drew⟩
            | exact ⟨_, _, _, _, rfl, KY.out.2.2, (fun hm => Nat.lt_irrefl _ (Nat.lt_of_lt_of_le KY.out.2.1 (H9R.out _ hm).1)), putW_all [.int .i64 K, .slice _ N _] KY.out.1 rfl, H9.out.putAt [.int .i64 K, .slice _ N _] (fun hm => Nat.lt_irrefl _ (Nat.lt_of_lt_of_le KY.out.2.1 (H9R.out _ hm).1)) 0, putW_below KY.out.2.2 [.int .i64 K, .slice _ N _] 0 _ X1.out⟩
            | exact ⟨_, _, _, _, rfl, KY.out.2.2, (fun hm => Nat.lt_irrefl _ (Nat.lt_of_lt_of_le KY.out.2.1 (H9R.out _ hm).1)), putW_all [.int .i64 K, .slice _ N _] KY.out.1 rfl, (H9.out.putAt [.int .i64 K, .slice _ N _] (fun hm => Nat.lt_irrefl _ (Nat.lt_of_lt_of_le KY.out.2.1 (H9R.out _ hm).1)) 0).below (Below.refl _ _).drew, (putW_below KY.out.2.2 [.int .i64 K, .slice _ N _] 0 _ X1.out).drew⟩
      case rest =>
        obtain ⟨y9, a9, c9, f9, rfl, hl9, hni, hgo4, hos4, hb4⟩ := hcut
        obtain ⟨W4, hEq⟩ : ∃ x, x = wc := ⟨_, rfl⟩
        rw [← hEq] at hgo4 hos4 hb4 ⊢
        have hgr4 : W4.heap[w.heap.size + 1 + 1]? = some (.cells #[.int .i64 0, .slice none 0 0] 26 (0, 0)) := (hb4.block _ HS1.out).trans HGr1.out
        have hgol : y9 < W4.heap.size := (Array.getElem?_eq_some_iff.mp hgo4).1
        have hrows : ∀ l ∈ setL L i q ⟨k, c, m, n⟩, l.length ≤ maxLen := by
          intro l hl
          rcases List.mem_or_eq_of_mem_set hl with h1 | h1
          · exact HM.out l h1
          · rw [h1]; simp only [List.length_set]; exact lD_le HM.out i
        have HOS4 := Lib.hid hos4
        have HB4 := Lib.hid (HB.out.trans (hb4.mono HB.out.size))
        have HGo4 := Lib.hid hgo4
        have HGr4 := Lib.hid hgr4
        have HGol := Lib.hid hgol
        have HSN := Lib.hid hsn
        have HRows := Lib.hid hrows
        have HLo := Lib.hid hl9
        have g0 := (cells_of_heap hgo4 0 (by simp)).1
        have g1 := (cells_of_heap hgo4 1 (by simp)).1
        clear hEq hni hgo4 hos4 hb4 hgr4 hgol hrows hsn hl9
        go_wp2_with fail
        refine (implIsKeymap_q K _ (setL L i q ⟨k, c, m, n⟩) o2 HO2'.out _ (by rw [HSN.out]; have := HL4.out; unfold maxLen; omega) HRows.out HOS4.out.rd).mono ?_
        rintro e w5 ⟨rfl, hb⟩
        have HB5 := Lib.hid (HB4.out.trans (hb.mono HB4.out.size))
        have HGr5 := Lib.hid ((hb.block (w.heap.size + 1 + 1) (by have := HGol.out; have := HS1.out; have := HLo.out; omega)).trans HGr4.out)
        have hgo5 := (hb.block y9 HGol.out).trans HGo4.out
        have HOS5 := Lib.hid (HOS4.out.below hb)
        clear hb g0 g1
        have g0 := (cells_of_heap hgo5 0 (by simp)).1
        have g1 := (cells_of_heap hgo5 1 (by simp)).1
        obtain ⟨y0, q0⟩ := cells_of_heap HGr5.out 0 (by simp)
        obtain ⟨y1, q1⟩ := cells_of_heap HGr5.out 1 (by simp)
        clear hgo5
        cases o2
        · have HRr := Lib.hid (show r = ⟨0, [], false⟩ from HR'.out)
          go_wp2
          clear g0 g1 y0 y1 q0 q1
          obtain ⟨wf, hwf⟩ : ∃ x, x = putW (w5) (w.heap.size + 1 + 1) 0 [.int .i64 0, .slice none 0 0] := ⟨_, rfl⟩
          have kf := putW_all [.int .i64 0, .slice none 0 0] HGr5.out rfl
          have bf := putW_below (b := w.heap.size + 1 + 1) (by first | omega | simp) [.int .i64 0, .slice none 0 0] 0 _ HB5.out
          have of := HNil.out _ HB5.out HRr.out
          rw [← hwf] at kf bf of
          have cf := hwf.symm
          simp only [putW, Nat.reduceAdd] at cf
          rw [cf]
          clear cf hwf
          have f0 := (cells_of_heap kf 0 (by simp)).1
          have f1 := (cells_of_heap kf 1 (by simp)).1
          simp only [List.getElem_toArray, List.getElem_cons_zero, List.getElem_cons_succ] at f0 f1
          refine bodyPost_ret (v := .tuple #[kmv 0 (.slice none 0 0), .bool false]) (by simp [results, Try.results27, go_sem, f0, f1]) rfl of
        · have HRr := Lib.hid (show r = ⟨K, setL L i q ⟨k, c, m, n⟩, true⟩ from HR'.out)
          go_wp2
          clear g0 g1 y0 y1 q0 q1
          obtain ⟨wf, hwf⟩ : ∃ x, x = putW (w5) (w.heap.size + 1 + 1) 0 [.int .i64 K, .slice a9 N c9] := ⟨_, rfl⟩
          have kf := putW_all [.int .i64 K, .slice a9 N c9] HGr5.out rfl
          have bf := putW_below (b := w.heap.size + 1 + 1) (by first | omega | simp) [.int .i64 K, .slice a9 N c9] 0 _ HB5.out
          have of := HOS5.out.put (b := w.heap.size + 1 + 1) [.int .i64 K, .slice a9 N c9] 0 HS1.out
          rw [← hwf] at kf bf of
          have cf := hwf.symm
          simp only [putW, Nat.reduceAdd] at cf
          rw [cf]
          clear cf hwf
          have f0 := (cells_of_heap kf 0 (by simp)).1
          have f1 := (cells_of_heap kf 1 (by simp)).1
          simp only [List.getElem_toArray, List.getElem_cons_zero, List.getElem_cons_succ] at f0 f1
          refine bodyPost_ret (v := .tuple #[kmv K (.slice a9 N c9), .bool true]) (by simp [results, Try.results27, go_sem, f0, f1]) rfl (by rw [HRr.out]; exact ⟨_, _, _, by rw [HSN.out], by rw [HSN.out]; exact of.base HB.out.size, bf⟩)

end Go.Proofs.Ytleheibpgngmiaa
