/- DERIVED. The program's DebounceRun, called with any debouncer and samples that read as known numbers: it returns what a plain function says. -/
import Derived.Test.YtdlcpijiekhafaaDebStepI
import Derived.Test.YtdlcpijiekhafaaDebRun
import Derived.Test.YtdlcpijiekhafaaPut
namespace Go.Proofs.Ytdlcpijiekhafaa
open Go.RowKit

set_option maxHeartbeats 4000000 in
set_option maxRecDepth 100000 in
theorem implDebounceRun_any (k t n s l : Int) (u : Value) (zs : List Int) (ax : Option Addr) (capx : Nat) (xs : List Int) (w : World) (hl : zs.length ≤ maxLen) (h : Rd w u (zs.map (.int .i64))) (hlx : xs.length ≤ 1048576) (hx : Rd w (.slice ax xs.length capx) (xs.map (.int .i64))) :
    Calls Try.prog 15 #[dbv k t n s l u, .slice ax xs.length capx] w (RunDeb k t n s l zs xs w) := by
  obtain ⟨i0, hi, hy0, hy1, hy2⟩ := info_parts info_int
  obtain ⟨a0, cap0, rfl⟩ : ∃ a cap, u = .slice a zs.length cap := by obtain ⟨a, cap, hu, _⟩ := h; exact ⟨a, cap, by simpa using hu⟩
  obtain ⟨W, hW⟩ : ∃ W, W = (w.alloc (.cells #[.int .i64 k, .int .i64 t, .int .i64 n, .int .i64 s, .int .i64 l, .slice a0 zs.length cap0] 26)).alloc (.cells #[.int .i64 0, .int .i64 0, .int .i64 0, .int .i64 0, .int .i64 0, .slice none 0 0] 26) := ⟨_, rfl⟩
  have HT := Lib.hid (show W.heap[w.heap.size + 1]? = some (.cells #[.int .i64 0, .int .i64 0, .int .i64 0, .int .i64 0, .int .i64 0, .slice none 0 0] 26 (0, 0)) by rw [hW]; simpa using heap_alloc_new (w.alloc (.cells #[.int .i64 k, .int .i64 t, .int .i64 n, .int .i64 s, .int .i64 l, .slice a0 zs.length cap0] 26)) _)
  have HX := Lib.hid (show W.heap[w.heap.size]? = some (.cells #[.int .i64 k, .int .i64 t, .int .i64 n, .int .i64 s, .int .i64 l, .slice a0 zs.length cap0] 26 (0, 0)) by
    rw [hW, Below.heap_alloc _ _ _ (by simp)]; exact heap_alloc_new w _)
  have HB0 := Lib.hid (show Below w.heap.size w W by rw [hW]; exact ((Below.refl _ _).alloc (Nat.le_refl _) _).alloc (by simp) _)
  have HSZ := Lib.hid (show W.heap.size = w.heap.size + 1 + 1 by rw [hW]; simp)
  have HR := Lib.hid (h.below HB0.out)
  have HW := Lib.hid hW
  have HRW := Lib.hid h
  have HRX := Lib.hid hx
  clear hW h hx
  obtain ⟨ok, hok⟩ : ∃ ok, ok = okDeb k t n s l zs := ⟨_, rfl⟩
  cases ok
  · have HNR : Hid (okRun k t n s l zs xs = false) := Lib.hid (by rw [okRun, ← hok]; rfl)
    have HO := Lib.hid hok
    clear hok
    go_enter Try.func15, Try.ntmps15
    go_wp2_with fail
    rw [← HW.out]
    refine (implIsDebouncer_any k t n s l _ zs _ hl HR.out).mono ?_
    rw [← HO.out]
    rintro e w1 ⟨rfl, hb⟩
    have HTT := Lib.hid ((hb.block (w.heap.size + 1) (by rw [HSZ.out]; omega)).trans HT.out)
    have HBB := Lib.hid (HB0.out.trans (hb.mono HB0.out.size))
    clear hb
    obtain ⟨t0, q0⟩ := cells_of_heap HTT.out 0 (by simp)
    obtain ⟨t1, q1⟩ := cells_of_heap HTT.out 1 (by simp)
    obtain ⟨t2, q2⟩ := cells_of_heap HTT.out 2 (by simp)
    obtain ⟨t3, q3⟩ := cells_of_heap HTT.out 3 (by simp)
    obtain ⟨t4, q4⟩ := cells_of_heap HTT.out 4 (by simp)
    obtain ⟨t5, q5⟩ := cells_of_heap HTT.out 5 (by simp)
    go_wp2
    obtain ⟨wf, ewf⟩ : ∃ x, x = putW (w1) (w.heap.size + 1) 0 [.int .i64 0, .int .i64 0, .int .i64 0, .int .i64 0, .int .i64 0, .slice none 0 0] := ⟨_, rfl⟩
    have cwf := ewf.symm
    simp only [putW, Nat.reduceAdd] at cwf
    rw [cwf]
    clear cwf
    clear t0 t1 t2 t3 t4 t5 q0 q1 q2 q3 q4 q5
    have kf : wf.heap[w.heap.size + 1]? = some (.cells #[.int .i64 0, .int .i64 0, .int .i64 0, .int .i64 0, .int .i64 0, .slice none 0 0] 26 (0, 0)) := by rw [ewf]; exact putW_all _ HTT.out rfl
    have bf : Below w.heap.size w wf := by rw [ewf]; exact putW_below (by omega) _ _ _ HBB.out
    clear ewf
    have f0 := (cells_of_heap kf 0 (by simp)).1
    have f1 := (cells_of_heap kf 1 (by simp)).1
    have f2 := (cells_of_heap kf 2 (by simp)).1
    have f3 := (cells_of_heap kf 3 (by simp)).1
    have f4 := (cells_of_heap kf 4 (by simp)).1
    have f5 := (cells_of_heap kf 5 (by simp)).1
    refine bodyPost_ret (v := .tuple #[zeroDb, .slice none 0 0, .bool false]) (by simp [results, Try.results15, go_sem, f0, f1, f2, f3, f4, f5]) rfl ?_
    have hfin : RunDeb k t n s l zs xs w (.returned (.tuple #[zeroDb, .slice none 0 0, .bool false])) wf := by
      refine ⟨.slice none 0 0, .slice none 0 0, ?_, bf⟩
      rw [HNR.out, if_neg (by simp)]
      exact ⟨rfl, World.ownsRow_nil _ _ _ _⟩
    exact hfin
  · by_cases h200 : xs.length ≤ 200
    · have hokd := hok.symm
      obtain ⟨N, S, L, rfl, rfl, rfl, hk0, hk2, ht1, ht20, hN1, hN24, hlen, hS, hL, hages⟩ := okDeb_nat hokd
      obtain rfl : N = zs.length := hlen.symm
      rcases rd_ints HRW.out with ⟨hnil, _⟩ | ⟨b0, off, cap1, _, hu, hbl, hc⟩
      · exfalso; rw [hnil] at hN1; simp at hN1
      · simp only [Value.slice.injEq] at hu
        obtain ⟨rfl, _, rfl⟩ := hu
        have HO := Lib.hid hok
        have HC := Lib.hid hc
        clear hok hokd hlen hS hL hages hc
        go_enter Try.func15, Try.ntmps15
        go_wp2_with fail
        rw [← HW.out]
        refine (implIsDebouncer_any k t zs.length S L _ zs _ hl HR.out).mono ?_
        rw [← HO.out]
        rintro e w1 ⟨rfl, hb⟩
        have hx1 := (hb.block w.heap.size (by rw [HSZ.out]; omega)).trans HX.out
        have HX1 := Lib.hid hx1
        have HT1 := Lib.hid ((hb.block (w.heap.size + 1) (by rw [HSZ.out]; omega)).trans HT.out)
        have HB1 := Lib.hid (HB0.out.trans (hb.mono HB0.out.size))
        have hsz1 : w.heap.size + 1 + 1 ≤ w1.heap.size := by have := hb.size; have := HSZ.out; omega
        have x5 := (cells_of_heap hx1 5 (by simp)).1
        have b63 : 0 + zs.length ≤ maxLen := by unfold maxLen; omega
        have b47 : (0 + zs.length) * 8 ≤ 140737488355328 := by omega
        clear hb hx1
        go_wp2_with (at_builtin; refine wpList_append_lies _ rfl _ _ 24 rfl (w.heap.size + 1 + 1) 3 i0 (.int .i64 0) 1 8 Try.underlying24 hi hy0 hy1 hy2 rfl (by decide) _ _ [] rfl (World.ownsRow_nil _ _ _ _) ⟨b0, off, none⟩ zs.length cap0 (zs.map (.int .i64)) rfl (by simp) ?c1 ?c2 hN1 b63 b47 hsz1 _ rfl ?_)
        case c1 =>
          intro j u hu
          have hj : j < zs.length := by have := (List.getElem?_eq_some_iff.mp hu).1; simpa using this
          have hadd : (⟨b0, off, none⟩ : Addr).add j = ⟨b0, off + j, none⟩ := by unfold Addr.add; split <;> simp_all
          have hu' : u = .int .i64 (zs.getD j 0) := by simp [List.getElem?_eq_getElem hj] at hu ⊢; exact hu.symm
          rw [hadd, hu']
          exact (HB1.out.cell (p := ⟨b0, off + j, none⟩) hbl).trans (HC.out j hj)
        case c2 => intro u hu; simp at hu; obtain ⟨z, _, rfl⟩ := hu; rfl
        · intro ga capa w2 hown1 hgrow hat hlt2
          have hx2 := (hgrow.block w.heap.size (by omega) (by simp [Value.ownBlock])).trans HX1.out
          have ht2 := (hgrow.block (w.heap.size + 1) (by omega) (by simp [Value.ownBlock])).trans HT1.out
          have hb2 : Below w.heap.size w w2 := HB1.out.grown hgrow (by omega) (fun q hq => by simp [Value.ownBlock] at hq)
          have hsz2 : w.heap.size + 1 + 1 ≤ w2.heap.size := Nat.le_trans hsz1 hgrow.size
          have hga : w.heap.size + 1 + 1 ≤ ga := by
            rcases hat with h | h
            · simp [Value.ownBlock] at h
            · omega
          obtain ⟨e5, g5⟩ := cells_of_heap hx2 5 (by simp)
          clear x5
          obtain ⟨w3, hw3⟩ : ∃ w3, w3 = w2.setCell ⟨w.heap.size, 5, none⟩ (.slice (some ⟨ga, 0, none⟩) zs.length capa) := ⟨_, rfl⟩
          have HX3 := Lib.hid (show w3.heap[w.heap.size]? = some (.cells #[.int .i64 k, .int .i64 t, .int .i64 zs.length, .int .i64 S, .int .i64 L, .slice (some ⟨ga, 0, none⟩) zs.length capa] 26 (0, 0)) by rw [hw3]; exact heap_setCell_same w2 w.heap.size 5 _ _ _ hx2)
          have HT3 := Lib.hid (show w3.heap[w.heap.size + 1]? = some (.cells #[.int .i64 0, .int .i64 0, .int .i64 0, .int .i64 0, .int .i64 0, .slice none 0 0] 26 (0, 0)) by rw [hw3]; exact (Below.heap_setCell w2 ⟨w.heap.size, 5, none⟩ _ (w.heap.size + 1) (by simp)).trans ht2)
          have HB3 := Lib.hid (show Below w.heap.size w w3 by rw [hw3]; exact hb2.setCell (Nat.le_refl _) _)
          have HU3 := Lib.hid (show w3.ownsRow (w.heap.size + 1 + 1) 3 1 (.slice (some ⟨ga, 0, none⟩) zs.length capa) zs.length (zs.map (.int .i64)) by rw [hw3]; simpa using ownsRow_setCell_below hown1 (show (⟨w.heap.size, 5, none⟩ : Addr).block < w.heap.size + 1 + 1 by show w.heap.size < _; omega) (.slice (some ⟨ga, 0, none⟩) zs.length capa))
          have hsz3 : w.heap.size + 1 + 1 ≤ w3.heap.size := by rw [hw3]; simpa using hsz2
          have hga3 : ga < w3.heap.size := by rw [hw3]; simpa using hlt2
          have HW3 := Lib.hid hw3
          clear hown1 hgrow hat hx2 ht2 hb2 hw3 hlt2
          go_upto_region 4 with (fail)
          rw [← HW3.out]
          clear e5 g5 hsz2
          go_wp2_with (at_make; refine wpList_make_own _ rfl _ _ 24 rfl (w.heap.size + 1 + 1) 3 i0 (.int .i64 0) 1 Try.underlying24 hi hy0 hy1 .i64 .i64 _ xs.length rfl rfl rfl (by rw [hy2]; omega) ?m1 ?m2 ?_)
          case m1 => unfold maxLen; omega
          case m2 => exact hsz3
          · intro w4 hown4 hgr4
            have HX4 := Lib.hid ((hgr4.block w.heap.size (by omega) (by simp)).trans HX3.out)
            have HT4 := Lib.hid ((hgr4.block (w.heap.size + 1) (by omega) (by simp)).trans HT3.out)
            have HB4 := Lib.hid (show Below w.heap.size w w4 from HB3.out.grown hgr4 (by omega) (fun q hq => by cases hq))
            have HU4 := Lib.hid (owns_apart HU3.out hgr4 (fun q _ => by simp))
            have HO4 := Lib.hid hown4
            have HS4 := Lib.hid (show w.heap.size + 1 + 1 ≤ w4.heap.size from Nat.le_trans hsz3 hgr4.size)
            have HGA := Lib.hid (show ga ≠ w3.heap.size by omega)
            clear hown4 hgr4 hsz3 hga3 hga hsz1
            go_wp2
            go_loopw [7, 30] (fun o i wr => ∃ (j : Nat) (au ao : Option Addr) (cu co : Nat), j ≤ xs.length ∧ i = .int .i64 j ∧ o = .slice ao j co ∧
                wr.heap[w.heap.size]? = some (.cells #[.int .i64 k, .int .i64 t, .int .i64 zs.length, .int .i64 ((runN k t zs.length S L zs xs j).1), .int .i64 ((runN k t zs.length S L zs xs j).2.1), .slice au zs.length cu] 26 (0, 0)) ∧
                wr.heap[w.heap.size + 1]? = some (.cells #[.int .i64 0, .int .i64 0, .int .i64 0, .int .i64 0, .int .i64 0, .slice none 0 0] 26 (0, 0)) ∧
                wr.ownsRow (w.heap.size + 1 + 1) 3 1 (.slice au zs.length cu) zs.length ((runN k t zs.length S L zs xs j).2.2.map (.int .i64)) ∧
                wr.ownsRow (w.heap.size + 1 + 1) 3 1 (.slice ao j co) j ((runShown k t zs.length S L zs xs j).map (.int .i64)) ∧
                (∀ q, (Value.slice au zs.length cu).ownBlock = some q → (Value.slice ao j co).ownBlock ≠ some q) ∧
                (∀ i, i < j → inB (xs.getD i 0) 0 (2 ^ zs.length - 1) = true) ∧ Below w.heap.size w wr ∧ w.heap.size + 1 + 1 ≤ wr.heap.size) (fun _ i _ => xs.length - (intOf i).toNat)
            case atStart => exact ⟨0, _, _, _, _, Nat.zero_le _, rfl, rfl, HX4.out, HT4.out, HU4.out, HO4.out, fun q hq => by (simp [Value.ownBlock] at hq ⊢; have := HGA.out; omega), fun i hi => by omega, HB4.out, HS4.out⟩
            case round =>
              obtain ⟨j, au, ao, cu, co, hj, rfl, rfl, hg, ht, hu, ho, hdj, hin, hb, hsg⟩ := hrel
              have hokst := runN_ok (xs := xs) HO.out.symm j (by simpa using hin)
              obtain ⟨st, hst⟩ : ∃ st, st = runN k t zs.length S L zs xs j := ⟨_, rfl⟩
              rw [← hst] at hg hu hokst
              obtain ⟨s1, l1, as1⟩ := st
              simp only at hg hu hokst
              have hal : as1.length = zs.length := by have := hu.1; simpa using this
              have hgl : w.heap.size < wr.heap.size := by omega
              have g0 := (cells_of_heap hg 0 (by simp)).1
              have g1 := (cells_of_heap hg 1 (by simp)).1
              have g2 := (cells_of_heap hg 2 (by simp)).1
              have g3 := (cells_of_heap hg 3 (by simp)).1
              have g4 := (cells_of_heap hg 4 (by simp)).1
              have g5 := (cells_of_heap hg 5 (by simp)).1
              by_cases hlt : j < xs.length
              · rcases rd_ints HRX.out with ⟨hnil, _⟩ | ⟨bx, offx, capx1, _, hux, hbxl, hcx⟩
                · exfalso; rw [hnil] at hlt; simp at hlt
                · simp only [Value.slice.injEq] at hux
                  obtain ⟨rfl, _, rfl⟩ := hux
                  have hcell : wr.cell? ⟨bx, offx + j, none⟩ = some (.int .i64 (xs.getD j 0)) := (hb.cell (p := ⟨bx, offx + j, none⟩) hbxl).trans (hcx j hlt)
                  obtain ⟨raw, hraw⟩ : ∃ raw, raw = xs.getD j 0 := ⟨_, rfl⟩
                  rw [← hraw] at hcell
                  obtain ⟨sm, hsm⟩ : ∃ sm, sm = inB raw 0 (2 ^ zs.length - 1) := ⟨_, rfl⟩
                  have hstep : okStep k t zs.length s1 l1 as1 raw = sm := by rw [okStep, hokst, hsm]; simp
                  have HG := Lib.hid hg
                  have HTr := Lib.hid ht
                  have HU := Lib.hid hu
                  have HOO := Lib.hid ho
                  have HDJ := Lib.hid hdj
                  have HIN := Lib.hid hin
                  have HB := Lib.hid hb
                  have HST := Lib.hid hst
                  have HRAW := Lib.hid hraw
                  have HRD := Lib.hid (Rd.of_owns hu)
                  have HSM := Lib.hid hsm
                  have HSTEP := Lib.hid hstep
                  clear hg ht hu ho hdj hin hb hst hraw hsm hstep hokst hcx
                  cases sm
                  · have HNR : Hid (okRun k t zs.length S L zs xs = false) := Lib.hid (by
                      have h3 : allIn 0 (2 ^ ((zs.length : Nat) : Int).toNat - 1) xs = false := allIn_false hlt (by rw [← HRAW.out]; simpa using HSM.out.symm)
                      rw [okRun, h3, Bool.and_false])
                    go_wp2_with fail
                    refine (implDebounceStep_any k t zs.length s1 l1 (.slice au zs.length cu) as1 raw _ (by rw [hal]; exact hl) HRD.out).mono ?_
                    intro e w5 hp
                    rw [StepDeb, HSTEP.out, if_neg (by simp)] at hp
                    obtain ⟨rfl, hb5⟩ := hp
                    have ht5 := (hb5.block (w.heap.size + 1) (by omega)).trans HTr.out
                    have hb5' := HB.out.trans (hb5.mono HB.out.size)
                    have hsz5 : w.heap.size + 1 + 1 ≤ w5.heap.size := Nat.le_trans hsg hb5.size
                    clear hb5 g0 g1 g2 g3 g4 g5 hcell
                    go_upto_region 9 with (fail)
                    obtain ⟨w6, hw6⟩ : ∃ w6, w6 = w5.alloc (.cells #[.int .i64 0, .int .i64 0, .int .i64 0, .int .i64 0, .int .i64 0, .slice none 0 0] 26) := ⟨_, rfl⟩
                    have HTT := Lib.hid (show w6.heap[w.heap.size + 1]? = some (.cells #[.int .i64 0, .int .i64 0, .int .i64 0, .int .i64 0, .int .i64 0, .slice none 0 0] 26 (0, 0)) by rw [hw6]; exact (Below.heap_alloc _ _ _ (by omega)).trans ht5)
                    have HBB := Lib.hid (show Below w.heap.size w w6 by rw [hw6]; exact hb5'.alloc (by omega) _)
                    rw [← hw6]
                    clear hw6 ht5 hb5'
                    obtain ⟨t0, q0⟩ := cells_of_heap HTT.out 0 (by simp)
                    obtain ⟨t1, q1⟩ := cells_of_heap HTT.out 1 (by simp)
                    obtain ⟨t2, q2⟩ := cells_of_heap HTT.out 2 (by simp)
                    obtain ⟨t3, q3⟩ := cells_of_heap HTT.out 3 (by simp)
                    obtain ⟨t4, q4⟩ := cells_of_heap HTT.out 4 (by simp)
                    obtain ⟨t5, q5⟩ := cells_of_heap HTT.out 5 (by simp)
                    go_wp2
                    obtain ⟨wf, ewf⟩ : ∃ x, x = putW (w6) (w.heap.size + 1) 0 [.int .i64 0, .int .i64 0, .int .i64 0, .int .i64 0, .int .i64 0, .slice none 0 0] := ⟨_, rfl⟩
                    have cwf := ewf.symm
                    simp only [putW, Nat.reduceAdd] at cwf
                    rw [cwf]
                    clear cwf
                    clear t0 t1 t2 t3 t4 t5 q0 q1 q2 q3 q4 q5
                    have kf : wf.heap[w.heap.size + 1]? = some (.cells #[.int .i64 0, .int .i64 0, .int .i64 0, .int .i64 0, .int .i64 0, .slice none 0 0] 26 (0, 0)) := by rw [ewf]; exact putW_all _ HTT.out rfl
                    have bf : Below w.heap.size w wf := by rw [ewf]; exact putW_below (by omega) _ _ _ HBB.out
                    clear ewf
                    have f0 := (cells_of_heap kf 0 (by simp)).1
                    have f1 := (cells_of_heap kf 1 (by simp)).1
                    have f2 := (cells_of_heap kf 2 (by simp)).1
                    have f3 := (cells_of_heap kf 3 (by simp)).1
                    have f4 := (cells_of_heap kf 4 (by simp)).1
                    have f5 := (cells_of_heap kf 5 (by simp)).1
                    refine bodyPost_ret (v := .tuple #[zeroDb, .slice none 0 0, .bool false]) (by simp [results, Try.results15, go_sem, f0, f1, f2, f3, f4, f5]) rfl ?_
                    have hfin : RunDeb k t zs.length S L zs xs w (.returned (.tuple #[zeroDb, .slice none 0 0, .bool false])) wf := by
                      refine ⟨.slice none 0 0, .slice none 0 0, ?_, bf⟩
                      rw [HNR.out, if_neg (by simp)]
                      exact ⟨rfl, World.ownsRow_nil _ _ _ _⟩
                    exact hfin
                  · go_wp2_with fail
                    refine (implDebounceStep_any k t zs.length s1 l1 (.slice au zs.length cu) as1 raw _ (by rw [hal]; exact hl) HRD.out).mono ?_
                    intro e w5 hp
                    rw [StepDeb, HSTEP.out, if_pos rfl] at hp
                    obtain ⟨u', rfl, ho5, hb5⟩ := hp
                    obtain ⟨a', c', rfl⟩ := owns_shape ho5
                    simp only [Int.toNat_natCast] at ho5 ⊢
                    obtain ⟨sN, hsN⟩ : ∃ sN : Int, sN = (shownTo k t raw.toNat l1.toNat s1.toNat as1 zs.length : Nat) := ⟨_, rfl⟩
                    rw [← hsN]
                    have hnx : runN k t zs.length S L zs xs (j + 1) = (sN, raw, agesTo k t raw.toNat l1.toNat s1.toNat as1 zs.length) := by
                      rw [runN, ← HST.out, ← HRAW.out, hsN]
                      simp
                    have HNX := Lib.hid hnx
                    clear hnx hsN
                    have hsz5 : wr.heap.size ≤ w5.heap.size := hb5.size
                    have hg5 := (hb5.block w.heap.size hgl).trans HG.out
                    have ht5 := (hb5.block (w.heap.size + 1) (by omega)).trans HTr.out
                    have hoo5 := owns_below HOO.out hb5
                    have hbb5 := HB.out.trans (hb5.mono HB.out.size)
                    have hob5 : ∀ q, (Value.slice ao j co).ownBlock = some q → q < wr.heap.size := fun q e => (HOO.out.lt q e).2
                    clear hb5 g0 g1 g2 g3 g4 g5 hcell
                    go_upto_region 9 with (fail)
                    obtain ⟨w6, hw6⟩ : ∃ w6, w6 = w5.alloc (.cells #[.int .i64 k, .int .i64 t, .int .i64 zs.length, .int .i64 sN, .int .i64 raw, .slice a' zs.length c'] 26) := ⟨_, rfl⟩
                    have hy6 : w6.heap[w5.heap.size]? = some (.cells #[.int .i64 k, .int .i64 t, .int .i64 zs.length, .int .i64 (sN), .int .i64 (raw), .slice a' zs.length c'] 26 (0, 0)) := by rw [hw6]; exact heap_alloc_new w5 _
                    have hg6 : w6.heap[w.heap.size]? = some (.cells #[.int .i64 k, .int .i64 t, .int .i64 zs.length, .int .i64 (s1), .int .i64 (l1), .slice au zs.length cu] 26 (0, 0)) := by rw [hw6]; exact (Below.heap_alloc _ _ _ (by omega)).trans hg5
                    have ht6 : w6.heap[w.heap.size + 1]? = some (.cells #[.int .i64 0, .int .i64 0, .int .i64 0, .int .i64 0, .int .i64 0, .slice none 0 0] 26 (0, 0)) := by rw [hw6]; exact (Below.heap_alloc _ _ _ (by omega)).trans ht5
                    have ho6 : w6.ownsRow wr.heap.size 3 1 (.slice a' zs.length c') zs.length ((agesTo k t raw.toNat l1.toNat s1.toNat as1 zs.length).map (.int .i64)) := by rw [hw6]; exact owns_below ho5 ((Below.refl _ _).alloc (Nat.le_refl _) _)
                    have hoo6 : w6.ownsRow (w.heap.size + 1 + 1) 3 1 (.slice ao j co) j ((runShown k t zs.length S L zs xs j).map (.int .i64)) := by rw [hw6]; exact owns_below hoo5 ((Below.refl _ _).alloc (Nat.le_refl _) _)
                    have hbb6 : Below w.heap.size w w6 := by rw [hw6]; exact hbb5.alloc (by omega) _
                    have hsz6 : wr.heap.size ≤ w6.heap.size := by rw [hw6]; simp; omega
                    rw [← hw6]
                    clear hw6 hg5 ht5 ho5 hoo5 hbb5
                    have y0 := (cells_of_heap hy6 0 (by simp)).1
                    have y1 := (cells_of_heap hy6 1 (by simp)).1
                    have y2 := (cells_of_heap hy6 2 (by simp)).1
                    have y3 := (cells_of_heap hy6 3 (by simp)).1
                    have y4 := (cells_of_heap hy6 4 (by simp)).1
                    have y5 := (cells_of_heap hy6 5 (by simp)).1
                    obtain ⟨r0, v0⟩ := cells_of_heap hg6 0 (by simp)
                    obtain ⟨r1, v1⟩ := cells_of_heap hg6 1 (by simp)
                    obtain ⟨r2, v2⟩ := cells_of_heap hg6 2 (by simp)
                    obtain ⟨r3, v3⟩ := cells_of_heap hg6 3 (by simp)
                    obtain ⟨r4, v4⟩ := cells_of_heap hg6 4 (by simp)
                    obtain ⟨r5, v5⟩ := cells_of_heap hg6 5 (by simp)
                    have HG6 := Lib.hid hg6
                    have HT6 := Lib.hid ht6
                    have HO6 := Lib.hid ho6
                    have HOO6 := Lib.hid hoo6
                    have HBB6 := Lib.hid hbb6
                    have HOB := Lib.hid hob5
                    clear hy6 hg6 ht6 ho6 hoo6 hbb6 hob5
                    go_upto_region 12 with (fail)
                    obtain ⟨wS, ewS⟩ : ∃ x, x = putW (w6) (w.heap.size) 0 [.int .i64 k, .int .i64 t, .int .i64 zs.length, .int .i64 sN, .int .i64 raw, .slice a' zs.length c'] := ⟨_, rfl⟩
                    have cwS := ewS.symm
                    simp only [putW, Nat.reduceAdd] at cwS
                    rw [cwS]
                    clear cwS
                    have gS : wS.heap[w.heap.size]? = some (.cells #[.int .i64 k, .int .i64 t, .int .i64 zs.length, .int .i64 (sN), .int .i64 (raw), .slice a' zs.length c'] 26 (0, 0)) := by rw [ewS]; exact putW_all _ HG6.out rfl
                    have H_gS := Lib.hid gS
                    have H_tS := Lib.hid (show wS.heap[w.heap.size + 1]? = some (.cells #[.int .i64 0, .int .i64 0, .int .i64 0, .int .i64 0, .int .i64 0, .slice none 0 0] 26 (0, 0)) by rw [ewS]; exact (putW_other (by omega) _ _ _).trans HT6.out)
                    have H_uS := Lib.hid (show wS.ownsRow wr.heap.size 3 1 (.slice a' zs.length c') zs.length _ by rw [ewS]; exact putW_own (by omega) _ _ _ HO6.out)
                    have H_oS := Lib.hid (show wS.ownsRow (w.heap.size + 1 + 1) 3 1 (.slice ao j co) j _ by rw [ewS]; exact putW_own (by omega) _ _ _ HOO6.out)
                    have H_bS := Lib.hid (show Below w.heap.size w wS by rw [ewS]; exact putW_below (Nat.le_refl _) _ _ _ HBB6.out)
                    have sS : wr.heap.size ≤ wS.heap.size := by rw [ewS, putW_size]; exact hsz6
                    clear ewS y0 y1 y2 y3 y4 y5 r0 r1 r2 r3 r4 r5 v0 v1 v2 v3 v4 v5
                    have yS3 : wS.cell? ⟨w.heap.size, 3, none⟩ = some (.int .i64 sN) := (cells_of_heap gS 3 (by simp)).1
                    have b63 : j + 1 ≤ maxLen := by unfold maxLen; omega
                    have b47 : (j + 1) * 8 ≤ 140737488355328 := by omega
                    clear gS
                    go_wp2_with (at_builtin; refine wpList_append_lies _ rfl _ _ 24 rfl (w.heap.size + 1 + 1) 3 i0 (.int .i64 0) 1 8 Try.underlying24 hi hy0 hy1 hy2 rfl (by decide) _ _ _ rfl (H_oS.out.alloc _) ⟨wS.heap.size, 0, none⟩ 1 1 [.int .i64 sN] rfl rfl ?c1 ?c2 (by omega) b63 b47 ?c5 _ rfl ?_)
                    case c1 => exact cell_one_new _ _ _
                    case c2 => intro u hu; simp at hu; subst hu; rfl
                    case c5 => simp; omega
                    · intro go co' w7 hown1 hgrow hat hlt6
                      have hgn : go = wS.heap.size + 1 ∨ (Value.slice ao j co).ownBlock = some go := by rcases hat with h | h; exact .inr h; exact .inl (by simpa using h)
                      have hne : ∀ q, wr.heap.size ≤ q → some q ≠ (Value.slice ao j co).ownBlock := fun q hq e => by have := HOB.out q e.symm; omega
                      have hneg : some w.heap.size ≠ (Value.slice ao j co).ownBlock := fun e => by have := (H_oS.out.lt _ e.symm).1; omega
                      have hnet : some (w.heap.size + 1) ≠ (Value.slice ao j co).ownBlock := fun e => by have := (H_oS.out.lt _ e.symm).1; omega
                      have ht7 := (hgrow.block (w.heap.size + 1) (by simp; omega) hnet).trans ((Below.heap_alloc _ _ _ (by omega)).trans H_tS.out)
                      have hg7 := (hgrow.block w.heap.size (by simp; omega) hneg).trans ((Below.heap_alloc _ _ _ (by omega)).trans H_gS.out)
                      have hu7 := owns_apart (owns_below H_uS.out ((Below.refl _ _).alloc (Nat.le_refl _) _)) hgrow (fun q hq e => hne q (H_uS.out.lt q hq).1 e.symm)
                      have hb7 : Below w.heap.size w w7 := (H_bS.out.alloc (by omega) _).grown hgrow (by simp; omega) (fun q hq => by have := (H_oS.out.lt q hq).1; omega)
                      have hul : ∀ q, (Value.slice a' zs.length c').ownBlock = some q → wr.heap.size ≤ q ∧ q < wS.heap.size := fun q e => ⟨(H_uS.out.lt q e).1, (H_uS.out.lt q e).2⟩
                      have hdj7 : ∀ q, (Value.slice a' zs.length c').ownBlock = some q → (Value.slice (some ⟨go, 0, none⟩) (j + 1) co').ownBlock ≠ some q := fun q hq e => by
                        have h1 := hul q hq
                        have h2 : go = q := by simpa [Value.ownBlock] using e
                        rcases hgn with h | h
                        · omega
                        · have := HOB.out go h; omega
                      have K1 := Lib.hid ht7
                      have K2 := Lib.hid hg7
                      have K3 := Lib.hid hu7
                      have K4 := Lib.hid hb7
                      have K5 := Lib.hid hdj7
                      have K6 := Lib.hid hown1
                      have K7 := Lib.hid (show w.heap.size + 1 + 1 ≤ w7.heap.size by have := hgrow.size; simp at this; omega)
                      clear hown1 hgrow hat hgn hne hneg hnet ht7 hg7 hu7 hb7 hul hdj7 yS3
                      go_wp2
                      go_roundw
                      case rel =>
                        refine ⟨j + 1, a', some ⟨go, 0, none⟩, c', co', by omega, by go_num, rfl, by rw [HNX.out]; exact K2.out, K1.out, ?_, ?_, K5.out, ?_, K4.out, K7.out⟩
                        · rw [HNX.out]; exact owns_base K3.out (by omega)
                        · rw [runShown_snoc, List.map_append, HNX.out]; exact K6.out
                        · intro i hi
                          by_cases hij : i = j
                          · subst hij; rw [← HRAW.out]; exact HSM.out.symm
                          · exact HIN.out i (by omega)
                      case measure => simp [intOf]; omega
              · obtain rfl : j = xs.length := by omega
                have hokR : okRun k t zs.length S L zs xs = true := by
                  have h3 : allIn 0 (2 ^ ((zs.length : Nat) : Int).toNat - 1) xs = true := allIn_of (by simpa using hin)
                  rw [okRun, ← HO.out, decide_eq_true h200, h3]; rfl
                have HOKR := Lib.hid hokR
                have HST := Lib.hid hst
                obtain ⟨t0, q0⟩ := cells_of_heap ht 0 (by simp)
                obtain ⟨t1, q1⟩ := cells_of_heap ht 1 (by simp)
                obtain ⟨t2, q2⟩ := cells_of_heap ht 2 (by simp)
                obtain ⟨t3, q3⟩ := cells_of_heap ht 3 (by simp)
                obtain ⟨t4, q4⟩ := cells_of_heap ht 4 (by simp)
                obtain ⟨t5, q5⟩ := cells_of_heap ht 5 (by simp)
                have HTT := Lib.hid ht
                have HBB := Lib.hid hb
                have HUU := Lib.hid hu
                have HOO := Lib.hid ho
                have HDD := Lib.hid hdj
                clear ht hb hu ho hdj hg hokR hst hin hokst
                go_wp2
                obtain ⟨wf, ewf⟩ : ∃ x, x = putW (wr) (w.heap.size + 1) 0 [.int .i64 k, .int .i64 t, .int .i64 zs.length, .int .i64 s1, .int .i64 l1, .slice au zs.length cu] := ⟨_, rfl⟩
                have cwf := ewf.symm
                simp only [putW, Nat.reduceAdd] at cwf
                rw [cwf]
                clear cwf
                clear t0 t1 t2 t3 t4 t5 q0 q1 q2 q3 q4 q5 g0 g1 g2 g3 g4 g5
                have kf : wf.heap[w.heap.size + 1]? = some (.cells #[.int .i64 k, .int .i64 t, .int .i64 zs.length, .int .i64 (s1), .int .i64 (l1), .slice au zs.length cu] 26 (0, 0)) := by rw [ewf]; exact putW_all _ HTT.out rfl
                have bf : Below w.heap.size w wf := by rw [ewf]; exact putW_below (by omega) _ _ _ HBB.out
                have of1 := putW_own (b := w.heap.size + 1) (by omega) [.int .i64 k, .int .i64 t, .int .i64 zs.length, .int .i64 s1, .int .i64 l1, .slice au zs.length cu] 0 _ HUU.out
                have of2 := putW_own (b := w.heap.size + 1) (by omega) [.int .i64 k, .int .i64 t, .int .i64 zs.length, .int .i64 s1, .int .i64 l1, .slice au zs.length cu] 0 _ HOO.out
                rw [← ewf] at of1 of2
                clear ewf
                have f0 := (cells_of_heap kf 0 (by simp)).1
                have f1 := (cells_of_heap kf 1 (by simp)).1
                have f2 := (cells_of_heap kf 2 (by simp)).1
                have f3 := (cells_of_heap kf 3 (by simp)).1
                have f4 := (cells_of_heap kf 4 (by simp)).1
                have f5 := (cells_of_heap kf 5 (by simp)).1
                refine bodyPost_ret (v := .tuple #[dbv k t zs.length s1 l1 (.slice au zs.length cu), .slice ao xs.length co, .bool true]) (by simp [results, Try.results15, go_sem, f0, f1, f2, f3, f4, f5]) rfl ?_
                have hfin : RunDeb k t zs.length S L zs xs w (.returned (.tuple #[dbv k t zs.length s1 l1 (.slice au zs.length cu), .slice ao xs.length co, .bool true])) wf := by
                  refine ⟨.slice au zs.length cu, .slice ao xs.length co, ?_, bf⟩
                  rw [HOKR.out, if_pos rfl, ← HST.out]
                  exact ⟨rfl, by simpa using owns_base of1 (show w.heap.size ≤ w.heap.size + 1 + 1 by omega), owns_base of2 (by omega), HDD.out⟩
                exact hfin
    · have HNR : Hid (okRun k t n s l zs xs = false) := Lib.hid (by rw [okRun, decide_eq_false h200]; simp)
      have h200' : (200 : Int) < (xs.length : Int) := by omega
      have HO := Lib.hid hok
      clear hok
      go_enter Try.func15, Try.ntmps15
      go_wp2_with fail
      rw [← HW.out]
      refine (implIsDebouncer_any k t n s l _ zs _ hl HR.out).mono ?_
      rw [← HO.out]
      rintro e w1 ⟨rfl, hb⟩
      have HTT := Lib.hid ((hb.block (w.heap.size + 1) (by rw [HSZ.out]; omega)).trans HT.out)
      have HBB := Lib.hid (HB0.out.trans (hb.mono HB0.out.size))
      clear hb
      obtain ⟨t0, q0⟩ := cells_of_heap HTT.out 0 (by simp)
      obtain ⟨t1, q1⟩ := cells_of_heap HTT.out 1 (by simp)
      obtain ⟨t2, q2⟩ := cells_of_heap HTT.out 2 (by simp)
      obtain ⟨t3, q3⟩ := cells_of_heap HTT.out 3 (by simp)
      obtain ⟨t4, q4⟩ := cells_of_heap HTT.out 4 (by simp)
      obtain ⟨t5, q5⟩ := cells_of_heap HTT.out 5 (by simp)
      go_wp2
      obtain ⟨wf, ewf⟩ : ∃ x, x = putW (w1) (w.heap.size + 1) 0 [.int .i64 0, .int .i64 0, .int .i64 0, .int .i64 0, .int .i64 0, .slice none 0 0] := ⟨_, rfl⟩
      have cwf := ewf.symm
      simp only [putW, Nat.reduceAdd] at cwf
      rw [cwf]
      clear cwf
      clear t0 t1 t2 t3 t4 t5 q0 q1 q2 q3 q4 q5
      have kf : wf.heap[w.heap.size + 1]? = some (.cells #[.int .i64 0, .int .i64 0, .int .i64 0, .int .i64 0, .int .i64 0, .slice none 0 0] 26 (0, 0)) := by rw [ewf]; exact putW_all _ HTT.out rfl
      have bf : Below w.heap.size w wf := by rw [ewf]; exact putW_below (by omega) _ _ _ HBB.out
      clear ewf
      have f0 := (cells_of_heap kf 0 (by simp)).1
      have f1 := (cells_of_heap kf 1 (by simp)).1
      have f2 := (cells_of_heap kf 2 (by simp)).1
      have f3 := (cells_of_heap kf 3 (by simp)).1
      have f4 := (cells_of_heap kf 4 (by simp)).1
      have f5 := (cells_of_heap kf 5 (by simp)).1
      refine bodyPost_ret (v := .tuple #[zeroDb, .slice none 0 0, .bool false]) (by simp [results, Try.results15, go_sem, f0, f1, f2, f3, f4, f5]) rfl ?_
      have hfin : RunDeb k t n s l zs xs w (.returned (.tuple #[zeroDb, .slice none 0 0, .bool false])) wf := by
        refine ⟨.slice none 0 0, .slice none 0 0, ?_, bf⟩
        rw [HNR.out, if_neg (by simp)]
        exact ⟨rfl, World.ownsRow_nil _ _ _ _⟩
      exact hfin

end Go.Proofs.Ytdlcpijiekhafaa
