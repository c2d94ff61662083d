/- DERIVED. The reference's l11Keys, l11Held, l11Active and IsCombiner: the switches of a combination, all that are down, and whether a combiner is valid. -/
import Derived.Test.YtagmdkblcgnddaaCnFn
import Derived.Test.YtagmdkblcgnddaaFolSpec
import Derived.Deep.RegionHeld3
namespace Go.Proofs.Ytagmdkblcgnddaa
open Go.RowKit

theorem kyV_drop {l : List Cb} {o : Int} : ∀ (j : Nat), j ≤ l.length → (∀ q, q < j → (cbD l q).o ≠ o) → kyV l o = kyV (l.drop j) o
  | 0, _, _ => rfl
  | j + 1, hj, h => by
    rw [kyV_drop j (by omega) (fun q hq => h q (by omega))]
    have hc : l.drop j = cbD l j :: l.drop (j + 1) := by rw [List.drop_eq_getElem_cons (by omega), cbD]; simp [List.getElem?_eq_getElem (show j < l.length by omega)]
    rw [hc, kyV, if_neg (h j (by omega))]
theorem kyV_at {l : List Cb} {o : Int} {j : Nat} (hj : j < l.length) (h : ∀ q, q < j → (cbD l q).o ≠ o) (hm : (cbD l j).o = o) : kyV l o = (cbD l j).k := by
  rw [kyV_drop j (by omega) h]
  have hc : l.drop j = cbD l j :: l.drop (j + 1) := by rw [List.drop_eq_getElem_cons (by omega), cbD]; simp [List.getElem?_eq_getElem hj]
  rw [hc, kyV, if_pos hm]
theorem kyV_none {l : List Cb} {o : Int} (h : ∀ q, q < l.length → (cbD l q).o ≠ o) : kyV l o = 0 := by
  rw [kyV_drop l.length (Nat.le_refl _) h, List.drop_length]; rfl

set_option maxRecDepth 100000 in
theorem specKeys_q (v : Value) (l : List Cb) (o : Int) (r : Int) (hr : r = kyV l o) (w : World) (hn : l.length ≤ maxLen) (h : RdN w v l.length (flatCb l)) :
    Calls Try.prog 132 #[v, .int .i64 o] w fun e w' => e = .returned (.int .i64 r) ∧ w = w' := by
  have HR := Lib.hid hr
  clear hr
  unfold maxLen at hn
  rcases rd_cbs h with ⟨rfl, a, cap, rfl⟩ | ⟨b, off, cap, hpos, rfl, hlt, hc⟩
  · obtain rfl : r = 0 := HR.out
    clear h
    go_enter Try.func132, Try.ntmps132
    go_wp2
    refine wp_loop_rounds 1 ?_
    rw [rounds_succ]
    go_wp2
    go_ret
    exact ⟨rfl, rfl⟩
  · have HC := Lib.hid hc
    obtain ⟨N, hN⟩ : ∃ N, N = l.length := ⟨_, rfl⟩
    rw [← hN] at hn hpos ⊢
    have HNN := Lib.hid hN
    clear h hc hN
    go_enter Try.func132, Try.ntmps132
    go_wp2
    go_loop [5] (fun i => ∃ (j : Nat), j ≤ N ∧ i = .int .i64 j ∧ ∀ q, q < j → (cbD l q).o ≠ o) (fun i => N - (intOf i).toNat)
    case atStart => exact ⟨0, Nat.zero_le _, rfl, fun q hq => absurd hq (Nat.not_lt_zero _)⟩
    case round =>
      obtain ⟨j, hj, rfl, hno⟩ := hrel
      have HNO := Lib.hid hno
      clear hno
      by_cases hlt' : j < N
      · have hjl : j < l.length := by rw [← HNN.out]; exact hlt'
        obtain ⟨c0, c1⟩ := HC.out j hjl
        by_cases hm : (cbD l j).o = o
        · have HQ := Lib.hid (HR.out.trans (kyV_at hjl HNO.out hm))
          rw [hm] at c1
          clear hm
          go_wp2
          go_ret
          exact ⟨ret_int HQ.out.symm, rfl⟩
        · have hm2 : ((cbD l j).o == o) = false := by simp [hm]
          have HQ := Lib.hid (show ∀ q, q < j + 1 → (cbD l q).o ≠ o from fun q hq => by
            rcases Nat.lt_or_ge q j with h3 | h3
            · exact HNO.out q h3
            · obtain rfl : q = j := by omega
              exact hm)
          go_wp2
          go_round
          case rel => exact ⟨j + 1, by omega, by go_num, HQ.out⟩
          case measure => simp [intOf]; omega
      · obtain rfl : j = N := by omega
        have HQ := Lib.hid (HR.out.trans (kyV_none (fun q hq => HNO.out q (by rw [HNN.out]; exact hq))))
        go_wp2
        go_ret
        exact ⟨ret_int HQ.out.symm, rfl⟩

set_option maxRecDepth 100000 in
theorem specHeldC_q (c : Cn) (u1 u2 u3 : Value) (r : Int) (hr : r = hlV c) (w : World) (hn : c.A.length ≤ maxLen) (h : RdN w u3 c.A.length (flatAv c.A)) :
    Calls Try.prog 106 #[c.val u1 u2 u3] w fun e w' => e = .returned (.int .i64 r) ∧ Below w.heap.size w w' := by
  have HR := Lib.hid hr
  clear hr
  unfold maxLen at hn
  rcases rd_avs h with ⟨hnil, a, cap, rfl⟩ | ⟨b, off, cap, hpos, rfl, hlt, hc⟩
  · obtain rfl : r = c.d := by rw [HR.out, hlV, hnil]; rfl
    clear h
    obtain ⟨W, hW⟩ : ∃ W, W = w.alloc (.cells #[u1, .int .i64 c.t, u2, .int .i64 c.n, .int .i64 c.k, .int .i64 c.d, .slice a 0 cap] 28) := ⟨_, rfl⟩
    have HX0 := Lib.hid (show Bxd W w.heap.size [u1, .int .i64 c.t, u2, .int .i64 c.n, .int .i64 c.k, .int .i64 c.d, .slice a 0 cap] by rw [hW]; exact Bxd.new _ _ _)
    have HB0 := Lib.hid (show Below w.heap.size w W by rw [hW]; exact (Below.refl _ _).alloc (Nat.le_refl _) _)
    have HS0 := Lib.hid (show w.heap.size < W.heap.size by rw [hW]; simp)
    have HW := Lib.hid hW
    clear hW
    go_enter Try.func106, Try.ntmps106
    go_upto_region 1 with (fail)
    rw [← HW.out]
    have x5 := HX0.out.at 5 _ rfl
    have x6 := HX0.out.at 6 _ rfl
    go_wp2
    refine wp_loop_rounds 1 ?_
    rw [rounds_succ]
    go_wp2
    go_ret
    exact ⟨rfl, HB0.out⟩
  · have HC := Lib.hid hc
    obtain ⟨N, hN⟩ : ∃ N, N = c.A.length := ⟨_, rfl⟩
    rw [← hN] at hn hpos ⊢
    have HNN := Lib.hid hN
    clear h hc hN
    obtain ⟨W, hW⟩ : ∃ W, W = w.alloc (.cells #[u1, .int .i64 c.t, u2, .int .i64 c.n, .int .i64 c.k, .int .i64 c.d, .slice (some ⟨b, off, none⟩) N cap] 28) := ⟨_, rfl⟩
    have HX0 := Lib.hid (show Bxd W w.heap.size [u1, .int .i64 c.t, u2, .int .i64 c.n, .int .i64 c.k, .int .i64 c.d, .slice (some ⟨b, off, none⟩) N cap] by rw [hW]; exact Bxd.new _ _ _)
    have HB0 := Lib.hid (show Below w.heap.size w W by rw [hW]; exact (Below.refl _ _).alloc (Nat.le_refl _) _)
    have HS0 := Lib.hid (show w.heap.size < W.heap.size by rw [hW]; simp)
    have HW := Lib.hid hW
    clear hW
    go_enter Try.func106, Try.ntmps106
    go_upto_region 1 with (fail)
    rw [← HW.out]
    have x5 := HX0.out.at 5 _ rfl
    have x6 := HX0.out.at 6 _ rfl
    go_wp2
    go_loop [4, 3] (fun i s => ∃ (j : Nat), j ≤ N ∧ i = .int .i64 j ∧ s = .int .i64 (hlN c.d c.A j)) (fun i _ => N - (intOf i).toNat)
    case atStart => exact ⟨0, Nat.zero_le _, rfl, rfl⟩
    case round =>
      obtain ⟨j, hj, rfl, rfl⟩ := hrel
      by_cases hlt' : j < N
      · obtain ⟨c0, c1, c2⟩ := HC.out j (by rw [← HNN.out]; exact hlt')
        have r1 := (HB0.out.cell (p := ⟨b, off + j * 3 + 1, none⟩) hlt).trans c1
        obtain ⟨S, hS⟩ : ∃ S, S = hlN c.d c.A j := ⟨_, rfl⟩
        have hnx : hlN c.d c.A (j + 1) = bits .or .i64 S (avD c.A j).l := by rw [hlN, hS]
        rw [← hS]
        have HNX := Lib.hid hnx
        clear c0 c1 c2 hS hnx
        go_wp2
        go_round
        case rel => exact ⟨j + 1, by omega, by go_num, by rw [HNX.out]⟩
        case measure => simp [intOf]; omega
      · obtain rfl : j = N := by omega
        have HQ := Lib.hid (show r = hlN c.d c.A j by rw [HR.out, hlV, ← HNN.out])
        go_wp2
        go_ret
        exact ⟨ret_int HQ.out.symm, HB0.out⟩

set_option maxRecDepth 100000 in
set_option maxHeartbeats 4000000 in
theorem specActive_q (c : Cn) (u1 u2 u3 : Value) (r : Bool) (hr : r = okAvs c.C c.d c.A) (w : World) (hn1 : c.C.length ≤ maxLen) (h1 : RdN w u1 c.C.length (flatCb c.C)) (hn : c.A.length ≤ maxLen) (h : RdN w u3 c.A.length (flatAv c.A)) :
    Calls Try.prog 104 #[c.val u1 u2 u3] w fun e w' => e = .returned (.bool r) ∧ Below w.heap.size w w' := by
  have HR := Lib.hid hr
  have HR1 := Lib.hid h1
  have HN1 := Lib.hid hn1
  clear hr h1 hn1
  unfold maxLen at hn
  rcases rd_avs h with ⟨hnil, a, cap, rfl⟩ | ⟨b, off, cap, hpos, rfl, hlt, hc⟩
  · obtain ⟨V, hV⟩ : ∃ V, V = inB c.d 0 16777215 := ⟨_, rfl⟩
    obtain rfl : r = V := by rw [HR.out, okAvs, hnil, hV]; rfl
    have HV := Lib.hid hV
    clear h hV
    obtain ⟨W, hW⟩ : ∃ W, W = w.alloc (.cells #[u1, .int .i64 c.t, u2, .int .i64 c.n, .int .i64 c.k, .int .i64 c.d, .slice a 0 cap] 28) := ⟨_, rfl⟩
    have HX0 := Lib.hid (show Bxd W w.heap.size [u1, .int .i64 c.t, u2, .int .i64 c.n, .int .i64 c.k, .int .i64 c.d, .slice a 0 cap] by rw [hW]; exact Bxd.new _ _ _)
    have HB0 := Lib.hid (show Below w.heap.size w W by rw [hW]; exact (Below.refl _ _).alloc (Nat.le_refl _) _)
    have HS0 := Lib.hid (show w.heap.size < W.heap.size by rw [hW]; simp)
    have HW := Lib.hid hW
    clear hW
    go_enter Try.func104, Try.ntmps104
    go_upto_region 1 with (fail)
    rw [← HW.out]
    have x5 := HX0.out.at 5 _ rfl
    have x6 := HX0.out.at 6 _ rfl
    go_wp2
    refine wp_loop_rounds 1 ?_
    rw [rounds_succ]
    go_wp2_with fail
    refine (inB_q c.d 0 16777215 r HV.out _).mono ?_
    rintro e w2 ⟨rfl, rfl⟩
    go_wp2
    go_ret
    exact ⟨rfl, HB0.out⟩
  · have HC := Lib.hid hc
    obtain ⟨N, hN⟩ : ∃ N, N = c.A.length := ⟨_, rfl⟩
    rw [← hN] at hn hpos ⊢
    have HNN := Lib.hid hN
    clear h hc hN
    obtain ⟨W, hW⟩ : ∃ W, W = w.alloc (.cells #[u1, .int .i64 c.t, u2, .int .i64 c.n, .int .i64 c.k, .int .i64 c.d, .slice (some ⟨b, off, none⟩) N cap] 28) := ⟨_, rfl⟩
    have HX0 := Lib.hid (show Bxd W w.heap.size [u1, .int .i64 c.t, u2, .int .i64 c.n, .int .i64 c.k, .int .i64 c.d, .slice (some ⟨b, off, none⟩) N cap] by rw [hW]; exact Bxd.new _ _ _)
    have HB0 := Lib.hid (show Below w.heap.size w W by rw [hW]; exact (Below.refl _ _).alloc (Nat.le_refl _) _)
    have HS0 := Lib.hid (show w.heap.size < W.heap.size by rw [hW]; simp)
    have HW := Lib.hid hW
    clear hW
    go_enter Try.func104, Try.ntmps104
    go_upto_region 1 with (fail)
    rw [← HW.out]
    have x5 := HX0.out.at 5 _ rfl
    go_wp2
    go_loopw [3, 4, 5, 6, 7] (fun s i _ _ _ wr => ∃ (j : Nat), j ≤ N ∧ i = .int .i64 j ∧ s = .int .i64 (hlN c.d c.A j) ∧ avN c.C c.d c.A j = true ∧ Below w.heap.size w wr ∧ Below W.heap.size W wr) (fun _ i _ _ _ _ => N - (intOf i).toNat)
    case atStart => exact ⟨0, Nat.zero_le _, rfl, rfl, rfl, HB0.out, Below.refl _ _⟩
    case round =>
      obtain ⟨j, hj, rfl, rfl, hav, hb, hbW⟩ := hrel
      have HXr := Lib.hid (HX0.out.below hbW HS0.out)
      clear x5
      by_cases hlt' : j < N
      · obtain ⟨c0, c1, c2⟩ := HC.out j (by rw [← HNN.out]; exact hlt')
        obtain ⟨S, hS⟩ : ∃ S, S = hlN c.d c.A j := ⟨_, rfl⟩
        obtain ⟨e, he⟩ : ∃ e, e = avD c.A j := ⟨_, rfl⟩
        obtain ⟨ky, hky⟩ : ∃ ky, ky = kyV c.C e.o := ⟨_, rfl⟩
        have hone : avOne c.C c.d c.A j = ((!decide (e.l ≤ 0) && (bits .andNot .i64 e.l ky == 0)) && ((e.p == (e.l == ky)) && ((bits .and .i64 e.l S == 0) && aoN c.A j j))) := by rw [avOne, ← he, ← hky, ← hS]
        have hbad : avOne c.C c.d c.A j = false → r = false := fun h0 => by rw [HR.out, okAvs, ← HNN.out, avN_no h0 _ hlt', Bool.false_and]
        have hnx : avOne c.C c.d c.A j = true → avN c.C c.d c.A (j + 1) = true := fun h0 => by rw [avN, hav, h0]; rfl
        have hsn : hlN c.d c.A (j + 1) = bits .or .i64 S e.l := by rw [hlN, hS, he]
        have hao : ∀ q, q < j → (avD c.A q).o = e.o → aoN c.A j j = false := fun q hq h0 => aoN_no (by rw [← he]; exact h0) j hq
        have hao2 : ∀ q, aoN c.A j (q + 1) = (aoN c.A j q && !decide ((avD c.A q).o = e.o)) := fun q => by rw [aoN, ← he]
        rw [← he] at c0 c1 c2
        rw [← hS]
        obtain ⟨eo, el, ep⟩ := e
        simp only at c0 c1 c2 hone hsn hky hao hao2
        have f0 := (hb.cell (p := ⟨b, off + j * 3, none⟩) hlt).trans c0
        have f1 := (hb.cell (p := ⟨b, off + j * 3 + 1, none⟩) hlt).trans c1
        have f2 := (hb.cell (p := ⟨b, off + j * 3 + 2, none⟩) hlt).trans c2
        have HOne := Lib.hid hone
        have HBad := Lib.hid hbad
        have HNX := Lib.hid hnx
        have HSN := Lib.hid hsn
        have HAO := Lib.hid hao
        have HAO2 := Lib.hid hao2
        have HKY := Lib.hid hky
        have HB := Lib.hid hb
        have HBW := Lib.hid hbW
        clear c0 c1 c2 hone hbad hnx hsn hao hao2 hky hb hbW he hS hav
        have x6 := HXr.out.at 6 _ rfl
        go_upto_region 6 with (fail)
        obtain ⟨U, hU⟩ : ∃ U, U = wr.alloc (.cells #[.int .i64 eo, .int .i64 el, .bool ep] 97) := ⟨_, rfl⟩
        obtain ⟨g, hg⟩ : ∃ g, g = wr.heap.size := ⟨_, rfl⟩
        have hbx : Bxd U g [.int .i64 eo, .int .i64 el, .bool ep] := by rw [hU, hg]; exact Bxd.new _ _ _
        have hu : Below wr.heap.size wr U := by rw [hU]; exact (Below.refl _ _).alloc (Nat.le_refl _) _
        have hgs : g < U.heap.size := by rw [hU, hg]; simp
        rw [← hU, ← hg]
        have HBU := Lib.hid (HB.out.trans (hu.mono HB.out.size))
        have HBWU := Lib.hid (HBW.out.trans (hu.mono HBW.out.size))
        have HXU := Lib.hid (HXr.out.below hu (Nat.lt_of_lt_of_le HS0.out HBW.out.size))
        have HGX := Lib.hid hbx
        have HGS := Lib.hid hgs
        clear hU hg hbx hu hgs x6 f0 f1 f2 HXr
        have x0 := HXU.out.at 0 _ rfl
        have g0 := HGX.out.at 0 _ rfl
        go_wp2_with fail
        refine (specKeys_q u1 c.C eo ky HKY.out _ HN1.out (HR1.out.below HBU.out)).mono ?_
        rintro e w2 ⟨rfl, rfl⟩
        have g1 := HGX.out.at 1 _ rfl
        have g2 := HGX.out.at 2 _ rfl
        obtain ⟨ao, hao⟩ : ∃ ao, ao = aoN c.A j j := ⟨_, rfl⟩
        have HAOV := Lib.hid hao
        have hOne : avOne c.C c.d c.A j = ((!decide (el ≤ 0) && (bits .andNot .i64 el ky == 0)) && ((ep == (el == ky)) && ((bits .and .i64 el S == 0) && ao))) := by rw [HOne.out, ← hao]
        have HOne2 := Lib.hid hOne
        clear hao hOne HOne
        obtain ⟨t1, ht1⟩ : ∃ t, bits .andNot .i64 el ky = t := ⟨_, rfl⟩
        obtain ⟨t2, ht2⟩ : ∃ t, bits .and .i64 el S = t := ⟨_, rfl⟩
        obtain ⟨v, hv⟩ : ∃ v, v = ((!decide (el ≤ 0) && (t1 == 0)) && ((ep == (el == ky)) && (t2 == 0))) := ⟨_, rfl⟩
        have HV := Lib.hid hv
        have HOne3 := Lib.hid (show avOne c.C c.d c.A j = (v && ao) by rw [HOne2.out, ht1, ht2, hv]; simp only [Bool.and_assoc])
        clear hv HOne2
        go_upto_region 7 with (fail)
        go_cut [52] (fun s wx => s = .bool (!v) ∧ wx = U)
        case first =>
          by_cases h1 : el ≤ 0
          · have b1 := decide_eq_true h1
            have hv : v = false := by rw [HV.out]; simp [h1]
            go_wp2
            go_meet
            exact ⟨by rw [hv]; first | rfl | simp [*], rfl⟩
          · by_cases h2 : t1 = 0
            · have b2 : (t1 == 0) = true := by simp [h2]
              cases ep
              · by_cases h3 : el = ky
                · have b3 : (el == ky) = true := by simp [h3]
                  clear h3
                  have hv : v = false := by rw [HV.out]; rw [b3]; simp
                  go_wp2
                  go_meet
                  exact ⟨by rw [hv]; first | rfl | simp [*], rfl⟩
                · have b3 : (el == ky) = false := by simp [h3]
                  clear h3
                  by_cases h4 : t2 = 0
                  · have b4 : (t2 == 0) = true := by simp [h4]
                    have hv : v = true := by rw [HV.out]; rw [b3, b4, b2, decide_eq_false h1]; rfl
                    go_wp2
                    go_meet
                    exact ⟨by rw [hv]; first | rfl | simp [*], rfl⟩
                  · have b4 : (t2 == 0) = false := by simp [h4]
                    have hv : v = false := by rw [HV.out]; rw [b4]; simp
                    go_wp2
                    go_meet
                    exact ⟨by rw [hv]; first | rfl | simp [*], rfl⟩
              · by_cases h3 : el = ky
                · have b3 : (el == ky) = true := by simp [h3]
                  clear h3
                  by_cases h4 : t2 = 0
                  · have b4 : (t2 == 0) = true := by simp [h4]
                    have hv : v = true := by rw [HV.out]; rw [b3, b4, b2, decide_eq_false h1]; rfl
                    go_wp2
                    go_meet
                    exact ⟨by rw [hv]; first | rfl | simp [*], rfl⟩
                  · have b4 : (t2 == 0) = false := by simp [h4]
                    have hv : v = false := by rw [HV.out]; rw [b4]; simp
                    go_wp2
                    go_meet
                    exact ⟨by rw [hv]; first | rfl | simp [*], rfl⟩
                · have b3 : (el == ky) = false := by simp [h3]
                  clear h3
                  have hv : v = false := by rw [HV.out]; rw [b3]; simp
                  go_wp2
                  go_meet
                  exact ⟨by rw [hv]; first | rfl | simp [*], rfl⟩
            · have b2 : (t1 == 0) = false := by simp [h2]
              have hv : v = false := by rw [HV.out]; rw [b2]; simp
              go_wp2
              go_meet
              exact ⟨by rw [hv]; first | rfl | simp [*], rfl⟩
        case rest =>
          obtain ⟨rfl, rfl⟩ := hcut
          clear g0 g2 ht1 ht2
          cases v
          · obtain rfl : r = false := HBad.out (by rw [HOne3.out]; rfl)
            go_wp2
            go_ret
            exact ⟨rfl, HBU.out⟩
          · have HOne4 := Lib.hid (show avOne c.C c.d c.A j = ao by rw [HOne3.out, Bool.true_and])
            go_wp2
            go_loopw [7] (fun q wx => ∃ p : Nat, p ≤ j ∧ q = .int .i64 p ∧ aoN c.A j p = true ∧ Below wc.heap.size wc wx) (fun q _ => j - (intOf q).toNat)
            case atStart => exact ⟨0, Nat.zero_le _, rfl, rfl, Below.refl _ _⟩
            case round =>
              obtain ⟨p, hp, rfl, ha, hb⟩ := hrel
              by_cases hpj : p < j
              · obtain ⟨d0, -, -⟩ := HC.out p (by rw [← HNN.out]; omega)
                have hj' := HAO.out p hpj
                have hj2 := HAO2.out p
                obtain ⟨po, hpo⟩ : ∃ e, e = (avD c.A p).o := ⟨_, rfl⟩
                rw [← hpo] at d0 hj' hj2
                have hbl : b < wc.heap.size := Nat.lt_of_lt_of_le hlt HBU.out.size
                have y0 := (hb.cell (p := ⟨b, off + p * 3, none⟩) hbl).trans ((HBU.out.cell (p := ⟨b, off + p * 3, none⟩) hlt).trans d0)
                have z0 := (hb.cell (p := ⟨g, 0, none⟩) HGS.out).trans (HGX.out.at 0 _ rfl)
                have x6 := (hb.cell (p := ⟨w.heap.size, 6, none⟩) (Nat.lt_of_lt_of_le HS0.out HBWU.out.size)).trans (HXU.out.at 6 _ rfl)
                have HBP := Lib.hid hb
                have HBad2 := Lib.hid hj'
                have HNX2 := Lib.hid hj2
                have HA := Lib.hid ha
                clear d0 hb hj' hj2 hpo ha g1 x0
                go_upto_region 12 with (fail)
                by_cases h1 : po = eo
                · subst h1
                  obtain rfl : r = false := HBad.out (by rw [HOne4.out, HAOV.out]; exact HBad2.out rfl)
                  go_quiet (fail)
                  go_wp2
                  go_ret
                  exact ⟨rfl, below_drewN (HBU.out.trans (HBP.out.mono HBU.out.size)) _⟩
                · have b1 : (po == eo) = false := by simp [h1]
                  have hq := Lib.hid (show aoN c.A j (p + 1) = true by rw [HNX2.out, HA.out, decide_eq_false h1]; rfl)
                  go_quiet (fail)
                  go_wp2
                  go_roundw
                  case rel => exact ⟨p + 1, by omega, by go_num, hq.out, below_drewN HBP.out _⟩
                  case measure => simp [intOf]; omega
              · obtain rfl : p = j := by omega
                have hq := Lib.hid (HNX.out (by rw [HOne4.out, HAOV.out, ha]))
                have HBP := Lib.hid hb
                have z1 := (hb.cell (p := ⟨g, 1, none⟩) HGS.out).trans (HGX.out.at 1 _ rfl)
                clear hb g1 x0
                go_wp2
                go_roundw
                case rel => exact ⟨p + 1, by omega, by go_num, by rw [HSN.out], hq.out, HBU.out.trans (HBP.out.mono HBU.out.size), HBWU.out.trans (HBP.out.mono HBWU.out.size)⟩
                case measure => simp [intOf]; omega
      · obtain rfl : j = N := by omega
        obtain ⟨V, hV⟩ : ∃ V, V = inB c.d 0 16777215 := ⟨_, rfl⟩
        have hrt : r = V := by rw [HR.out, okAvs, ← HNN.out, hav, hV]; rfl
        subst hrt
        have HV := Lib.hid hV
        have HB := Lib.hid hb
        have x5 := HXr.out.at 5 _ rfl
        have x6 := HXr.out.at 6 _ rfl
        clear hb hbW hav hV
        go_wp2_with fail
        refine (inB_q c.d 0 16777215 r HV.out _).mono ?_
        rintro e w2 ⟨rfl, rfl⟩
        go_wp2
        go_ret
        exact ⟨rfl, HB.out⟩

end Go.Proofs.Ytagmdkblcgnddaa
