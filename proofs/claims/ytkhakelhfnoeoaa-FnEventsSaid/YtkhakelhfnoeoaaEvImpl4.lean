/- DERIVED. The program's MasksOf: it returns what a plain function says. -/
import Derived.Test.YtkhakelhfnoeoaaEvImpl2
import Derived.Test.YtkhakelhfnoeoaaCore
namespace Go.Proofs.Ytkhakelhfnoeoaa
open Go.RowKit

theorem take_set_succ : ∀ (xs : List Value) (j : Nat) (v : Value), j < xs.length → (xs.set j v).take (j + 1) = xs.take j ++ [v]
  | [], _, _, h => by simp at h
  | x :: xs, 0, v, _ => by simp
  | x :: xs, j + 1, v, h => by
    have := take_set_succ xs j v (by simpa using h)
    rw [List.set_cons_succ, List.take_succ_cons, this, List.take_succ_cons, List.cons_append]

set_option maxHeartbeats 4000000 in
set_option maxRecDepth 100000 in
theorem implMasksOf_any (v : Value) (l : List Ev) (n : Int) (w : World) (hl : l.length ≤ maxLen) (h : RdN w v l.length (flatEv l)) :
    Calls Try.prog 14 #[v, .int .i64 n] w (IntsOut (masksR l n).1 (masksR l n).2 w) := by
  obtain ⟨i0, hi, hy0, hy1, hy2⟩ := info_parts info_int
  have hsh : ∃ a cap, v = .slice a l.length cap := by obtain ⟨a, cap, hu, _⟩ := h; exact ⟨a, cap, hu⟩
  have HR0 := Lib.hid h
  have HLL := Lib.hid hl
  unfold maxLen at hl
  obtain ⟨ok, hok⟩ : ∃ ok, ok = okEvs l := ⟨_, rfl⟩
  obtain ⟨nb, hnb⟩ : ∃ nb, nb = inB n 0 200 := ⟨_, rfl⟩
  have hR : masksR l n = if ok = true ∧ nb = true then (masksV l n.toNat, true) else ([], false) := by rw [masksR, hok, hnb]
  have HOK := Lib.hid hok
  have HNB := Lib.hid hnb
  have HRR := Lib.hid hR
  clear h hok hnb hR
  cases ok
  · clear hsh
    have HB0 := Lib.hid (Below.refl w.heap.size w)
    go_enter Try.func14, Try.ntmps14
    go_wp2_with fail
    refine (implIsEvents_any _ l _ HLL.out HR0.out).mono ?_
    rw [← HOK.out]
    rintro e w1 ⟨rfl, hb⟩
    have HB1 := Lib.hid (HB0.out.trans (hb.mono HB0.out.size))
    clear hb
    go_wp2
    go_ret2
    refine ⟨.slice none 0 0, ?_, ?_, HB1.out⟩
    · rw [HRR.out]; rfl
    · rw [HRR.out]; exact World.ownsRow_nil _ _ _ _
  · by_cases hn0 : n < 0
    · obtain rfl : nb = false := by rw [HNB.out]; exact decide_eq_false (by omega)
      clear hsh
      have hd : decide (n < 0) = true := decide_eq_true hn0
      have HB0 := Lib.hid (Below.refl w.heap.size w)
      go_enter Try.func14, Try.ntmps14
      go_wp2_with fail
      refine (implIsEvents_any _ l _ HLL.out HR0.out).mono ?_
      rw [← HOK.out]
      rintro e w1 ⟨rfl, hb⟩
      have HB1 := Lib.hid (HB0.out.trans (hb.mono HB0.out.size))
      clear hb
      go_wp2
      go_ret2
      refine ⟨.slice none 0 0, ?_, ?_, HB1.out⟩
      · rw [HRR.out]; rfl
      · rw [HRR.out]; exact World.ownsRow_nil _ _ _ _
    · have hd : decide (n < 0) = false := decide_eq_false hn0
      obtain ⟨N, rfl⟩ := Int.eq_ofNat_of_zero_le (show 0 ≤ n by omega)
      by_cases hn2 : 200 < N
      · obtain rfl : nb = false := by rw [HNB.out]; exact decide_eq_false (by omega)
        clear hsh
        have hd2 : decide ((200 : Int) < (N : Int)) = true := decide_eq_true (by omega)
        have HB0 := Lib.hid (Below.refl w.heap.size w)
        go_enter Try.func14, Try.ntmps14
        go_wp2_with fail
        refine (implIsEvents_any _ l _ HLL.out HR0.out).mono ?_
        rw [← HOK.out]
        rintro e w1 ⟨rfl, hb⟩
        have HB1 := Lib.hid (HB0.out.trans (hb.mono HB0.out.size))
        clear hb
        go_wp2
        go_ret2
        refine ⟨.slice none 0 0, ?_, ?_, HB1.out⟩
        · rw [HRR.out]; rfl
        · rw [HRR.out]; exact World.ownsRow_nil _ _ _ _
      · obtain rfl : nb = true := by rw [HNB.out]; exact decide_eq_true ⟨by omega, by omega⟩
        have hd2 : decide ((200 : Int) < (N : Int)) = false := decide_eq_false (by omega)
        have hN : N ≤ 200 := by omega
        have hkeys : ∀ j, j < l.length → 0 ≤ (evD l j).k ∧ (evD l j).k ≤ 31 := by
          have hok := HOK.out
          unfold okEvs at hok
          have := hok.symm
          rw [Bool.and_eq_true] at this
          exact fun j hj => okAt_key (okEvN_at this.1 j hj)
        have HK := Lib.hid hkeys
        clear hkeys hn0 hn2
        obtain ⟨av, capv, rfl⟩ := hsh
        have HB0 := Lib.hid (Below.refl w.heap.size w)
        go_enter Try.func14, Try.ntmps14
        go_wp2_with fail
        refine (implIsEvents_any _ l _ HLL.out HR0.out).mono ?_
        rw [← HOK.out]
        rintro e w1 ⟨rfl, hb⟩
        have HB1 := Lib.hid (HB0.out.trans (hb.mono HB0.out.size))
        clear hb
        go_wp2_with (at_make; refine wpList_make_full _ rfl _ _ 24 rfl w.heap.size 3 i0 (.int .i64 0) 1 Try.underlying24 hi hy0 hy1 .i64 .i64 _ _ N rfl rfl rfl rfl (made_boundI hy2 (by omega)) ?_ ?_ ?_)
        · unfold maxLen; omega
        · exact HB1.out.size
        · intro w2 hown hgr
          have HB2 := Lib.hid (HB1.out.grown hgr HB1.out.size (fun q hq => by cases hq))
          have HO2 := Lib.hid hown
          obtain ⟨g, hg⟩ : ∃ g, g = w1.heap.size := ⟨_, rfl⟩
          have HG : Hid (w.heap.size ≤ g) := Lib.hid (by rw [hg]; exact HB1.out.size)
          rw [← hg] at HO2
          clear hown hgr
          go_wp2
          rw [← hg]
          clear hg
          go_loopw [7, 8, 25] (fun p s i wr => ∃ (j : Nat) (xs : List Value), j ≤ N ∧ i = .int .i64 j ∧ s = .int .i64 (atV l j : Nat) ∧ p = .int .i64 (heldN l (atV l j) : Nat) ∧ wr.ownsRow w.heap.size 3 1 (.slice (some ⟨g, 0, none⟩) N N) N xs ∧ xs.take j = (masksV l j).map (.int .i64) ∧ Below w.heap.size w wr) (fun _ _ i _ => N - (intOf i).toNat)
          case atStart => exact ⟨0, _, Nat.zero_le _, rfl, rfl, rfl, HO2.out, rfl, HB2.out⟩
          case round =>
            obtain ⟨j, xs, hj, rfl, rfl, rfl, hown, hxs, hb⟩ := hrel
            have hlx : xs.length = N := by simpa using hown.1
            have HO := Lib.hid hown
            have HB := Lib.hid hb
            have HXS := Lib.hid hxs
            have HLX := Lib.hid hlx
            have hat := atV_le l j
            by_cases hlt' : j < N
            · obtain ⟨y, hst⟩ : ∃ y, wr.cell? ⟨g, j, none⟩ = some y := ⟨xs[j]'(by omega), by rw [hown.cellAt j (by omega), List.getElem?_eq_getElem (show j < xs.length by omega)]⟩
              have hfr := hown.frozenAt j
              have hnx : atV l (j + 1) = advTo l j (atV l j) := by rw [atV]
              obtain ⟨s0, hs0⟩ : ∃ s0, s0 = atV l j := ⟨_, rfl⟩
              obtain ⟨T, hT⟩ : ∃ T, T = advTo l j s0 := ⟨_, rfl⟩
              rw [← hs0, ← hT] at hnx
              rw [← hs0] at hat ⊢
              have HNX := Lib.hid hnx
              have HT := Lib.hid hT
              clear hown hb hxs hlx hnx hT hs0
              have hfin : ∀ hd : Nat, hd = heldN l T → (wr.setCell ⟨g, j, none⟩ (.int .i64 (hd : Nat))).ownsRow w.heap.size 3 1 (.slice (some ⟨g, 0, none⟩) N N) N (xs.set j (.int .i64 (hd : Nat))) ∧ (xs.set j (.int .i64 (hd : Nat))).take (j + 1) = (masksV l (j + 1)).map (.int .i64) ∧ Below w.heap.size w (wr.setCell ⟨g, j, none⟩ (.int .i64 (hd : Nat))) := fun hd hhd => by
                refine ⟨(HO.out.stored j (.int .i64 (hd : Nat))).1, ?_, HB.out.setCell HG.out _⟩
                rw [masksV_snoc, List.map_append, HNX.out, ← hhd, ← HXS.out, take_set_succ _ _ _ (by have := HLX.out; omega)]
                rfl
              have HFIN := Lib.hid hfin
              clear hfin
              go_wp2
              go_loop [7, 8] (fun p s => ∃ q : Nat, q ≤ l.length ∧ s = .int .i64 q ∧ p = .int .i64 (heldN l q : Nat) ∧ advTo l j q = T) (fun _ s => l.length - (intOf s).toNat)
              case atStart => exact ⟨s0, hat, rfl, rfl, HT.out.symm⟩
              case round =>
                obtain ⟨q, hq, rfl, rfl, hadv⟩ := hrel
                have hlt32 := heldN_lt (l := l) (n := q) fun i hi => HK.out i (by omega)
                by_cases hql : q < l.length
                · rcases rd_evs HR0.out with ⟨hnil, _⟩ | ⟨b, off, cap1, _, hu, hbl, hc⟩
                  · exfalso; rw [hnil] at hql; simp at hql
                  · simp only [Value.slice.injEq] at hu
                    obtain ⟨rfl, _, rfl⟩ := hu
                    obtain ⟨c0, c1, c2⟩ := hc q hql
                    have r0 := (HB.out.cell (p := ⟨b, off + q * 3, none⟩) hbl).trans c0
                    have r1 := (HB.out.cell (p := ⟨b, off + q * 3 + 1, none⟩) hbl).trans c1
                    obtain ⟨k0, k31⟩ := HK.out q hql
                    have hst2 : (evD l q).t ≤ j → advTo l j (q + 1) = T := fun h => by rw [advTo_step hql h, hadv]
                    have hsp : ¬ (evD l q).t ≤ j → q = T := fun h => by rw [← hadv, advTo_stop hql h]
                    have hhn : heldN l (q + 1) = heldN l q ^^^ 2 ^ (evD l q).k.toNat := by rw [heldN]
                    obtain ⟨et, het⟩ : ∃ x, x = (evD l q).t := ⟨_, rfl⟩
                    obtain ⟨ek, hek⟩ : ∃ x, x = (evD l q).k := ⟨_, rfl⟩
                    obtain ⟨hd, hhd⟩ : ∃ x, x = heldN l q := ⟨_, rfl⟩
                    rw [← het] at r0 hst2 hsp
                    rw [← hek] at r1 k0 k31 hhn
                    rw [← hhd] at hhn hlt32 ⊢
                    obtain ⟨kn, rfl⟩ := Int.eq_ofNat_of_zero_le k0
                    have HST := Lib.hid hst2
                    have HSP := Lib.hid hsp
                    have HHD := Lib.hid hhd
                    clear c0 c1 c2 hc hst2 hsp het hek hhd hadv
                    by_cases hle : et ≤ j
                    · have hw := wrap64_pow62 (k := kn) (by omega)
                      have hp : 2 ^ kn < 2 ^ 32 := Nat.pow_lt_pow_right (by decide) (by omega)
                      have hx := xor_nat hd (2 ^ kn) (by omega) (by omega)
                      simp only [Int.toNat_natCast] at hhn
                      obtain ⟨p, hpd⟩ : ∃ p, p = 2 ^ kn := ⟨_, rfl⟩
                      rw [← hpd] at hw hx hhn
                      have HHN := Lib.hid hhn
                      have HST2 := Lib.hid (HST.out hle)
                      clear hhn hpd hp
                      go_wp2
                      go_round
                      case rel => exact ⟨q + 1, by omega, by go_num, by rw [HHN.out], HST2.out⟩
                      case measure => simp [intOf]; omega
                    · obtain rfl : q = T := HSP.out hle
                      have HF := Lib.hid (HFIN.out hd HHD.out)
                      clear hhn
                      go_wp2
                      go_roundw
                      case rel => exact ⟨j + 1, _, by omega, by go_num, by rw [HNX.out], by rw [HNX.out, ← HHD.out], HF.out.1, HF.out.2.1, HF.out.2.2⟩
                      case measure => simp [intOf]; omega
                · obtain rfl : q = l.length := by omega
                  obtain rfl : l.length = T := by rw [← hadv, advTo_end (Nat.le_refl _)]
                  obtain ⟨hd, hhd⟩ : ∃ x, x = heldN l l.length := ⟨_, rfl⟩
                  rw [← hhd] at hlt32 ⊢
                  have HHD := Lib.hid hhd
                  have HF := Lib.hid (HFIN.out hd hhd)
                  clear hhd hadv
                  go_wp2
                  go_roundw
                  case rel => exact ⟨j + 1, _, by omega, by go_num, by rw [HNX.out], by rw [HNX.out, ← HHD.out], HF.out.1, HF.out.2.1, HF.out.2.2⟩
                  case measure => simp [intOf]; omega
            · obtain rfl : j = N := by omega
              have hxe : xs = (masksV l j).map (.int .i64) := by rw [← HXS.out, List.take_of_length_le (by omega)]
              have HXE := Lib.hid hxe
              clear hown hb hat hxs hlx hxe
              go_wp2
              go_ret2
              refine ⟨.slice (some ⟨g, 0, none⟩) j j, ?_, ?_, HB.out⟩
              · rw [HRR.out]; rfl
              · have ho := HO.out
                rw [HXE.out] at ho
                rw [HRR.out]; simpa [masksV_len] using ho

end Go.Proofs.Ytkhakelhfnoeoaa
