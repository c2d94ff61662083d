/- DERIVED. The laws' own functions on slices of what was sent: the size, a copy in memory of its own, two that are alike. -/
import Derived.Test.YteljmfdlegohbaaSn
namespace Go.Proofs.Yteljmfdlegohbaa
open Go.RowKit

/-- What the size of what was sent tells: they are small, or the size is below zero. -/
def SzS (L : List Sv) (X : Int) (w : World) (e : Ending) (w' : World) : Prop := ∃ r : Int, e = .returned (.int .i64 r) ∧ (r < 0 ∨ (0 ≤ r ∧ r ≤ X ∧ r = X - (lenW L L.length : Int))) ∧ Below w.heap.size w w'
set_option maxRecDepth 100000 in
set_option maxHeartbeats 4000000 in
theorem szSentS_any (X : Int) (hX0 : 0 ≤ X) (hX : X ≤ 1048576) (v : Value) (L : List Sv) (w : World) (hn : L.length ≤ maxLen) (hm : ∀ r ∈ L, r.2.length ≤ maxLen) (h : RdQ snF w v L) :
    Calls Try.prog 42 #[v, .int .i64 X] w (SzS L X w) := by
  obtain ⟨va, vc, rfl, hc⟩ := sn_at h
  obtain ⟨N, hN⟩ : ∃ N, N = L.length := ⟨_, rfl⟩
  have HC := Lib.hid hc
  have HM := Lib.hid (fun j => qS_le hm j)
  have HNN := Lib.hid hN
  unfold maxLen at hn
  rw [← hN] at hn ⊢
  obtain ⟨p0, hp0⟩ : ∃ p0 : Int, p0 = X - (N : Int) := ⟨_, rfl⟩
  have hw0 : wrap64 (X - (N : Int)) = p0 := by rw [hp0]; exact IntWalk.wrap64_in _ ⟨by omega, by omega⟩
  have HP0 := Lib.hid hp0
  clear h hc hm hN
  by_cases hneg : p0 < 0
  · have hx1 : X - (N : Int) < 0 := by omega
    clear hp0 hw0
    go_enter Try.func42, Try.ntmps42
    go_wp2
    go_ret
    exact ⟨-1, rfl, .inl (by decide), Below.refl _ _⟩
  · have hN6 : N ≤ 1048576 := by omega
    have hx1 : ¬ X - (N : Int) < 0 := by omega
    clear hp0 hw0
    go_enter Try.func42, Try.ntmps42
    go_wp2
    go_loopw [5, 1] (fun i p wr => ∃ (j : Nat) (q : Int), j ≤ N ∧ i = .int .i64 j ∧ p = .int .i64 q ∧ 0 ≤ q ∧ q ≤ 1048576 ∧ q = X - (N : Int) - ((lenW L j : Nat) : Int) + (j : Int) ∧ Below w.heap.size w wr) (fun i _ _ => N - (intOf i).toNat)
    case atStart => exact ⟨0, p0, Nat.zero_le _, rfl, by rw [HP0.out], by omega, by have := HP0.out; omega, by have := HP0.out; rw [lenW]; omega, Below.refl _ _⟩
    case round =>
      obtain ⟨j, q, hj, rfl, rfl, hq0, hq1, hqe, hb⟩ := hrel
      have HQ := Lib.hid hqe
      have HB := Lib.hid hb
      clear hqe hb
      by_cases hlt : j < N
      · have hj0 : (0 : Int) ≤ (j : Int) := by omega
        have hjN : (j : Int) < (N : Int) := by omega
        obtain ⟨b, off, rfl, hltb, a, c, c0, c1, c2, -⟩ := HC.out j (by rw [← HNN.out]; exact hlt)
        obtain ⟨t, ht⟩ : ∃ t, t = (qD L j).1.1 := ⟨_, rfl⟩
        obtain ⟨m, hm⟩ : ∃ m, m = (qD L j).1.2 := ⟨_, rfl⟩
        obtain ⟨k, hk⟩ : ∃ k, k = (qD L j).2.length := ⟨_, rfl⟩
        have hkm : k ≤ maxLen := by rw [hk]; exact HM.out j
        rw [← ht] at c0
        rw [← hm] at c1
        rw [← hk] at c2
        have r0 := (HB.out.cell (p := ⟨b, off + j * 3, none⟩) hltb).trans c0
        have r1 := (HB.out.cell (p := ⟨b, off + j * 3 + 1, none⟩) hltb).trans c1
        have r2 := (HB.out.cell (p := ⟨b, off + j * 3 + 2, none⟩) hltb).trans c2
        have HK := Lib.hid hk
        clear c0 c1 c2 ht hm hk
        obtain ⟨z, hz⟩ : ∃ z : Int, z = if q < (k : Int) then -1 else q - (k : Int) := ⟨_, rfl⟩
        have HZ := Lib.hid hz
        go_wp2_with fail
        refine (szSent_any t m a k c q z hz _ hq0 (by omega) hkm).mono ?_
        clear hz
        rintro e w1 ⟨y, rfl, hy, hb1⟩
        have HB1 := Lib.hid (HB.out.trans (hb1.mono HB.out.size))
        have HY := Lib.hid hy
        clear hb1 r0 r1 r2 hy
        by_cases hyn : y < 0
        · go_wp2
          go_ret
          exact ⟨-1, rfl, .inl (by decide), HB1.out⟩
        · obtain rfl : y = z := HY.out.resolve_right (fun h => hyn h.1)
          have hze : ¬ q < (k : Int) := fun h2 => by have h1 := HZ.out; rw [if_pos h2] at h1; omega
          have hz2 : y = q - (k : Int) := HZ.out.trans (if_neg hze)
          have HZ2 := Lib.hid hz2
          have HZ3 := Lib.hid (show 0 ≤ y ∧ y ≤ 1048576 by omega)
          clear hze hz2
          go_wp2
          go_roundw
          case rel => exact ⟨j + 1, y, by omega, by go_num, rfl, HZ3.out.1, HZ3.out.2, by have h1 := HZ2.out; have h2 := HQ.out; have h3 := HK.out; rw [lenW, ← h3]; omega, HB1.out⟩
          case measure => simp [intOf]; omega
      · obtain rfl : j = N := by omega
        go_wp2
        go_ret
        exact ⟨q, rfl, .inr ⟨hq0, by have := HQ.out; have := lenW_ge L j; omega, by have := HQ.out; rw [← HNN.out]; omega⟩, HB.out⟩

set_option maxRecDepth 100000 in
set_option maxHeartbeats 4000000 in
theorem toSentS_any (v : Value) (L : List Sv) (w : World) (hn : L.length ≤ 1048576) (hm : ∀ r ∈ L, r.2.length ≤ 1048576) (h : RdQ snF w v L) :
    Calls Try.prog 44 #[v] w fun e w' => ∃ a c fp, e = .returned (.slice a L.length c) ∧ OwZ snF w' w.heap.size 2 (.slice a L.length c) L fp ∧ Below w.heap.size w w' := by
  obtain ⟨iR, hi, hz0, hz1, hz2⟩ := info_parts info_sn
  obtain ⟨va, vc, rfl, hc⟩ := sn_at h
  obtain ⟨m, hN⟩ : ∃ N, N = L.length := ⟨_, rfl⟩
  have HC := Lib.hid hc
  have HM := Lib.hid (fun j => qS_le hm j)
  have HNN := Lib.hid hN
  rw [← hN] at hn ⊢
  clear h hc hm hN
  go_enter Try.func44, Try.ntmps44
  go_wp2_with (at_make; refine wpList_make_full _ rfl _ _ 72 rfl w.heap.size 165 iR (.agg #[.int .i64 0, .int .i64 0, .slice none 0 0]) 3 Try.underlying72 hi hz0 hz1 .i64 .i64 _ _ m rfl rfl rfl rfl (by rw [hz2]; omega) ?_ ?_ ?_)
  · unfold maxLen; omega
  · exact Nat.le_refl _
  · intro w5 hown hg
    have hb5 : Below w.heap.size w w5 := (Below.refl _ _).grown hg (Nat.le_refl _) (fun k hk => by cases hk)
    obtain ⟨go, hgo⟩ : ∃ x, x = w.heap.size := ⟨_, rfl⟩
    rw [← hgo] at hown hb5 ⊢
    have HGO := Lib.hid hgo
    have HQ5 := Lib.hid (SnB.start hown)
    have HB5 := Lib.hid hb5
    clear hown hg hb5 hgo
    go_wp2
    go_loopw [4] (fun i wr => ∃ (j : Nat) (us : List Value) (fps : List (List Nat)), j ≤ m ∧ i = .int .i64 j ∧ SnB wr go go m us (L.take j) fps ∧ Below go w wr) (fun i _ => m - (intOf i).toNat)
    case atStart => exact ⟨0, [], [], Nat.zero_le _, rfl, HQ5.out, HB5.out⟩
    case round =>
      obtain ⟨j, us, fps, hj, rfl, hq, hb⟩ := hrel
      have HQ := Lib.hid hq
      have HB := Lib.hid hb
      clear hq hb
      by_cases hlt' : j < m
      · have hj0 : (0 : Int) ≤ (j : Int) := by omega
        have hjN : (j : Int) < (m : Int) := by omega
        have hjl : j < L.length := by rw [← HNN.out]; exact hlt'
        obtain ⟨b, off, rfl, hltb, a, c, c0, c1, c2, hrow⟩ := HC.out j hjl
        have htk : L.take (j + 1) = L.take j ++ [qD L j] := by
          rw [List.take_succ_eq_append_getElem hjl, qD, List.getD_eq_getElem?_getD, List.getElem?_eq_getElem hjl]; rfl
        have hkl := HM.out j
        obtain ⟨q, hqe⟩ : ∃ q, q = qD L j := ⟨_, rfl⟩
        rw [← hqe] at c0 c1 c2 hrow htk hkl
        obtain ⟨⟨tt, rr⟩, zz⟩ := q
        simp only at c0 c1 c2 hrow htk hkl
        have HTK := Lib.hid htk
        have HTL := Lib.hid (show (L.take j).length = j by rw [List.length_take]; omega)
        have hrow' := hrow.below (show Below w.heap.size w wr from HGO.out ▸ HB.out)
        have HRow := Lib.hid hrow'
        have r0 := (HB.out.cell (p := ⟨b, off + j * 3, none⟩) (by rw [HGO.out]; exact hltb)).trans c0
        have r1 := (HB.out.cell (p := ⟨b, off + j * 3 + 1, none⟩) (by rw [HGO.out]; exact hltb)).trans c1
        have r2 := (HB.out.cell (p := ⟨b, off + j * 3 + 2, none⟩) (by rw [HGO.out]; exact hltb)).trans c2
        have HKL := Lib.hid hkl
        have hgow : go ≤ wr.heap.size := HGO.out ▸ HB.out.size
        clear hqe htk hrow hrow' c0 c1 c2 hkl
        go_wp2_with fail
        refine (toSent_law tt rr _ zz _ HKL.out HRow.out).mono ?_
        rintro e w6 ⟨a6, c6, f6, rfl, ho6, hb6⟩
        obtain ⟨nz, hnz⟩ : ∃ x, x = zz.length := ⟨_, rfl⟩
        rw [← hnz] at ho6 ⊢
        have HQ6 := Lib.hid (HQ.out.below hb6)
        have HBW6 := Lib.hid (show Below go w w6 from HB.out.trans (hb6.mono hgow))
        have HO6 := Lib.hid ho6
        have HRG := Lib.hid (HQ.out.rng)
        obtain ⟨xs6, hx6, _⟩ := HQ6.out.own
        obtain ⟨p0, p1⟩ := owns_place hx6 (j * 3) (by omega)
        obtain ⟨p2, p3⟩ := owns_place hx6 (j * 3 + 1) (by omega)
        obtain ⟨p4, p5⟩ := owns_place hx6 (j * 3 + 2) (by omega)
        obtain ⟨y0, p0⟩ := Option.isSome_iff_exists.1 p0
        obtain ⟨y1, p2⟩ := Option.isSome_iff_exists.1 p2
        obtain ⟨y2, p4⟩ := Option.isSome_iff_exists.1 p4
        have HSz := Lib.hid hgow
        clear hnz ho6 hb6 hx6 r0 r1 r2 hgow
        go_wp2
        clear p0 p1 p2 p3 p4 p5
        obtain ⟨W7, eW7⟩ : ∃ x, x = putW w6 go (j * 3) [.int .i64 tt, .int .i64 rr, .slice a6 nz c6] := ⟨_, rfl⟩
        have cW7 := eW7.symm
        simp only [putW] at cW7
        rw [cW7]
        clear cW7
        have HQ7 := Lib.hid (show SnB W7 go go m (us ++ [.slice a6 nz c6]) (L.take (j + 1)) (fps ++ [f6]) from by
          have h9 := HQ6.out.push (S := wr.heap.size) (t := tt) (m := rr) (by rw [HTL.out]; exact hlt') HSz.out (fun b hb => (HRG.out b hb).2) HO6.out
          rw [HTL.out, ← HTK.out, ← eW7] at h9
          exact h9)
        have HB7 := Lib.hid (show Below go w W7 from by rw [eW7]; exact putW_below (Nat.le_refl go) _ _ _ HBW6.out)
        clear eW7
        go_roundw
        case rel => exact ⟨j + 1, _, _, by omega, by go_num, HQ7.out, HB7.out⟩
        case measure => simp [intOf]; omega
      · obtain rfl : j = m := by omega
        have HQ2 := Lib.hid (show SnB wr go go L.length us L fps by
          have h9 := HQ.out
          rw [List.take_of_length_le (by rw [HNN.out]; exact Nat.le_refl _), HNN.out] at h9
          exact h9)
        have HD := Lib.hid (show OwZ snF wr go 2 (.slice (some ⟨go, 0, none⟩) j j) L (go :: fps.flatten) by rw [HNN.out]; exact HQ2.out.done)
        go_wp2
        go_ret
        exact ⟨_, _, _, rfl, by rw [← HGO.out]; exact HD.out, by rw [← HGO.out]; exact HB.out⟩

end Go.Proofs.Yteljmfdlegohbaa
