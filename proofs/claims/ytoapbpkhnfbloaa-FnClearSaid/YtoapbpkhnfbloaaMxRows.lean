/- DERIVED. The program's rowsOf and joinRows: the rows of a mask as sets of columns; the rows that have a column get each other's columns. -/
import Derived.Test.YtoapbpkhnfbloaaMxImpl
import Derived.StillTailTactics
namespace Go.Proofs.Ytoapbpkhnfbloaa
open Go.RowKit

theorem info_row : (Try.prog.info? 41).map (fun i => (i.zero, i.size, i.bytes)) = some (some (.int .i64 0), 1, 8) := by kernel_rfl

/-- Numbers as values. -/
def nvals (l : List Nat) : List Value := l.map fun (n : Nat) => .int .i64 (n : Int)
theorem nvals_len (l : List Nat) : (nvals l).length = l.length := by simp [nvals]
theorem nvals_done {l : List Nat} {xs : List Value} (hl : xs.length = l.length) (h : ∀ j, j < l.length → xs[j]? = some (.int .i64 (l.getD j 0 : Nat))) : xs = nvals l := by
  apply List.ext_getElem?
  intro j
  by_cases hj : j < l.length
  · rw [h j hj]; simp [nvals, List.getElem?_eq_getElem hj]
  · rw [List.getElem?_eq_none (by omega), List.getElem?_eq_none (by rw [nvals_len]; omega)]
theorem nvals_at {l : List Nat} {j : Nat} (h : j < (nvals l).length) : (nvals l)[j] = .int .i64 (l.getD j 0 : Nat) := by
  have : j < l.length := by rw [nvals_len] at h; exact h
  simp [nvals, List.getElem?_eq_getElem this]

theorem rowsL_getD {c r m j : Nat} (h : j < r) : (rowsL c r m).getD j 0 = rowOf c m j := by simp [rowsL, h]
theorem rowsL_len (c r m : Nat) : (rowsL c r m).length = r := by simp [rowsL]
set_option maxHeartbeats 1000000 in
theorem rowsOf_any (r c m : Nat) (D : Bool) (w : World) (h1 : 1 ≤ r) (h2 : r ≤ 4) (h4 : c ≤ 6) (hm : m < 16777216) :
    Calls Try.prog 14 #[mx r c D, .int .i64 m] w fun e w' => e = .returned (.slice (some ⟨w.heap.size + 1, 0, none⟩) r r) ∧ w'.ownsRow w.heap.size 41 1 (.slice (some ⟨w.heap.size + 1, 0, none⟩) r r) r (nvals (rowsL c r m)) ∧ Below w.heap.size w w' := by
  obtain ⟨i0, hi, hz0, hz1, hz2⟩ := info_parts info_row
  have hpow := pow_top (n := c) (by omega)
  have e2 : IntKind.i64.wrap ((2 : Int) ^ c) = 2 ^ c := IntWalk.i64_in _ ⟨by omega, by omega⟩
  have e3 : IntKind.i64.wrap ((2 : Int) ^ c - 1) = 2 ^ c - 1 := IntWalk.i64_in _ ⟨by omega, by omega⟩
  have E2 := Lib.hid e2
  have E3 := Lib.hid e3
  clear e2 e3
  obtain ⟨hpow0, hpow1⟩ := hpow
  obtain ⟨W, hW⟩ : ∃ W, W = w.alloc (.cells #[.int .i64 (r), .int .i64 (c), .bool D] 25) := ⟨_, rfl⟩
  have HX0 := Lib.hid (show Boxed W w.heap.size (r) (c) D by rw [hW]; exact boxed_new _ _ _ _ _)
  have HB0 := Lib.hid (show Below w.heap.size w W by rw [hW]; exact (Below.refl _ _).alloc (Nat.le_refl _) _)
  have HS0 := Lib.hid (show w.heap.size < W.heap.size by rw [hW]; simp)
  have HW := Lib.hid hW
  clear hW
  go_enter Try.func14, Try.ntmps14
  go_wp2_with (at_make; refine wpList_make_full _ rfl _ _ 38 rfl w.heap.size 41 i0 (.int .i64 0) 1 Try.underlying38 hi hz0 hz1 .i64 .i64 _ _ r rfl rfl rfl rfl ?_ ?_ ?_ ?_)
  · simp [hz2]; omega
  · simp [maxLen]; omega
  · rw [← HW.out]; exact HB0.out.size
  · intro w1 hown hg
    rw [← HW.out] at hg
    have hbW : Below W.heap.size W w1 := (Below.refl _ _).grown hg (Nat.le_refl _) (fun k hk => by cases hk)
    have HB1 := Lib.hid (HB0.out.trans (hbW.mono HB0.out.size))
    have HX1 := Lib.hid (HX0.out.below hbW HS0.out)
    have HO1 := Lib.hid hown
    have hsz : W.heap.size = w.heap.size + 1 := by rw [HW.out]; simp
    have HZ := Lib.hid hsz
    clear hown hg hbW hsz
    go_wp2
    go_loopw [6, 12] (fun _ i wr => ∃ (k : Nat) (xs : List Value), k ≤ r ∧ i = .int .i64 k ∧ wr.ownsRow w.heap.size 41 1 (.slice (some ⟨w.heap.size + 1, 0, none⟩) r r) r xs ∧ (∀ j, j < k → xs[j]? = some (.int .i64 (rowOf c m j : Nat))) ∧ Below w.heap.size w wr ∧ Boxed wr w.heap.size r c D)
      (fun _ i _ => r - (intOf i).toNat)
    case atStart => exact ⟨0, _, Nat.zero_le _, rfl, HO1.out, fun j hj => by omega, HB1.out, HX1.out⟩
    case round =>
      obtain ⟨k, xs, hk, rfl, hown, hxs, hb, hx⟩ := hrel
      have hlx : xs.length = r := by simpa using hown.1
      by_cases hlt : k < r
      · have hp := rc_le h4 (show k ≤ 4 by omega)
        obtain ⟨p, hpe⟩ : ∃ p, p = k * c := ⟨_, rfl⟩
        rw [← hpe] at hp
        have e1 : IntKind.i64.wrap ((k : Int) * (c : Int)) = (p : Int) := by
          rw [IntWalk.i64_in _ ⟨by rw [← Int.natCast_mul, ← hpe]; omega, by rw [← Int.natCast_mul, ← hpe]; omega⟩, hpe, Int.natCast_mul]
        have e4 : bits .and .i64 ((m : Int) / 2 ^ p) (2 ^ c - 1) = (rowOf c m k : Int) := by rw [hpe]; exact row_bits c m k h4 hm
        have e2 := E2.out
        have e3 := E3.out
        obtain ⟨y, hst⟩ : ∃ y, wr.cell? ⟨w.heap.size + 1, k, none⟩ = some y := ⟨xs[k]'(by omega), by rw [hown.cellAt k (by omega), List.getElem?_eq_getElem (show k < xs.length by omega)]⟩
        have hfr := hown.frozenAt k
        have hsto := hown.stored k (.int .i64 (rowOf c m k : Nat))
        obtain ⟨c0, c1, c2⟩ := hx
        have HX := Lib.hid (show Boxed wr w.heap.size r c D from ⟨c0, c1, c2⟩)
        have HS := Lib.hid hsto
        have HXS := Lib.hid hxs
        have HO := Lib.hid hown
        have HL := Lib.hid hlx
        have HB := Lib.hid hb
        have HP := Lib.hid hpe
        clear hsto hxs hown hlx hb hpe
        go_wp2
        go_still_tail 14, (by kernel_rfl)
        go_wp2
        go_roundw
        case rel =>
          refine ⟨k + 1, _, by omega, by go_num, HS.out.1.drew, fun j hj => ?_, (HB.out.setCell (by simp) _).drew, HX.out.below (((Below.refl (w.heap.size + 1) wr).setCell (Nat.le_refl _) _).drew) (by omega)⟩
          by_cases hjk : j = k
          · subst hjk
            rw [List.getElem?_set]; simp [HL.out, hlt]
          · rw [List.getElem?_set, if_neg (by omega)]; exact HXS.out j (by omega)
        case measure => simp [intOf]; omega
      · obtain rfl : k = r := by omega
        have hdone := nvals_done (l := rowsL c k m) (by rw [hlx, rowsL_len]) (fun j hj => by
          rw [rowsL_len] at hj
          rw [hxs j hj, rowsL_getD hj])
        rw [hdone] at hown
        have HO := Lib.hid hown
        have HB := Lib.hid hb
        clear hown hb hxs hx hlx hdone
        go_wp2
        go_ret
        exact ⟨rfl, HO.out, HB.out⟩

theorem joinAcc_snoc (col : Nat) (l : List Nat) (s : Nat) : joinAcc col (l ++ [s]) = if s.testBit col = true then joinAcc col l ||| s else joinAcc col l := by
  unfold joinAcc
  rw [List.foldl_append]
  rfl
theorem joinAcc_lt {col b : Nat} {l : List Nat} (h : ∀ s ∈ l, s < 2 ^ b) : joinAcc col l < 2 ^ b := by
  apply Nat.lt_pow_two_of_testBit
  intro i hi
  cases hx : (joinAcc col l).testBit i
  · rfl
  · obtain ⟨s, hs, _, h2⟩ := (joinAcc_bit col i l).mp hx
    have := bit_lt (h s hs) h2
    omega
theorem take_snocN (l : List Nat) (k : Nat) (h : k < l.length) : l.take (k + 1) = l.take k ++ [l.getD k 0] := by
  rw [List.take_succ_eq_append_getElem h]
  simp [List.getElem?_eq_getElem h]
theorem nvals_set (l : List Nat) (k x : Nat) : (nvals l).set k (.int .i64 (x : Int)) = nvals (l.set k x) := by
  simp [nvals, List.map_set]

set_option maxHeartbeats 2000000 in
theorem joinRows_any (B g n col : Nat) (l : List Nat) (w : World) (hl : l.length = n) (hn : n ≤ 1000) (hcol : col < 62) (hs : ∀ s ∈ l, s < 2 ^ 62) (hown : w.ownsRow B 41 1 (.slice (some ⟨g, 0, none⟩) n n) n (nvals l)) :
    Calls Try.prog 15 #[.slice (some ⟨g, 0, none⟩) n n, .int .i64 col] w fun e w' => e = .returned (.tuple #[]) ∧ w'.ownsRow B 41 1 (.slice (some ⟨g, 0, none⟩) n n) n (nvals (joinL col l)) ∧ w.grownBy w' (some g) := by
  have HN := Lib.hid hl
  have HS := Lib.hid hs
  have HO := Lib.hid hown
  clear hl hs hown
  go_enter Try.func15, Try.ntmps15
  go_wp2
  go_loop [4, 11] (fun t i => ∃ k : Nat, k ≤ n ∧ i = .int .i64 k ∧ t = .int .i64 (joinAcc col (l.take k) : Nat)) (fun _ i => n - (intOf i).toNat)
  case atStart => exact ⟨0, Nat.zero_le _, rfl, rfl⟩
  case round =>
    obtain ⟨k, hk, rfl, rfl⟩ := hrel
    obtain ⟨x, hx⟩ : ∃ x, x = joinAcc col (l.take k) := ⟨_, rfl⟩
    have hx62 : x < 2 ^ 62 := by rw [hx]; exact joinAcc_lt fun s hs => HS.out s (List.mem_of_mem_take hs)
    rw [← hx]
    by_cases hlt : k < n
    · obtain ⟨s, hsd⟩ : ∃ s, s = l.getD k 0 := ⟨_, rfl⟩
      have hs62 : s < 2 ^ 62 := by rw [hsd]; exact HS.out _ (getD_mem (by rw [HN.out]; exact hlt))
      have hcell : w.cell? ⟨g, k, none⟩ = some (.int .i64 s) := by
        have h1 := HO.out.cellAt k (by simpa using hlt)
        rw [h1, List.getElem?_eq_getElem (by rw [nvals_len, HN.out]; exact hlt), nvals_at, ← hsd]
      have hnext := take_snocN l k (by rw [HN.out]; exact hlt)
      rw [← hsd] at hnext
      have hor := or_nat x s hx62 hs62
      obtain ⟨t, ht⟩ : ∃ t, t = s.testBit col := ⟨_, rfl⟩
      have hacc : joinAcc col (l.take (k + 1)) = if t = true then x ||| s else x := by rw [hnext, joinAcc_snoc, ← hx, ht]
      have HA := Lib.hid hacc
      have HT := Lib.hid ht
      clear hx hsd hnext hacc ht
      cases t
      · go_wp2_with fail
        refine (rowHas_any s col _ hs62 hcol).mono ?_
        rw [← HT.out]
        rintro e w' ⟨rfl, rfl⟩
        go_wp2
        go_round
        case rel => exact ⟨k + 1, by omega, by go_num, by rw [HA.out]; rfl⟩
        case measure => simp [intOf]; omega
      · go_wp2_with fail
        refine (rowHas_any s col _ hs62 hcol).mono ?_
        rw [← HT.out]
        rintro e w' ⟨rfl, rfl⟩
        go_wp2
        go_round
        case rel => exact ⟨k + 1, by omega, by go_num, by rw [HA.out]; rfl⟩
        case measure => simp [intOf]; omega
    · obtain rfl : k = n := by omega
      have hJ : x = joinAcc col l := by rw [hx, List.take_of_length_le (by rw [HN.out]; omega)]
      have HJ := Lib.hid hJ
      clear hx hJ
      go_wp2
      go_loopw [24] (fun i wr => ∃ (j : Nat) (xs : List Nat), j ≤ k ∧ i = .int .i64 j ∧ xs.length = k ∧ (∀ q, q < j → xs.getD q 0 = (joinL col l).getD q 0) ∧ (∀ q, j ≤ q → xs.getD q 0 = l.getD q 0) ∧ wr.ownsRow B 41 1 (.slice (some ⟨g, 0, none⟩) k k) k (nvals xs) ∧ w.grownBy wr (some g)) (fun i _ => k - (intOf i).toNat)
      case atStart => exact ⟨0, l, Nat.zero_le _, rfl, HN.out, fun q hq => by omega, fun q _ => rfl, HO.out, grown_refl _ _⟩
      case round =>
        obtain ⟨j, xs, hj, rfl, hlx, hq1, hq2, hown, hgr⟩ := hrel
        have HLX := Lib.hid hlx
        have H1 := Lib.hid hq1
        have H2 := Lib.hid hq2
        have HW := Lib.hid hown
        have HG := Lib.hid hgr
        clear hlx hq1 hq2 hown hgr
        by_cases hlt : j < k
        · obtain ⟨s, hsd⟩ : ∃ s, s = l.getD j 0 := ⟨_, rfl⟩
          have hs62 : s < 2 ^ 62 := by rw [hsd]; exact HS.out _ (getD_mem (by rw [HN.out]; exact hlt))
          have hcell : wr.cell? ⟨g, j, none⟩ = some (.int .i64 s) := by
            have h1 := HW.out.cellAt j (by simpa using hlt)
            rw [h1, List.getElem?_eq_getElem (by rw [nvals_len, HLX.out]; exact hlt), nvals_at, H2.out j (Nat.le_refl _), ← hsd]
          have hgd := joinL_getD (col := col) (l := l) (r := j) (by rw [HN.out]; exact hlt)
          rw [← hsd, ← HJ.out] at hgd
          obtain ⟨t, ht⟩ : ∃ t, t = s.testBit col := ⟨_, rfl⟩
          rw [← ht] at hgd
          have HGD := Lib.hid hgd
          have HT := Lib.hid ht
          have HSD := Lib.hid hsd
          clear hsd hgd ht
          cases t
          · go_wp2_with fail
            refine (rowHas_any s col _ hs62 hcol).mono ?_
            rw [← HT.out]
            rintro e w' ⟨rfl, rfl⟩
            go_wp2
            go_roundw
            case rel =>
              refine ⟨j + 1, xs, by omega, by go_num, HLX.out, fun q hq => ?_, fun q hq => H2.out q (by omega), HW.out, HG.out⟩
              by_cases hqj : q = j
              · subst hqj; rw [HGD.out, H2.out q (Nat.le_refl _), HSD.out]; rfl
              · exact H1.out q (by omega)
            case measure => simp [intOf]; omega
          · have hfr := HW.out.frozenAt j
            have hsto := HW.out.stored j (.int .i64 (x : Nat))
            rw [nvals_set] at hsto
            have HST := Lib.hid hsto
            clear hsto
            go_wp2_with fail
            refine (rowHas_any s col _ hs62 hcol).mono ?_
            rw [← HT.out]
            rintro e w' ⟨rfl, rfl⟩
            go_wp2
            go_roundw
            case rel =>
              refine ⟨j + 1, xs.set j x, by omega, by go_num, by rw [List.length_set]; exact HLX.out, fun q hq => ?_, fun q hq => ?_, HST.out.1, grown_trans HG.out HST.out.2⟩
              · by_cases hqj : q = j
                · subst hqj; rw [HGD.out, List.getD_eq_getElem?_getD, List.getElem?_set]; simp [HLX.out, hlt]
                · rw [List.getD_eq_getElem?_getD, List.getElem?_set, if_neg (by omega), ← List.getD_eq_getElem?_getD]; exact H1.out q (by omega)
              · rw [List.getD_eq_getElem?_getD, List.getElem?_set, if_neg (by omega), ← List.getD_eq_getElem?_getD]; exact H2.out q (by omega)
            case measure => simp [intOf]; omega
        · obtain rfl : j = k := by omega
          have hdone : xs = joinL col l := by
            apply List.ext_getElem (by rw [HLX.out, joinL, List.length_map, HN.out])
            intro q h1 h2
            have := H1.out q (by rw [HLX.out] at h1; exact h1)
            simpa [List.getD_eq_getElem?_getD, List.getElem?_eq_getElem h1, List.getElem?_eq_getElem h2] using this
          have HD := Lib.hid hdone
          clear hdone
          go_wp2
          go_end0
          exact ⟨rfl, by rw [← HD.out]; exact HW.out, HG.out⟩

end Go.Proofs.Ytoapbpkhnfbloaa
