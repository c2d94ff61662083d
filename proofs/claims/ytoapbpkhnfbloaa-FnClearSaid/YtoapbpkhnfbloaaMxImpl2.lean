/- DERIVED. The program's ReadMatrix and the functions over it, each called with any matrix and any numbers: it returns what a plain function says, which is what the reference's returns. -/
import Derived.Test.YtoapbpkhnfbloaaMxRows
namespace Go.Proofs.Ytoapbpkhnfbloaa
open Go.RowKit

theorem passL_mem {C R m : Nat} (n : Nat) : ∀ s ∈ passL (rowsL C R m) n, s < 2 ^ C := fun s hs => by
  have I := inv_all C R m n
  obtain ⟨t, ht, rfl⟩ := mem_getD hs
  exact I.lt t (by rw [← I.len]; exact ht)
set_option maxHeartbeats 2000000 in
theorem implReadMatrix_any (R C : Int) (D : Bool) (x : Int) (w : World) : Calls Try.prog 6 #[mx R C D, .int .i64 x] w fun e w' => e = .returned (.tuple #[.int .i64 (readV R C D x), .bool (okMask R C x)]) ∧ Below w.heap.size w w' := by
  obtain ⟨ok, hok⟩ : ∃ ok, ok = okMask R C x := ⟨_, rfl⟩
  obtain ⟨v, hv⟩ : ∃ v, v = readV R C D x := ⟨_, rfl⟩
  rw [← hok, ← hv]
  cases ok
  · have hv0 : v = 0 := by rw [hv, readV, ← hok]; rfl
    subst hv0
    have HO := Lib.hid hok
    clear hok hv
    obtain ⟨W, hW⟩ : ∃ W, W = w.alloc (.cells #[.int .i64 (R), .int .i64 (C), .bool D] 25) := ⟨_, rfl⟩
    have HX0 := Lib.hid (show Boxed W w.heap.size (R) (C) D by rw [hW]; exact boxed_new _ _ _ _ _)
    have HB0 := Lib.hid (show Below w.heap.size w W by rw [hW]; exact (Below.refl _ _).alloc (Nat.le_refl _) _)
    have HS0 := Lib.hid (show w.heap.size < W.heap.size by rw [hW]; simp)
    have HW := Lib.hid hW
    clear hW
    go_enter Try.func6, Try.ntmps6
    go_wp2_with fail
    refine (implIsMask_any R C D x _).mono ?_
    rw [← HO.out]
    rintro e w1 ⟨rfl, hb⟩
    rw [← HW.out] at hb
    have HB1 := Lib.hid (HB0.out.trans (hb.mono HB0.out.size))
    have HS1 := Lib.hid (Nat.lt_of_lt_of_le HS0.out hb.size)
    have HX1 := Lib.hid (HX0.out.below hb HS0.out)
    obtain ⟨c0, c1, c2⟩ := HX1.out
    clear hb
    go_wp2
    go_ret2
    exact ⟨rfl, HB1.out⟩
  · obtain ⟨r, c, m, rfl, rfl, rfl, h1, h2, h3, h4, hm⟩ := okMask_nat hok.symm
    rw [readV_nat D hok.symm] at hv
    have HO := Lib.hid hok
    have HM := Lib.hid hm
    cases D
    · have hvN : v = (implM r c m : Int) := by rw [hv, implM_eq h1 h2 h3 hm]; rfl
      have HV := Lib.hid hvN
      have hm24 : m < 16777216 := Nat.lt_of_lt_of_le hm (top24 h4 h2)
      clear hok hv hm hvN
      obtain ⟨W, hW⟩ : ∃ W, W = w.alloc (.cells #[.int .i64 (r), .int .i64 (c), .bool false] 25) := ⟨_, rfl⟩
      have HX0 := Lib.hid (show Boxed W w.heap.size (r) (c) false by rw [hW]; exact boxed_new _ _ _ _ _)
      have HB0 := Lib.hid (show Below w.heap.size w W by rw [hW]; exact (Below.refl _ _).alloc (Nat.le_refl _) _)
      have HS0 := Lib.hid (show w.heap.size < W.heap.size by rw [hW]; simp)
      have HW := Lib.hid hW
      clear hW
      go_enter Try.func6, Try.ntmps6
      go_wp2_with fail
      refine (implIsMask_any r c false m _).mono ?_
      rw [← HO.out]
      rintro e w1 ⟨rfl, hb⟩
      rw [← HW.out] at hb
      have HB1 := Lib.hid (HB0.out.trans (hb.mono HB0.out.size))
      have HS1 := Lib.hid (Nat.lt_of_lt_of_le HS0.out hb.size)
      have HX1 := Lib.hid (HX0.out.below hb HS0.out)
      obtain ⟨c0, c1, c2⟩ := HX1.out
      clear hb
      go_wp2_with fail
      refine (rowsOf_any r c m false _ h1 h2 h4 hm24).mono ?_
      rintro e w2 ⟨rfl, hown, hb⟩
      obtain ⟨g, hg⟩ : ∃ g, g = w1.heap.size + 1 := ⟨_, rfl⟩
      rw [← hg] at hown ⊢
      have hgw : w.heap.size < g := by have := HS1.out; omega
      have hbase : w.heap.size ≤ w1.heap.size := Nat.le_of_lt HS1.out
      have hgB : w1.heap.size ≤ g := by omega
      have HB2 := Lib.hid (HB1.out.trans (hb.mono HB1.out.size))
      have HX2 := Lib.hid (HX1.out.below hb HS1.out)
      obtain ⟨c0, c1, c2⟩ := HX2.out
      have HO2 := Lib.hid hown
      have HG := Lib.hid hg
      clear hb hown hg
      go_wp2
      clear c0 c1 c2
      go_loopw [7, 23] (fun _ i wr => ∃ k : Nat, k ≤ c ∧ i = .int .i64 k ∧ wr.ownsRow w1.heap.size 41 1 (.slice (some ⟨g, 0, none⟩) r r) r (nvals (passL (rowsL c r m) k)) ∧ Below w.heap.size w wr ∧ Boxed wr w.heap.size r c false) (fun _ i _ => c - (intOf i).toNat)
      case atStart => exact ⟨0, Nat.zero_le _, rfl, HO2.out, HB2.out, HX2.out⟩
      case round =>
        obtain ⟨k, hk, rfl, hown, hb, hx⟩ := hrel
        have HO3 := Lib.hid hown
        have HB3 := Lib.hid hb
        have HX3 := Lib.hid hx
        clear hown hb hx
        by_cases hlt : k < c
        · have hlen : (passL (rowsL c r m) k).length = r := by rw [passL_len, rowsL_len]
          have hmem : ∀ s ∈ passL (rowsL c r m) k, s < 2 ^ 62 := fun s hs => Nat.lt_of_lt_of_le (passL_mem k s hs) (Nat.pow_le_pow_right (by omega) (by omega))
          have HL := Lib.hid hlen
          have HM2 := Lib.hid hmem
          clear hlen hmem
          go_wp2_with fail
          refine (joinRows_any w1.heap.size g r k (passL (rowsL c r m) k) _ HL.out (by omega) (by omega) HM2.out HO3.out).mono ?_
          rintro e w4 ⟨rfl, hown, hgr⟩
          have HO4 := Lib.hid hown
          have HB4 := Lib.hid (HB3.out.grown hgr HB3.out.size (fun j hj => by cases hj; omega))
          have HX4 := Lib.hid (HX3.out.below ((Below.refl (w.heap.size + 1) wr).grown hgr (World.block_lt_of_cell? wr _ HX3.out.1) (fun j hj => by cases hj; omega)) (by omega))
          clear hown hgr
          go_wp2
          go_roundw
          case rel => exact ⟨k + 1, by omega, by go_num, HO4.out, HB4.out, HX4.out⟩
          case measure => simp [intOf]; omega
        · obtain rfl : k = c := by omega
          go_wp2
          go_loopw [8, 32] (fun o i wr => ∃ j : Nat, j ≤ r ∧ i = .int .i64 j ∧ o = .int .i64 (accL k (passL (rowsL k r m) k) j : Nat) ∧ wr.ownsRow w1.heap.size 41 1 (.slice (some ⟨g, 0, none⟩) r r) r (nvals (passL (rowsL k r m) k)) ∧ Below w.heap.size w wr ∧ Boxed wr w.heap.size r k false) (fun _ i _ => r - (intOf i).toNat)
          case atStart => exact ⟨0, Nat.zero_le _, rfl, rfl, HO3.out, HB3.out, HX3.out⟩
          case round =>
            obtain ⟨j, hj, rfl, rfl, hown, hb, hx⟩ := hrel
            obtain ⟨c0, c1, c2⟩ := hx
            have HO4 := Lib.hid hown
            have HB4 := Lib.hid hb
            have HX4 := Lib.hid (show Boxed wr w.heap.size r k false from ⟨c0, c1, c2⟩)
            obtain ⟨y, hy⟩ : ∃ y, y = accL k (passL (rowsL k r m) k) j := ⟨_, rfl⟩
            have I := inv_all k r m k
            have hy62 : y < 2 ^ 62 := by rw [hy]; exact lt62 h2 h4 (accL_lt I.lt j hj)
            rw [← hy]
            clear hown hb
            by_cases hlt2 : j < r
            · obtain ⟨s, hsd⟩ : ∃ s, s = (passL (rowsL k r m) k).getD j 0 := ⟨_, rfl⟩
              have hsk : s < 2 ^ k := by rw [hsd]; exact I.lt j hlt2
              have hcell : wr.cell? ⟨g, j, none⟩ = some (.int .i64 s) := by
                have h1 := HO4.out.cellAt j (by simpa using hlt2)
                rw [h1, List.getElem?_eq_getElem (by rw [nvals_len, I.len]; exact hlt2), nvals_at, ← hsd]
              have hnext : accL k (passL (rowsL k r m) k) (j + 1) = y ||| s * 2 ^ (j * k) := by rw [accL, ← hy, ← hsd]
              have hq62 : s * 2 ^ (j * k) < 2 ^ 62 := by
                have a1 : s * 2 ^ (j * k) < 2 ^ k * 2 ^ (j * k) := Nat.mul_lt_mul_of_pos_right hsk (Nat.two_pow_pos _)
                have a2 : 2 ^ k * 2 ^ (j * k) ≤ 2 ^ 62 := by
                  rw [← Nat.pow_add]
                  have := rc_le h4 (show j ≤ 4 by omega)
                  exact Nat.pow_le_pow_right (by omega) (by omega)
                omega
              have hor := or_nat y (s * 2 ^ (j * k)) hy62 hq62
              have hsz : g < wr.heap.size := World.block_lt_of_cell? wr _ hcell
              obtain ⟨q, hq⟩ : ∃ q, q = s * 2 ^ (j * k) := ⟨_, rfl⟩
              rw [← hq] at hor hnext
              have HQ := Lib.hid hq
              have HN := Lib.hid hnext
              have HY := Lib.hid hy
              have HSD := Lib.hid hsd
              clear hq hnext hy hsd I hq62
              go_wp2_with fail
              refine (rowMask_any r s k j false _ h4 (by omega) hsk).mono ?_
              rw [← HQ.out]
              rintro e w5 ⟨rfl, hb⟩
              have HO5 := Lib.hid (owns_below HO4.out hb)
              have HB5 := Lib.hid (HB4.out.trans (hb.mono HB4.out.size))
              have HX5 := Lib.hid (HX4.out.below hb (by omega))
              clear hb
              go_wp2
              go_roundw
              case rel => exact ⟨j + 1, by omega, by go_num, by rw [HN.out], HO5.out, HB5.out, HX5.out⟩
              case measure => simp [intOf]; omega
            · obtain rfl : j = r := by omega
              have hv : v = (y : Int) := by rw [HV.out, hy]; rfl
              have HV2 := Lib.hid hv
              clear hy hv
              go_wp2
              go_ret2
              exact ⟨ret_ib HV2.out.symm, HB4.out⟩
    · have hvN : v = (m : Int) := by rw [hv]; rfl
      have HV := Lib.hid hvN
      clear hok hv hm hvN
      obtain ⟨W, hW⟩ : ∃ W, W = w.alloc (.cells #[.int .i64 (r), .int .i64 (c), .bool true] 25) := ⟨_, rfl⟩
      have HX0 := Lib.hid (show Boxed W w.heap.size (r) (c) true by rw [hW]; exact boxed_new _ _ _ _ _)
      have HB0 := Lib.hid (show Below w.heap.size w W by rw [hW]; exact (Below.refl _ _).alloc (Nat.le_refl _) _)
      have HS0 := Lib.hid (show w.heap.size < W.heap.size by rw [hW]; simp)
      have HW := Lib.hid hW
      clear hW
      go_enter Try.func6, Try.ntmps6
      go_wp2_with fail
      refine (implIsMask_any r c true m _).mono ?_
      rw [← HO.out]
      rintro e w1 ⟨rfl, hb⟩
      rw [← HW.out] at hb
      have HB1 := Lib.hid (HB0.out.trans (hb.mono HB0.out.size))
      have HS1 := Lib.hid (Nat.lt_of_lt_of_le HS0.out hb.size)
      have HX1 := Lib.hid (HX0.out.below hb HS0.out)
      obtain ⟨c0, c1, c2⟩ := HX1.out
      clear hb
      go_wp2
      go_ret2
      exact ⟨ret_ib HV.out.symm, HB1.out⟩

end Go.Proofs.Ytoapbpkhnfbloaa
