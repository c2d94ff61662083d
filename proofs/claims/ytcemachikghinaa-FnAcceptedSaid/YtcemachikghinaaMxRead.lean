/- DERIVED. The reference's l2Read: called with a valid matrix and a mask of it, it returns what is read of the mask. -/
import Derived.Test.YtcemachikghinaaMx
namespace Go.Proofs.Ytcemachikghinaa
open Go.RowKit

theorem readS_succ (C r m n : Nat) : readS C r m (n + 1) = mrg C r n (readS C r m n) := rfl
theorem readR_succ (C R m n : Nat) : readR C R m (n + 1) = readS C n (readR C R m n) R := rfl
theorem readN_succ (C R m n : Nat) : readN C R m (n + 1) = readR C R (readN C R m n) R := rfl

theorem box_keep {b : Nat} {R C : Int} {D : Bool} {W w1 w2 : World} (hb : b < W.heap.size) (h0 : w1.cell? ⟨b, 0, none⟩ = some (.int .i64 R)) (h1 : w1.cell? ⟨b, 1, none⟩ = some (.int .i64 C)) (h2 : w1.cell? ⟨b, 2, none⟩ = some (.bool D)) (h3 : Below W.heap.size W w1) (h : Below w1.heap.size w1 w2) :
    w2.cell? ⟨b, 0, none⟩ = some (.int .i64 R) ∧ w2.cell? ⟨b, 1, none⟩ = some (.int .i64 C) ∧ w2.cell? ⟨b, 2, none⟩ = some (.bool D) ∧ Below W.heap.size W w2 := by
  have hs := h3.size
  refine ⟨?_, ?_, ?_, h3.trans (h.mono hs)⟩
  · rw [h.cell (p := ⟨b, 0, none⟩) (Nat.lt_of_lt_of_le hb hs)]; exact h0
  · rw [h.cell (p := ⟨b, 1, none⟩) (Nat.lt_of_lt_of_le hb hs)]; exact h1
  · rw [h.cell (p := ⟨b, 2, none⟩) (Nat.lt_of_lt_of_le hb hs)]; exact h2

set_option maxHeartbeats 2000000 in
set_option maxRecDepth 100000 in
theorem l2Read_any (R C m : Nat) (D : Bool) (w : World) (hR1 : 1 ≤ R) (hR : R ≤ 4) (hC : C ≤ 6) (hm : m < 2 ^ (R * C)) :
    Calls Try.prog 43 #[mx R C D, .int .i64 m] w fun e w' => e = .returned (.int .i64 (readM R C D m)) ∧ Below w.heap.size w w' := by
  have htop := top24 hC hR
  cases D
  · have hv : readM R C false m = readN C R m R := rfl
    rw [hv]
    have hbx := boxed_new w R C false 25
    obtain ⟨W, hW⟩ : ∃ W, W = w.alloc (.cells #[.int .i64 R, .int .i64 C, .bool false] 25) := ⟨_, rfl⟩
    rw [← hW] at hbx
    have hsz : W.heap.size = w.heap.size + 1 := by rw [hW]; simp
    have hlow : Below w.heap.size w W := by rw [hW]; exact (Below.refl _ _).alloc (Nat.le_refl _) _
    have HW := Lib.hid hW
    have HB := Lib.hid hbx
    have HM := Lib.hid hm
    have HT := Lib.hid htop
    have HS := Lib.hid hsz
    have HL := Lib.hid hlow
    clear hW hbx hv hm htop hsz hlow
    go_enter Try.func43, Try.ntmps43
    go_wp2
    rw [← HW.out]
    go_loopw [5, 6] (fun o n wr => ∃ k : Nat, k ≤ R ∧ n = .int .i64 k ∧ o = .int .i64 (readN C R m k) ∧ Below W.heap.size W wr) (fun _ n _ => R - (intOf n).toNat)
    case atStart => exact ⟨0, Nat.zero_le _, rfl, rfl, Below.refl _ _⟩
    case round =>
      obtain ⟨k, hk, rfl, rfl, hb⟩ := hrel
      have hbx1 := HB.out.below hb (by rw [HS.out]; omega)
      obtain ⟨c0, c1, c2⟩ := hbx1
      have HB1 := Lib.hid hb
      clear hb
      by_cases hlt : k < R
      · go_wp2
        obtain ⟨wo, hwo⟩ : ∃ wo : World, wo = wr := ⟨_, rfl⟩
        rw [← hwo]
        rw [← hwo] at HB1
        clear c0 c1 c2 hwo
        go_loopw [5, 7] (fun o n wr => ∃ j : Nat, j ≤ R ∧ n = .int .i64 j ∧ o = .int .i64 (readR C R (readN C R m k) j) ∧ Below W.heap.size W wr) (fun _ n _ => R - (intOf n).toNat)
        case atStart => exact ⟨0, Nat.zero_le _, rfl, rfl, HB1.out⟩
        case round =>
          obtain ⟨r, hr, rfl, rfl, hb⟩ := hrel
          have hbx1 := HB.out.below hb (by rw [HS.out]; omega)
          obtain ⟨c0, c1, c2⟩ := hbx1
          have HB2 := Lib.hid hb
          clear hb
          by_cases hlr : r < R
          · go_wp2
            obtain ⟨wo2, hwo⟩ : ∃ wo : World, wo = wr := ⟨_, rfl⟩
            rw [← hwo]
            rw [← hwo] at HB2
            clear c0 c1 c2 hwo
            go_loopw [5, 8] (fun o n wr => ∃ j : Nat, j ≤ R ∧ n = .int .i64 j ∧ o = .int .i64 (readS C r (readR C R (readN C R m k) r) j) ∧ Below W.heap.size W wr) (fun _ n _ => R - (intOf n).toNat)
            case atStart => exact ⟨0, Nat.zero_le _, rfl, rfl, HB2.out⟩
            case round =>
              obtain ⟨s, hs, rfl, rfl, hb⟩ := hrel
              have hbx1 := HB.out.below hb (by rw [HS.out]; omega)
              obtain ⟨c0, c1, c2⟩ := hbx1
              obtain ⟨x, hx⟩ : ∃ x, x = readS C r (readR C R (readN C R m k) r) s := ⟨_, rfl⟩
              have hx24 : x < 16777216 := by rw [hx]; exact Nat.lt_of_lt_of_le (readS_lt hlr (readR_lt (readN_lt HM.out k) r (by omega)) s) HT.out
              have hnext : readS C r (readR C R (readN C R m k) r) (s + 1) = mrg C r s x := by rw [hx]; rfl
              rw [← hx]
              have HX := Lib.hid hx
              have HN := Lib.hid hnext
              have HB3 := Lib.hid hb
              clear hb hx hnext
              by_cases hls : s < R
              · obtain ⟨y, hy⟩ : ∃ y, y = rowOf C x s := ⟨_, rfl⟩
                obtain ⟨z, hz⟩ : ∃ z, z = rowOf C x r := ⟨_, rfl⟩
                have h6 : (2 : Nat) ^ C ≤ 2 ^ 6 := Nat.pow_le_pow_right (by omega) hC
                have hy6 : y < 64 := by rw [hy]; exact Nat.lt_of_lt_of_le (rowOf_lt C x s) h6
                have hz6 : z < 64 := by rw [hz]; exact Nat.lt_of_lt_of_le (rowOf_lt C x r) h6
                have e1 : bits .and .i64 (z : Int) (y : Int) = ((z &&& y : Nat) : Int) := and_n z y (by omega) (by omega)
                have HY := Lib.hid hy
                have HZ := Lib.hid hz
                clear hy hz h6
                by_cases ht : z &&& y = 0
                · have e2 : (((z &&& y : Nat) : Int) == 0) = true := by rw [ht]; rfl
                  have e3 : (((z &&& y : Nat) : Int) != 0) = false := by rw [ht]; rfl
                  have HT2 := Lib.hid ht
                  clear ht
                  go_wp2
                  go_region_held3 (fun w' => w'.cell? ⟨w.heap.size, 0, none⟩ = some (.int .i64 R) ∧ w'.cell? ⟨w.heap.size, 1, none⟩ = some (.int .i64 C) ∧ w'.cell? ⟨w.heap.size, 2, none⟩ = some (.bool false) ∧ Below W.heap.size W w') (first | (refine ⟨?_, ?_, ?_, ?_⟩ <;> first | assumption | exact HB3.out.drew | (simp [go_sem, *]; done)))
                    (first | (go_at_call 48; refine (l2Row_any R C x _ false _ hC (by omega) hx24).mono ?_; (first | rw [← HY.out] | rw [← HZ.out]); rintro e w5 ⟨rfl, hb5⟩; obtain ⟨k0, k1, k2, k3⟩ := box_keep (b := w.heap.size) (W := W) (by rw [HS.out]; omega) (by assumption) (by assumption) (by assumption) (by first | assumption | exact HB3.out.drew) hb5))
                  go_wp2
                  go_roundw
                  case rel => exact ⟨s + 1, by omega, by go_num, by rw [HN.out, mrg, ← HY.out, ← HZ.out, if_pos HT2.out], k3⟩
                  case measure => simp [intOf]; omega
                · have e2 : (((z &&& y : Nat) : Int) == 0) = false := beq_false_of_ne (by omega)
                  have e3 : (((z &&& y : Nat) : Int) != 0) = true := by rw [bne, e2]; rfl
                  have HT2 := Lib.hid ht
                  clear ht
                  go_wp2
                  go_region_held3 (fun w' => w'.cell? ⟨w.heap.size, 0, none⟩ = some (.int .i64 R) ∧ w'.cell? ⟨w.heap.size, 1, none⟩ = some (.int .i64 C) ∧ w'.cell? ⟨w.heap.size, 2, none⟩ = some (.bool false) ∧ Below W.heap.size W w') (first | (refine ⟨?_, ?_, ?_, ?_⟩ <;> first | assumption | exact HB3.out.drew | (simp [go_sem, *]; done)))
                    (first | (go_at_call 48; refine (l2Row_any R C x _ false _ hC (by omega) hx24).mono ?_; (first | rw [← HY.out] | rw [← HZ.out]); rintro e w5 ⟨rfl, hb5⟩; obtain ⟨k0, k1, k2, k3⟩ := box_keep (b := w.heap.size) (W := W) (by rw [HS.out]; omega) (by assumption) (by assumption) (by assumption) (by first | assumption | exact HB3.out.drew) hb5))
                  go_wp2
                  have K3 := Lib.hid k3
                  have hp := rc_le hC (show r ≤ 4 by omega)
                  obtain ⟨p, hpe⟩ : ∃ p, p = r * C := ⟨_, rfl⟩
                  rw [← hpe] at hp
                  have e4 : IntKind.i64.wrap ((r : Int) * (C : Int)) = (p : Int) := by
                    rw [IntWalk.i64_in _ ⟨by rw [← Int.natCast_mul, ← hpe]; omega, by rw [← Int.natCast_mul, ← hpe]; omega⟩, hpe, Int.natCast_mul]
                  have hsh : y * 2 ^ p < 16777216 := by rw [HY.out, hpe]; exact Nat.lt_of_lt_of_le (shl_lt hlr) HT.out
                  have e5 : IntKind.i64.wrap ((y : Int) * 2 ^ p) = ((y * 2 ^ p : Nat) : Int) := by
                    have e : ((y : Int) * 2 ^ p) = ((y * 2 ^ p : Nat) : Int) := by simp
                    rw [e]; exact IntWalk.i64_in _ ⟨by omega, by omega⟩
                  have e6 := or_n x (y * 2 ^ p) (by omega) (by omega)
                  have HP := Lib.hid hpe
                  clear hpe k3 e2 e3
                  go_region_held3 (fun w' => w'.cell? ⟨w.heap.size, 0, none⟩ = some (.int .i64 R) ∧ w'.cell? ⟨w.heap.size, 1, none⟩ = some (.int .i64 C) ∧ w'.cell? ⟨w.heap.size, 2, none⟩ = some (.bool false) ∧ Below W.heap.size W w') (first | (refine ⟨?_, ?_, ?_, ?_⟩ <;> first | assumption | exact K3.out.drew | (simp [go_sem, *]; done)))
                    (first | (go_at_call 48; refine (l2Row_any R C x _ false _ hC (by omega) hx24).mono ?_; rw [← HY.out]; rintro e w6 ⟨rfl, hb6⟩; obtain ⟨k0, k1, k2, k3⟩ := box_keep (b := w.heap.size) (W := W) (by rw [HS.out]; omega) (by assumption) (by assumption) (by assumption) (by first | assumption | exact K3.out.drew) hb6))
                  go_wp2
                  go_roundw
                  case rel => exact ⟨s + 1, by omega, by go_num, by rw [HN.out, mrg, ← HY.out, ← HZ.out, if_neg HT2.out, ← HP.out, show ((y : Int) * 2 ^ p) = ((y * 2 ^ p : Nat) : Int) by simp, e6], k3⟩
                  case measure => simp [intOf]; omega
              · obtain rfl : s = R := by omega
                go_wp2
                go_roundw
                case rel => exact ⟨r + 1, by omega, by go_num, by rw [readR_succ, HX.out], HB3.out⟩
                case measure => simp [intOf]; omega
          · obtain rfl : r = R := by omega
            go_wp2
            go_roundw
            case rel => exact ⟨k + 1, by omega, by go_num, by rw [readN_succ], HB2.out⟩
            case measure => simp [intOf]; omega
      · obtain rfl : k = R := by omega
        go_wp2
        go_ret
        exact ⟨rfl, HL.out.trans (HB1.out.mono (by rw [HS.out]; omega))⟩
  · go_enter Try.func43, Try.ntmps43
    go_wp2
    go_ret
    exact ⟨rfl, (Below.refl _ _).alloc (Nat.le_refl _) _⟩
end Go.Proofs.Ytcemachikghinaa
