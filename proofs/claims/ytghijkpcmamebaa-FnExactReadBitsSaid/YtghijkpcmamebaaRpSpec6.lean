/- DERIVED. The reference's BitBytes: a report's bits. -/
import Derived.Test.YtghijkpcmamebaaRpSpec4
namespace Go.Proofs.Ytghijkpcmamebaa
open Go.RowKit

theorem wraps8 (n : Int) (h₀ : 0 ≤ n) (h₁ : n < 2 ^ 8) : IntKind.u8.wrap n = n := by rw [IntKind.wrap_u8]; omega
theorem or_nat8 (a b : Nat) (ha : a < 2 ^ 8) (hb : b < 2 ^ 8) : bits .or .u8 (a : Int) (b : Int) = ((a ||| b : Nat) : Int) := (bits_nat .u8 8 (by decide) wraps8 a b ha hb).2
theorem biN_len (r : Int) (zs : List Int) : ∀ j, (biN r zs j).length = 8
  | 0 => rfl
  | j + 1 => by rw [biN]; simp only [List.length_set]; exact biN_len r zs j
theorem biN_byte {r : Int} {zs : List Int} (h : okRp r zs = true) : ∀ j, j ≤ zs.length → ∀ i, i < 8 → 0 ≤ (biN r zs j).getD i 0 ∧ (biN r zs j).getD i 0 < 256
  | 0, _, i, hi => by
    have hr := (okRp_at h).1
    have : i = 0 ∨ i = 1 ∨ i = 2 ∨ i = 3 ∨ i = 4 ∨ i = 5 ∨ i = 6 ∨ i = 7 := by omega
    rcases this with rfl | rfl | rfl | rfl | rfl | rfl | rfl | rfl <;> simp [biN] <;> omega
  | j + 1, hj, i, hi => by
    have ih := biN_byte h j (by omega)
    have hl := biN_len r zs j
    obtain ⟨k, hk⟩ : ∃ k, k = (zs.getD j 0).toNat - 1 := ⟨_, rfl⟩
    have hbi : biN r zs (j + 1) = (biN r zs j).set (1 + k / 8) ((((biN r zs j).getD (1 + k / 8) 0).toNat ||| 2 ^ (k % 8) : Nat) : Int) := by rw [hk]; rfl
    rw [hbi, List.getD_eq_getElem?_getD, List.getElem?_set]
    by_cases e : 1 + k / 8 = i
    · rw [if_pos e]
      by_cases e2 : 1 + k / 8 < (biN r zs j).length
      · rw [if_pos e2]
        have h1 := ih (1 + k / 8) (by omega)
        have h2 : 2 ^ (k % 8) < 2 ^ 8 := Nat.pow_lt_pow_right (by omega) (Nat.mod_lt _ (by omega))
        have h3 := Nat.or_lt_two_pow (n := 8) (x := ((biN r zs j).getD (1 + k / 8) 0).toNat) (by omega) h2
        simp only [Option.getD_some]
        omega
      · rw [if_neg e2]; simp
    · rw [if_neg e, ← List.getD_eq_getElem?_getD]; exact ih i hi

set_option maxRecDepth 100000 in
set_option maxHeartbeats 8000000 in
theorem specBitBytes_any (r : Int) (u : Value) (zs : List Int) (w : World) (hl : zs.length ≤ maxLen) (h : Rd w u (zs.map (.int .i64))) :
    Calls Try.prog 33 #[rpv r u] w fun e w' => ∃ x, e = .returned x ∧ w'.ownsRow w.heap.size 5 1 x (biV r zs).length ((biV r zs).map (.int .u8)) ∧ Below w.heap.size w w' := by
  obtain ⟨i8, hi, hz0, hz1, hz2⟩ := info_parts info_u8
  obtain ⟨R, hR⟩ : ∃ R, R = okRp r zs := ⟨_, rfl⟩
  obtain ⟨X, hX⟩ : ∃ X, X = biV r zs := ⟨_, rfl⟩
  rw [← hX]
  obtain ⟨a, cap, rfl⟩ := ints_shape h
  obtain ⟨n, hnl⟩ : ∃ n, n = zs.length := ⟨_, rfl⟩
  have HNL := Lib.hid hnl
  have HR := Lib.hid hR
  have HX := Lib.hid hX
  have HL := Lib.hid hl
  have H := Lib.hid h
  have hnm : n ≤ maxLen := by rw [hnl]; exact hl
  unfold maxLen at hnm
  rw [← hnl]
  clear hR hX hl h hnl
  obtain ⟨W, hW⟩ : ∃ W, W = w.alloc (.cells #[.int .i64 r, .slice a n cap] 28) := ⟨_, rfl⟩
  have HX0 := Lib.hid (show Bxd W w.heap.size [.int .i64 r, .slice a n cap] by rw [hW]; exact Bxd.new _ _ _)
  have HB0 := Lib.hid (show Below w.heap.size w W by rw [hW]; exact (Below.refl _ _).alloc (Nat.le_refl _) _)
  have HS0 := Lib.hid (show w.heap.size < W.heap.size by rw [hW]; simp)
  have HW := Lib.hid hW
  clear hW
  go_enter Try.func33, Try.ntmps33
  go_wp2_with fail
  rw [← HW.out]
  have c0 := HX0.out.at 0 _ rfl
  have c1 := HX0.out.at 1 _ rfl
  refine (specIsReport_q r _ zs R HR.out _ HL.out (by rw [HNL.out]; have := H.out.below HB0.out; rw [← HNL.out] at this ⊢; exact this)).mono ?_
  rintro e w1 ⟨rfl, hb⟩
  have HB1 := Lib.hid (show Below W.heap.size W w1 from hb)
  clear hb c0 c1
  cases R
  · obtain rfl : X = [] := by rw [HX.out, biV, if_neg (by rw [← HR.out]; decide)]
    go_wp2
    go_ret
    exact ⟨_, rfl, World.ownsRow_lit (e := 5) (size := 1) w1 #[] 0 (Nat.le_trans HB0.out.size HB1.out.size) (by simp [maxLen]) rfl, (HB0.out.trans (HB1.out.mono HB0.out.size)).alloc (Nat.le_trans HB0.out.size HB1.out.size) _⟩
  · obtain ⟨⟨r0, r15⟩, hz⟩ := okRp_at HR.out.symm
    have HZ := Lib.hid hz
    have u0 : IntKind.u8.wrap r = r := by rw [IntKind.wrap_u8]; omega
    have HXX := Lib.hid (show biN r zs n = X by rw [HX.out, biV, if_pos HR.out.symm, HNL.out])
    clear hz
    go_wp2_with (at_make; refine wpList_make_full w1 rfl _ _ 22 rfl W.heap.size 5 i8 (.int .u8 0) 1 Try.underlying22 hi hz0 hz1 .i64 .i64 8 8 8 rfl rfl rfl rfl (by rw [hz2]; omega) ?_ ?_ ?_)
    · simp [maxLen]
    · exact HB1.out.size
    · intro w2 hown hg
      obtain ⟨g, hgv⟩ : ∃ g, g = w1.heap.size := ⟨_, rfl⟩
      rw [← hgv] at hown ⊢
      have hB2 : Below W.heap.size W w2 := HB1.out.grown hg HB1.out.size (fun k hk => by cases hk)
      have hmc : (madeCells #[Value.int .u8 0] 8).toList = [.int .u8 0, .int .u8 0, .int .u8 0, .int .u8 0, .int .u8 0, .int .u8 0, .int .u8 0, .int .u8 0] := by kernel_rfl
      rw [hmc] at hown
      have HO2 := Lib.hid (show w2.ownsRow W.heap.size 5 1 (.slice (some ⟨g, 0, none⟩) 8 8) 8 ([.int .u8 0, .int .u8 0, .int .u8 0, .int .u8 0, .int .u8 0, .int .u8 0, .int .u8 0, .int .u8 0]) from hown)
      have HB2 := Lib.hid hB2
      have c0 := (HX0.out.below hB2 HS0.out).at 0 _ rfl
      have s0 := HO2.out.cellAt 0 (by omega)
      have z0 := HO2.out.frozenAt 0
      have HO3 := Lib.hid (show (w2.setCell ⟨g, 0, none⟩ (.int .u8 r)).ownsRow W.heap.size 5 1 (.slice (some ⟨g, 0, none⟩) 8 8) 8 ((biN r zs 0).map (.int .u8)) from (HO2.out.stored 0 (.int .u8 r)).1)
      have hgB : W.heap.size ≤ g := (HO2.out.lt g rfl).1
      have HB3 := Lib.hid (show Below W.heap.size W (w2.setCell ⟨g, 0, none⟩ (.int .u8 r)) from hB2.setCell hgB _)
      simp only [List.getElem?_cons_zero] at s0
      clear hmc hown hg hB2 hgv
      go_upto_region 5 with (fail)
      obtain ⟨w3, hw3⟩ : ∃ w3, w3 = w2.setCell ⟨g, 0, none⟩ (.int .u8 r) := ⟨_, rfl⟩
      have HW3 := Lib.hid hw3
      rw [← HW3.out]
      have HO4 := Lib.hid (show w3.ownsRow W.heap.size 5 1 (.slice (some ⟨g, 0, none⟩) 8 8) 8 ((biN r zs 0).map (.int .u8)) by rw [HW3.out]; exact HO3.out)
      have HB4 := Lib.hid (show Below W.heap.size W w3 by rw [HW3.out]; exact HB3.out)
      clear hw3 s0 z0 c0 u0
      go_wp2
      go_loopw [4, 5] (fun i _ wr => ∃ j : Nat, j ≤ n ∧ i = .int .i64 j ∧ wr.ownsRow W.heap.size 5 1 (.slice (some ⟨g, 0, none⟩) 8 8) 8 ((biN r zs j).map (.int .u8)) ∧ Below W.heap.size W wr) (fun i _ _ => n - (intOf i).toNat)
      case atStart => exact ⟨0, Nat.zero_le _, rfl, HO4.out, HB4.out⟩
      case round =>
        obtain ⟨j, hj, rfl, ho, hb⟩ := hrel
        have HO := Lib.hid ho
        have HB := Lib.hid hb
        have c1 := (HX0.out.below hb HS0.out).at 1 _ rfl
        by_cases hlt' : j < n
        · obtain ⟨b, off, rfl, hlt, d0⟩ := ints_at H.out (j := j) (by rw [← HNL.out]; exact hlt')
          have d1 := ((HB0.out.trans (hb.mono HB0.out.size)).cell (p := ⟨b, off + j, none⟩) hlt).trans d0
          have hx2 := HZ.out j (by rw [← HNL.out]; exact hlt')
          have hnx : biN r zs (j + 1) = (biN r zs j).set (1 + ((zs.getD j 0).toNat - 1) / 8) ((((biN r zs j).getD (1 + ((zs.getD j 0).toNat - 1) / 8) 0).toNat ||| 2 ^ (((zs.getD j 0).toNat - 1) % 8) : Nat) : Int) := rfl
          obtain ⟨x, hx⟩ : ∃ x, x = zs.getD j 0 := ⟨_, rfl⟩
          rw [← hx] at d1 hx2 hnx
          obtain ⟨k, rfl⟩ : ∃ k : Nat, x = (k : Int) + 1 := ⟨x.toNat - 1, by omega⟩
          rw [show ((k : Int) + 1).toNat - 1 = k by omega] at hnx
          obtain ⟨d, hd⟩ : ∃ d, d = k / 8 := ⟨_, rfl⟩
          obtain ⟨m, hm⟩ : ∃ m, m = k % 8 := ⟨_, rfl⟩
          rw [← hd, ← hm] at hnx
          have td : Int.tdiv (k : Int) 8 = (d : Int) := by rw [hd, Int.tdiv_eq_ediv_of_nonneg (by omega)]; omega
          have tm : Int.tmod (k : Int) 8 = (m : Int) := by rw [hm, Int.tmod_eq_emod_of_nonneg (by omega)]; omega
          have hd7 : 1 + d < 8 := by omega
          have hm7 : m < 8 := by omega
          have hby := biN_byte HR.out.symm j (by rw [← HNL.out]; exact hj) (1 + d) hd7
          have hlen := biN_len r zs j
          obtain ⟨C, hC⟩ : ∃ C, C = (biN r zs j).getD (1 + d) 0 := ⟨_, rfl⟩
          have s0 : wr.cell? ⟨g, 1 + d, none⟩ = some (.int .u8 C) := by
            rw [ho.cellAt (1 + d) (by omega), List.getElem?_map, List.getElem?_eq_getElem (by omega), hC, List.getD_eq_getElem?_getD, List.getElem?_eq_getElem (by omega)]
            rfl
          have z0 := ho.frozenAt (1 + d)
          rw [← hC] at hby hnx
          obtain ⟨Q, rfl⟩ : ∃ Q : Nat, C = Q := ⟨C.toNat, by omega⟩
          rw [Int.toNat_natCast] at hnx
          have hp8 : 2 ^ m < 2 ^ 8 := Nat.pow_lt_pow_right (by omega) hm7
          have hor := or_nat8 Q (2 ^ m) (by omega) hp8
          have hpe : ((2 ^ m : Nat) : Int) = (2 : Int) ^ m := by rw [Int.natCast_pow]; rfl
          have hsh : IntKind.u8.wrap ((2 : Int) ^ m) = 2 ^ m := by rw [← hpe, IntKind.wrap_u8]; generalize (2 ^ m : Nat) = P at hp8 ⊢; omega
          rw [hpe] at hor
          have HNX := Lib.hid hnx
          have HSet := Lib.hid (show (wr.setCell ⟨g, 1 + d, none⟩ (.int .u8 ((Q ||| 2 ^ m : Nat) : Int))).ownsRow W.heap.size 5 1 (.slice (some ⟨g, 0, none⟩) 8 8) 8 ((biN r zs (j + 1)).map (.int .u8)) by
            rw [hnx, List.map_set]; exact (HO.out.stored (1 + d) _).1)
          have hi8 : (1 : Int) + (d : Int) < 8 := by omega
          have htn : ((1 : Int) + (d : Int)).toNat = 1 + d := by omega
          have wk : IntKind.i64.wrap (k : Int) = k := IntWalk.i64_in _ ⟨by omega, by omega⟩
          have wd : IntKind.i64.wrap (d : Int) = d := IntWalk.i64_in _ ⟨by omega, by omega⟩
          have wd1 : IntKind.i64.wrap (1 + (d : Int)) = 1 + (d : Int) := IntWalk.i64_in _ ⟨by omega, by omega⟩
          have wm : IntKind.i64.wrap (m : Int) = m := IntWalk.i64_in _ ⟨by omega, by omega⟩
          clear hx d0 hd hm hC hnx hpe hby hlen ho hb hp8
          go_upto_region 9 with (fail)
          go_region
          all_goals
            go_wp2
            go_roundw
            case rel => exact ⟨j + 1, by omega, by go_num, (OwF.mk' HSet.out).1 |> fun h => owns_below h (Below.refl _ _).drew, (HB.out.setCell hgB _).drew⟩
            case measure => simp [intOf]; omega
        · obtain rfl : j = n := by omega
          have HLen := Lib.hid (show X.length = 8 by rw [← HXX.out]; exact biN_len r zs _)
          clear ho hb
          go_wp2
          go_ret
          exact ⟨_, rfl, by rw [HLen.out, ← HXX.out]; exact owns_base HO.out HB0.out.size, HB0.out.trans (HB.out.mono HB0.out.size)⟩

end Go.Proofs.Ytghijkpcmamebaa
