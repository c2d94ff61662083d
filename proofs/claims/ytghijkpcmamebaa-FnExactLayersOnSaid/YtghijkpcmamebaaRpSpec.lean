/- DERIVED. Chapter 7's reports: valid ones and alike ones as plain functions; the reference's IsReport and SameReport. -/
import Derived.Test.YtghijkpcmamebaaRp
import Derived.Test.YtghijkpcmamebaaDebSpec
import Derived.Test.YtghijkpcmamebaaSeqSpec
namespace Go.Proofs.Ytghijkpcmamebaa
open Go.RowKit

def rpAt (zs : List Int) (j : Nat) : Bool := inB (zs.getD j 0) 1 56 && (decide (j = 0) || decide (zs.getD (j - 1) 0 < zs.getD j 0))
def rpN (zs : List Int) : Nat → Bool
  | 0 => true
  | j + 1 => rpN zs j && rpAt zs j
def okRp (r : Int) (zs : List Int) : Bool := rpN zs zs.length && inB r 0 15
theorem rpN_no {zs : List Int} {j : Nat} (h : rpAt zs j = false) : ∀ m, j < m → rpN zs m = false
  | 0, hm => absurd hm (Nat.not_lt_zero _)
  | m + 1, hm => by
    rcases Nat.lt_or_ge j m with h2 | h2
    · rw [rpN, rpN_no h m h2, Bool.false_and]
    · obtain rfl : j = m := by omega
      rw [rpN, h, Bool.and_false]
theorem rpN_at {zs : List Int} : ∀ {m : Nat}, rpN zs m = true → ∀ j, j < m → rpAt zs j = true
  | 0, _, j, hj => absurd hj (Nat.not_lt_zero _)
  | m + 1, h, j, hj => by
    rw [rpN, Bool.and_eq_true] at h
    rcases Nat.lt_or_ge j m with h2 | h2
    · exact rpN_at h.1 j h2
    · obtain rfl : j = m := by omega
      exact h.2

set_option maxRecDepth 100000 in
set_option maxHeartbeats 4000000 in
theorem specIsReport_any (r : Int) (u : Value) (zs : List Int) (w : World) (hl : zs.length ≤ maxLen) (h : Rd w u (zs.map (.int .i64))) :
    Calls Try.prog 30 #[rpv r u] w fun e w' => e = .returned (.bool (okRp r zs)) ∧ Below w.heap.size w w' := by
  unfold maxLen at hl
  obtain ⟨v, hv⟩ : ∃ v, v = okRp r zs := ⟨_, rfl⟩
  rw [← hv]
  obtain ⟨V, hV⟩ : ∃ V, V = inB r 0 15 := ⟨_, rfl⟩
  have hv2 : v = (rpN zs zs.length && V) := by rw [hv, hV]; rfl
  have HV := Lib.hid hV
  have HVV := Lib.hid hv2
  clear hv hV hv2
  rcases rd_ints h with ⟨rfl, a, cap, rfl⟩ | ⟨b, off, cap, hpos, rfl, hlt, hc⟩
  · clear h
    obtain rfl : v = V := HVV.out
    obtain ⟨W, hW⟩ : ∃ W, W = w.alloc (.cells #[.int .i64 r, .slice a 0 cap] 28) := ⟨_, rfl⟩
    have HX0 := Lib.hid (show Bxd W w.heap.size [.int .i64 r, .slice a 0 cap] by rw [hW]; exact Bxd.new _ _ _)
    have HB0 := Lib.hid (show Below w.heap.size w W by rw [hW]; exact (Below.refl _ _).alloc (Nat.le_refl _) _)
    have HS0 := Lib.hid (show w.heap.size < W.heap.size by rw [hW]; simp)
    have HW := Lib.hid hW
    clear hW
    go_enter Try.func30, Try.ntmps30
    go_wp2
    rw [← HW.out]
    have c0 := HX0.out.at 0 _ rfl
    have c1 := HX0.out.at 1 _ rfl
    refine wp_loop_rounds 1 ?_
    rw [rounds_succ]
    go_wp2_with fail
    refine (inB_any r 0 15 _).mono ?_
    rw [← HV.out]
    rintro e w0 ⟨rfl, rfl⟩
    go_wp2
    go_ret
    exact ⟨rfl, HB0.out⟩
  · have HC := Lib.hid hc
    obtain ⟨N, hN⟩ : ∃ N, N = zs.length := ⟨_, rfl⟩
    rw [← hN] at hl hpos ⊢
    have HNN := Lib.hid hN
    clear h hc hN
    obtain ⟨W, hW⟩ : ∃ W, W = w.alloc (.cells #[.int .i64 r, .slice (some ⟨b, off, none⟩) N cap] 28) := ⟨_, rfl⟩
    have HX0 := Lib.hid (show Bxd W w.heap.size [.int .i64 r, .slice (some ⟨b, off, none⟩) N cap] by rw [hW]; exact Bxd.new _ _ _)
    have HB0 := Lib.hid (show Below w.heap.size w W by rw [hW]; exact (Below.refl _ _).alloc (Nat.le_refl _) _)
    have HS0 := Lib.hid (show w.heap.size < W.heap.size by rw [hW]; simp)
    have HW := Lib.hid hW
    clear hW
    go_enter Try.func30, Try.ntmps30
    go_wp2
    rw [← HW.out]
    go_loopw [3] (fun i wr => ∃ (j : Nat), j ≤ N ∧ i = .int .i64 j ∧ rpN zs j = true ∧ Below W.heap.size W wr) (fun i _ => N - (intOf i).toNat)
    case atStart => exact ⟨0, Nat.zero_le _, rfl, rfl, Below.refl _ _⟩
    case round =>
      obtain ⟨j, hj, rfl, hp, hb⟩ := hrel
      have c0 := (HX0.out.below hb HS0.out).at 0 _ rfl
      have c1 := (HX0.out.below hb HS0.out).at 1 _ rfl
      by_cases hlt' : j < N
      · have rd : ∀ q, q < N → wr.cell? ⟨b, off + q, none⟩ = some (.int .i64 (zs.getD q 0)) := fun q hq =>
          (hb.cell (p := ⟨b, off + q, none⟩) (Nat.lt_of_lt_of_le hlt HB0.out.size)).trans ((HB0.out.cell (p := ⟨b, off + q, none⟩) hlt).trans (HC.out q (by rw [← HNN.out]; exact hq)))
        have d1 := rd j hlt'
        have hbad : rpAt zs j = false → v = false := fun h0 => by rw [HVV.out, rpN_no h0 _ (by rw [← HNN.out]; exact hlt'), Bool.false_and]
        have hnx : rpAt zs j = true → rpN zs (j + 1) = true := fun h0 => by rw [rpN, hp, h0]; rfl
        obtain ⟨z, hz⟩ : ∃ z, z = zs.getD j 0 := ⟨_, rfl⟩
        obtain ⟨q, hq⟩ : ∃ q, q = inB z 1 56 := ⟨_, rfl⟩
        have hat : rpAt zs j = (q && (decide (j = 0) || decide (zs.getD (j - 1) 0 < z))) := by rw [hq, hz]; rfl
        rw [hat] at hbad hnx
        rw [← hz] at d1
        have HBad := Lib.hid hbad
        have HNX := Lib.hid hnx
        have HQ := Lib.hid hq
        have HB := Lib.hid hb
        have HRD := Lib.hid rd
        clear hbad hnx hat hq hz hb hp rd
        cases q
        · obtain rfl : v = false := HBad.out rfl
          go_wp2
          go_quiet ((go_at_call 49; exact Calls.quiet_of_same (inB_q z 1 56 false HQ.out _)))
          go_wp2
          go_ret
          exact ⟨rfl, HB0.out.trans (below_drewN HB.out _ |>.mono HB0.out.size)⟩
        · by_cases hj0 : j = 0
          · have HT := Lib.hid (HNX.out (by rw [decide_eq_true hj0]; rfl))
            subst hj0
            have d2 : wr.cell? ⟨b, off, none⟩ = some (.int .i64 z) := d1
            go_wp2
            go_quiet ((go_at_call 49; exact Calls.quiet_of_same (inB_q z 1 56 true HQ.out _)))
            go_wp2
            go_roundw
            case rel => exact ⟨1, by omega, by go_num, HT.out, below_drewN HB.out _⟩
            case measure => simp [intOf]; omega
          · obtain ⟨k, rfl⟩ : ∃ k, j = k + 1 := ⟨j - 1, by omega⟩
            have d0 := HRD.out k (by omega)
            obtain ⟨y, hy⟩ : ∃ y, y = zs.getD k 0 := ⟨_, rfl⟩
            rw [← hy] at d0
            have hy2 : zs.getD (k + 1 - 1) 0 = y := by rw [hy]; rfl
            have hw1 : IntKind.i64.wrap (((k + 1 : Nat) : Int) - 1) = (k : Int) := by rw [IntWalk.i64_in _ ⟨by omega, by omega⟩]; omega
            have hgt : ((0 : Int) < ((k + 1 : Nat) : Int)) := by omega
            by_cases hyz : y < z
            · have HT := Lib.hid (HNX.out (by rw [hy2, decide_eq_true hyz]; simp))
              have hge : ¬ z ≤ y := by omega
              clear hy
              go_wp2
              go_quiet ((go_at_call 49; exact Calls.quiet_of_same (inB_q z 1 56 true HQ.out _)))
              go_wp2
              go_roundw
              case rel => exact ⟨k + 2, by omega, by go_num, HT.out, below_drewN HB.out _⟩
              case measure => simp [intOf]; omega
            · obtain rfl : v = false := HBad.out (by rw [hy2, decide_eq_false hyz]; simp)
              have hge : z ≤ y := by omega
              clear hy
              go_wp2
              go_quiet ((go_at_call 49; exact Calls.quiet_of_same (inB_q z 1 56 true HQ.out _)))
              go_wp2
              go_ret
              exact ⟨rfl, HB0.out.trans (below_drewN HB.out _ |>.mono HB0.out.size)⟩
      · obtain rfl : j = N := by omega
        obtain rfl : v = V := by rw [HVV.out, ← HNN.out, hp, Bool.true_and]
        have HB := Lib.hid hb
        clear hb
        go_wp2_with fail
        refine (inB_any r 0 15 _).mono ?_
        rw [← HV.out]
        rintro e w0 ⟨rfl, rfl⟩
        go_wp2
        go_ret
        exact ⟨rfl, HB0.out.trans (HB.out.mono HB0.out.size)⟩

end Go.Proofs.Ytghijkpcmamebaa
