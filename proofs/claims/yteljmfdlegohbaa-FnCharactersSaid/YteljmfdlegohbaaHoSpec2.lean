/- DERIVED. The reference's KeyOf, l12Has and NewKeys: each returns what a plain function says. -/
import Derived.Test.YteljmfdlegohbaaHoSpec
namespace Go.Proofs.Yteljmfdlegohbaa
open Go.RowKit

set_option maxRecDepth 100000 in
set_option maxHeartbeats 4000000 in
theorem specKeyOf_any (x : UInt8) (w : World) : Calls Try.prog 62 #[.int .u8 (x.toNat : Int)] w fun e w' => e = .returned (.tuple #[.int .i64 (koP x).1, .int .i64 (koP x).2]) ∧ Below w.heap.size w w' := by
  obtain ⟨r, hr⟩ : ∃ r, r = koP x := ⟨_, rfl⟩
  rw [← hr]
  obtain ⟨r1, r2⟩ := r
  have HR := Lib.hid hr
  clear hr
  obtain ⟨z, hz⟩ : ∃ z, z = (x.toNat : Int) := ⟨_, rfl⟩
  have hso : strOfNums [z] = ⟨#[x]⟩ := by rw [hz]; simp [strOfNums]
  rw [← hz]
  have HSO := Lib.hid hso
  clear hso hz
  go_enter Try.func62, Try.ntmps62
  go_wp2
  go_loopw [4, 5] (fun m _ wr => ∃ q : Nat, q ≤ 2 ∧ m = .int .i64 ((2 * q : Nat) : Int) ∧ (∀ p, p < q → koN x ((2 * p : Nat) : Int) 56 = 0) ∧ Below w.heap.size w wr) (fun m _ _ => 4 - (intOf m).toNat)
  case atStart => exact ⟨0, Nat.zero_le _, rfl, fun p hp => absurd hp (Nat.not_lt_zero _), Below.refl _ _⟩
  case round =>
    obtain ⟨q, hq, rfl, hno, hb⟩ := hrel
    have HNo := Lib.hid hno
    have HB := Lib.hid hb
    clear hno hb
    by_cases hlt : q < 2
    · obtain ⟨m, hm⟩ : ∃ m, m = ((2 * q : Nat) : Int) := ⟨_, rfl⟩
      have hm2 : m ≤ 2 := by omega
      have HM := Lib.hid hm
      rw [← hm]
      clear hm
      go_wp2
      go_loopw [5] (fun i wr => ∃ k : Nat, k ≤ 56 ∧ i = .int .i64 ((k : Int) + 1) ∧ koN x m k = 0 ∧ Below w.heap.size w wr) (fun i _ => 57 - (intOf i).toNat)
      case atStart => exact ⟨0, Nat.zero_le _, rfl, rfl, HB.out⟩
      case round =>
        obtain ⟨k, hk, rfl, hc, hb⟩ := hrel
        have HBB := Lib.hid hb
        have HC := Lib.hid hc
        clear hb hc
        by_cases hlt2 : k < 56
        · have hle : ((k : Int) + 1) ≤ 56 := by omega
          obtain ⟨T, hT⟩ : ∃ T, T = hoV ((k : Int) + 1) m := ⟨_, rfl⟩
          have HT := Lib.hid hT
          clear hT
          obtain ⟨sd, hsd⟩ : ∃ s, s = (T.toList == [x]) := ⟨_, rfl⟩
          have HSD := Lib.hid hsd
          clear hsd
          have hcv : ∀ (W : World) (g : Nat), W.heap[g]? = some (.cells #[.int .u8 z] 5 (0, 0)) → (convert 22 9 (.slice (some ⟨g, 0, none⟩) 1 1)).run Try.prog W = .ok (.string ⟨#[x]⟩) W := fun W g hg => by
            have h1 := conv_owned (P := Try.prog) (src := 22) (dst := 9) (w := W) (base := g) (v := .slice (some ⟨g, 0, none⟩) 1 1) (n := 1) (ns := [z]) Try.underlying22 Try.underlying5 Try.underlying9 ⟨rfl, .inr ⟨g, 1, _, rfl, Nat.le_refl _, hg, Nat.le_refl _, by simp [maxLen], rfl, rfl⟩⟩
            rw [h1, HSO.out]
          have hc1 : ∀ W : World, (convert 22 9 (.slice (some ⟨W.heap.size, 0, none⟩) 1 1)).run Try.prog (W.alloc (.cells #[.int .u8 z] 5)) = .ok (.string ⟨#[x]⟩) (W.alloc (.cells #[.int .u8 z] 5)) := fun W => hcv _ _ (heap_alloc_new W _)
          have hc2 := hcv ((wr.alloc (.cells #[.int .u8 z] 5)).drew) wr.heap.size (heap_alloc_new wr _)
          have HCV := Lib.hid hcv
          clear hcv
          go_upto_region 7 with (fail)
          go_cut [20] (fun s wx => s = .bool sd ∧ Below wr.heap.size wr wx)
          case first =>
            go_region_law (first
              | (go_simp; go_at_call 61; refine (specCharOf_any ((k : Int) + 1) m _).mono ?_; rw [← HT.out]; rintro e w1 ⟨rfl, hb1⟩; (try have hc3 := HCV.out w1 wr.heap.size ((hb1.block _ (by simp)).trans (heap_alloc_new wr _))); (have HBc := Lib.hid (show Below wr.heap.size wr w1 from by first | exact (Below.refl wr.heap.size wr).drew.trans hb1 | exact (((Below.refl wr.heap.size wr).alloc (Nat.le_refl _) _).drew).trans (hb1.mono (by simp)))); clear hb1))
            all_goals
              go_wp2
              go_meet
              exact ⟨by rw [HSD.out], by first | exact HBc.out | exact HBc.out.drew | exact HBc.out.alloc HBc.out.size _ | exact (HBc.out.alloc HBc.out.size _).drew⟩
          case rest =>
            obtain ⟨rfl, hbx⟩ := hcut
            have HB2 := Lib.hid (HBB.out.trans (hbx.mono HBB.out.size))
            clear hbx hc1 hc2
            cases sd
            · have hne : ¬ hoV ((k + 1 : Nat) : Int) m = ⟨#[x]⟩ := fun e => by
                have h1 := HSD.out
                rw [lit_eq [x] (HT.out.trans e)] at h1
                cases h1
              have HN := Lib.hid (koN_miss HC.out hne)
              clear hne
              go_wp2
              go_roundw
              case rel => exact ⟨k + 1, by omega, by go_num, HN.out, HB2.out⟩
              case measure => simp [intOf]; omega
            · have he : hoV ((k + 1 : Nat) : Int) m = ⟨#[x]⟩ := by
                have h1 := HSD.out
                by_cases e : T = ⟨#[x]⟩
                · rw [← e, HT.out]; rfl
                · rw [lit_ne [x] e] at h1; cases h1
              have hk := koN_hit HC.out he 56 hlt2
              have HK := Lib.hid (show (r1, r2) = ((k : Int) + 1, m) by
                rw [HR.out]
                have h2 := HM.out
                rcases (show q = 0 ∨ q = 1 by omega) with rfl | rfl
                · obtain rfl : m = 0 := h2
                  rw [koP, hk, if_neg (by omega)]; rfl
                · obtain rfl : m = 2 := h2
                  have h0 := HNo.out 0 (by omega)
                  rw [koP, show koN x 0 56 = 0 from h0, if_pos rfl, hk, if_neg (by omega)]; rfl)
              clear he hk
              obtain ⟨rfl, rfl⟩ : r1 = (k : Int) + 1 ∧ r2 = m := by simpa using HK.out
              go_wp2
              go_ret2
              exact ⟨rfl, HB2.out⟩
        · obtain rfl : k = 56 := by omega
          have HC2 := Lib.hid (show ∀ p, p < q + 1 → koN x ((2 * p : Nat) : Int) 56 = 0 from fun p hp => by
            rcases Nat.lt_or_ge p q with h | h
            · exact HNo.out p h
            · obtain rfl : p = q := by omega
              rw [← HM.out]; exact HC.out)
          have hm3 : wrap64 (m + 2) = ((2 * (q + 1) : Nat) : Int) := by rw [IntWalk.wrap64_in _ ⟨by have := HM.out; omega, by omega⟩]; have := HM.out; omega
          obtain ⟨m3, hm3e⟩ : ∃ m3, m3 = ((2 * (q + 1) : Nat) : Int) := ⟨_, rfl⟩
          rw [← hm3e] at hm3
          have HM3 := Lib.hid hm3e
          clear hm3e
          go_wp2
          go_roundw
          case rel => exact ⟨q + 1, by omega, by rw [← HM3.out]; first | rfl | (have := hm3; go_num), HC2.out, HBB.out⟩
          case measure => have := HM3.out; have := HM.out; simp [intOf]; omega
    · obtain rfl : q = 2 := by omega
      have HK := Lib.hid (show (r1, r2) = ((0 : Int), (0 : Int)) by
        rw [HR.out, koP, show koN x 0 56 = 0 from HNo.out 0 (by omega), if_pos rfl, show koN x 2 56 = 0 from HNo.out 1 (by omega), if_pos rfl])
      obtain ⟨rfl, rfl⟩ : r1 = 0 ∧ r2 = 0 := by simpa using HK.out
      go_wp2
      go_ret2
      exact ⟨rfl, HB.out⟩

set_option maxRecDepth 100000 in
theorem specHas_q (v : Value) (zs : List Int) (n : Int) (b : Bool) (hb : b = decide (n ∈ zs)) (w : World) (hl : zs.length ≤ maxLen) (h : Rd w v (zs.map (.int .i64))) :
    Calls Try.prog 143 #[v, .int .i64 n] w fun e w' => e = .returned (.bool b) ∧ w' = w := by
  have HBV := Lib.hid hb
  clear hb
  unfold maxLen at hl
  have no : ∀ j, j ≤ zs.length → (∀ q, q < j → ¬ zs.getD q 0 = n) → ¬ n ∈ zs.take j := fun j hj hq hm => by
    obtain ⟨i, hi, e⟩ := List.getElem_of_mem hm
    rw [List.length_take] at hi
    refine hq i (by omega) ?_
    rw [List.getD_eq_getElem?_getD, List.getElem?_eq_getElem (by omega : i < zs.length)]
    rw [List.getElem_take] at e
    exact e
  rcases rd_ints h with ⟨rfl, a, cap, rfl⟩ | ⟨B, off, cap, hpos, rfl, hlt, hc⟩
  · obtain rfl : b = false := HBV.out
    go_enter Try.func143, Try.ntmps143
    go_wp2
    refine wp_loop_rounds 1 ?_
    rw [rounds_succ]
    go_wp2
    go_ret
    exact ⟨rfl, rfl⟩
  · have HC := Lib.hid hc
    have HNo := Lib.hid no
    obtain ⟨N, hN⟩ : ∃ N, N = zs.length := ⟨_, rfl⟩
    rw [← hN] at hl hpos ⊢
    have HNN := Lib.hid hN
    clear h hc hN no
    go_enter Try.func143, Try.ntmps143
    go_wp2
    go_loop [5] (fun i => ∃ (j : Nat), j ≤ N ∧ i = .int .i64 j ∧ ∀ q, q < j → ¬ zs.getD q 0 = n) (fun i => N - (intOf i).toNat)
    case atStart => exact ⟨0, Nat.zero_le _, rfl, fun q hq => absurd hq (Nat.not_lt_zero _)⟩
    case round =>
      obtain ⟨j, hj, rfl, hno⟩ := hrel
      by_cases hlt' : j < N
      · have c0 := HC.out j (by rw [← HNN.out]; exact hlt')
        obtain ⟨z, hz⟩ : ∃ z, z = zs.getD j 0 := ⟨_, rfl⟩
        rw [← hz] at c0
        have HZ := Lib.hid hz
        have HQ := Lib.hid hno
        clear hz hno
        by_cases he : z = n
        · have b0 : (z == n) = true := by simp [he]
          obtain rfl : b = true := by
            rw [HBV.out]
            refine decide_eq_true ?_
            rw [← he, HZ.out, List.getD_eq_getElem?_getD, List.getElem?_eq_getElem (by rw [← HNN.out]; exact hlt')]
            exact List.getElem_mem _
          clear he
          go_wp2
          go_ret
          exact ⟨rfl, rfl⟩
        · have b0 : (z == n) = false := by simp [he]
          have HN2 := Lib.hid (show ∀ q, q < j + 1 → ¬ zs.getD q 0 = n from fun q hq => by
            rcases Nat.lt_or_ge q j with h | h
            · exact HQ.out q h
            · obtain rfl : q = j := by omega
              rw [← HZ.out]; exact he)
          clear he
          go_wp2
          go_round
          case rel => exact ⟨j + 1, by omega, by go_num, HN2.out⟩
          case measure => simp [intOf]; omega
      · obtain rfl : j = N := by omega
        obtain rfl : b = false := by
          rw [HBV.out]
          refine decide_eq_false ?_
          have := HNo.out zs.length (Nat.le_refl _) (by rw [← HNN.out]; exact hno)
          rwa [List.take_length] at this
        clear hno
        go_wp2
        go_ret
        exact ⟨rfl, rfl⟩

end Go.Proofs.Yteljmfdlegohbaa
