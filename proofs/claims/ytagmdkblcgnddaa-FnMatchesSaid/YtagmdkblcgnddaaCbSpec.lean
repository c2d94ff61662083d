/- DERIVED. The reference's l11Count and IsCombos: how many keys a mask has, and whether combinations are valid. -/
import Derived.Test.YtagmdkblcgnddaaCbDef
import Derived.Deep.RegionHeld3
namespace Go.Proofs.Ytagmdkblcgnddaa
open Go.RowKit

theorem specCount_q (m : Nat) (hm : m < 16777216) (r : Int) (hr : r = ((pc m : Nat) : Int)) (w : World) :
    Calls Try.prog 90 #[.int .i64 (m : Int)] w fun e w' => e = .returned (.int .i64 r) ∧ w = w' := by
  have HM := Lib.hid hm
  have HR := Lib.hid hr
  clear hr
  go_enter Try.func90, Try.ntmps90
  go_wp2
  go_loop [3, 4] (fun n k => ∃ j : Nat, j ≤ 32 ∧ k = .int .i64 j ∧ n = .int .i64 (pcN m j : Nat)) (fun _ k => 32 - (intOf k).toNat)
  case atStart => exact ⟨0, by omega, rfl, rfl⟩
  case round =>
    obtain ⟨j, hj, rfl, rfl⟩ := hrel
    by_cases hlt : j < 32
    · have h0 : ¬ (j : Int) < 0 := by omega
      have hle : (j : Int) ≤ 31 := by omega
      have hbit : bits .and .i64 ((m : Int) / 2 ^ j) 1 = ((m / 2 ^ j % 2 : Nat) : Int) := by
        have h1 : ((m : Int) / 2 ^ j) = ((m / 2 ^ j : Nat) : Int) := by simp
        have h2 : m / 2 ^ j ≤ m := Nat.div_le_self _ _
        rw [h1, show (1 : Int) = ((1 : Nat) : Int) from rfl, and_nat _ _ (by omega) (by omega), Nat.and_one_is_mod]
      obtain ⟨B, hB⟩ : ∃ B, B = m / 2 ^ j % 2 := ⟨_, rfl⟩
      have hnx : pcN m (j + 1) = pcN m j + B := by rw [pcN, hB]
      rw [← hB] at hbit
      have hB2 : B < 2 := by rw [hB]; omega
      have hpl := pcN_le m j
      obtain ⟨S, hS⟩ : ∃ S, S = pcN m j := ⟨_, rfl⟩
      rw [← hS] at hnx hpl ⊢
      have HNX := Lib.hid hnx
      have hw : wrap64 ((S : Int) + (B : Int)) = ((S + B : Nat) : Int) := by rw [IntWalk.wrap64_in _ ⟨by omega, by omega⟩]; omega
      clear hB hS hnx
      go_wp2
      go_round
      case rel => exact ⟨j + 1, by omega, by go_num, by rw [HNX.out, Int.natCast_add]⟩
      case measure => simp [intOf]; omega
    · obtain rfl : j = 32 := by omega
      go_wp2
      go_ret
      exact ⟨ret_int HR.out.symm, rfl⟩

set_option maxRecDepth 100000 in
set_option maxHeartbeats 4000000 in
theorem specIsCombos_q (v : Value) (l : List Cb) (r : Bool) (hr : r = okCbs l) (w : World) (hn : l.length ≤ maxLen) (h : RdN w v l.length (flatCb l)) :
    Calls Try.prog 33 #[v] w fun e w' => e = .returned (.bool r) ∧ Below w.heap.size w w' := by
  have HR := Lib.hid hr
  clear hr
  unfold maxLen at hn
  rcases rd_cbs h with ⟨rfl, a, cap, rfl⟩ | ⟨b, off, cap, hpos, rfl, hlt, hc⟩
  · obtain rfl : r = true := HR.out
    clear h
    go_enter Try.func33, Try.ntmps33
    go_wp2
    refine wp_loop_rounds 1 ?_
    rw [rounds_succ]
    go_wp2
    go_ret
    exact ⟨rfl, Below.refl _ _⟩
  · have HC := Lib.hid hc
    obtain ⟨N, hN⟩ : ∃ N, N = l.length := ⟨_, rfl⟩
    rw [← hN] at hn hpos ⊢
    have HNN := Lib.hid hN
    clear h hc hN
    go_enter Try.func33, Try.ntmps33
    go_wp2
    go_loopw [3, 4] (fun i _ wr => ∃ (j : Nat), j ≤ N ∧ i = .int .i64 j ∧ cbN l j = true ∧ Below w.heap.size w wr) (fun i _ _ => N - (intOf i).toNat)
    case atStart => exact ⟨0, Nat.zero_le _, rfl, rfl, Below.refl _ _⟩
    case round =>
      obtain ⟨j, hj, rfl, hd, hb⟩ := hrel
      by_cases hlt' : j < N
      · obtain ⟨c0, c1⟩ := HC.out j (by rw [← HNN.out]; exact hlt')
        obtain ⟨e, he⟩ : ∃ e, e = cbD l j := ⟨_, rfl⟩
        have hbad : (cbFit e && apN l e j) = false → r = false := fun h0 => by rw [HR.out, okCbs, ← HNN.out, cbN_no (by rw [← he]; exact h0) _ hlt', Bool.false_and]
        have hnx : (cbFit e && apN l e j) = true → cbN l (j + 1) = true := fun h0 => by rw [cbN, hd, ← he, h0]; rfl
        have hap : ∀ p, p < j → cbLike (cbD l p) e = true → r = false := fun p hp h0 => hbad (by rw [apN_no h0 _ hp, Bool.and_false])
        have hap2 : ∀ p, apN l e (p + 1) = (apN l e p && !cbLike (cbD l p) e) := fun p => by rw [apN]
        rw [← he] at c0 c1
        obtain ⟨k, o⟩ := e
        simp only at c0 c1
        have f0 := (hb.cell (p := ⟨b, off + j * 2, none⟩) hlt).trans c0
        have f1 := (hb.cell (p := ⟨b, off + j * 2 + 1, none⟩) hlt).trans c1
        obtain ⟨V, hV⟩ : ∃ V, V = inB k 0 16777215 := ⟨_, rfl⟩
        obtain ⟨V2, hV2⟩ : ∃ V, V = inB ((pc k.toNat : Nat) : Int) 2 4 := ⟨_, rfl⟩
        obtain ⟨V3, hV3⟩ : ∃ V, V = inB o 24 31 := ⟨_, rfl⟩
        have hfit : cbFit ⟨k, o⟩ = (V && (V2 && V3)) := by rw [hV, hV2, hV3]; rfl
        rw [hfit] at hbad hnx
        have HF0 := Lib.hid c0
        have HF1 := Lib.hid c1
        have HBad := Lib.hid hbad
        have HNX := Lib.hid hnx
        have HAP := Lib.hid hap
        have HAP2 := Lib.hid hap2
        have HV := Lib.hid hV
        have HV2 := Lib.hid hV2
        have HV3 := Lib.hid hV3
        have HB := Lib.hid hb
        clear c0 c1 hbad hnx hap hap2 hV hV2 hV3 hfit hb he hd
        go_wp2_with fail
        refine (inB_q k 0 16777215 V HV.out _).mono ?_
        rintro e w2 ⟨rfl, rfl⟩
        cases V
        · obtain rfl : r = false := HBad.out rfl
          go_wp2
          go_ret
          exact ⟨rfl, HB.out⟩
        · have hk : 0 ≤ k ∧ k ≤ 16777215 := of_decide_eq_true HV.out.symm
          obtain ⟨K, rfl⟩ : ∃ K : Nat, k = K := ⟨k.toNat, by omega⟩
          go_wp2_with fail
          refine (specCount_q K (by omega) _ rfl _).mono ?_
          rintro e w2 ⟨rfl, rfl⟩
          go_wp2_with fail
          refine (inB_q _ 2 4 V2 (by rw [HV2.out, Int.toNat_natCast]) _).mono ?_
          rintro e w2 ⟨rfl, rfl⟩
          cases V2
          · obtain rfl : r = false := HBad.out (by simp)
            go_wp2
            go_ret
            exact ⟨rfl, HB.out⟩
          · go_wp2_with fail
            refine (inB_q o 24 31 V3 HV3.out _).mono ?_
            rintro e w2 ⟨rfl, rfl⟩
            cases V3
            · obtain rfl : r = false := HBad.out (by simp)
              go_wp2
              go_ret
              exact ⟨rfl, HB.out⟩
            · have hx0 := f0
              clear hk
              go_wp2
              go_loopw [4] (fun q wx => ∃ p : Nat, p ≤ j ∧ q = .int .i64 p ∧ apN l ⟨(K : Int), o⟩ p = true ∧ Below w.heap.size w wx) (fun q _ => j - (intOf q).toNat)
              case atStart => exact ⟨0, Nat.zero_le _, rfl, rfl, HB.out⟩
              case round =>
                obtain ⟨p, hp, rfl, ha, hb⟩ := hrel
                by_cases hpj : p < j
                · obtain ⟨d0, d1⟩ := HC.out p (by rw [← HNN.out]; omega)
                  have hj' := HAP.out p hpj
                  have hj2 := HAP2.out p
                  obtain ⟨e, he⟩ : ∃ e, e = cbD l p := ⟨_, rfl⟩
                  rw [← he] at d0 d1 hj' hj2
                  obtain ⟨pk, po⟩ := e
                  simp only at d0 d1
                  have g0 := (hb.cell (p := ⟨b, off + p * 2, none⟩) hlt).trans d0
                  have g1 := (hb.cell (p := ⟨b, off + p * 2 + 1, none⟩) hlt).trans d1
                  have e0 : w.cell? ⟨b, off + j * 2, none⟩ = some (.int .i64 (K : Int)) := HF0.out
                  have e1 : w.cell? ⟨b, off + j * 2 + 1, none⟩ = some (.int .i64 o) := HF1.out
                  have y0 := (hb.cell (p := ⟨b, off + j * 2, none⟩) hlt).trans e0
                  have y1 := (hb.cell (p := ⟨b, off + j * 2 + 1, none⟩) hlt).trans e1
                  have HBP := Lib.hid hb
                  have HBad2 := Lib.hid hj'
                  have HNX2 := Lib.hid hj2
                  have HA := Lib.hid ha
                  clear d0 d1 e0 e1 hb hj' hj2 he ha
                  go_upto_region 9 with (fail)
                  by_cases h1 : pk = (K : Int)
                  · subst h1
                    obtain rfl : r = false := HBad2.out (by simp [cbLike])
                    go_quiet (fail)
                    go_wp2
                    go_ret
                    exact ⟨rfl, below_drewN HBP.out _⟩
                  · have b1 : (pk == (K : Int)) = false := by simp [h1]
                    by_cases h2 : po = o
                    · subst h2
                      obtain rfl : r = false := HBad2.out (by simp [cbLike])
                      go_quiet (fail)
                      go_wp2
                      go_ret
                      exact ⟨rfl, below_drewN HBP.out _⟩
                    · have b2 : (po == o) = false := by simp [h2]
                      have hq := Lib.hid (show apN l ⟨(K : Int), o⟩ (p + 1) = true by rw [HNX2.out, HA.out, cbLike, decide_eq_false h1, decide_eq_false h2]; rfl)
                      go_quiet (fail)
                      go_wp2
                      go_roundw
                      case rel => exact ⟨p + 1, by omega, by go_num, hq.out, below_drewN HBP.out _⟩
                      case measure => simp [intOf]; omega
                · obtain rfl : p = j := by omega
                  have hq := Lib.hid (HNX.out (by rw [ha]; rfl))
                  go_wp2
                  go_roundw
                  case rel => exact ⟨p + 1, by omega, by go_num, hq.out, hb⟩
                  case measure => simp [intOf]; omega
      · obtain rfl : j = N := by omega
        have hrt : r = decide (j ≤ 8) := by rw [HR.out, okCbs, ← HNN.out, hd, Bool.true_and]
        have HRT := Lib.hid hrt
        have HB := Lib.hid hb
        clear hb hd hrt
        go_wp2
        go_ret
        exact ⟨ret_bool (by rw [HRT.out]; simp; omega), HB.out⟩

end Go.Proofs.Ytagmdkblcgnddaa
