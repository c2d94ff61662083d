/- DERIVED. Drawing valid events by the reference's cursor. -/
import Derived.Test.YtjfckchoklepbaaDraw
import Derived.Test.YtjfckchoklepbaaEvMath
import Derived.Test.YtjfckchoklepbaaDebDraw
namespace Go.Proofs.Ytjfckchoklepbaa
open Go.RowKit

/-- What is drawn: valid events of so many keys, the last no later than a bound. -/
structure Drawn (l : List Ev) (keys : Int) (T : Int) : Prop where
  fine : ∃ H, Fine l H T
  key : ∀ e ∈ l, 0 ≤ e.k ∧ e.k < keys
  low : 0 ≤ T
  high : T ≤ 101 * l.length

set_option maxHeartbeats 4000000 in
set_option maxRecDepth 100000 in
theorem l4Draw_draw {B b n : Nat} {v : Value} {zs : List Int} {w : World} (keys most wide : Int) (h : Draws B b v n zs w) (k0 : 0 < keys) (k1 : keys ≤ 32) (m0 : 0 ≤ most) (m1 : most ≤ 64) (w0 : 1 ≤ wide) (w1 : wide ≤ 100) :
    Calls Try.prog 50 #[.pointer (some ⟨b, 0, none⟩), .int .i64 keys, .int .i64 most, .int .i64 wide] w fun e w' => ∃ (u : Value) (l : List Ev) (T : Int), e = .returned u ∧ (l.length : Int) ≤ most ∧ Drawn l keys T ∧ w'.ownsRow w.heap.size 55 3 u l.length (flatEv l) ∧ Draws B b v n zs w' ∧ w.grownBy w' (some b) := by
  obtain ⟨i0, hi, hy0, hy1, hy2⟩ := info_parts info_ev
  have hlt := h.lt
  obtain ⟨W, hW⟩ : ∃ W, W = w.alloc (.cells #[] 55) := ⟨_, rfl⟩
  have HO0 := Lib.hid (show W.ownsRow w.heap.size 55 3 (.slice (some ⟨w.heap.size, 0, none⟩) 0 0) 0 (flatEv []) by rw [hW]; exact owns_noneN _ _ (Nat.le_refl _))
  have HD0 := Lib.hid (show Draws B b v n zs W by rw [hW]; exact h.alloc _)
  have HG0 := Lib.hid (show w.grownBy W (some b) by rw [hW]; exact grown_alloc _ _ _)
  have HW := Lib.hid hW
  clear hW h
  obtain ⟨d3, hd3⟩ : ∃ d, wide.tdiv 3 = d := ⟨_, rfl⟩
  obtain ⟨d2, hd2⟩ : ∃ d, wide.tdiv 2 = d := ⟨_, rfl⟩
  have x3 : 0 ≤ d3 ∧ d3 ≤ wide := by rw [← hd3, Int.tdiv_eq_ediv_of_nonneg (by omega)]; omega
  have x2 : 0 ≤ d2 ∧ d2 ≤ wide := by rw [← hd2, Int.tdiv_eq_ediv_of_nonneg (by omega)]; omega
  go_enter Try.func50, Try.ntmps50
  go_wp2_with fail
  rw [← HW.out]
  refine (l1Below_draw (most + 1) HD0.out (by omega) (by omega)).mono ?_
  rintro e w2 ⟨N, rfl, n0, n1, hd, hg⟩
  obtain ⟨N, rfl⟩ := Int.eq_ofNat_of_zero_le n0
  have HD1 := Lib.hid hd
  have HO1 := Lib.hid (owns_grown HO0.out hg hlt)
  have HG1 := Lib.hid (grown_trans HG0.out hg)
  clear hd hg
  go_wp2
  go_loopw [9, 10, 11, 12] (fun o t hh i wr => ∃ (j : Nat) (a : Option Addr) (cap : Nat) (T : Int) (H : Nat) (l : List Ev), j ≤ N ∧ i = .int .i64 j ∧ t = .int .i64 T ∧ hh = .int .i64 H ∧ o = .slice a l.length cap ∧ l.length + j = N ∧ 0 ≤ T ∧ T ≤ 101 * l.length ∧ H < 2 ^ 32 ∧ Fine l H T ∧ (∀ e ∈ l, 0 ≤ e.k ∧ e.k < keys) ∧ wr.ownsRow w.heap.size 55 3 (.slice a l.length cap) l.length (flatEv l) ∧ Draws B b v n zs wr ∧ w.grownBy wr (some b)) (fun _ _ _ i _ => (intOf i).toNat)
  case atStart => exact ⟨N, _, _, 0, 0, [], Nat.le_refl _, rfl, rfl, rfl, rfl, by simp, Int.le_refl _, by simp, by decide, Fine.nil _, by simp, HO1.out, HD1.out, HG1.out⟩
  case round =>
    obtain ⟨j, a, cap, T, H, l, hj, rfl, rfl, rfl, rfl, hlj, hT0, hT1, hH, hf, hks, hown, hd, hg⟩ := hrel
    have HLJ := Lib.hid hlj
    have HO := Lib.hid hown
    have HD := Lib.hid hd
    have HG := Lib.hid hg
    have HKS := Lib.hid hks
    have hT2 : T ≤ 6464 := by omega
    have hl64 : l.length ≤ 64 := by omega
    have HF0 := Lib.hid hf
    have HT1 := Lib.hid hT1
    have HH := Lib.hid hH
    clear hlj hown hd hg hks hf hT1 hH
    by_cases hlt' : 0 < j
    · have hbw : b < wr.heap.size := HD.out.lt
      go_wp2_with fail
      have hcell : ∀ i, i < ([0, 0, 1, d3, wide - 1, wide, wide + 1, d2] : List Int).length → (wr.alloc (.cells #[.int .i64 0, .int .i64 0, .int .i64 1, .int .i64 d3, .int .i64 (wide - 1), .int .i64 wide, .int .i64 (wide + 1), .int .i64 d2] 3)).cell? ⟨wr.heap.size, i, none⟩ = some (.int .i64 (([0, 0, 1, d3, wide - 1, wide, wide + 1, d2] : List Int).getD i 0)) := by
        intro i hi'
        have hh := heap_alloc_new wr (.cells #[.int .i64 0, .int .i64 0, .int .i64 1, .int .i64 d3, .int .i64 (wide - 1), .int .i64 wide, .int .i64 (wide + 1), .int .i64 d2] 3)
        simp only [List.length_cons, List.length_nil] at hi'
        have : i = 0 ∨ i = 1 ∨ i = 2 ∨ i = 3 ∨ i = 4 ∨ i = 5 ∨ i = 6 ∨ i = 7 := by omega
        rcases this with rfl | rfl | rfl | rfl | rfl | rfl | rfl | rfl <;> exact (cells_of_heap hh _ (by simp)).1
      refine (l1PickInt_draw wr.heap.size [0, 0, 1, d3, wide - 1, wide, wide + 1, d2] (HD.out.alloc _) (by simp) (by simp) (by omega) hcell).mono ?_
      clear hcell
      rintro e w3 ⟨s, rfl, hs, hd, hg⟩
      have hs2 : 0 ≤ s ∧ s ≤ 101 := by
        simp only [List.mem_cons, List.not_mem_nil, or_false] at hs
        omega
      have HD3 := Lib.hid hd
      have hg3 := grown_high HG.out (grown_alloc wr (.cells #[.int .i64 0, .int .i64 0, .int .i64 1, .int .i64 d3, .int .i64 (wide - 1), .int .i64 wide, .int .i64 (wide + 1), .int .i64 d2] 3) none) (fun q e => by cases e)
      have HG3 := Lib.hid (grown_trans hg3 hg)
      have HO3 := Lib.hid (owns_grown (HO.out.alloc (.cells #[.int .i64 0, .int .i64 0, .int .i64 1, .int .i64 d3, .int .i64 (wide - 1), .int .i64 wide, .int .i64 (wide + 1), .int .i64 d2] 3)) hg hlt)
      clear hd hg hg3 hs
      obtain ⟨T2, hTT⟩ : ∃ t, t = T + s := ⟨_, rfl⟩
      go_wp2_with fail
      refine (l1Below_draw keys HD3.out (by omega) (by omega)).mono ?_
      rintro e w4 ⟨q, rfl, q0, q1, hd, hg⟩
      obtain ⟨q, rfl⟩ := Int.eq_ofNat_of_zero_le q0
      have HD4 := Lib.hid hd
      have HG4 := Lib.hid (grown_trans HG3.out hg)
      have HO4 := Lib.hid (owns_grown HO3.out hg hlt)
      have hszc : w.heap.size ≤ w4.heap.size := HG4.out.size
      have hw := wrap64_pow62 (k := q) (by omega)
      have hp : 2 ^ q < 2 ^ 32 := Nat.pow_lt_pow_right (by decide) (by omega)
      have hx := xor_nat H (2 ^ q) (Nat.lt_of_lt_of_le HH.out (by decide)) (Nat.lt_of_lt_of_le hp (by decide))
      have HHL := Lib.hid (Nat.xor_lt_two_pow HH.out hp)
      have hb := bit_nat (H ^^^ 2 ^ q) q (Nat.lt_of_lt_of_le HHL.out (by decide))
      have htb : (H ^^^ 2 ^ q).testBit q = !H.testBit q := by rw [Nat.testBit_xor, Nat.testBit_two_pow, decide_eq_true rfl, Bool.xor_true]
      rw [htb] at hb
      have HT2 := Lib.hid (show 0 ≤ T2 ∧ T2 ≤ 101 * l.length + 101 by have := HT1.out; omega)
      have hF : ∀ d : Bool, d = !H.testBit q → Fine (l ++ [⟨T2, q, d⟩]) (H ^^^ 2 ^ q) T2 := fun d hd => HF0.out.snoc (e := ⟨T2, q, d⟩) (by
        unfold okEv inB
        rw [decide_eq_true (p := (0 : Int) ≤ T2 ∧ T2 ≤ 1000000) ⟨by omega, by omega⟩, decide_eq_true (p := (0 : Int) ≤ (q : Int) ∧ (q : Int) ≤ 31) ⟨by omega, by omega⟩]; rfl) (by show T ≤ T2; omega) (by show d = !H.testBit (q : Int).toNat; rw [Int.toNat_natCast]; exact hd)
      have HF := Lib.hid hF
      clear hF
      obtain ⟨p, hpd⟩ : ∃ p, p = 2 ^ q := ⟨_, rfl⟩
      rw [← hpd] at hw hx HHL hb HF
      have b63 : l.length + 1 ≤ maxLen := by unfold maxLen; omega
      have b47 : (l.length + 1) * 24 ≤ 140737488355328 := by omega
      clear hd hg hp hpd htb
      rw [← hTT]
      clear hTT
      cases ht : H.testBit q
      · replace hb : bits .and .i64 ((((H ^^^ p : Nat)) : Int) / 2 ^ q) 1 = 1 := by rw [hb, ht]; rfl
        have HT := Lib.hid ht
        clear ht
        go_wp2_with (at_builtin; refine wpList_append_own _ rfl _ _ 48 rfl w.heap.size 55 i0 (.agg #[.int .i64 0, .int .i64 0, .bool false]) 3 24 Try.underlying48 hi hy0 hy1 hy2 rfl (by decide) _ _ _ rfl (HO4.out.alloc _) ⟨w4.heap.size, 0, none⟩ 1 1 [.int .i64 T2, .int .i64 q, .bool true] rfl rfl ?c1 ?c2 b63 b47 ?c5 ?_)
        case c1 => exact news_of_new
        case c2 => intro u hu; simp at hu; rcases hu with rfl | rfl | rfl <;> rfl
        case c5 => simp; omega
        · intro v' w6 hown1 hgrow _
          obtain ⟨a', cap', rfl⟩ := owns_shape hown1
          have hr : ∀ q, (Value.slice a l.length cap).ownBlock = some q → w.heap.size ≤ q := fun q e => (HO4.out.lt q e).1
          have HD6 := Lib.hid ((HD4.out.alloc (.cells #[.int .i64 T2, .int .i64 q, .bool true] 55)).high hgrow hr hlt)
          have HG6 := Lib.hid (grown_high (grown_high HG4.out (grown_alloc w4 (.cells #[.int .i64 T2, .int .i64 q, .bool true] 55) none) (fun q e => by cases e)) hgrow hr)
          have HO6 := Lib.hid hown1
          clear hown1 hgrow hr
          go_wp2
          go_roundw
          case rel =>
            refine ⟨j - 1, a', cap', T2, H ^^^ p, l ++ [⟨T2, q, true⟩], by omega, by rw [show ((j - 1 : Nat) : Int) = (j : Int) - 1 by omega], rfl, rfl, by simp, by have := HLJ.out; simp; omega, HT2.out.1, by have := HT2.out.2; have := HLJ.out; simp; omega, HHL.out, HF.out true (by rw [HT.out]; rfl), ?_, ?_, HD6.out, HG6.out⟩
            · intro e he
              rcases List.mem_append.mp he with he | he
              · exact HKS.out e he
              · rw [List.mem_singleton.1 he]; exact ⟨by show (0 : Int) ≤ (q : Int); omega, by show (q : Int) < keys; omega⟩
            · rw [flatEv_snoc]; simpa using HO6.out
          case measure => simp [intOf]; omega
      · replace hb : bits .and .i64 ((((H ^^^ p : Nat)) : Int) / 2 ^ q) 1 = 0 := by rw [hb, ht]; rfl
        have HT := Lib.hid ht
        clear ht
        go_wp2_with (at_builtin; refine wpList_append_own _ rfl _ _ 48 rfl w.heap.size 55 i0 (.agg #[.int .i64 0, .int .i64 0, .bool false]) 3 24 Try.underlying48 hi hy0 hy1 hy2 rfl (by decide) _ _ _ rfl (HO4.out.alloc _) ⟨w4.heap.size, 0, none⟩ 1 1 [.int .i64 T2, .int .i64 q, .bool false] rfl rfl ?c1 ?c2 b63 b47 ?c5 ?_)
        case c1 => exact news_of_new
        case c2 => intro u hu; simp at hu; rcases hu with rfl | rfl | rfl <;> rfl
        case c5 => simp; omega
        · intro v' w6 hown1 hgrow _
          obtain ⟨a', cap', rfl⟩ := owns_shape hown1
          have hr : ∀ q, (Value.slice a l.length cap).ownBlock = some q → w.heap.size ≤ q := fun q e => (HO4.out.lt q e).1
          have HD6 := Lib.hid ((HD4.out.alloc (.cells #[.int .i64 T2, .int .i64 q, .bool false] 55)).high hgrow hr hlt)
          have HG6 := Lib.hid (grown_high (grown_high HG4.out (grown_alloc w4 (.cells #[.int .i64 T2, .int .i64 q, .bool false] 55) none) (fun q e => by cases e)) hgrow hr)
          have HO6 := Lib.hid hown1
          clear hown1 hgrow hr
          go_wp2
          go_roundw
          case rel =>
            refine ⟨j - 1, a', cap', T2, H ^^^ p, l ++ [⟨T2, q, false⟩], by omega, by rw [show ((j - 1 : Nat) : Int) = (j : Int) - 1 by omega], rfl, rfl, by simp, by have := HLJ.out; simp; omega, HT2.out.1, by have := HT2.out.2; have := HLJ.out; simp; omega, HHL.out, HF.out false (by rw [HT.out]; rfl), ?_, ?_, HD6.out, HG6.out⟩
            · intro e he
              rcases List.mem_append.mp he with he | he
              · exact HKS.out e he
              · rw [List.mem_singleton.1 he]; exact ⟨by show (0 : Int) ≤ (q : Int); omega, by show (q : Int) < keys; omega⟩
            · rw [flatEv_snoc]; simpa using HO6.out
          case measure => simp [intOf]; omega
    · obtain rfl : j = 0 := by omega
      go_wp2
      go_ret
      exact ⟨_, l, T, rfl, by have := HLJ.out; omega, ⟨⟨H, HF0.out⟩, HKS.out, hT0, HT1.out⟩, HO.out, HD.out, HG.out⟩

end Go.Proofs.Ytjfckchoklepbaa
