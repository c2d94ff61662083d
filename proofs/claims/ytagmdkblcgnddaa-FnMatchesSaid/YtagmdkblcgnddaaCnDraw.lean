/- DERIVED. Drawing a combiner, events and what is to be matched by the reference's cursor. -/
import Derived.Test.YtagmdkblcgnddaaCbDraw
namespace Go.Proofs.Ytagmdkblcgnddaa
open Go.RowKit

set_option maxHeartbeats 4000000 in
set_option maxRecDepth 100000 in
/-- Events of switches that follow each other, drawn. -/
theorem l11Events_draw {B b n : Nat} {v : Value} {zs : List Int} {w : World} (H0 : Nat) (T0 term most : Int) (h : Draws B b v n zs w) (hH0 : H0 < 2 ^ 32) (t0 : 0 ≤ T0) (t1 : T0 ≤ 1000000) (k0 : 0 ≤ term) (k1 : term ≤ 1000) (m0 : 0 ≤ most) (m1 : most ≤ 64) :
    Calls Try.prog 76 #[.pointer (some ⟨b, 0, none⟩), .int .i64 H0, .int .i64 T0, .int .i64 term, .int .i64 most] w fun e w' => ∃ (u : Value) (l : List Ev), e = .returned u ∧ (l.length : Int) ≤ most ∧ (∀ e ∈ l, T0 ≤ e.t ∧ e.t ≤ T0 + (term + 2) * l.length) ∧ w'.ownsRow w.heap.size 36 3 u l.length (flatEv l) ∧ Draws B b v n zs w' ∧ w.grownBy w' (some b) := by
  obtain ⟨i0, hi, hy0, hy1, hy2⟩ := info_parts info_ev
  have hlt := h.lt
  obtain ⟨W, hW⟩ : ∃ W, W = w.alloc (.cells #[] 36) := ⟨_, rfl⟩
  have HO0 := Lib.hid (show W.ownsRow w.heap.size 36 3 (.slice (some ⟨w.heap.size, 0, none⟩) 0 0) 0 (flatEv []) by rw [hW]; exact owns_noneN _ _ (Nat.le_refl _))
  have HD0 := Lib.hid (show Draws B b v n zs W by rw [hW]; exact h.alloc _)
  have HG0 := Lib.hid (show w.grownBy W (some b) by rw [hW]; exact grown_alloc _ _ _)
  have HW := Lib.hid hW
  have HH0 := Lib.hid hH0
  clear hW h hH0
  go_enter Try.func76, Try.ntmps76
  go_wp2_with fail
  rw [← HW.out]
  refine (l1Below_draw (most + 1) HD0.out (by omega) (by omega)).mono ?_
  rintro e w2 ⟨N, rfl, n0, n1, hd, hg⟩
  obtain ⟨N, rfl⟩ := Int.eq_ofNat_of_zero_le n0
  have HD1 := Lib.hid hd
  have HO1 := Lib.hid (owns_grown HO0.out hg hlt)
  have HG1 := Lib.hid (grown_trans HG0.out hg)
  clear hd hg
  go_wp2
  go_loopw [1, 2, 11, 12] (fun hh t o i wr => ∃ (j : Nat) (a : Option Addr) (cap : Nat) (T : Int) (H : Nat) (l : List Ev), j ≤ N ∧ i = .int .i64 j ∧ t = .int .i64 T ∧ hh = .int .i64 H ∧ o = .slice a l.length cap ∧ l.length + j = N ∧ T0 ≤ T ∧ T ≤ T0 + (term + 2) * l.length ∧ H < 2 ^ 32 ∧ (∀ e ∈ l, T0 ≤ e.t ∧ e.t ≤ T) ∧ wr.ownsRow w.heap.size 36 3 (.slice a l.length cap) l.length (flatEv l) ∧ Draws B b v n zs wr ∧ w.grownBy wr (some b)) (fun _ _ _ i _ => (intOf i).toNat)
  case atStart => exact ⟨N, _, _, T0, H0, [], Nat.le_refl _, rfl, rfl, rfl, rfl, by simp, Int.le_refl _, by simp, HH0.out, by simp, HO1.out, HD1.out, HG1.out⟩
  case round =>
    obtain ⟨j, a, cap, T, H, l, hj, rfl, rfl, rfl, rfl, hlj, hT0, hT1, hH, hks, hown, hd, hg⟩ := hrel
    have HLJ := Lib.hid hlj
    have HO := Lib.hid hown
    have HD := Lib.hid hd
    have HG := Lib.hid hg
    have HKS := Lib.hid hks
    have hl64 : l.length ≤ 64 := by omega
    have hml : (term + 2) * (l.length : Int) ≤ 1002 * 64 := Int.mul_le_mul (by omega) (by omega) (by omega) (by omega)
    have hT2 : T ≤ 2000000 := by omega
    have HT1 := Lib.hid hT1
    have HH := Lib.hid hH
    clear hlj hown hd hg hks hT1 hH hml
    by_cases hlt' : 0 < j
    · have hbw : b < wr.heap.size := HD.out.lt
      go_upto_region 5 with (fail)
      go_cut [2] (fun t wx => ∃ T2 : Int, t = .int .i64 T2 ∧ T0 ≤ T2 ∧ T ≤ T2 ∧ T2 ≤ T + (term + 2) ∧ wx.ownsRow w.heap.size 36 3 (.slice a l.length cap) l.length (flatEv l) ∧ Draws B b v n zs wx ∧ w.grownBy wx (some b))
      case first =>
        by_cases hmx : 0 < term - 1
        · have hmx' : ¬ term - 1 < 0 := by omega
          go_wp2_with fail
          have hcell : ∀ i, i < ([0, 0, 0, 1, 1, 2, term - 1, term, term + 1] : List Int).length → (wr.alloc (.cells #[.int .i64 0, .int .i64 0, .int .i64 0, .int .i64 1, .int .i64 1, .int .i64 2, .int .i64 (term - 1), .int .i64 term, .int .i64 (term + 1)] 3)).cell? ⟨wr.heap.size, i, none⟩ = some (.int .i64 (([0, 0, 0, 1, 1, 2, term - 1, term, term + 1] : List Int).getD i 0)) := by
            intro i hi'
            have hh := heap_alloc_new wr (.cells #[.int .i64 0, .int .i64 0, .int .i64 0, .int .i64 1, .int .i64 1, .int .i64 2, .int .i64 (term - 1), .int .i64 term, .int .i64 (term + 1)] 3)
            simp only [List.length_cons, List.length_nil] at hi'
            have : i = 0 ∨ i = 1 ∨ i = 2 ∨ i = 3 ∨ i = 4 ∨ i = 5 ∨ i = 6 ∨ i = 7 ∨ i = 8 := by omega
            rcases this with rfl | rfl | rfl | rfl | rfl | rfl | rfl | rfl | rfl <;> exact (cells_of_heap hh _ (by simp)).1
          refine (l1PickInt_draw wr.heap.size [0, 0, 0, 1, 1, 2, term - 1, term, term + 1] (HD.out.alloc _) (by simp) (by simp) (by omega) hcell).mono ?_
          clear hcell
          rintro e w3 ⟨s, rfl, hs, hd, hg⟩
          have hs2 : 0 ≤ s ∧ s ≤ term + 2 := by
            simp only [List.mem_cons, List.not_mem_nil, or_false] at hs
            omega
          have HD3 := Lib.hid hd
          have HG3 := Lib.hid (grown_trans (grown_al HG.out (o := .cells #[.int .i64 0, .int .i64 0, .int .i64 0, .int .i64 1, .int .i64 1, .int .i64 2, .int .i64 (term - 1), .int .i64 term, .int .i64 (term + 1)] 3)) hg)
          have HO3 := Lib.hid (owns_grown (HO.out.alloc (.cells #[.int .i64 0, .int .i64 0, .int .i64 0, .int .i64 1, .int .i64 1, .int .i64 2, .int .i64 (term - 1), .int .i64 term, .int .i64 (term + 1)] 3)) hg hlt)
          clear hd hg hs
          go_wp2
          go_meet
          exact ⟨_, rfl, by omega, by omega, by omega, HO3.out, HD3.out, HG3.out⟩
        · have hmx' : ¬ 0 < term - 1 := hmx
          go_wp2_with fail
          have hcell : ∀ i, i < ([0, 0, 0, 1, 1, 2, 0, term, term + 1] : List Int).length → (wr.alloc (.cells #[.int .i64 0, .int .i64 0, .int .i64 0, .int .i64 1, .int .i64 1, .int .i64 2, .int .i64 0, .int .i64 term, .int .i64 (term + 1)] 3)).cell? ⟨wr.heap.size, i, none⟩ = some (.int .i64 (([0, 0, 0, 1, 1, 2, 0, term, term + 1] : List Int).getD i 0)) := by
            intro i hi'
            have hh := heap_alloc_new wr (.cells #[.int .i64 0, .int .i64 0, .int .i64 0, .int .i64 1, .int .i64 1, .int .i64 2, .int .i64 0, .int .i64 term, .int .i64 (term + 1)] 3)
            simp only [List.length_cons, List.length_nil] at hi'
            have : i = 0 ∨ i = 1 ∨ i = 2 ∨ i = 3 ∨ i = 4 ∨ i = 5 ∨ i = 6 ∨ i = 7 ∨ i = 8 := by omega
            rcases this with rfl | rfl | rfl | rfl | rfl | rfl | rfl | rfl | rfl <;> exact (cells_of_heap hh _ (by simp)).1
          refine (l1PickInt_draw wr.heap.size [0, 0, 0, 1, 1, 2, 0, term, term + 1] (HD.out.alloc _) (by simp) (by simp) (by omega) hcell).mono ?_
          clear hcell
          rintro e w3 ⟨s, rfl, hs, hd, hg⟩
          have hs2 : 0 ≤ s ∧ s ≤ term + 2 := by
            simp only [List.mem_cons, List.not_mem_nil, or_false] at hs
            omega
          have HD3 := Lib.hid hd
          have HG3 := Lib.hid (grown_trans (grown_al HG.out (o := .cells #[.int .i64 0, .int .i64 0, .int .i64 0, .int .i64 1, .int .i64 1, .int .i64 2, .int .i64 0, .int .i64 term, .int .i64 (term + 1)] 3)) hg)
          have HO3 := Lib.hid (owns_grown (HO.out.alloc (.cells #[.int .i64 0, .int .i64 0, .int .i64 0, .int .i64 1, .int .i64 1, .int .i64 2, .int .i64 0, .int .i64 term, .int .i64 (term + 1)] 3)) hg hlt)
          clear hd hg hs
          go_wp2
          go_meet
          exact ⟨_, rfl, by omega, by omega, by omega, HO3.out, HD3.out, HG3.out⟩
      case rest =>
      obtain ⟨T2, rfl, q1, q2, q3, ho, hd, hg⟩ := hcut
      obtain ⟨w3, rfl⟩ : ∃ w3, w3 = wc := ⟨_, rfl⟩
      have HT2 := Lib.hid (show T0 ≤ T2 ∧ T ≤ T2 ∧ T2 ≤ T + (term + 2) from ⟨q1, q2, q3⟩)
      have HD3 := Lib.hid hd
      have HG3 := Lib.hid hg
      have HO3 := Lib.hid ho
      clear ho hd hg q1 q2 q3
      go_wp2_with fail
      refine (l1Below_draw 5 HD3.out (by omega) (by omega)).mono ?_
      rintro e w4 ⟨q, rfl, q0, q1, hd, hg⟩
      obtain ⟨q, rfl⟩ := Int.eq_ofNat_of_zero_le q0
      have HD4 := Lib.hid hd
      have HG4 := Lib.hid (grown_trans HG3.out hg)
      have HO4 := Lib.hid (owns_grown HO3.out hg hlt)
      have hszc : w.heap.size ≤ w4.heap.size := HG4.out.size
      have hw := wrap64_pow62 (k := q) (by omega)
      have hp : 2 ^ q < 2 ^ 32 := Nat.pow_lt_pow_right (by decide) (by omega)
      have hx := xor_nat H (2 ^ q) (Nat.lt_of_lt_of_le HH.out (by decide)) (Nat.lt_of_lt_of_le hp (by decide))
      have HHL := Lib.hid (Nat.xor_lt_two_pow HH.out hp)
      have hb := bit_nat (H ^^^ 2 ^ q) q (Nat.lt_of_lt_of_le HHL.out (by decide))
      have htb : (H ^^^ 2 ^ q).testBit q = !H.testBit q := by rw [Nat.testBit_xor, Nat.testBit_two_pow, decide_eq_true rfl, Bool.xor_true]
      rw [htb] at hb
      obtain ⟨p, hpd⟩ : ∃ p, p = 2 ^ q := ⟨_, rfl⟩
      rw [← hpd] at hw hx HHL hb
      have b63 : l.length + 1 ≤ maxLen := by unfold maxLen; omega
      have b47 : (l.length + 1) * 24 ≤ 140737488355328 := by omega
      clear hd hg hp hpd htb
      cases ht : H.testBit q
      · replace hb : bits .and .i64 ((((H ^^^ p : Nat)) : Int) / 2 ^ q) 1 = 1 := by rw [hb, ht]; rfl
        have HT := Lib.hid ht
        clear ht
        go_wp2_with (at_builtin; refine wpList_append_own _ rfl _ _ 25 rfl w.heap.size 36 i0 (.agg #[.int .i64 0, .int .i64 0, .bool false]) 3 24 Try.underlying25 hi hy0 hy1 hy2 rfl (by decide) _ _ _ rfl (HO4.out.alloc _) ⟨w4.heap.size, 0, none⟩ 1 1 [.int .i64 T2, .int .i64 q, .bool true] rfl rfl ?c1 ?c2 b63 b47 ?c5 ?_)
        case c1 => exact news_of_new
        case c2 => intro u hu; simp at hu; rcases hu with rfl | rfl | rfl <;> rfl
        case c5 => simp; omega
        · intro v' w6 hown1 hgrow _
          obtain ⟨a', cap', rfl⟩ := owns_shape hown1
          have hr : ∀ q, (Value.slice a l.length cap).ownBlock = some q → w.heap.size ≤ q := fun q e => (HO4.out.lt q e).1
          have HD6 := Lib.hid ((HD4.out.alloc (.cells #[.int .i64 T2, .int .i64 q, .bool true] 36)).high hgrow hr hlt)
          have HG6 := Lib.hid (grown_high (grown_high HG4.out (grown_alloc w4 (.cells #[.int .i64 T2, .int .i64 q, .bool true] 36) none) (fun q e => by cases e)) hgrow hr)
          have HO6 := Lib.hid hown1
          clear hown1 hgrow hr
          go_wp2
          go_roundw
          case rel =>
            refine ⟨j - 1, a', cap', T2, H ^^^ p, l ++ [⟨T2, q, true⟩], by omega, by rw [show ((j - 1 : Nat) : Int) = (j : Int) - 1 by omega], rfl, rfl, by simp, by have := HLJ.out; simp; omega, HT2.out.1, ?_, HHL.out, ?_, ?_, HD6.out, HG6.out⟩
            · have h1 := HT2.out.2.2
              have h2 := HT1.out
              rw [List.length_append, List.length_singleton, Int.natCast_add, Int.mul_add, Int.natCast_one, Int.mul_one]; omega
            · intro e he
              have h1 := HT2.out
              rcases List.mem_append.mp he with he | he
              · have := HKS.out e he; omega
              · rw [List.mem_singleton.1 he]; exact ⟨h1.1, Int.le_refl _⟩
            · rw [flatEv_snoc]; simpa using HO6.out
          case measure => simp [intOf]; omega
      · replace hb : bits .and .i64 ((((H ^^^ p : Nat)) : Int) / 2 ^ q) 1 = 0 := by rw [hb, ht]; rfl
        have HT := Lib.hid ht
        clear ht
        go_wp2_with (at_builtin; refine wpList_append_own _ rfl _ _ 25 rfl w.heap.size 36 i0 (.agg #[.int .i64 0, .int .i64 0, .bool false]) 3 24 Try.underlying25 hi hy0 hy1 hy2 rfl (by decide) _ _ _ rfl (HO4.out.alloc _) ⟨w4.heap.size, 0, none⟩ 1 1 [.int .i64 T2, .int .i64 q, .bool false] rfl rfl ?c1 ?c2 b63 b47 ?c5 ?_)
        case c1 => exact news_of_new
        case c2 => intro u hu; simp at hu; rcases hu with rfl | rfl | rfl <;> rfl
        case c5 => simp; omega
        · intro v' w6 hown1 hgrow _
          obtain ⟨a', cap', rfl⟩ := owns_shape hown1
          have hr : ∀ q, (Value.slice a l.length cap).ownBlock = some q → w.heap.size ≤ q := fun q e => (HO4.out.lt q e).1
          have HD6 := Lib.hid ((HD4.out.alloc (.cells #[.int .i64 T2, .int .i64 q, .bool false] 36)).high hgrow hr hlt)
          have HG6 := Lib.hid (grown_high (grown_high HG4.out (grown_alloc w4 (.cells #[.int .i64 T2, .int .i64 q, .bool false] 36) none) (fun q e => by cases e)) hgrow hr)
          have HO6 := Lib.hid hown1
          clear hown1 hgrow hr
          go_wp2
          go_roundw
          case rel =>
            refine ⟨j - 1, a', cap', T2, H ^^^ p, l ++ [⟨T2, q, false⟩], by omega, by rw [show ((j - 1 : Nat) : Int) = (j : Int) - 1 by omega], rfl, rfl, by simp, by have := HLJ.out; simp; omega, HT2.out.1, ?_, HHL.out, ?_, ?_, HD6.out, HG6.out⟩
            · have h1 := HT2.out.2.2
              have h2 := HT1.out
              rw [List.length_append, List.length_singleton, Int.natCast_add, Int.mul_add, Int.natCast_one, Int.mul_one]; omega
            · intro e he
              have h1 := HT2.out
              rcases List.mem_append.mp he with he | he
              · have := HKS.out e he; omega
              · rw [List.mem_singleton.1 he]; exact ⟨h1.1, Int.le_refl _⟩
            · rw [flatEv_snoc]; simpa using HO6.out
          case measure => simp [intOf]; omega
    · obtain rfl : j = 0 := by omega
      go_wp2
      go_ret
      exact ⟨_, l, rfl, by have := HLJ.out; omega, fun e he => ⟨(HKS.out e he).1, Int.le_trans (HKS.out e he).2 HT1.out⟩, HO.out, HD.out, HG.out⟩

theorem grown_belo {w0 w w' : World} {r : Option Nat} (h : w0.grownBy w r) (hb : Below w0.heap.size w w') : w0.grownBy w' r :=
  ⟨hb.os.trans h.os, hb.tape.trans h.tape, hb.output.trans h.output, Nat.le_trans h.size hb.size, fun k hk hn => (hb.block k hk).trans (h.block k hk hn)⟩
theorem Draws.belo {B b n H : Nat} {v : Value} {zs : List Int} {w w' : World} (h : Draws B b v n zs w) (hH : b < H) (hb : Below H w w') : Draws B b v n zs w' :=
  h.stay (hb.block b hH) (hb.mono (by have := h.low; omega))
theorem newCV_C (l : List Cb) (t : Int) (h : l.length ≤ 4) : (newCV l t).C.length ≤ 4 := by unfold newCV; split; exact h; exact Nat.zero_le _
theorem newCV_t (l : List Cb) (t : Int) (h : 1 ≤ t) (h' : t ≤ 6) : 0 ≤ (newCV l t).t ∧ (newCV l t).t ≤ 6 := by
  unfold newCV; split
  · exact ⟨by show (0 : Int) ≤ t; omega, h'⟩
  · exact ⟨by show (0 : Int) ≤ 0; omega, by show (0 : Int) ≤ 6; omega⟩

/-- A combiner that is drawn. -/
def CnDrawn (B b : Nat) (v : Value) (n : Nat) (zs : List Int) (w : World) (e : Ending) (w' : World) : Prop := ∃ (l : List Cb) (t : Int) (c : Cn) (a1 : Option Addr) (c1 : Nat) (a2 : Option Addr) (c2 : Nat) (a3 : Option Addr) (c3 : Nat) (fp : List Nat), l.length ≤ 4 ∧ (1 ≤ t ∧ t ≤ 6) ∧ c = newCV l t ∧ e = .returned (c.val (.slice a1 c.C.length c1) (.slice a2 c.Q.length c2) (.slice a3 c.A.length c3)) ∧ OwCn w' w.heap.size c (.slice a1 c.C.length c1) (.slice a2 c.Q.length c2) (.slice a3 c.A.length c3) fp ∧ Draws B b v n zs w' ∧ w.grownBy w' (some b)
set_option maxHeartbeats 4000000 in
set_option maxRecDepth 100000 in
theorem l11New_draw {B b n : Nat} {v : Value} {zs : List Int} {w : World} (h : Draws B b v n zs w) :
    Calls Try.prog 75 #[.pointer (some ⟨b, 0, none⟩)] w (CnDrawn B b v n zs w) := by
  have hlt := h.lt
  obtain ⟨W, hW⟩ : ∃ W, W = w.alloc (.cells #[.slice none 0 0, .int .i64 0, .slice none 0 0, .int .i64 0, .int .i64 0, .int .i64 0, .slice none 0 0] 28) := ⟨_, rfl⟩
  obtain ⟨gr, hgr⟩ : ∃ g, g = w.heap.size := ⟨_, rfl⟩
  have HD0 := Lib.hid (show Draws B b v n zs W by rw [hW]; exact h.alloc _)
  have HG0 := Lib.hid (show w.grownBy W (some b) by rw [hW]; exact grown_alloc _ _ _)
  have K0 := Lib.hid (show W.heap[gr]? = some (.cells #[.slice none 0 0, .int .i64 0, .slice none 0 0, .int .i64 0, .int .i64 0, .int .i64 0, .slice none 0 0] 28 (0, 0)) by rw [hW, hgr]; exact heap_alloc_new w _)
  have HZ0 := Lib.hid (show W.heap.size = gr + 1 by rw [hW, hgr]; simp)
  have hne : gr ≠ b := by omega
  have HLT := Lib.hid (show b < gr by omega)
  have HGR := Lib.hid hgr
  have HW := Lib.hid hW
  clear hW h hlt
  go_enter Try.func75, Try.ntmps75
  go_wp2_with fail
  rw [← HW.out, ← hgr]
  clear hgr
  refine (l11Combos_draw HD0.out).mono ?_
  rintro e w1 ⟨l, a, c0, rfl, hl4, ho, hd, hg⟩
  have HD1 := Lib.hid hd
  have HO1 := Lib.hid ho
  have HG1 := Lib.hid (grown_trans HG0.out hg)
  have K1 := Lib.hid (blk_grown K0.out hg hne)
  clear ho hd hg
  go_wp2_with fail
  refine (l1Below_draw 6 HD1.out (by omega) (by omega)).mono ?_
  rintro e w2 ⟨x, rfl, x0, x1, hd, hg⟩
  have HD2 := Lib.hid hd
  have HO2 := Lib.hid (show RdN w2 (.slice a l.length c0) l.length (flatCb l) from RdN.of_owns (owns_grown HO1.out hg (by have := HLT.out; have := HZ0.out; omega)))
  have HG2 := Lib.hid (grown_trans HG1.out hg)
  have K2 := Lib.hid (blk_grown K1.out hg hne)
  clear hd hg
  have hlm : l.length ≤ 1048576 := by omega
  go_wp2_with fail
  refine (specNewCombiner_any (.slice a l.length c0) l (1 + x) _ _ rfl rfl w2 hlm HO2.out).mono ?_
  rintro e w3 ⟨a1, c1, a2, c2, a3, c3, fp, rfl, how, hb⟩
  obtain ⟨c, hc⟩ : ∃ c, c = newCV l (1 + x) := ⟨_, rfl⟩
  rw [← hc] at how
  rw [← hc]
  obtain ⟨bb, hbb⟩ : ∃ bb, bb = okCn (newC l (1 + x)) := ⟨_, rfl⟩
  rw [← hbb]
  have HC := Lib.hid hc
  clear hbb hc
  have HD3 := Lib.hid (HD2.out.below hb)
  have HG3 := Lib.hid (grown_belo HG2.out (hb.mono HG2.out.size))
  have K3 := Lib.hid ((hb.block gr (Array.getElem?_eq_some_iff.mp K2.out).1).trans K2.out)
  have HOW := Lib.hid (how.base HG2.out.size)
  have HRF := Lib.hid how.rng
  have HS2 := Lib.hid (show gr < w2.heap.size from (Array.getElem?_eq_some_iff.mp K2.out).1)
  have HX := Lib.hid (show 1 ≤ 1 + x ∧ 1 + x ≤ 6 by omega)
  clear how hb x0 x1 hlm
  go_upto_region 2 with (fail)
  obtain ⟨w4, hw4⟩ : ∃ w4, w4 = w3.alloc (.cells #[.slice a1 c.C.length c1, .int .i64 c.t, .slice a2 c.Q.length c2, .int .i64 c.n, .int .i64 c.k, .int .i64 c.d, .slice a3 c.A.length c3] 28) := ⟨_, rfl⟩
  obtain ⟨g3, hg3⟩ : ∃ g, g = w3.heap.size := ⟨_, rfl⟩
  have hb4 : Below w3.heap.size w3 w4 := by rw [hw4]; exact (Below.refl _ _).alloc (Nat.le_refl _) _
  have HE := Lib.hid (show w4.heap[g3]? = some (.cells #[.slice a1 c.C.length c1, .int .i64 c.t, .slice a2 c.Q.length c2, .int .i64 c.n, .int .i64 c.k, .int .i64 c.d, .slice a3 c.A.length c3] 28 (0, 0)) by rw [hw4, hg3]; exact heap_alloc_new w3 _)
  have HD4 := Lib.hid (HD3.out.below hb4)
  have HG4 := Lib.hid (grown_belo HG3.out (hb4.mono HG3.out.size))
  have K4 := Lib.hid ((hb4.block gr (Array.getElem?_eq_some_iff.mp K3.out).1).trans K3.out)
  have HO4 := Lib.hid (HOW.out.below hb4)
  have HNG := Lib.hid (show gr ≠ g3 by have := (Array.getElem?_eq_some_iff.mp K3.out).1; omega)
  have HNF := Lib.hid (show gr ∉ fp from fun hm => by have := (HRF.out gr hm).1; have := HS2.out; omega)
  rw [← hw4, ← hg3]
  clear hw4 hg3 hb4
  have y0 := (cells_of_heap HE.out 0 (by simp)).1
  have y1 := (cells_of_heap HE.out 1 (by simp)).1
  have y2 := (cells_of_heap HE.out 2 (by simp)).1
  have y3 := (cells_of_heap HE.out 3 (by simp)).1
  have y4 := (cells_of_heap HE.out 4 (by simp)).1
  have y5 := (cells_of_heap HE.out 5 (by simp)).1
  have y6 := (cells_of_heap HE.out 6 (by simp)).1
  simp only [List.getElem_toArray, List.getElem_cons_zero, List.getElem_cons_succ] at y0 y1 y2 y3 y4 y5 y6
  obtain ⟨z0, q0⟩ := cells_of_heap K4.out 0 (by simp)
  obtain ⟨z1, q1⟩ := cells_of_heap K4.out 1 (by simp)
  obtain ⟨z2, q2⟩ := cells_of_heap K4.out 2 (by simp)
  obtain ⟨z3, q3⟩ := cells_of_heap K4.out 3 (by simp)
  obtain ⟨z4, q4⟩ := cells_of_heap K4.out 4 (by simp)
  obtain ⟨z5, q5⟩ := cells_of_heap K4.out 5 (by simp)
  obtain ⟨z6, q6⟩ := cells_of_heap K4.out 6 (by simp)
  go_wp2
  clear y0 y1 y2 y3 y4 y5 y6 z0 z1 z2 z3 z4 z5 z6 q0 q1 q2 q3 q4 q5 q6
  obtain ⟨wf, hwf⟩ : ∃ x, x = putW w4 gr 0 [.slice a1 c.C.length c1, .int .i64 c.t, .slice a2 c.Q.length c2, .int .i64 c.n, .int .i64 c.k, .int .i64 c.d, .slice a3 c.A.length c3] := ⟨_, rfl⟩
  have kf := putW_all [.slice a1 c.C.length c1, .int .i64 c.t, .slice a2 c.Q.length c2, .int .i64 c.n, .int .i64 c.k, .int .i64 c.d, .slice a3 c.A.length c3] K4.out rfl
  have bf := putW_below (b := gr) (Nat.le_refl gr) [.slice a1 c.C.length c1, .int .i64 c.t, .slice a2 c.Q.length c2, .int .i64 c.n, .int .i64 c.k, .int .i64 c.d, .slice a3 c.A.length c3] 0 _ (Below.refl gr w4)
  have of := HO4.out.putAt (y := gr) [.slice a1 c.C.length c1, .int .i64 c.t, .slice a2 c.Q.length c2, .int .i64 c.n, .int .i64 c.k, .int .i64 c.d, .slice a3 c.A.length c3] HNF.out 0
  rw [← hwf] at kf bf of
  have cf := hwf.symm
  simp only [putW, Nat.reduceAdd] at cf
  rw [cf]
  clear cf hwf
  have f0 := (cells_of_heap kf 0 (by simp)).1
  have f1 := (cells_of_heap kf 1 (by simp)).1
  have f2 := (cells_of_heap kf 2 (by simp)).1
  have f3 := (cells_of_heap kf 3 (by simp)).1
  have f4 := (cells_of_heap kf 4 (by simp)).1
  have f5 := (cells_of_heap kf 5 (by simp)).1
  have f6 := (cells_of_heap kf 6 (by simp)).1
  simp only [List.getElem_toArray, List.getElem_cons_zero, List.getElem_cons_succ] at f0 f1 f2 f3 f4 f5 f6
  exact bodyPost_ret (v := c.val (.slice a1 c.C.length c1) (.slice a2 c.Q.length c2) (.slice a3 c.A.length c3)) (by simp [results, Try.results75, go_sem, f0, f1, f2, f3, f4, f5, f6]) rfl ⟨l, 1 + x, c, a1, c1, a2, c2, a3, c3, fp, hl4, HX.out, HC.out, rfl, of, HD4.out.belo HLT.out bf, grown_belo HG4.out (bf.mono (by rw [HGR.out]; exact Nat.le_refl _))⟩

set_option maxHeartbeats 4000000 in
set_option maxRecDepth 100000 in
theorem l11Bent_draw {B b n : Nat} {v : Value} {zs : List Int} {w : World} (h : Draws B b v n zs w) :
    Calls Try.prog 82 #[.pointer (some ⟨b, 0, none⟩)] w fun e w' => ∃ (l : List Cb) (a : Option Addr) (c : Nat), e = .returned (.slice a l.length c) ∧ l.length ≤ 5 ∧ w'.ownsRow w.heap.size 94 2 (.slice a l.length c) l.length (flatCb l) ∧ Draws B b v n zs w' ∧ w.grownBy w' (some b) := by
  obtain ⟨i0, hi, hz0, hz1, hz2⟩ := info_parts info_cb
  have HLT := Lib.hid h.lt
  have HD0 := Lib.hid h
  clear h
  go_enter Try.func82, Try.ntmps82
  go_wp2_with fail
  refine (l11Combos_draw HD0.out).mono ?_
  rintro e w1 ⟨l, a, c, rfl, hl4, ho, hd, hg⟩
  have HD1 := Lib.hid hd
  have HO1 := Lib.hid ho
  have HG1 := Lib.hid hg
  clear ho hd hg
  go_wp2_with fail
  refine (l1Once_draw 3 HD1.out (by omega) (by omega)).mono ?_
  rintro e w2 ⟨tt, rfl, hd, hg⟩
  have HD2 := Lib.hid hd
  have HG2 := Lib.hid (grown_trans HG1.out hg)
  have HO2 := Lib.hid (owns_grown HO1.out hg HLT.out)
  clear hd hg
  cases tt
  · go_wp2
    go_ret
    exact ⟨l, a, c, rfl, by omega, HO2.out, HD2.out, HG2.out⟩
  · go_wp2_with fail
    have hcell : ∀ i, i < ([3, 1, 31, 16777217, -1, 10] : List Int).length → (w2.alloc (.cells #[.int .i64 3, .int .i64 1, .int .i64 31, .int .i64 16777217, .int .i64 (-1), .int .i64 10] 3)).cell? ⟨w2.heap.size, i, none⟩ = some (.int .i64 (([3, 1, 31, 16777217, -1, 10] : List Int).getD i 0)) := by
      intro i hi'
      have hh := heap_alloc_new w2 (.cells #[.int .i64 3, .int .i64 1, .int .i64 31, .int .i64 16777217, .int .i64 (-1), .int .i64 10] 3)
      simp only [List.length_cons, List.length_nil] at hi'
      have : i = 0 ∨ i = 1 ∨ i = 2 ∨ i = 3 ∨ i = 4 ∨ i = 5 := by omega
      rcases this with rfl | rfl | rfl | rfl | rfl | rfl <;> exact (cells_of_heap hh _ (by simp)).1
    have hlt' := HD2.out.lt
    refine (l1PickInt_draw w2.heap.size [3, 1, 31, 16777217, -1, 10] (HD2.out.alloc _) (by simp) (by simp) (by omega) hcell).mono ?_
    clear hcell hlt'
    rintro e w3 ⟨k, rfl, -, hd, hg⟩
    have HD3 := Lib.hid hd
    have HG3 := Lib.hid (grown_trans (grown_al HG2.out (o := .cells #[.int .i64 3, .int .i64 1, .int .i64 31, .int .i64 16777217, .int .i64 (-1), .int .i64 10] 3)) hg)
    have HO3 := Lib.hid (owns_grown (HO2.out.alloc (.cells #[.int .i64 3, .int .i64 1, .int .i64 31, .int .i64 16777217, .int .i64 (-1), .int .i64 10] 3)) hg HLT.out)
    clear hd hg
    go_wp2_with fail
    have hcell : ∀ i, i < ([23, 24, 31, 32, 30] : List Int).length → (w3.alloc (.cells #[.int .i64 23, .int .i64 24, .int .i64 31, .int .i64 32, .int .i64 30] 3)).cell? ⟨w3.heap.size, i, none⟩ = some (.int .i64 (([23, 24, 31, 32, 30] : List Int).getD i 0)) := by
      intro i hi'
      have hh := heap_alloc_new w3 (.cells #[.int .i64 23, .int .i64 24, .int .i64 31, .int .i64 32, .int .i64 30] 3)
      simp only [List.length_cons, List.length_nil] at hi'
      have : i = 0 ∨ i = 1 ∨ i = 2 ∨ i = 3 ∨ i = 4 := by omega
      rcases this with rfl | rfl | rfl | rfl | rfl <;> exact (cells_of_heap hh _ (by simp)).1
    have hlt' := HD3.out.lt
    refine (l1PickInt_draw w3.heap.size [23, 24, 31, 32, 30] (HD3.out.alloc _) (by simp) (by simp) (by omega) hcell).mono ?_
    clear hcell hlt'
    rintro e w4 ⟨o, rfl, -, hd, hg⟩
    have HD4 := Lib.hid hd
    have HG4 := Lib.hid (grown_trans (grown_al HG3.out (o := .cells #[.int .i64 23, .int .i64 24, .int .i64 31, .int .i64 32, .int .i64 30] 3)) hg)
    have HO4 := Lib.hid (owns_grown (HO3.out.alloc (.cells #[.int .i64 23, .int .i64 24, .int .i64 31, .int .i64 32, .int .i64 30] 3)) hg HLT.out)
    clear hd hg
    obtain ⟨N, hN⟩ : ∃ N, N = l.length := ⟨_, rfl⟩
    have HN := Lib.hid hN
    have HO := Lib.hid (show w4.ownsRow w.heap.size 94 2 (.slice a N c) N (flatCb l) by rw [hN]; exact HO4.out)
    have b63 : N + 1 ≤ maxLen := by unfold maxLen; omega
    have b47 : (N + 1) * 16 ≤ 140737488355328 := by omega
    rw [← hN]
    clear hN
    go_wp2_with (at_builtin; refine wpList_append_own _ rfl _ _ 24 rfl w.heap.size 94 i0 (.agg #[.int .i64 0, .int .i64 0]) 2 16 Try.underlying24 hi hz0 hz1 hz2 rfl (by decide) _ _ _ rfl (HO.out.alloc _) ⟨w4.heap.size, 0, none⟩ 1 1 [.int .i64 k, .int .i64 o] rfl rfl ?c1 ?c2 b63 b47 ?c5 ?_)
    case c1 => exact World.news_of_block (cs := #[.int .i64 k, .int .i64 o]) (t := 94) (fr := (0, 0)) (heap_alloc_new w4 _)
    case c2 => intro u hu; simp at hu; rcases hu with rfl | rfl <;> rfl
    case c5 => have hs := HG4.out.size; simp; omega
    · intro v' w5 hown1 hgrow _
      obtain ⟨a', c', rfl⟩ := owns_shape hown1
      have hlt5 := fun q (e : (Value.slice a N c).ownBlock = some q) => (HO.out.lt q e).1
      have HD5 := Lib.hid ((HD4.out.alloc (.cells #[.int .i64 k, .int .i64 o] 94)).high hgrow hlt5 HLT.out)
      have HG5 := Lib.hid (grown_high (grown_al HG4.out (o := .cells #[.int .i64 k, .int .i64 o] 94)) hgrow hlt5)
      have HO5 := Lib.hid (show w5.ownsRow w.heap.size 94 2 (.slice a' (l ++ [(⟨k, o⟩ : Cb)]).length c') (l ++ [(⟨k, o⟩ : Cb)]).length (flatCb (l ++ [(⟨k, o⟩ : Cb)])) by rw [List.length_append, ← HN.out, flatCb_snoc]; exact hown1)
      have HL5 := Lib.hid (show (l ++ [(⟨k, o⟩ : Cb)]).length = N + 1 by rw [List.length_append, ← HN.out]; rfl)
      clear hown1 hgrow hlt5 b63 b47
      go_wp2
      go_ret
      exact ⟨l ++ [⟨k, o⟩], a', c', by rw [HL5.out]; rfl, by rw [HL5.out]; have := HN.out; omega, HO5.out, HD5.out, HG5.out⟩

end Go.Proofs.Ytagmdkblcgnddaa
