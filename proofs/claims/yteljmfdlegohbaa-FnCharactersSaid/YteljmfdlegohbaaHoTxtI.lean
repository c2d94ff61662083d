/- DERIVED. The program's tapsOf, TextMacro and TextReports: the taps and the reports of a text. -/
import Derived.Test.YteljmfdlegohbaaHoTxt
import Derived.Test.YteljmfdlegohbaaHoImpl
namespace Go.Proofs.Yteljmfdlegohbaa
open Go.RowKit

theorem implKeyOf_q (x : UInt8) (z r1 r2 : Int) (hz : z = (x.toNat : Int)) (hr : koP x = (r1, r2)) (w : World) : Calls Try.prog 38 #[.int .u8 z] w fun e w' => e = .returned (.tuple #[.int .i64 r1, .int .i64 r2]) ∧ w = w' := by
  have h := implKeyOf_any x w
  rw [hr] at h
  rw [hz]; exact h

set_option maxRecDepth 100000 in
set_option maxHeartbeats 4000000 in
theorem tapsOf_any (M : Nat) (hM : M ≤ 60) (s : ByteArray) (w : World) (hs : s.size ≤ 1048576) : Calls Try.prog 102 #[.string s, .int .i64 (M : Int)] w (StT (tpV M s) w) := by
  obtain ⟨i0, hi, hz0, hz1, hz2⟩ := info_parts info_st
  obtain ⟨X, hX⟩ : ∃ X, X = tpV M s := ⟨_, rfl⟩
  rw [← hX]
  have HX := Lib.hid hX
  clear hX
  by_cases h8 : s.size ≤ M
  · have h8i : ¬ (M : Int) < (s.size : Int) := by omega
    go_enter Try.func102, Try.ntmps102
    go_wp2
    go_loopw [16, 6] (fun i u wr => ∃ (j n : Nat), j ≤ s.size ∧ i = .int .i64 j ∧ n = j ∧ okTx s j = true ∧ wr.ownsRow w.heap.size 136 3 u n (flatSt (stTx s j)) ∧ Below w.heap.size w wr) (fun i _ _ => s.size - (intOf i).toNat)
    case atStart => exact ⟨0, 0, Nat.zero_le _, rfl, rfl, rfl, World.ownsRow_nil _ _ _ _, Below.refl _ _⟩
    case round =>
      obtain ⟨j, n, hj, rfl, hnj, hok, hown, hb⟩ := hrel
      obtain ⟨ua, uc, rfl⟩ := owns_shape hown
      have HO := Lib.hid hown
      have HB := Lib.hid hb
      have HK := Lib.hid hok
      have HNJ := Lib.hid hnj
      clear hown hb hok
      by_cases hlt : j < s.size
      · have hj0 : (0 : Int) ≤ (j : Int) := by omega
        have hjs : (j : Int) < (s.size : Int) := by omega
        obtain ⟨x, hx, hxk⟩ := tx_byte s j hlt
        obtain ⟨r, hr⟩ : ∃ r, r = koP x := ⟨_, rfl⟩
        rw [← hr] at hxk
        obtain ⟨r1, r2⟩ := r
        obtain ⟨z, hz⟩ : ∃ z, z = (x.toNat : Int) := ⟨_, rfl⟩
        have e1 : ((s[j]'hlt).toNat : Int) = z := by rw [← hx, hz]
        have HR := Lib.hid hr.symm
        have HZ := Lib.hid hz
        have HXK := Lib.hid hxk
        clear hr hz hx hxk
        have hn10 : n ≤ 60 := by omega
        clear hnj
        go_wp2_with fail
        refine (implKeyOf_q x z r1 r2 HZ.out HR.out _).mono ?_
        rintro e w0 ⟨rfl, rfl⟩
        have HB1 := HB
        have HO1 := HO
        clear HB HO
        by_cases hr0 : r1 = 0
        · have b0 : (r1 == 0) = true := by simp [hr0]
          have hXn : X = ([], false) := by
            rw [HX.out, tpV, if_neg]
            rintro ⟨_, h⟩
            rw [okTx_no (j := j) (by rw [HXK.out]; exact hr0) _ hlt] at h
            cases h
          subst hXn
          clear hr0
          go_wp2
          go_ret2
          exact ⟨none, 0, rfl, World.ownsRow_nil _ _ _ _, HB1.out⟩
        · have b0 : (r1 == 0) = false := by simp [hr0]
          have HK2 := Lib.hid (show okTx s (j + 1) = true by rw [okTx, HK.out, HXK.out, decide_eq_false hr0]; rfl)
          have HS2 := Lib.hid (show flatSt (stTx s (j + 1)) = flatSt (stTx s j) ++ [.int .i64 0, .int .i64 r1, .int .i64 r2] by rw [stTx_succ, flatSt_snoc, HXK.out])
          clear hr0
          have b63 : n + 1 ≤ maxLen := by unfold maxLen; omega
          have b47 : (n + 1) * 24 ≤ 140737488355328 := by omega
          go_wp2_with (at_builtin; refine wpList_append_lies _ rfl _ _ 53 rfl w.heap.size 136 i0 (.agg #[.int .i64 0, .int .i64 0, .int .i64 0]) 3 24 Try.underlying53 hi hz0 hz1 hz2 rfl (by decide) _ _ _ rfl (HO1.out.alloc _) ⟨wr.heap.size, 0, none⟩ 1 1 [.int .i64 0, .int .i64 r1, .int .i64 r2] rfl rfl (World.news_of_block (cs := #[.int .i64 0, .int .i64 r1, .int .i64 r2]) (t := 136) (fr := (0, 0)) (heap_alloc_new wr _)) (by simp [Value.oneCell']) (by decide) b63 b47 (by have := HB1.out.size; simp; omega) (wr.heap.size + 1) (by simp) ?_)
          intro g2 cap2 w2 hown2 hgrow2 hat2 hlt2
          have HG := Lib.hid hown2
          have HB2 := Lib.hid ((HB1.out.alloc HB1.out.size _).grown hgrow2 (by have := HB1.out.size; simp; omega) (fun q hq => (HO1.out.lt q hq).1))
          clear hown2 hgrow2 hat2 hlt2
          go_wp2
          go_roundw
          case rel => exact ⟨j + 1, n + 1, by omega, by go_num, by rw [HNJ.out], HK2.out, by rw [HS2.out]; exact HG.out, HB2.out⟩
          case measure => simp [intOf]; omega
      · obtain rfl : j = s.size := by omega
        have hXn : X = (stTx s s.size, true) := by rw [HX.out, tpV, if_pos ⟨h8, HK.out⟩]
        have HL := Lib.hid (show n = X.1.length by rw [hXn, hnj]; exact (stTx_len _ _).symm)
        have hX2 : X.2 = true := by rw [hXn]
        have HX1 := Lib.hid (show flatSt X.1 = flatSt (stTx s s.size) by rw [hXn])
        clear hnj hXn
        go_wp2
        go_ret2
        exact ⟨ua, uc, by rw [hX2, ← HL.out]; rfl, by rw [← HL.out, HX1.out]; exact HO.out, HB.out⟩
  · have h8i : (M : Int) < (s.size : Int) := by omega
    have hXn : X = ([], false) := by rw [HX.out, tpV, if_neg (fun h => h8 h.1)]
    subst hXn
    go_enter Try.func102, Try.ntmps102
    go_wp2
    go_ret2
    exact ⟨none, 0, rfl, World.ownsRow_nil _ _ _ _, Below.refl _ _⟩

theorem tapsOf_q (M : Nat) (hM : M ≤ 60) (s : ByteArray) (l : List St) (b : Bool) (hx : tpV M s = (l, b)) (w : World) (hs : s.size ≤ 1048576) : Calls Try.prog 102 #[.string s, .int .i64 (M : Int)] w (StT (l, b) w) := by
  rw [← hx]; exact tapsOf_any M hM s w hs

theorem implTextMacro_any (s : ByteArray) (w : World) (hs : s.size ≤ 1048576) : Calls Try.prog 34 #[.string s] w (StT (tpV 8 s) w) := by
  obtain ⟨X, hX⟩ : ∃ X, X = tpV 8 s := ⟨_, rfl⟩
  rw [← hX]
  obtain ⟨l, b⟩ := X
  have HX := Lib.hid hX.symm
  clear hX
  go_enter Try.func34, Try.ntmps34
  go_wp2_with fail
  refine (tapsOf_q 8 (by decide) s l b HX.out _ hs).mono ?_
  rintro e w1 ⟨a, c, rfl, ho, hb⟩
  obtain ⟨n, hn⟩ : ∃ n, n = l.length := ⟨_, rfl⟩
  simp only at ho ⊢
  rw [← hn] at ho ⊢
  have HN := Lib.hid hn
  have HO := Lib.hid ho
  have HB := Lib.hid hb
  clear hn ho hb
  go_wp2
  go_ret2
  exact ⟨a, c, by rw [← HN.out]; rfl, by rw [← HN.out]; exact HO.out, HB.out⟩

theorem stTx_D (s : ByteArray) (n j : Nat) (h : j < n) : stD (stTx s n) j = ⟨0, (koC s j).1, (koC s j).2⟩ := by simp [stD, stTx, h]

set_option maxRecDepth 100000 in
set_option maxHeartbeats 4000000 in
theorem implTextReports_any (s : ByteArray) (w : World) (hs : s.size ≤ 1048576) : Calls Try.prog 33 #[.string s] w (RpT (trV s) w) := by
  obtain ⟨iR, hR, hR0, hR1, hR2⟩ := info_parts info_rp
  obtain ⟨X, hX⟩ : ∃ X, X = trV s := ⟨_, rfl⟩
  rw [← hX]
  have HX := Lib.hid hX
  clear hX
  by_cases hg : s.size ≤ 60 ∧ okTx s s.size = true
  · obtain ⟨N, hN⟩ : ∃ N, N = s.size := ⟨_, rfl⟩
    have hN60 : N ≤ 60 := by rw [hN]; exact hg.1
    obtain ⟨l, hl⟩ : ∃ l, l = stTx s s.size := ⟨_, rfl⟩
    have hx : tpV 60 s = (l, true) := by rw [tpV, if_pos hg, hl]
    have hXr : X = (rpTx s N, true) := by rw [HX.out, trV, if_pos hg, hN]
    have hll : l.length = N := by rw [hl, hN]; exact stTx_len _ _
    have HT := Lib.hid hx
    have HXR := Lib.hid hXr
    have HLL := Lib.hid hll
    have HL := Lib.hid (show l = stTx s N by rw [hl, hN])
    clear hg hl hx hXr hN hll
    go_enter Try.func33, Try.ntmps33
    go_wp2_with fail
    refine (tapsOf_q 60 (by decide) s l true HT.out _ hs).mono ?_
    rintro e w1 ⟨ta, tc, rfl, ho, hb⟩
    simp only at ho ⊢
    rw [HLL.out] at ho ⊢
    have HO := Lib.hid ho
    have HB1 := Lib.hid hb
    clear ho hb
    go_wp2
    go_loopw [16, 6] (fun i u wr => ∃ (j n : Nat) (fp : List Nat), j ≤ N ∧ i = .int .i64 j ∧ n = (rpTx s j).length ∧ (∃ ua uc, u = .slice ua n uc) ∧ OwP rpF wr w1.heap.size 62 1 u (rpTx s j) fp ∧ Below w1.heap.size w1 wr) (fun i _ _ => N - (intOf i).toNat)
    case atStart => exact ⟨0, 0, _, Nat.zero_le _, rfl, rfl, ⟨_, _, rfl⟩, OwP.start (World.ownsRow_nil _ _ _ _), Below.refl _ _⟩
    case round =>
      obtain ⟨j, n, fp, hj, rfl, hnj, ⟨ua, uc, rfl⟩, hown, hb⟩ := hrel
      have HW := Lib.hid hown
      have HB := Lib.hid hb
      have HNJ := Lib.hid hnj
      have hn2 : n = 2 * j := by rw [hnj]; exact rpTx_len s j
      clear hown hb hnj
      by_cases hlt : j < N
      · have hj0 : (0 : Int) ≤ (j : Int) := by omega
        have hjs : (j : Int) < (N : Int) := by omega
        have hrdn := RdN.of_owns (owns_below HO.out HB.out)
        rw [show flatSt l = flatSt l from rfl] at hrdn
        obtain ⟨tb, off, rfl, hltb, c0, c1, c2⟩ := st_at (l := l) (by rw [HLL.out]; exact hrdn) (k := j) (by rw [HLL.out]; exact hlt)
        rw [HL.out, stTx_D s N j hlt] at c0 c1 c2
        obtain ⟨r, hr⟩ : ∃ r, r = koC s j := ⟨_, rfl⟩
        have hs2 := rpTx_succ s j
        rw [← hr] at c0 c1 c2 hs2
        obtain ⟨r1, r2⟩ := r
        simp only at c0 c1 c2 hs2
        have HS2 := Lib.hid hs2
        have hn10 : n ≤ 120 := by omega
        clear hr hs2 hrdn hn2
        go_upto_region 6 with (fail)
        obtain ⟨w3, hw3⟩ : ∃ x, x = wr.alloc (.cells #[.int .i64 0, .int .i64 r1, .int .i64 r2] 136) := ⟨_, rfl⟩
        obtain ⟨h, hh⟩ : ∃ h, h = wr.heap.size := ⟨_, rfl⟩
        have hb3 : Below wr.heap.size wr w3 := by rw [hw3]; exact (Below.refl _ _).alloc (Nat.le_refl _) _
        have hbx : Bxd w3 h [.int .i64 0, .int .i64 r1, .int .i64 r2] := by rw [hw3, hh]; exact Bxd.new _ _ _
        have hw3s : w3.heap.size = h + 1 := by rw [hw3, hh]; simp
        rw [← hw3, ← hh]
        have HO1 := Lib.hid (HW.out.below hb3)
        have HB3 := Lib.hid (HB.out.trans (hb3.mono HB.out.size))
        have x1 := hbx.at 1 _ rfl
        have x2 := hbx.at 2 _ rfl
        clear hw3 hh hb3 hbx c0 c1 c2 HW HB
        obtain ⟨f1, hc1, hn1, hg1⟩ := owC_row (zs := [r1]) (World.ownsRow_lit (e := 3) (size := 1) w3 #[.int .i64 r1] 1 (Nat.le_refl w3.heap.size) (by simp [maxLen]) rfl) (by simp)
        obtain ⟨wC, hC⟩ : ∃ x, x = w3.alloc (.cells #[.int .i64 r1] 3) := ⟨_, rfl⟩
        have hCs : wC.heap.size = w3.heap.size + 1 := by rw [hC]; simp
        rw [← hC] at hc1 hg1
        have hbC : Below w3.heap.size w3 wC := by rw [hC]; exact (Below.refl _ _).alloc (Nat.le_refl _) _
        have hz2 := owZ_two (m1 := r2) (m2 := 0) (z2 := []) hc1 (OwC.rowNil (w := wC) (B := w3.heap.size)) (by simpa using hn1) (show w3.heap.size ≤ wC.heap.size by omega)
        obtain ⟨wX, hX'⟩ : ∃ x, x = wC.alloc (.cells #[.int .i64 r2, .slice (some ⟨w3.heap.size, 0, none⟩) 1 1, .int .i64 0, .slice none 0 0] 62) := ⟨_, rfl⟩
        have hbX : Below wC.heap.size wC wX := by rw [hX']; exact (Below.refl _ _).alloc (Nat.le_refl _) _
        have hbAll : Below w3.heap.size w3 wX := hbC.trans (hbX.mono (by omega))
        have hz3 : OwZ rpF wX w3.heap.size 1 (.slice (some ⟨h + 1 + 1, 0, none⟩) 2 2) [(r2, [r1]), (0, [])] (wC.heap.size :: (f1 ++ [])) := by rw [hX', show h + 1 + 1 = wC.heap.size by omega]; exact hz2
        have HZ3 := Lib.hid hz3
        have HO2 := Lib.hid (HO1.out.below hbAll)
        have HB2 := Lib.hid (HB3.out.trans (hbAll.mono HB3.out.size))
        have HDis := Lib.hid (show ∀ b ∈ fp, b ∉ wC.heap.size :: (f1 ++ []) from fun b hb hm => by have h1 := (HO1.out.rng b hb).2; have h2 := (hz3.rng b hm).1; omega)
        have b63 : n + 2 ≤ maxLen := by unfold maxLen; omega
        have b47 : (n + 2) * 32 ≤ 140737488355328 := by omega
        have HWX := Lib.hid (show ((w3.alloc (.cells #[.int .i64 r1] 3)).alloc (.cells #[.int .i64 r2, .slice (some ⟨h + 1, 0, none⟩) 1 1, .int .i64 0, .slice none 0 0] 62)) = wX by rw [hX', hC, hw3s])
        have hs1 : (w3.alloc (.cells #[.int .i64 r1] 3)).heap.size = h + 1 + 1 := by simp [hw3s]
        clear hc1 hn1 hg1 hC hbC hz2 hX' hbX hbAll hz3 hCs
        go_wp2_with (at_builtin; rw [HWX.out]; refine wpList_append_join rfl (.tmp 20) (.tmp 28) 50 rfl w1.heap.size 62 1 rpF iR (.agg #[.int .i64 0, .slice none 0 0]) 32 Try.underlying50 hR hR0 hR1 hR2 rfl rpF_len (fun a u hu => by simp at hu; subst hu; rfl) _ _ (rpTx s j) [(r2, [r1]), (0, [])] fp _ rfl rfl HO2.out (HZ3.out.base HB3.out.size) HDis.out ?c1 ?c2 HB2.out.size ?_)
        case c1 => rw [← HNJ.out]; exact b63
        case c2 => rw [← HNJ.out]; exact b47
        intro a2 c2 w2 fp2 ho2 hnew hgrow hin
        have HB4 := Lib.hid (OwP.grewTwo hgrow hin (fun b hb => (HO2.out.rng b hb).1) HB2.out HB2.out.size)
        have HL2 := Lib.hid (show (rpTx s j ++ [(r2, [r1]), (0, [])]).length = n + 2 by rw [List.length_append, ← HNJ.out]; rfl)
        have HG := Lib.hid (show OwP rpF w2 w1.heap.size 62 1 (.slice a2 (n + 2) c2) (rpTx s j ++ [(r2, [r1]), (0, [])]) fp2 by rw [HNJ.out]; exact ho2)
        clear ho2 hnew hgrow hin x1 x2 hs1 hw3s
        first | rw [HL2.out] | rw [← HNJ.out] | skip
        go_wp2
        go_roundw
        case rel => exact ⟨j + 1, n + 2, fp2, by omega, by go_num, by rw [HS2.out, HL2.out], ⟨a2, c2, rfl⟩, by rw [HS2.out]; exact HG.out, HB4.out⟩
        case measure => simp [intOf]; omega
      · obtain rfl : j = N := by omega
        have hX2 : X.2 = true := by rw [HXR.out]
        have HX1 := Lib.hid (show X.1 = rpTx s j by rw [HXR.out])
        have HLn := Lib.hid (show n = X.1.length by rw [HX1.out]; exact HNJ.out)
        clear hn2
        go_wp2
        go_ret2
        exact ⟨ua, uc, fp, by rw [hX2, ← HLn.out]; rfl, by rw [← HLn.out, HX1.out]; exact HW.out.base HB1.out.size, HB1.out.trans (HB.out.mono HB1.out.size)⟩
  · obtain rfl : X = ([], false) := by rw [HX.out, trV, if_neg hg]
    have HT := Lib.hid (show tpV 60 s = ([], false) by rw [tpV, if_neg hg])
    clear hg
    go_enter Try.func33, Try.ntmps33
    go_wp2_with fail
    refine (tapsOf_q 60 (by decide) s [] false HT.out _ hs).mono ?_
    rintro e w1 ⟨ta, tc, rfl, ho, hb⟩
    have HB1 := Lib.hid hb
    simp only [List.length_nil] at ho ⊢
    clear ho hb
    go_wp2
    refine wp_loop_rounds 1 ?_
    rw [rounds_succ]
    go_wp2
    go_ret2
    exact ⟨none, 0, _, rfl, OwP.start (World.ownsRow_nil _ _ _ _), HB1.out⟩

end Go.Proofs.Yteljmfdlegohbaa
