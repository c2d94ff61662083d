/- DERIVED. The reference's TextMacro and TextReports: the taps and the reports of a text. -/
import Derived.Test.YteljmfdlegohbaaHoSpec2
import Derived.Test.YteljmfdlegohbaaRpsLaw
import Derived.Test.YteljmfdlegohbaaOwnJoin
namespace Go.Proofs.Yteljmfdlegohbaa
open Go.RowKit

def StT (x : List St × Bool) (w : World) (e : Ending) (w' : World) : Prop := ∃ a c, e = .returned (.tuple #[.slice a x.1.length c, .bool x.2]) ∧ w'.ownsRow w.heap.size 136 3 (.slice a x.1.length c) x.1.length (flatSt x.1) ∧ Below w.heap.size w w'
/-- Reports and a Bool that a call returns, the reports in memory of its own. -/
def RpT (x : List Rv × Bool) (w : World) (e : Ending) (w' : World) : Prop := ∃ a c fp, e = .returned (.tuple #[.slice a x.1.length c, .bool x.2]) ∧ OwP rpF w' w.heap.size 62 1 (.slice a x.1.length c) x.1 fp ∧ Below w.heap.size w w'
theorem tx_byte (s : ByteArray) (j : Nat) (h : j < s.size) : ∃ x : UInt8, x = s[j]'h ∧ koC s j = koP x := ⟨_, rfl, by
  rw [koC, List.getD_eq_getElem?_getD, List.getElem?_eq_getElem (by rw [Array.length_toList]; exact h)]
  rfl⟩
theorem specKeyOf_q (x : UInt8) (z r1 r2 : Int) (hz : z = (x.toNat : Int)) (hr : koP x = (r1, r2)) (w : World) : Calls Try.prog 62 #[.int .u8 z] w fun e w' => e = .returned (.tuple #[.int .i64 r1, .int .i64 r2]) ∧ Below w.heap.size w w' := by
  have h := specKeyOf_any x w
  rw [hr] at h
  rw [hz]; exact h

set_option maxRecDepth 100000 in
set_option maxHeartbeats 4000000 in
theorem specTextMacro_any (s : ByteArray) (w : World) (hs : s.size ≤ 1048576) : Calls Try.prog 79 #[.string s] w (StT (tpV 8 s) w) := by
  obtain ⟨i0, hi, hz0, hz1, hz2⟩ := info_parts info_st
  obtain ⟨X, hX⟩ : ∃ X, X = tpV 8 s := ⟨_, rfl⟩
  rw [← hX]
  have HX := Lib.hid hX
  clear hX
  by_cases h8 : s.size ≤ 8
  · have h8i : (s.size : Int) ≤ 8 := by omega
    go_enter Try.func79, Try.ntmps79
    go_wp2
    go_loopw [5, 4, 6, 7] (fun i u _ _ wr => ∃ (j n : Nat), j ≤ s.size ∧ i = .int .i64 j ∧ n = j ∧ okTx s j = true ∧ wr.ownsRow w.heap.size 136 3 u n (flatSt (stTx s j)) ∧ Below w.heap.size w wr) (fun i _ _ _ _ => s.size - (intOf i).toNat)
    case atStart => exact ⟨0, 0, Nat.zero_le _, rfl, rfl, rfl, World.ownsRow_lit (size := 3) w #[] 0 (Nat.le_refl _) (by simp [maxLen]) rfl, (Below.refl _ _).alloc (Nat.le_refl _) _⟩
    case round =>
      obtain ⟨j, n, hj, rfl, hnj, hok, hown, hb⟩ := hrel
      obtain ⟨ua, uc, rfl⟩ := owns_shape hown
      have HO := Lib.hid hown
      have HB := Lib.hid hb
      have HK := Lib.hid hok
      have HNJ := Lib.hid hnj
      clear hown hb hok
      by_cases hlt : j < s.size
      · have hj0 : (0 : Int) ≤ (j : Int) := by omega
        have hjs : (j : Int) < (s.size : Int) := by omega
        obtain ⟨x, hx, hxk⟩ := tx_byte s j hlt
        obtain ⟨r, hr⟩ : ∃ r, r = koP x := ⟨_, rfl⟩
        rw [← hr] at hxk
        obtain ⟨r1, r2⟩ := r
        obtain ⟨z, hz⟩ : ∃ z, z = (x.toNat : Int) := ⟨_, rfl⟩
        have e1 : ((s[j]'hlt).toNat : Int) = z := by rw [← hx, hz]
        have HR := Lib.hid hr.symm
        have HZ := Lib.hid hz
        have HXK := Lib.hid hxk
        clear hr hz hx hxk
        have hn10 : n ≤ 8 := by omega
        clear hnj
        go_wp2_with fail
        refine (specKeyOf_q x z r1 r2 HZ.out HR.out _).mono ?_
        rintro e w1 ⟨rfl, hb1⟩
        have HB1 := Lib.hid (HB.out.trans (hb1.mono HB.out.size))
        have HO1 := Lib.hid (owns_below HO.out hb1)
        clear hb1 HB HO
        by_cases hr0 : r1 = 0
        · have b0 : (r1 == 0) = true := by simp [hr0]
          have hXn : X = ([], false) := by
            rw [HX.out, tpV, if_neg]
            rintro ⟨_, h⟩
            rw [okTx_no (j := j) (by rw [HXK.out]; exact hr0) _ hlt] at h
            cases h
          subst hXn
          clear hr0
          go_wp2
          go_ret2
          exact ⟨_, _, rfl, World.ownsRow_lit (size := 3) w1 #[] 0 HB1.out.size (by simp [maxLen]) rfl, HB1.out.alloc HB1.out.size _⟩
        · have b0 : (r1 == 0) = false := by simp [hr0]
          have HK2 := Lib.hid (show okTx s (j + 1) = true by rw [okTx, HK.out, HXK.out, decide_eq_false hr0]; rfl)
          have HS2 := Lib.hid (show flatSt (stTx s (j + 1)) = flatSt (stTx s j) ++ [.int .i64 0, .int .i64 r1, .int .i64 r2] by rw [stTx_succ, flatSt_snoc, HXK.out])
          clear hr0
          have b63 : n + 1 ≤ maxLen := by unfold maxLen; omega
          have b47 : (n + 1) * 24 ≤ 140737488355328 := by omega
          go_wp2_with (at_builtin; refine wpList_append_lies _ rfl _ _ 53 rfl w.heap.size 136 i0 (.agg #[.int .i64 0, .int .i64 0, .int .i64 0]) 3 24 Try.underlying53 hi hz0 hz1 hz2 rfl (by decide) _ _ _ rfl (HO1.out.alloc _) ⟨w1.heap.size, 0, none⟩ 1 1 [.int .i64 0, .int .i64 r1, .int .i64 r2] rfl rfl (World.news_of_block (cs := #[.int .i64 0, .int .i64 r1, .int .i64 r2]) (t := 136) (fr := (0, 0)) (heap_alloc_new w1 _)) (by simp [Value.oneCell']) (by decide) b63 b47 (by have := HB1.out.size; simp; omega) (w1.heap.size + 1) (by simp) ?_)
          intro g2 cap2 w2 hown2 hgrow2 hat2 hlt2
          have HG := Lib.hid hown2
          have HB2 := Lib.hid ((HB1.out.alloc HB1.out.size _).grown hgrow2 (by have := HB1.out.size; simp; omega) (fun q hq => (HO1.out.lt q hq).1))
          clear hown2 hgrow2 hat2 hlt2
          go_wp2
          go_roundw
          case rel => exact ⟨j + 1, n + 1, by omega, by go_num, by rw [HNJ.out], HK2.out, by rw [HS2.out]; exact HG.out, HB2.out⟩
          case measure => simp [intOf]; omega
      · obtain rfl : j = s.size := by omega
        have hXn : X = (stTx s s.size, true) := by rw [HX.out, tpV, if_pos ⟨h8, HK.out⟩]
        have HL := Lib.hid (show n = X.1.length by rw [hXn, hnj]; exact (stTx_len _ _).symm)
        have hX2 : X.2 = true := by rw [hXn]
        have HX1 := Lib.hid (show flatSt X.1 = flatSt (stTx s s.size) by rw [hXn])
        clear hnj hXn
        go_wp2
        go_ret2
        exact ⟨ua, uc, by rw [hX2, ← HL.out]; rfl, by rw [← HL.out, HX1.out]; exact HO.out, HB.out⟩
  · have h8i : ¬ (s.size : Int) ≤ 8 := by omega
    have h8j : (8 : Int) < (s.size : Int) := by omega
    have h0 : (0 : Int) < (s.size : Int) := by omega
    have hXn : X = ([], false) := by rw [HX.out, tpV, if_neg (fun h => h8 h.1)]
    subst hXn
    go_enter Try.func79, Try.ntmps79
    go_wp2
    refine wp_loop_rounds 1 ?_
    rw [rounds_succ]
    go_wp2
    go_ret2
    exact ⟨_, _, rfl, by have h := World.ownsRow_lit (e := 136) (size := 3) (w.alloc (.cells #[] 136)) #[] 0 (show w.heap.size ≤ _ by simp) (by simp [maxLen]) rfl; rw [World.size_alloc] at h; exact h, ((Below.refl _ _).alloc (Nat.le_refl _) _).alloc (by simp) _⟩

theorem owZ_two {w : World} {B : Nat} {m1 m2 : Int} {z1 z2 : List Int} {u1 u2 : Value} {f1 f2 : List Nat} (h1 : OwC w B (.row [.int .i64]) u1 (.row (ones z1)) f1) (h2 : OwC w B (.row [.int .i64]) u2 (.row (ones z2)) f2) (hn : (f1 ++ f2).Nodup) (hB : B ≤ w.heap.size) :
    OwZ rpF (w.alloc (.cells #[.int .i64 m1, u1, .int .i64 m2, u2] 62)) B 1 (.slice (some ⟨w.heap.size, 0, none⟩) 2 2) [(m1, z1), (m2, z2)] (w.heap.size :: (f1 ++ f2)) := by
  have hk := heap_alloc_new w (.cells #[.int .i64 m1, u1, .int .i64 m2, u2] 62)
  have hr1 := h1.rng
  have hr2 := h2.rng
  refine ⟨[u1, u2], [f1, f2], ⟨⟨rfl, .inr ⟨w.heap.size, 0, 2, _, _, rfl, hB, hk, by simp, rfl⟩⟩, rfl, rfl, ?_, ?_⟩, by simp [ownFp, Value.ownBlock]⟩
  · intro j hj
    rcases (show j = 0 ∨ j = 1 by have : j < 2 := hj; omega) with rfl | rfl
    · exact h1.turn (Turn.of_below (below_alloc1 _ _) []) (fun _ _ hm => by simp at hm)
    · exact h2.turn (Turn.of_below (below_alloc1 _ _) []) (fun _ _ hm => by simp at hm)
  · rw [show ownFp (Value.slice (some ⟨w.heap.size, 0, none⟩) 2 2) = [w.heap.size] by simp [ownFp, Value.ownBlock]]
    refine List.nodup_append.2 ⟨by simp, by simpa using hn, fun x hx y hy e => ?_⟩
    rw [List.mem_singleton] at hx
    have : y ∈ f1 ++ f2 := by simpa using hy
    rcases List.mem_append.1 this with h | h
    · have := (hr1 y h).2; omega
    · have := (hr2 y h).2; omega
/-- Two reports are appended. -/
theorem OwP.grewTwo {w wx w2 : World} {B : Nat} {fp : List Nat} {v : Value} (hg : wx.grownBy w2 v.ownBlock) (hq : ∀ q, v.ownBlock = some q → q ∈ fp) (hr : ∀ b ∈ fp, B ≤ b) (hb : Below B w wx) (hB : B ≤ wx.heap.size) : Below B w w2 :=
  hb.grown hg hB fun q hq2 => hr q (hq q hq2)

set_option maxRecDepth 100000 in
set_option maxHeartbeats 4000000 in
theorem specTextReports_any (s : ByteArray) (w : World) (hs : s.size ≤ 1048576) : Calls Try.prog 76 #[.string s] w (RpT (trV s) w) := by
  obtain ⟨iR, hR, hR0, hR1, hR2⟩ := info_parts info_rp
  obtain ⟨X, hX⟩ : ∃ X, X = trV s := ⟨_, rfl⟩
  rw [← hX]
  have HX := Lib.hid hX
  clear hX
  by_cases h8 : s.size ≤ 60
  · have h8i : (s.size : Int) ≤ 60 := by omega
    go_enter Try.func76, Try.ntmps76
    go_wp2
    go_loopw [5, 4, 6, 7] (fun i u _ _ wr => ∃ (j n : Nat) (fp : List Nat), j ≤ s.size ∧ i = .int .i64 j ∧ n = (rpTx s j).length ∧ okTx s j = true ∧ (∃ ua uc, u = .slice ua n uc) ∧ OwP rpF wr w.heap.size 62 1 u (rpTx s j) fp ∧ Below w.heap.size w wr) (fun i _ _ _ _ => s.size - (intOf i).toNat)
    case atStart => exact ⟨0, 0, _, Nat.zero_le _, rfl, rfl, rfl, ⟨_, _, rfl⟩, OwP.start (World.ownsRow_lit (size := 2) w #[] 0 (Nat.le_refl _) (by simp [maxLen]) rfl), (Below.refl _ _).alloc (Nat.le_refl _) _⟩
    case round =>
      obtain ⟨j, n, fp, hj, rfl, hnj, hok, ⟨ua, uc, rfl⟩, hown, hb⟩ := hrel
      have HO := Lib.hid hown
      have HB := Lib.hid hb
      have HK := Lib.hid hok
      have HNJ := Lib.hid hnj
      have hn2 : n = 2 * j := by rw [hnj]; exact rpTx_len s j
      clear hown hb hok hnj
      by_cases hlt : j < s.size
      · have hj0 : (0 : Int) ≤ (j : Int) := by omega
        have hjs : (j : Int) < (s.size : Int) := by omega
        obtain ⟨x, hx, hxk⟩ := tx_byte s j hlt
        obtain ⟨r, hr⟩ : ∃ r, r = koP x := ⟨_, rfl⟩
        rw [← hr] at hxk
        obtain ⟨r1, r2⟩ := r
        obtain ⟨z, hz⟩ : ∃ z, z = (x.toNat : Int) := ⟨_, rfl⟩
        have e1 : ((s[j]'hlt).toNat : Int) = z := by rw [← hx, hz]
        have HR := Lib.hid hr.symm
        have HZ := Lib.hid hz
        have HXK := Lib.hid hxk
        clear hr hz hx hxk
        have hn10 : n ≤ 120 := by omega
        have HN2 := Lib.hid hn2
        clear hn2
        go_wp2_with fail
        refine (specKeyOf_q x z r1 r2 HZ.out HR.out _).mono ?_
        rintro e w1 ⟨rfl, hb1⟩
        have HB1 := Lib.hid (HB.out.trans (hb1.mono HB.out.size))
        have HO1 := Lib.hid (HO.out.below hb1)
        clear hb1 HB HO
        by_cases hr0 : r1 = 0
        · have b0 : (r1 == 0) = true := by simp [hr0]
          have hXn : X = ([], false) := by
            rw [HX.out, trV, if_neg]
            rintro ⟨_, h⟩
            rw [okTx_no (j := j) (by rw [HXK.out]; exact hr0) _ hlt] at h
            cases h
          subst hXn
          clear hr0
          go_wp2
          go_ret2
          exact ⟨_, _, _, rfl, OwP.start (World.ownsRow_lit (size := 2) w1 #[] 0 HB1.out.size (by simp [maxLen]) rfl), HB1.out.alloc HB1.out.size _⟩
        · have b0 : (r1 == 0) = false := by simp [hr0]
          have HK2 := Lib.hid (show okTx s (j + 1) = true by rw [okTx, HK.out, HXK.out, decide_eq_false hr0]; rfl)
          have HS2 := Lib.hid (show rpTx s (j + 1) = rpTx s j ++ [(r2, [r1]), (0, [])] by rw [rpTx_succ, HXK.out])
          clear hr0
          obtain ⟨f1, hc1, hn1, hg1⟩ := owC_row (zs := [r1]) (World.ownsRow_lit (e := 3) (size := 1) w1 #[.int .i64 r1] 1 (Nat.le_refl w1.heap.size) (by simp [maxLen]) rfl) (by simp)
          obtain ⟨wA, hA⟩ : ∃ x, x = w1.alloc (.cells #[.int .i64 r1] 3) := ⟨_, rfl⟩
          have hAs : wA.heap.size = w1.heap.size + 1 := by rw [hA]; simp
          rw [← hA] at hc1 hg1
          obtain ⟨f2, hc2, hn2, hg2⟩ := owC_row (zs := []) (World.ownsRow_lit (e := 3) (size := 1) wA #[] 0 (Nat.le_refl wA.heap.size) (by simp [maxLen]) rfl) (by simp)
          obtain ⟨wC, hC⟩ : ∃ x, x = wA.alloc (.cells #[] 3) := ⟨_, rfl⟩
          have hCs : wC.heap.size = w1.heap.size + 1 + 1 := by rw [hC]; simp [hAs]
          rw [← hC] at hc2 hg2
          have hbA : Below w1.heap.size w1 wA := by rw [hA]; exact (Below.refl _ _).alloc (Nat.le_refl _) _
          have hbC : Below wA.heap.size wA wC := by rw [hC]; exact (Below.refl _ _).alloc (Nat.le_refl _) _
          have hz2 := owZ_two (m1 := r2) (m2 := 0) (hc1.turn (Turn.of_below hbC []) (fun _ _ hm => by simp at hm)) (OwC.base _ _ _ _ hc2 (by omega)) (by
            rw [List.nodup_append]
            exact ⟨hn1, hn2, fun x hx y hy e => by have h1 := (hg1 x hx).2; have h2 := (hg2 y hy).1; omega⟩) (show w1.heap.size ≤ wC.heap.size by omega)
          obtain ⟨wX, hX'⟩ : ∃ x, x = wC.alloc (.cells #[.int .i64 r2, .slice (some ⟨w1.heap.size, 0, none⟩) 1 1, .int .i64 0, .slice (some ⟨w1.heap.size + 1, 0, none⟩) 0 0] 62) := ⟨_, rfl⟩
          have hbX : Below wC.heap.size wC wX := by rw [hX']; exact (Below.refl _ _).alloc (Nat.le_refl _) _
          have hbAll : Below w1.heap.size w1 wX := (hbA.trans (hbC.mono (by omega))).trans (hbX.mono (by omega))
          have hXs : wX.heap.size = w1.heap.size + 1 + 1 + 1 := by rw [hX']; simp [hCs]
          have hz3 : OwZ rpF wX w1.heap.size 1 (.slice (some ⟨w1.heap.size + 1 + 1, 0, none⟩) 2 2) [(r2, [r1]), (0, [])] (wC.heap.size :: (f1 ++ f2)) := by rw [hX', ← hCs]; rw [hAs] at hz2; exact hz2
          have HZ3 := Lib.hid hz3
          have HO2 := Lib.hid (HO1.out.below hbAll)
          have HB2 := Lib.hid (HB1.out.trans (hbAll.mono HB1.out.size))
          have HDis := Lib.hid (show ∀ b ∈ fp, b ∉ wC.heap.size :: (f1 ++ f2) from fun b hb hm => by have h1 := (HO1.out.rng b hb).2; have h2 := (hz3.rng b hm).1; omega)
          have b63 : n + 2 ≤ maxLen := by unfold maxLen; omega
          have b47 : (n + 2) * 32 ≤ 140737488355328 := by omega
          have hWX : (((w1.alloc (.cells #[.int .i64 r1] 3)).alloc (.cells #[] 3)).alloc (.cells #[.int .i64 r2, .slice (some ⟨w1.heap.size, 0, none⟩) 1 1, .int .i64 0, .slice (some ⟨w1.heap.size + 1, 0, none⟩) 0 0] 62)) = wX := by rw [hX', hC, hA]
          have HWX := Lib.hid hWX
          clear hc1 hn1 hg1 hA hc2 hn2 hg2 hC hbA hbC hz2 hX' hbX hbAll hXs hz3 hWX hAs hCs
          go_wp2_with (at_builtin; rw [HWX.out]; refine wpList_append_join rfl (.tmp 30) (.tmp 37) 50 rfl w.heap.size 62 1 rpF iR (.agg #[.int .i64 0, .slice none 0 0]) 32 Try.underlying50 hR hR0 hR1 hR2 rfl rpF_len (fun a u hu => by simp at hu; subst hu; rfl) _ _ (rpTx s j) [(r2, [r1]), (0, [])] fp _ rfl rfl HO2.out (HZ3.out.base HB1.out.size) HDis.out ?c1 ?c2 HB2.out.size ?_)
          case c1 => rw [← HNJ.out]; exact b63
          case c2 => rw [← HNJ.out]; exact b47
          intro a2 c2 w2 fp2 ho2 hnew hgrow hin
          have HB3 := Lib.hid (OwP.grewTwo hgrow hin (fun b hb => (HO2.out.rng b hb).1) HB2.out HB2.out.size)
          have HL2 := Lib.hid (show (rpTx s j ++ [(r2, [r1]), (0, [])]).length = n + 2 by rw [List.length_append, ← HNJ.out]; rfl)
          have HG := Lib.hid (show OwP rpF w2 w.heap.size 62 1 (.slice a2 (n + 2) c2) (rpTx s j ++ [(r2, [r1]), (0, [])]) fp2 by rw [HNJ.out]; exact ho2)
          clear ho2 hnew hgrow hin
          first | rw [HL2.out] | rw [← HNJ.out] | skip
          go_wp2
          go_roundw
          case rel => exact ⟨j + 1, n + 2, fp2, by omega, by go_num, by rw [HS2.out, HL2.out], HK2.out, ⟨a2, c2, rfl⟩, by rw [HS2.out]; exact HG.out, HB3.out⟩
          case measure => simp [intOf]; omega
      · obtain rfl : j = s.size := by omega
        have hXn : X = (rpTx s s.size, true) := by rw [HX.out, trV, if_pos ⟨h8, HK.out⟩]
        have HL := Lib.hid (show n = X.1.length by rw [hXn]; exact HNJ.out)
        have hX2 : X.2 = true := by rw [hXn]
        have HX1 := Lib.hid (show X.1 = rpTx s s.size by rw [hXn])
        clear hn2 hXn
        go_wp2
        go_ret2
        exact ⟨ua, uc, fp, by rw [hX2, ← HL.out]; rfl, by rw [← HL.out, HX1.out]; exact HO.out, HB.out⟩
  · have h8i : ¬ (s.size : Int) ≤ 60 := by omega
    have h8j : (60 : Int) < (s.size : Int) := by omega
    have h0 : (0 : Int) < (s.size : Int) := by omega
    have hXn : X = ([], false) := by rw [HX.out, trV, if_neg (fun h => h8 h.1)]
    subst hXn
    go_enter Try.func76, Try.ntmps76
    go_wp2
    refine wp_loop_rounds 1 ?_
    rw [rounds_succ]
    go_wp2
    go_ret2
    exact ⟨_, _, _, rfl, OwP.start (by have h := World.ownsRow_lit (e := 62) (size := 2) (w.alloc (.cells #[] 62)) #[] 0 (show w.heap.size ≤ _ by simp) (by simp [maxLen]) rfl; rw [World.size_alloc] at h; exact h), ((Below.refl _ _).alloc (Nat.le_refl _) _).alloc (by simp) _⟩

end Go.Proofs.Yteljmfdlegohbaa
