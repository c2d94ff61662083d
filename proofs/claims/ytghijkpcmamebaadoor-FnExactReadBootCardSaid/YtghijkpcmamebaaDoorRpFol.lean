/- DERIVED. FnReports over the program's contracts as premises. -/
import Derived.Test.YtghijkpcmamebaaDoorRpDraw
import Derived.Test.YtghijkpcmamebaaDoorRpMath
import Derived.Test.YtghijkpcmamebaaDoorRpMath2
import Derived.Test.YtghijkpcmamebaaDoorRpLaw2
import Derived.Test.YtghijkpcmamebaaDoorRpSpec
import Derived.Test.YtghijkpcmamebaaDoorOwnBase
namespace Go.Proofs.YtghijkpcmamebaaDoor
open Go.RowKit

def RpMadeO (w : World) (e : Ending) (w' : World) : Prop :=
  ∃ (M : Int) (Z : List Int) (a : Option Addr) (c : Nat) (fp : List Nat), e = .returned (rpv M (.slice a Z.length c)) ∧ okRp M Z = true ∧ OwC w' w.heap.size (.row [.int .i64]) (.slice a Z.length c) (.row (ones Z)) fp ∧ Below w.heap.size w w'
theorem MakeReport_law (v : Value) (zs : List Int) (k : Int) (w : World) (hl : zs.length ≤ 1099511627776) (hz : ∀ z ∈ zs, 0 ≤ z ∧ z < 256) (h : Rd w v (zs.map (.int .u8))) :
    Calls Tryd.prog 9 #[v, .int .i64 k] w (RpMadeO w) :=
  (MakeReport_draw v zs k w hl hz h).mono fun e w' ⟨M, Z, ga, cap, he, hok, ho, hb⟩ => by
    obtain ⟨a, c, fp, hv, h⟩ := owC_len ho (by have := okRp_len hok; omega)
    rw [hv] at he
    exact ⟨M, Z, a, c, fp, he, hok, h, hb⟩
theorem rpT_size (r : Int) (zs : List Int) : (rpT r zs).size ≤ 341 := by
  rw [rpT]; split
  · rename_i h
    have h56 := okRp_len h
    have hj : (jn (zs.map nmV) commaS (zs.map nmV).length).length ≤ (zs.map nmV).length * 6 := by
      have := jn_le 5 (zs.map nmV) commaS (fun s hs => by obtain ⟨c, _, rfl⟩ := List.mem_map.1 hs; exact nmV_size c) _ (Nat.le_refl _)
      have e : commaS.size = 1 := rfl
      rw [e] at this
      exact this
    rw [List.length_map] at hj
    have h2 : (joined (zs.map nmV) commaS).size = (jn (zs.map nmV) commaS (zs.map nmV).length).length := rfl
    have h3 := mdV_size r
    have h4 : colonS.size = 1 := rfl
    rw [ByteArray.size_append, ByteArray.size_append, h2, h4, List.length_map]
    omega
  · exact Nat.zero_le _
theorem biV_byte (r : Int) (zs : List Int) : ∀ z ∈ biV r zs, 0 ≤ z ∧ z < 256 := by
  rw [biV]; split
  · rename_i h
    intro z hz
    obtain ⟨i, hi, rfl⟩ := List.getElem_of_mem hz
    have h1 := biN_byte h zs.length (Nat.le_refl _) i (by rw [biN_len] at hi; exact hi)
    rwa [getD_elem hi] at h1
  · simp
theorem bootAt_byte {r : Int} {zs : List Int} (h : okRp r zs = true) (i : Nat) : 0 ≤ bootAt zs i ∧ bootAt zs i < 256 := by
  rw [bootAt]; split
  · omega
  · split
    · rename_i hi
      have := (okRp_at h).2 i hi
      omega
    · omega
theorem bbV_byte (r : Int) (zs : List Int) : ∀ z ∈ bbV r zs, 0 ≤ z ∧ z < 256 := by
  rw [bbV]; split
  · rename_i h
    have hr := (okRp_at h).1
    intro z hz
    rcases List.mem_append.1 hz with h1 | h1
    · simp only [List.mem_cons, List.not_mem_nil, or_false] at h1
      omega
    · obtain ⟨i, _, rfl⟩ := List.mem_map.1 h1
      exact bootAt_byte h i
  · simp
theorem sameRp_self (r : Int) (zs : List Int) : sameRp r zs r zs = true := by rw [sameRp]; exact decide_eq_true ⟨rfl, rfl⟩
theorem rbV_pick (r : Int) (zs : List Int) (rl : Int) (zl : List Int) (h : okRp r zs = true) (hl : okRp rl zl = true) : rbV (bbV r zs) rl zl = ⟨r, if 6 < zs.length then zl else zs, true⟩ := by
  rw [rbV_bbV r zs rl zl h hl]; split <;> rfl

set_option maxHeartbeats 4000000 in
set_option maxRecDepth 100000 in
theorem lawReports_walk (a0 : Option Addr) (len cap0 : Nat) (bs : List Int) (w : World) (hlen : bs.length = len) (hz : ∀ z ∈ bs, 0 ≤ z ∧ z < 256) (h : Rd w (.slice a0 len cap0) (bs.map (.int .u8))) (hF : ∀ (r : Int) (u : Value) (zs : List Int) (w' : World), Below w.heap.size w w' → zs.length ≤ maxLen → Rd w' u (zs.map (.int .i64)) → Calls Tryd.prog 11 #[rpv r u] w' fun e w'' => e = .returned (.string (rpT r zs)) ∧ Below w'.heap.size w' w'') (hP : ∀ (s : ByteArray) (w' : World), Below w.heap.size w w' → s.size ≤ 1048576 → Calls Tryd.prog 10 #[.string s] w' (RpTO (prV s) w')) (hB : ∀ (r : Int) (u : Value) (zs : List Int) (w : World), zs.length ≤ maxLen → Rd w u (zs.map (.int .i64)) → Calls Tryd.prog 13 #[rpv r u] w (ByOut (biV r zs) w)) (hRB : ∀ (v : Value) (zs : List Int) (w : World), zs.length ≤ maxLen → (∀ z ∈ zs, 0 ≤ z ∧ z < 256) → Rd w v (zs.map (.int .u8)) → Calls Tryd.prog 12 #[v] w (RpTO (rdV zs) w)) (hBB : ∀ (r : Int) (u : Value) (zs : List Int) (w' : World), Below w.heap.size w w' → zs.length ≤ maxLen → Rd w' u (zs.map (.int .i64)) → Calls Tryd.prog 15 #[rpv r u] w' (ByOut (bbV r zs) w')) (hRT : ∀ (v : Value) (zs : List Int) (rl : Int) (u : Value) (zl : List Int) (w' : World), Below w.heap.size w w' → zs.length ≤ maxLen → CapOk v → (∀ z ∈ zs, 0 ≤ z ∧ z < 256) → Rd w' v (zs.map (.int .u8)) → zl.length ≤ 1048576 → Rd w' u (zl.map (.int .i64)) → Calls Tryd.prog 14 #[v, rpv rl u] w' (RpTO (rbV zs rl zl) w')) (hS : ∀ (r1 : Int) (u1 : Value) (z1 : List Int) (r2 : Int) (u2 : Value) (z2 : List Int) (w : World), z1.length ≤ maxLen → z2.length ≤ maxLen → Rd w u1 (z1.map (.int .i64)) → Rd w u2 (z2.map (.int .i64)) → Calls Tryd.prog 16 #[rpv r1 u1, rpv r2 u2] w fun e w' => e = .returned (.bool (sameRp r1 z1 r2 z2)) ∧ Below w.heap.size w w') : Calls Tryd.prog 3 #[.slice a0 len cap0] w fun e w' => e = .returned (.bool true) ∧ Below w.heap.size w w' := by
  subst hlen
  have HR := Lib.hid h
  have HZ := Lib.hid hz
  have HF := Lib.hid hF
  have HP := Lib.hid hP
  have HBi := Lib.hid hB
  have HRB := Lib.hid hRB
  have HBB := Lib.hid hBB
  have HRT := Lib.hid hRT
  have HSm := Lib.hid hS
  clear h hz hF hP hB hRB hBB hRT hS
  by_cases hb : (1048576 : Int) < (bs.length : Int)
  · have hd : decide ((1048576 : Int) < (bs.length : Int)) = true := decide_eq_true hb
    have HD := Lib.hid hd
    clear hb hd
    have HB0 := Lib.hid (Below.refl w.heap.size w)
    go_enter Tryd.func3, Tryd.ntmps3
    go_wp2_with fail
    refine (big_any a0 bs.length cap0 _).mono ?_
    rw [HD.out]
    rintro e v0 ⟨rfl, rfl⟩
    go_wp2
    go_ret
    exact ⟨rfl, HB0.out⟩
  · have hd : decide ((1048576 : Int) < (bs.length : Int)) = false := decide_eq_false hb
    have HD := Lib.hid hd
    have HLb := Lib.hid (show bs.length ≤ 1099511627776 by omega)
    clear hb hd
    have HB0 := Lib.hid (Below.refl w.heap.size w)
    go_enter Tryd.func3, Tryd.ntmps3
    go_wp2_with fail
    refine (big_any a0 bs.length cap0 _).mono ?_
    rw [HD.out]
    rintro e v0 ⟨rfl, rfl⟩
    go_wp2_with fail
    refine (MakeReport_law _ bs 12 _ HLb.out HZ.out (HR.out.below HB0.out)).mono ?_
    rintro e w1 ⟨M1, Z1, a1, c1, f1, rfl, hk1, h1, hb⟩
    have HB1 := Lib.hid (HB0.out.trans (hb.mono HB0.out.size))
    have HS1 := Lib.hid hb.size
    have Rr := Lib.hid (h1.rng)
    have Or_1 := Lib.hid h1
    clear hb h1
    have HK1 := Lib.hid hk1
    have HZl1 := Lib.hid (okRp_len hk1)
    clear hk1
    go_upto_region 4 with (fail)
    obtain ⟨w2, hw⟩ : ∃ x, x = w1.alloc (.cells #[.int .i64 M1, .slice a1 Z1.length c1] 26) := ⟨_, rfl⟩
    have hb : Below w1.heap.size w1 w2 := by rw [hw]; exact below_alloc1 _ _
    have hk : w2.heap[w1.heap.size]? = some (.cells #[.int .i64 M1, .slice a1 Z1.length c1] 26 (0, 0)) := by rw [hw]; exact heap_alloc_new _ _
    rw [← hw]
    have HB2 := Lib.hid (HB1.out.trans (hb.mono HB1.out.size))
    have HS2 := Lib.hid (show w1.heap.size < w2.heap.size from (Array.getElem?_eq_some_iff.mp hk).1)
    have Or_2 := Lib.hid (Or_1.out.below hb)
    clear Or_1
    have Kr_2 := Lib.hid hk
    clear hb hk hw
    go_wp2_with fail
    refine (MakeReport_law _ bs 13 _ HLb.out HZ.out (HR.out.below HB2.out)).mono ?_
    rintro e w3 ⟨M2, Z2, a2, c2, f2, rfl, hk2, h2, hb⟩
    have HB3 := Lib.hid (HB2.out.trans (hb.mono HB2.out.size))
    have HS3 := Lib.hid hb.size
    have Kr_3 := Lib.hid (blk_below Kr_2.out hb)
    have Or_3 := Lib.hid (Or_2.out.below hb)
    clear Kr_2 Or_2
    have Rl := Lib.hid (h2.rng)
    have Ol_3 := Lib.hid h2
    clear hb h2
    have HK2 := Lib.hid hk2
    have HZl2 := Lib.hid (okRp_len hk2)
    clear hk2
    go_upto_region 5 with (fail)
    obtain ⟨w4, hw⟩ : ∃ x, x = w3.alloc (.cells #[.int .i64 M2, .slice a2 Z2.length c2] 26) := ⟨_, rfl⟩
    have hb : Below w3.heap.size w3 w4 := by rw [hw]; exact below_alloc1 _ _
    have hk : w4.heap[w3.heap.size]? = some (.cells #[.int .i64 M2, .slice a2 Z2.length c2] 26 (0, 0)) := by rw [hw]; exact heap_alloc_new _ _
    rw [← hw]
    have HB4 := Lib.hid (HB3.out.trans (hb.mono HB3.out.size))
    have HS4 := Lib.hid (show w3.heap.size < w4.heap.size from (Array.getElem?_eq_some_iff.mp hk).1)
    have Kr_4 := Lib.hid (blk_below Kr_3.out hb)
    have Or_4 := Lib.hid (Or_3.out.below hb)
    have Ol_4 := Lib.hid (Ol_3.out.below hb)
    clear Kr_3 Or_3 Ol_3
    have Kl_4 := Lib.hid hk
    clear hb hk hw
    obtain ⟨T, hT⟩ : ∃ T, T = rpT M1 Z1 := ⟨_, rfl⟩
    have HTs := Lib.hid (show T.size ≤ 1048576 by rw [hT]; have := rpT_size M1 Z1; omega)
    have HP2 := Lib.hid (show ∀ w' : World, Below w.heap.size w w' → Calls Tryd.prog 10 #[.string T] w' (RpTO ⟨M1, Z1, true⟩ w') from fun w' hb => by rw [← prV_rpT M1 Z1 HK1.out, ← hT]; exact HP.out T w' hb HTs.out)
    have HF2 := Lib.hid (show ∀ (u : Value) (w' : World), Below w.heap.size w w' → Rd w' u (Z1.map (.int .i64)) → Calls Tryd.prog 11 #[rpv M1 u] w' fun e w'' => e = .returned (.string T) ∧ Below w'.heap.size w' w'' from fun u w' hb hr => by rw [hT]; exact HF.out M1 u Z1 w' hb (by have := HZl1.out; unfold maxLen; omega) hr)
    obtain ⟨zb, hzb⟩ : ∃ z, z = biV M1 Z1 := ⟨_, rfl⟩
    have HBi2 := Lib.hid (show ∀ (u : Value) (w : World), Rd w u (Z1.map (.int .i64)) → Calls Tryd.prog 13 #[rpv M1 u] w (ByOut zb w) from fun u w hr => by rw [hzb]; exact HBi.out M1 u Z1 w (by have := HZl1.out; unfold maxLen; omega) hr)
    have HRB2 := Lib.hid (show ∀ (v : Value) (w : World), Rd w v (zb.map (.int .u8)) → Calls Tryd.prog 12 #[v] w (RpTO ⟨M1, Z1, true⟩ w) from fun v w hr => by rw [← rdV_biV M1 Z1 HK1.out, ← hzb]; exact HRB.out v zb w (by rw [hzb]; have := biV_le M1 Z1; unfold maxLen; omega) (by rw [hzb]; exact biV_byte M1 Z1) hr)
    obtain ⟨zt, hzt⟩ : ∃ z, z = bbV M1 Z1 := ⟨_, rfl⟩
    obtain ⟨zr, hzr⟩ : ∃ z, z = if 6 < Z1.length then Z2 else Z1 := ⟨_, rfl⟩
    have HBB2 := Lib.hid (show ∀ (u : Value) (w' : World), Below w.heap.size w w' → Rd w' u (Z1.map (.int .i64)) → Calls Tryd.prog 15 #[rpv M1 u] w' (ByOut zt w') from fun u w' hb hr => by rw [hzt]; exact HBB.out M1 u Z1 w' hb (by have := HZl1.out; unfold maxLen; omega) hr)
    have HRT2 := Lib.hid (show ∀ (v u : Value) (w' : World), Below w.heap.size w w' → CapOk v → Rd w' v (zt.map (.int .u8)) → Rd w' u (Z2.map (.int .i64)) → Calls Tryd.prog 14 #[v, rpv M2 u] w' (RpTO ⟨M1, zr, true⟩ w') from fun v u w' hb hc hr hu => by rw [hzr, ← rbV_pick M1 Z1 M2 Z2 HK1.out HK2.out, ← hzt]; exact HRT.out v zt M2 u Z2 w' hb (by rw [hzt]; have := bbV_le M1 Z1; unfold maxLen; omega) hc (by rw [hzt]; exact bbV_byte M1 Z1) hr (by have := HZl2.out; omega) hu)
    have HS2 := Lib.hid (show ∀ (u1 u2 : Value) (Z : List Int) (w : World), Z.length ≤ 56 → Rd w u1 (Z.map (.int .i64)) → Rd w u2 (Z.map (.int .i64)) → Calls Tryd.prog 16 #[rpv M1 u1, rpv M1 u2] w fun e w' => e = .returned (.bool true) ∧ Below w.heap.size w w' from fun u1 u2 Z w hl h1 h2 => by rw [← sameRp_self M1 Z]; exact HSm.out M1 u1 Z M1 u2 Z w (by unfold maxLen; omega) (by unfold maxLen; omega) h1 h2)
    have HZr := Lib.hid hzr
    clear hT hzb hzt hzr
    have cr0 := (cells_of_heap Kr_4.out 0 (by simp)).1
    have cr1 := (cells_of_heap Kr_4.out 1 (by simp)).1
    go_wp2_with fail
    refine (HF2.out _ _ HB4.out (owC_rd Or_4.out)).mono ?_
    rintro e w5 ⟨rfl, hb⟩
    clear cr0 cr1
    have HB5 := Lib.hid (HB4.out.trans (hb.mono HB4.out.size))
    have HS5 := Lib.hid hb.size
    have Kr_5 := Lib.hid (blk_below Kr_4.out hb)
    have Kl_5 := Lib.hid (blk_below Kl_4.out hb)
    have Or_5 := Lib.hid (Or_4.out.below hb)
    have Ol_5 := Lib.hid (Ol_4.out.below hb)
    clear Kr_4 Kl_4 Or_4 Ol_4
    clear hb
    go_wp2_with fail
    refine (HP2.out _ HB5.out).mono ?_
    rintro e w6 ⟨a3, c3, f3, rfl, h3, hb⟩
    have HB6 := Lib.hid (HB5.out.trans (hb.mono HB5.out.size))
    have HS6 := Lib.hid hb.size
    have Kr_6 := Lib.hid (blk_below Kr_5.out hb)
    have Kl_6 := Lib.hid (blk_below Kl_5.out hb)
    have Or_6 := Lib.hid (Or_5.out.below hb)
    have Ol_6 := Lib.hid (Ol_5.out.below hb)
    clear Kr_5 Kl_5 Or_5 Ol_5
    have Rp := Lib.hid (h3.rng)
    have Op_6 := Lib.hid h3
    clear hb h3
    go_upto_region 6 with (fail)
    obtain ⟨w7, hw⟩ : ∃ x, x = w6.alloc (.cells #[.int .i64 M1, .slice a3 Z1.length c3] 26) := ⟨_, rfl⟩
    have hb : Below w6.heap.size w6 w7 := by rw [hw]; exact below_alloc1 _ _
    have hk : w7.heap[w6.heap.size]? = some (.cells #[.int .i64 M1, .slice a3 Z1.length c3] 26 (0, 0)) := by rw [hw]; exact heap_alloc_new _ _
    rw [← hw]
    have HB7 := Lib.hid (HB6.out.trans (hb.mono HB6.out.size))
    have HS7 := Lib.hid (show w6.heap.size < w7.heap.size from (Array.getElem?_eq_some_iff.mp hk).1)
    have Kr_7 := Lib.hid (blk_below Kr_6.out hb)
    have Kl_7 := Lib.hid (blk_below Kl_6.out hb)
    have Or_7 := Lib.hid (Or_6.out.below hb)
    have Ol_7 := Lib.hid (Ol_6.out.below hb)
    have Op_7 := Lib.hid (Op_6.out.below hb)
    clear Kr_6 Kl_6 Or_6 Ol_6 Op_6
    have Kp_7 := Lib.hid hk
    clear hb hk hw
    have cr0 := (cells_of_heap Kr_7.out 0 (by simp)).1
    have cr1 := (cells_of_heap Kr_7.out 1 (by simp)).1
    go_wp2_with fail
    refine (HBi2.out _ _ (owC_rd Or_7.out)).mono ?_
    rintro e w8 ⟨a4, c4, f4, rfl, h4, hb⟩
    clear cr0 cr1
    have HB8 := Lib.hid (HB7.out.trans (hb.mono HB7.out.size))
    have HS8 := Lib.hid hb.size
    have Kr_8 := Lib.hid (blk_below Kr_7.out hb)
    have Kl_8 := Lib.hid (blk_below Kl_7.out hb)
    have Kp_8 := Lib.hid (blk_below Kp_7.out hb)
    have Or_8 := Lib.hid (Or_7.out.below hb)
    have Ol_8 := Lib.hid (Ol_7.out.below hb)
    have Op_8 := Lib.hid (Op_7.out.below hb)
    clear Kr_7 Kl_7 Kp_7 Or_7 Ol_7 Op_7
    have Rb := Lib.hid (h4.rng)
    have Ob_8 := Lib.hid h4
    clear hb h4
    go_wp2_with fail
    refine (HRB2.out _ _ Ob_8.out.rd1).mono ?_
    rintro e w9 ⟨a5, c5, f5, rfl, h5, hb⟩
    have HB9 := Lib.hid (HB8.out.trans (hb.mono HB8.out.size))
    have HS9 := Lib.hid hb.size
    have Kr_9 := Lib.hid (blk_below Kr_8.out hb)
    have Kl_9 := Lib.hid (blk_below Kl_8.out hb)
    have Kp_9 := Lib.hid (blk_below Kp_8.out hb)
    have Or_9 := Lib.hid (Or_8.out.below hb)
    have Ol_9 := Lib.hid (Ol_8.out.below hb)
    have Op_9 := Lib.hid (Op_8.out.below hb)
    have Ob_9 := Lib.hid (Ob_8.out.below hb)
    clear Kr_8 Kl_8 Kp_8 Or_8 Ol_8 Op_8 Ob_8
    have Rq := Lib.hid (h5.rng)
    have Oq_9 := Lib.hid h5
    clear hb h5
    go_upto_region 7 with (fail)
    obtain ⟨w10, hw⟩ : ∃ x, x = w9.alloc (.cells #[.int .i64 M1, .slice a5 Z1.length c5] 26) := ⟨_, rfl⟩
    have hb : Below w9.heap.size w9 w10 := by rw [hw]; exact below_alloc1 _ _
    have hk : w10.heap[w9.heap.size]? = some (.cells #[.int .i64 M1, .slice a5 Z1.length c5] 26 (0, 0)) := by rw [hw]; exact heap_alloc_new _ _
    rw [← hw]
    have HB10 := Lib.hid (HB9.out.trans (hb.mono HB9.out.size))
    have HS10 := Lib.hid (show w9.heap.size < w10.heap.size from (Array.getElem?_eq_some_iff.mp hk).1)
    have Kr_10 := Lib.hid (blk_below Kr_9.out hb)
    have Kl_10 := Lib.hid (blk_below Kl_9.out hb)
    have Kp_10 := Lib.hid (blk_below Kp_9.out hb)
    have Or_10 := Lib.hid (Or_9.out.below hb)
    have Ol_10 := Lib.hid (Ol_9.out.below hb)
    have Op_10 := Lib.hid (Op_9.out.below hb)
    have Ob_10 := Lib.hid (Ob_9.out.below hb)
    have Oq_10 := Lib.hid (Oq_9.out.below hb)
    clear Kr_9 Kl_9 Kp_9 Or_9 Ol_9 Op_9 Ob_9 Oq_9
    have Kq_10 := Lib.hid hk
    clear hb hk hw
    go_upto_region 7 with (fail)
    go_cut [9, 10] (fun sp sq wx => ∃ (y9 : Nat) (a9 : Option Addr) (c9 : Nat) (f9 : List Nat), sp = .pointer (some ⟨y9, 0, none⟩) ∧ sq = .bool true ∧ w10.heap.size ≤ y9 ∧ y9 ∉ f9 ∧ wx.heap[y9]? = some (.cells #[.int .i64 M1, .slice a9 zr.length c9] 26 (0, 0)) ∧ OwC wx w10.heap.size (.row [.int .i64]) (.slice a9 zr.length c9) (.row (ones zr)) f9 ∧ Below w10.heap.size w10 wx)
    case first =>
      have cr0 := (cells_of_heap Kr_10.out 0 (by simp)).1
      have cr1 := (cells_of_heap Kr_10.out 1 (by simp)).1
      have cl0 := (cells_of_heap Kl_10.out 0 (by simp)).1
      have cl1 := (cells_of_heap Kl_10.out 1 (by simp)).1
      have lr : w1.heap.size < w10.heap.size := (Array.getElem?_eq_some_iff.mp Kr_10.out).1
      have nr0 : ¬ w1.heap.size = w10.heap.size := by omega
      have mr0 : ¬ w10.heap.size = w1.heap.size := by omega
      have ll : w3.heap.size < w10.heap.size := (Array.getElem?_eq_some_iff.mp Kl_10.out).1
      have nl0 : ¬ w3.heap.size = w10.heap.size := by omega
      have ml0 : ¬ w10.heap.size = w3.heap.size := by omega
      have X0 := Lib.hid (Below.refl w10.heap.size w10)
      go_region_held3 (fun w' => w'.cell? ⟨w1.heap.size, 0, none⟩ = some (.int .i64 M1) ∧ w'.cell? ⟨w1.heap.size, 1, none⟩ = some (.slice a1 Z1.length c1) ∧ w'.cell? ⟨w3.heap.size, 0, none⟩ = some (.int .i64 M2) ∧ w'.cell? ⟨w3.heap.size, 1, none⟩ = some (.slice a2 Z2.length c2)) (first | go_keep | simp [go_sem, *])
        (first | (go_at_call 15; refine (HBB2.out _ _ (HB10.out.trans (Below.mono (by first | exact X0.out | exact X0.out.drew | exact X0.out.drew.drew | exact X0.out.alloc X0.out.size _ | exact (X0.out.alloc X0.out.size _).drew | exact (X0.out.alloc X0.out.size _).drew.drew) HB10.out.size)) ((owC_rd Or_10.out).below (by first | exact X0.out | exact X0.out.drew | exact X0.out.drew.drew | exact X0.out.alloc X0.out.size _ | exact (X0.out.alloc X0.out.size _).drew | exact (X0.out.alloc X0.out.size _).drew.drew))).mono ?_; rintro e v1 ⟨a8, c8, f8, rfl, hy8, hb⟩; have hbr : Below w10.heap.size w10 v1 := below_via (by first | exact X0.out | exact X0.out.drew | exact X0.out.drew.drew | exact X0.out.alloc X0.out.size _ | exact (X0.out.alloc X0.out.size _).drew | exact (X0.out.alloc X0.out.size _).drew.drew) hb; have kcr0 := (hbr.cell (p := ⟨w1.heap.size, 0, none⟩) lr).trans cr0; have kcr1 := (hbr.cell (p := ⟨w1.heap.size, 1, none⟩) lr).trans cr1; have kcl0 := (hbr.cell (p := ⟨w3.heap.size, 0, none⟩) ll).trans cl0; have kcl1 := (hbr.cell (p := ⟨w3.heap.size, 1, none⟩) ll).trans cl1; have nr1 : ¬ w1.heap.size = v1.heap.size := (by have := hbr.size; omega); have mr1 : ¬ v1.heap.size = w1.heap.size := (by have := hbr.size; omega); have nl1 : ¬ w3.heap.size = v1.heap.size := (by have := hbr.size; omega); have ml1 : ¬ v1.heap.size = w3.heap.size := (by have := hbr.size; omega); (first | (have KY := Lib.hid (ky_new X0.out.size hb)) | (have KY := Lib.hid (ky_drew X0.out.size hb)) | (have KY := Lib.hid (ky_old KY.out hb rfl)) | skip); have HY8 := Lib.hid (hy8); have X1 := Lib.hid hbr; clear hbr hb) | (go_at_call 14; refine (HRT2.out _ _ _ (HB10.out.trans (Below.mono (by first | exact X1.out | exact X1.out.drew | exact X1.out.drew.drew | exact X1.out.alloc X1.out.size _ | exact (X1.out.alloc X1.out.size _).drew | exact (X1.out.alloc X1.out.size _).drew.drew) HB10.out.size)) (capOk_of HY8.out) (HY8.out.rd1.below (by first | exact (Below.refl _ _) | exact (Below.refl _ _).drew | exact (Below.refl _ _).drew.drew | exact (Below.refl _ _).alloc (Nat.le_refl _) _ | exact ((Below.refl _ _).alloc (Nat.le_refl _) _).drew | exact ((Below.refl _ _).alloc (Nat.le_refl _) _).drew.drew)) ((owC_rd Ol_10.out).below (by first | exact X1.out | exact X1.out.drew | exact X1.out.drew.drew | exact X1.out.alloc X1.out.size _ | exact (X1.out.alloc X1.out.size _).drew | exact (X1.out.alloc X1.out.size _).drew.drew))).mono ?_; rintro e v2 ⟨a9, c9, f9, rfl, h9, hb⟩; have hbr : Below w10.heap.size w10 v2 := below_via (by first | exact X1.out | exact X1.out.drew | exact X1.out.drew.drew | exact X1.out.alloc X1.out.size _ | exact (X1.out.alloc X1.out.size _).drew | exact (X1.out.alloc X1.out.size _).drew.drew) hb; have kcr0 := (hbr.cell (p := ⟨w1.heap.size, 0, none⟩) lr).trans cr0; have kcr1 := (hbr.cell (p := ⟨w1.heap.size, 1, none⟩) lr).trans cr1; have kcl0 := (hbr.cell (p := ⟨w3.heap.size, 0, none⟩) ll).trans cl0; have kcl1 := (hbr.cell (p := ⟨w3.heap.size, 1, none⟩) ll).trans cl1; have nr2 : ¬ w1.heap.size = v2.heap.size := (by have := hbr.size; omega); have mr2 : ¬ v2.heap.size = w1.heap.size := (by have := hbr.size; omega); have nl2 : ¬ w3.heap.size = v2.heap.size := (by have := hbr.size; omega); have ml2 : ¬ v2.heap.size = w3.heap.size := (by have := hbr.size; omega); (first | (have KY := Lib.hid (ky_new X1.out.size hb)) | (have KY := Lib.hid (ky_drew X1.out.size hb)) | (have KY := Lib.hid (ky_old KY.out hb rfl)) | skip); have H9R := Lib.hid (h9.rng); have H9 := Lib.hid (OwC.base (B := w10.heap.size) _ _ _ _ h9 (Below.size (B := w10.heap.size) (w := w10) (by first | exact X1.out | exact X1.out.drew | exact X1.out.drew.drew | exact X1.out.alloc X1.out.size _ | exact (X1.out.alloc X1.out.size _).drew | exact (X1.out.alloc X1.out.size _).drew.drew))); have X2 := Lib.hid hbr; clear hbr hb; (try (have e0 := cells_of_heap KY.out.1 0 (by simp); have g0 := e0.2; replace e0 := e0.1; have e1 := cells_of_heap KY.out.1 1 (by simp); have g1 := e1.2; replace e1 := e1.1))))
      all_goals
        go_wp2
        go_meet
        first | exact ⟨v2.heap.size, _, _, _, rfl, rfl, X2.out.size, fun hm => Nat.lt_irrefl _ (H9R.out _ hm).2, heap_alloc_new _ _, H9.out.below ((Below.refl _ _).alloc (Nat.le_refl _) _), X2.out.alloc X2.out.size _⟩ | exact ⟨v2.heap.size, _, _, _, rfl, rfl, X2.out.size, fun hm => Nat.lt_irrefl _ (H9R.out _ hm).2, heap_alloc_new _ _, H9.out.below ((Below.refl _ _).alloc (Nat.le_refl _) _).drew, (X2.out.alloc X2.out.size _).drew⟩ | exact ⟨_, _, _, _, rfl, rfl, KY.out.2.2, (fun hm => Nat.lt_irrefl _ (Nat.lt_of_lt_of_le KY.out.2.1 (H9R.out _ hm).1)), putW_all [.int .i64 M1, .slice _ zr.length _] KY.out.1 rfl, H9.out.putAt [.int .i64 M1, .slice _ zr.length _] (fun hm => Nat.lt_irrefl _ (Nat.lt_of_lt_of_le KY.out.2.1 (H9R.out _ hm).1)) 0, putW_below KY.out.2.2 [.int .i64 M1, .slice _ zr.length _] 0 _ X2.out⟩ | exact ⟨_, _, _, _, rfl, rfl, KY.out.2.2, (fun hm => Nat.lt_irrefl _ (Nat.lt_of_lt_of_le KY.out.2.1 (H9R.out _ hm).1)), putW_all [.int .i64 M1, .slice _ zr.length _] KY.out.1 rfl, (H9.out.putAt [.int .i64 M1, .slice _ zr.length _] (fun hm => Nat.lt_irrefl _ (Nat.lt_of_lt_of_le KY.out.2.1 (H9R.out _ hm).1)) 0).below (Below.refl _ _).drew, (putW_below KY.out.2.2 [.int .i64 M1, .slice _ zr.length _] 0 _ X2.out).drew⟩
    case rest =>
      obtain ⟨yz, az, cz, fz, rfl, rfl, hlz, hni, hk, hz, hb⟩ := hcut
      obtain ⟨w11, hEq⟩ : ∃ x, x = wc := ⟨_, rfl⟩
      rw [← hEq] at hk hz hb ⊢
      clear hEq
      have huz : yz < w11.heap.size := (Array.getElem?_eq_some_iff.mp hk).1
      have HB11 := Lib.hid (HB10.out.trans (hb.mono HB10.out.size))
      have HS11 := Lib.hid hb.size
      have Kr_11 := Lib.hid (blk_below Kr_10.out hb)
      have Kl_11 := Lib.hid (blk_below Kl_10.out hb)
      have Kp_11 := Lib.hid (blk_below Kp_10.out hb)
      have Kq_11 := Lib.hid (blk_below Kq_10.out hb)
      have Or_11 := Lib.hid (Or_10.out.below hb)
      have Ol_11 := Lib.hid (Ol_10.out.below hb)
      have Op_11 := Lib.hid (Op_10.out.below hb)
      have Ob_11 := Lib.hid (Ob_10.out.below hb)
      have Oq_11 := Lib.hid (Oq_10.out.below hb)
      clear Kr_10 Kl_10 Kp_10 Kq_10 Or_10 Ol_10 Op_10 Ob_10 Oq_10
      have Rz := Lib.hid hz.rng
      have Oz_11 := Lib.hid hz
      have Kz_11 := Lib.hid hk
      have NIz := Lib.hid hni
      clear hb hk hni hz
      have cp0 := (cells_of_heap Kp_11.out 0 (by simp)).1
      have cp1 := (cells_of_heap Kp_11.out 1 (by simp)).1
      have cr0 := (cells_of_heap Kr_11.out 0 (by simp)).1
      have cr1 := (cells_of_heap Kr_11.out 1 (by simp)).1
      go_wp2_with fail
      refine (HS2.out _ _ Z1 _ HZl1.out (owC_rd Op_11.out) (owC_rd Or_11.out)).mono ?_
      rintro e w12 ⟨rfl, hb⟩
      clear cp0 cp1 cr0 cr1
      have HB12 := Lib.hid (HB11.out.trans (hb.mono HB11.out.size))
      have HS12 := Lib.hid hb.size
      have Kr_12 := Lib.hid (blk_below Kr_11.out hb)
      have Kl_12 := Lib.hid (blk_below Kl_11.out hb)
      have Kp_12 := Lib.hid (blk_below Kp_11.out hb)
      have Kq_12 := Lib.hid (blk_below Kq_11.out hb)
      have Kz_12 := Lib.hid (blk_below Kz_11.out hb)
      have Or_12 := Lib.hid (Or_11.out.below hb)
      have Ol_12 := Lib.hid (Ol_11.out.below hb)
      have Op_12 := Lib.hid (Op_11.out.below hb)
      have Ob_12 := Lib.hid (Ob_11.out.below hb)
      have Oq_12 := Lib.hid (Oq_11.out.below hb)
      have Oz_12 := Lib.hid (Oz_11.out.below hb)
      clear Kr_11 Kl_11 Kp_11 Kq_11 Kz_11 Or_11 Ol_11 Op_11 Ob_11 Oq_11 Oz_11
      clear hb
      have cq0 := (cells_of_heap Kq_12.out 0 (by simp)).1
      have cq1 := (cells_of_heap Kq_12.out 1 (by simp)).1
      have cr0 := (cells_of_heap Kr_12.out 0 (by simp)).1
      have cr1 := (cells_of_heap Kr_12.out 1 (by simp)).1
      go_wp2_with fail
      refine (HS2.out _ _ Z1 _ HZl1.out (owC_rd Oq_12.out) (owC_rd Or_12.out)).mono ?_
      rintro e w13 ⟨rfl, hb⟩
      clear cq0 cq1 cr0 cr1
      have HB13 := Lib.hid (HB12.out.trans (hb.mono HB12.out.size))
      have HS13 := Lib.hid hb.size
      have Kr_13 := Lib.hid (blk_below Kr_12.out hb)
      have Kl_13 := Lib.hid (blk_below Kl_12.out hb)
      have Kp_13 := Lib.hid (blk_below Kp_12.out hb)
      have Kq_13 := Lib.hid (blk_below Kq_12.out hb)
      have Kz_13 := Lib.hid (blk_below Kz_12.out hb)
      have Or_13 := Lib.hid (Or_12.out.below hb)
      have Ol_13 := Lib.hid (Ol_12.out.below hb)
      have Op_13 := Lib.hid (Op_12.out.below hb)
      have Ob_13 := Lib.hid (Ob_12.out.below hb)
      have Oq_13 := Lib.hid (Oq_12.out.below hb)
      have Oz_13 := Lib.hid (Oz_12.out.below hb)
      clear Kr_12 Kl_12 Kp_12 Kq_12 Kz_12 Or_12 Ol_12 Op_12 Ob_12 Oq_12 Oz_12
      clear hb
      by_cases h6 : 6 < Z1.length
      · obtain rfl : zr = Z2 := by rw [HZr.out, if_pos h6]
        have h6' : (6 : Int) < (Z1.length : Int) := by omega
        clear h6
        have cz0 := (cells_of_heap Kz_13.out 0 (by simp)).1
        have cz1 := (cells_of_heap Kz_13.out 1 (by simp)).1
        have cr0 := (cells_of_heap Kr_13.out 0 (by simp)).1
        have cr1 := (cells_of_heap Kr_13.out 1 (by simp)).1
        have cl0 := (cells_of_heap Kl_13.out 0 (by simp)).1
        have cl1 := (cells_of_heap Kl_13.out 1 (by simp)).1
        go_wp2_with fail
        refine (HS2.out _ _ zr _ HZl2.out (owC_rd Oz_13.out) (owC_rd Ol_13.out)).mono ?_
        rintro e w14 ⟨rfl, hb⟩
        clear cz0 cz1 cr0 cr1 cl0 cl1
        have HB14 := Lib.hid (HB13.out.trans (hb.mono HB13.out.size))
        have HS14 := Lib.hid hb.size
        have Kr_14 := Lib.hid (blk_below Kr_13.out hb)
        have Kl_14 := Lib.hid (blk_below Kl_13.out hb)
        have Kp_14 := Lib.hid (blk_below Kp_13.out hb)
        have Kq_14 := Lib.hid (blk_below Kq_13.out hb)
        have Kz_14 := Lib.hid (blk_below Kz_13.out hb)
        have Or_14 := Lib.hid (Or_13.out.below hb)
        have Ol_14 := Lib.hid (Ol_13.out.below hb)
        have Op_14 := Lib.hid (Op_13.out.below hb)
        have Ob_14 := Lib.hid (Ob_13.out.below hb)
        have Oq_14 := Lib.hid (Oq_13.out.below hb)
        have Oz_14 := Lib.hid (Oz_13.out.below hb)
        clear Kr_13 Kl_13 Kp_13 Kq_13 Kz_13 Or_13 Ol_13 Op_13 Ob_13 Oq_13 Oz_13
        clear hb
        go_wp2
        go_ret
        exact ⟨rfl, HB14.out⟩
      · obtain rfl : zr = Z1 := by rw [HZr.out, if_neg h6]
        have h6' : ¬ (6 : Int) < (zr.length : Int) := by omega
        clear h6
        have cz0 := (cells_of_heap Kz_13.out 0 (by simp)).1
        have cz1 := (cells_of_heap Kz_13.out 1 (by simp)).1
        have cr0 := (cells_of_heap Kr_13.out 0 (by simp)).1
        have cr1 := (cells_of_heap Kr_13.out 1 (by simp)).1
        go_wp2_with fail
        refine (HS2.out _ _ zr _ HZl1.out (owC_rd Oz_13.out) (owC_rd Or_13.out)).mono ?_
        rintro e w14 ⟨rfl, hb⟩
        clear cz0 cz1 cr0 cr1
        have HB14 := Lib.hid (HB13.out.trans (hb.mono HB13.out.size))
        have HS14 := Lib.hid hb.size
        have Kr_14 := Lib.hid (blk_below Kr_13.out hb)
        have Kl_14 := Lib.hid (blk_below Kl_13.out hb)
        have Kp_14 := Lib.hid (blk_below Kp_13.out hb)
        have Kq_14 := Lib.hid (blk_below Kq_13.out hb)
        have Kz_14 := Lib.hid (blk_below Kz_13.out hb)
        have Or_14 := Lib.hid (Or_13.out.below hb)
        have Ol_14 := Lib.hid (Ol_13.out.below hb)
        have Op_14 := Lib.hid (Op_13.out.below hb)
        have Ob_14 := Lib.hid (Ob_13.out.below hb)
        have Oq_14 := Lib.hid (Oq_13.out.below hb)
        have Oz_14 := Lib.hid (Oz_13.out.below hb)
        clear Kr_13 Kl_13 Kp_13 Kq_13 Kz_13 Or_13 Ol_13 Op_13 Ob_13 Oq_13 Oz_13
        clear hb
        go_wp2
        go_ret
        exact ⟨rfl, HB14.out⟩

end Go.Proofs.YtghijkpcmamebaaDoor
