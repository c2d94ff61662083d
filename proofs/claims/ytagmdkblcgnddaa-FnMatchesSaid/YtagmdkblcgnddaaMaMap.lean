/- DERIVED. The program's map of combinations: made, narrowed, asked whether a set can become one, settled. -/
import Derived.Test.YtagmdkblcgnddaaMpCb
import Derived.Test.YtagmdkblcgnddaaMaDef
import Derived.Test.YtagmdkblcgnddaaCnImpl
import Derived.Deep.RegionHeld3
namespace Go.Proofs.Ytagmdkblcgnddaa
open Go.RowKit

theorem Mp.lenRun {w : World} {b n : Nat} {L : List (Int × Int)} (h : Mp w b n L) (t : TypeId) (ht : Try.prog.underlying t = some (.map 3 3)) (q : Nat) (hq : L.length = q) (ty : TypeId) : (Builtin.len_ #[t] ty #[.map (some b)]).run Try.prog w = .ok (.int .i64 (q : Int)) w := by
  obtain ⟨D, h, hm⟩ := h
  rw [h.len ht ty, hm.size, hq]
/-- The key of a pair has all switches of a set. -/
def fitK (S : Nat) (p : Int × Int) : Bool := bits .andNot .i64 (S : Int) p.1 == 0
set_option maxRecDepth 100000 in
set_option maxHeartbeats 4000000 in
theorem comboMapOf_q (u1 : Value) (l : List Cb) (w : World) (hC : okCbs l = true) (h : RdN w u1 l.length (flatCb l)) :
    Calls Try.prog 85 #[u1] w fun e w' => ∃ gm n, e = .returned (.map (some gm)) ∧ w.heap.size ≤ gm ∧ Mp w' gm n (kysOf l) ∧ Below w.heap.size w w' := by
  have hmk := makeM 112 Try.underlying112
  obtain ⟨a1, cap1, rfl⟩ := rdN_shape h
  have H1 := Lib.hid h
  have h8 : l.length ≤ 8 := by rw [okCbs, Bool.and_eq_true] at hC; exact of_decide_eq_true hC.2
  obtain ⟨n1, hN1⟩ : ∃ n, n = l.length := ⟨_, rfl⟩
  rw [← hN1] at h8 ⊢
  have HN1 := Lib.hid hN1
  have HC := Lib.hid hC
  clear h hN1 hC
  go_enter Try.func85, Try.ntmps85
  go_upto_region 2 with (fail)
  obtain ⟨V, hV⟩ : ∃ V, V = w.alloc (.map #[] 0) := ⟨_, rfl⟩
  obtain ⟨gm, hgm⟩ : ∃ g, g = w.heap.size := ⟨_, rfl⟩
  have hm0 : Mp V gm 0 [] := by rw [hV, hgm]; exact Mp.made w
  have hv : Below w.heap.size w V := by rw [hV]; exact (Below.refl _ _).alloc (Nat.le_refl _) _
  rw [← hV, ← hgm]
  have HBV := Lib.hid hv
  have HM0 := Lib.hid hm0
  have HGM := Lib.hid (show w.heap.size ≤ gm by omega)
  clear hV hgm hm0 hv
  go_wp2
  go_loopw [11, 5] (fun i _ wr => ∃ j : Nat, j ≤ n1 ∧ i = .int .i64 j ∧ Mp wr gm j (kysOf (l.take j)) ∧ Below w.heap.size w wr) (fun i _ _ => n1 - (intOf i).toNat)
  case atStart => exact ⟨0, Nat.zero_le _, rfl, HM0.out, HBV.out⟩
  case round =>
    obtain ⟨j, hj, rfl, hm, hb⟩ := hrel
    by_cases hlt' : j < n1
    · have hjl : j < l.length := by rw [← HN1.out]; exact hlt'
      obtain ⟨b, off, rfl, hlt, c0, c1⟩ := cb_at H1.out hjl
      have hfit := cbFit_keys (okCbs_fit HC.out hjl)
      have hno := kysOf_new HC.out hjl
      have htk := kysOf_take hjl
      obtain ⟨e, he⟩ : ∃ e, e = cbD l j := ⟨_, rfl⟩
      rw [← he] at c0 c1 hfit hno htk
      obtain ⟨k, oo⟩ := e
      simp only at c0 c1 hfit hno htk
      have r0 := (hb.cell (p := ⟨b, off + j * 2, none⟩) hlt).trans c0
      have r1 := (hb.cell (p := ⟨b, off + j * 2 + 1, none⟩) hlt).trans c1
      have HNO := Lib.hid hno
      have HTK := Lib.hid htk
      have HFit := Lib.hid hfit
      have HM := Lib.hid hm
      have HB := Lib.hid hb
      clear c0 c1 hfit hno htk hm hb he
      go_upto_region 5 with (fail)
      obtain ⟨U, hU⟩ : ∃ U, U = wr.alloc (.cells #[.int .i64 k, .int .i64 oo] 94) := ⟨_, rfl⟩
      obtain ⟨g, hg⟩ : ∃ g, g = wr.heap.size := ⟨_, rfl⟩
      have hbx : Bxd U g [.int .i64 k, .int .i64 oo] := by rw [hU, hg]; exact Bxd.new _ _ _
      have hu : Below wr.heap.size wr U := by rw [hU]; exact (Below.refl _ _).alloc (Nat.le_refl _) _
      have HMU := Lib.hid (HM.out.below hu)
      have HBU := Lib.hid (HB.out.trans (hu.mono HB.out.size))
      rw [← hU, ← hg]
      clear hU hg hu r0 r1
      have g0 := hbx.at 0 _ rfl
      have g1 := hbx.at 1 _ rfl
      clear hbx
      go_wp2_with (first | (at_mapUpdate; refine wpList_mp_put _ rfl _ _ _ 112 rfl Try.underlying112 gm j _ rfl HMU.out (by unfold maxLen; omega) k oo rfl rfl (wfI_of (by have := HFit.out; omega)) (wfI_of (by have := HFit.out; omega)) HNO.out ?_; intro w1 hm1 hg1) | go_in)
      have HM1 := Lib.hid hm1
      have HB1 := Lib.hid (HBU.out.grown hg1 HBU.out.size (fun q hq => by cases hq; exact HGM.out))
      clear hm1 hg1 g0 g1
      go_wp2
      go_roundw
      case rel => exact ⟨j + 1, by omega, by go_num, by rw [HTK.out]; exact HM1.out, HB1.out⟩
      case measure => simp [intOf]; omega
    · obtain rfl : j = n1 := by omega
      have hm' : Mp wr gm j (kysOf l) := by rw [show l.take j = l from List.take_of_length_le (by rw [HN1.out]; omega)] at hm; exact hm
      have HM := Lib.hid hm'
      have HB := Lib.hid hb
      clear hm hm' hb
      go_wp2
      go_ret
      exact ⟨gm, j, rfl, HGM.out, HM.out, HB.out⟩

theorem mp_key {D : DataW Unit} {L : List (Int × Int)} (hD : MpL D L) {x c : Int} (hat : ∀ zd, D.atKey (.int .i64 x) zd = .lit (.int .i64 c)) : ∃ p ∈ L, p.1 = x := by
  have h1 := Maps.has_true_of_atKey hat
  rw [hD.has] at h1
  obtain ⟨p, hp, hx⟩ := List.any_eq_true.1 h1
  exact ⟨p, hp, of_decide_eq_true hx⟩
set_option maxRecDepth 100000 in
set_option maxHeartbeats 4000000 in
theorem canBecome_q (gm n : Nat) (L : List (Int × Int)) (S : Nat) (r : Bool) (hr : r = L.any (fitK S)) (w : World) (hm : Mp w gm n L) :
    Calls Try.prog 87 #[.map (some gm), .int .i64 (S : Int)] w fun e w' => e = .returned (.bool r) ∧ Below w.heap.size w w' := by
  obtain ⟨D, hown, hD⟩ := hm
  have HR := Lib.hid hr
  have HD := Lib.hid hD
  clear hr hD
  go_enter Try.func87, Try.ntmps87
  go_wp2_with (first | (at_range; refine wpList_range_own _ rfl _ 112 rfl 3 3 lawI Try.underlying112 _ gm n _ rfl hown ?_; intro w0 hrg0 hg0 hs0) | go_in)
  go_frame
  have HRG0 := Lib.hid hrg0
  have HB0 := Lib.hid (show Below w.heap.size w w0 from (Below.refl _ _).grown hg0 (Nat.le_refl _) (fun q hq => by cases hq))
  clear hown hrg0 hg0 hs0
  go_loopw [5] (fun _ wr => ∃ (left : Lit → Bool) (cnt : Nat), wr.ranges Try.prog 3 (plainElem (H := Unit) Try.prog 3) gm w.heap.size n D left cnt ∧ (∀ p ∈ L, left (.int .i64 p.1) = false → fitK S p = false) ∧ Below w.heap.size w wr) (fun _ wr => wr.rangeLeft gm w.heap.size)
  case atStart =>
    refine ⟨_, _, HRG0.out, fun p hp h0 => ?_, HB0.out⟩
    rw [HD.out.has, List.any_eq_false] at h0
    exact absurd (by simp : decide (p.1 = p.1) = true) (h0 p hp)
  case round =>
    obtain ⟨left, cnt, hrg, hno, hb⟩ := hrel
    have HNO := Lib.hid hno
    have HB := Lib.hid hb
    clear hno hb
    go_wp2_with (first | (at_next; refine wpList_next_ranges_ii _ rfl _ rfl 3 3 .i64 .i64 lawI Try.underlying3 Try.underlying3 gm w.heap.size n _ _ _ rfl hrg ?_ ?_) | go_in)
    · intro _ hl0
      obtain rfl : r = false := by
        rw [HR.out, List.any_eq_false]
        intro p hp
        rw [HNO.out p hp (hl0 _)]; exact Bool.false_ne_true
      clear hl0
      go_wp2
      go_ret
      exact ⟨rfl, HB.out⟩
    · intro x c w1 cnt1 hwx hwc hlx hat hrg1 hlt hg1 hs1 hen
      obtain ⟨p, hp, rfl⟩ := mp_key HD.out hat
      have HP := Lib.hid hp
      have HRG1 := Lib.hid hrg1
      have HB1 := Lib.hid (HB.out.grown hg1 HB.out.size (fun q hq => by cases hq; exact Nat.le_refl _))
      have HLT := Lib.hid hlt
      have HRG := Lib.hid hrg
      obtain ⟨t, ht⟩ : ∃ t, bits .andNot .i64 (S : Int) p.1 = t := ⟨_, rfl⟩
      have hfk : fitK S p = (t == 0) := by rw [fitK, ht]
      have HFK := Lib.hid hfk
      clear hat hrg1 hlt hg1 hs1 hp hrg hlx hwx hwc hfk
      by_cases h0 : t = 0
      · have b0 : (t == 0) = true := by simp [h0]
        obtain rfl : r = true := by rw [HR.out, List.any_eq_true]; exact ⟨p, HP.out, by rw [HFK.out, b0]⟩
        go_wp2
        go_ret
        exact ⟨rfl, HB1.out⟩
      · have b0 : (t == 0) = false := by simp [h0]
        have HQ := Lib.hid (show ∀ q ∈ L, (left (.int .i64 q.1) && !(Lit.int .i64 q.1).sameKey (.int .i64 p.1)) = false → fitK S q = false from fun q hq h1 => by
          by_cases hqp : q.1 = p.1
          · have e : fitK S q = fitK S p := by unfold fitK; rw [hqp]
            rw [e, HFK.out, b0]
          · rw [sk_eq, decide_eq_false hqp] at h1
            exact HNO.out q hq (by simpa using h1))
        go_wp2
        go_roundw
        case rel => exact ⟨_, cnt1, HRG1.out, HQ.out, HB1.out⟩
        case measure => rw [HRG1.out.left_eq, HRG.out.left_eq]; exact HLT.out

set_option maxRecDepth 100000 in
set_option maxHeartbeats 4000000 in
theorem narrow_q (gm n : Nat) (L : List (Int × Int)) (S : Nat) (w : World) (hm : Mp w gm n L) :
    Calls Try.prog 86 #[.map (some gm), .int .i64 (S : Int)] w fun e w' => e = .returned (.tuple #[]) ∧ Mp w' gm n (L.filter (fitK S)) ∧ w.grownBy w' (some gm) := by
  obtain ⟨D, hown, hD⟩ := hm
  have HD := Lib.hid hD
  have hlt0 := hown.lt
  clear hD
  go_enter Try.func86, Try.ntmps86
  go_wp2_with (first | (at_range; refine wpList_range_own _ rfl _ 112 rfl 3 3 lawI Try.underlying112 _ gm n _ rfl hown ?_; intro w0 hrg0 hg0 hs0) | go_in)
  go_frame
  have HRG0 := Lib.hid hrg0
  have HG0 := Lib.hid (hg0.but (some gm))
  clear hown hrg0 hg0 hs0
  go_loopw [4] (fun _ wr => ∃ (left : Lit → Bool) (cnt : Nat) (D' : DataW Unit), wr.ranges Try.prog 3 (plainElem (H := Unit) Try.prog 3) gm w.heap.size n D' left cnt ∧ MpL D' (L.filter (fun p => fitK S p || left (.int .i64 p.1))) ∧ w.grownBy wr (some gm)) (fun _ wr => wr.rangeLeft gm w.heap.size)
  case atStart =>
    refine ⟨_, _, D, HRG0.out, ?_, HG0.out⟩
    have e : L.filter (fun p => fitK S p || Maps.has D (.int .i64 p.1)) = L := List.filter_eq_self.2 fun p hp => by
      have : Maps.has D (.int .i64 p.1) = true := by rw [HD.out.has, List.any_eq_true]; exact ⟨p, hp, by simp⟩
      rw [this, Bool.or_true]
    rw [e]; exact HD.out
  case round =>
    obtain ⟨left, cnt, D', hrg, hD', hgw⟩ := hrel
    have HD' := Lib.hid hD'
    have HGW := Lib.hid hgw
    clear hD' hgw
    go_wp2_with (first | (at_next; refine wpList_next_ranges_ii _ rfl _ rfl 3 3 .i64 .i64 lawI Try.underlying3 Try.underlying3 gm w.heap.size n _ _ _ rfl hrg ?_ ?_) | go_in)
    · intro _ hl0
      have hfin : L.filter (fun p => fitK S p || left (.int .i64 p.1)) = L.filter (fitK S) := List.filter_congr fun p _ => by rw [hl0, Bool.or_false]
      have HF := Lib.hid (show Mp wr gm n (L.filter (fitK S)) from ⟨D', hrg.owns, by rw [← hfin]; exact HD'.out⟩)
      clear hl0 hfin hrg
      go_wp2
      go_end0
      exact ⟨rfl, HF.out, HGW.out⟩
    · intro x c w1 cnt1 hwx hwc hlx hat hrg1 hlt hg1 hs1 hen
      have hgw1 := HGW.out.andThen hg1 (fun j hj => by cases hj; exact Or.inl (Nat.le_refl _))
      have HGW1 := Lib.hid hgw1
      have HLT := Lib.hid hlt
      have HRG := Lib.hid hrg
      obtain ⟨t, ht⟩ : ∃ t, bits .andNot .i64 (S : Int) x = t := ⟨_, rfl⟩
      have hfk : ∀ q : Int × Int, q.1 = x → fitK S q = (t == 0) := fun q hq => by rw [fitK, hq, ht]
      have HFK := Lib.hid hfk
      clear hat hlt hg1 hs1 hrg hlx hgw1 hwc hfk
      by_cases h0 : t = 0
      · have b0 : (t == 0) = true := by simp [h0]
        have hfil : L.filter (fun p => fitK S p || (left (.int .i64 p.1) && !(Lit.int .i64 p.1).sameKey (.int .i64 x))) = L.filter (fun p => fitK S p || left (.int .i64 p.1)) := List.filter_congr fun p _ => by
          by_cases hpx : p.1 = x
          · rw [HFK.out p hpx, b0]; rfl
          · rw [sk_eq, decide_eq_false hpx]; simp
        have HQ := Lib.hid (show MpL D' (L.filter (fun p => fitK S p || (left (.int .i64 p.1) && !(Lit.int .i64 p.1).sameKey (.int .i64 x)))) by rw [hfil]; exact HD'.out)
        have HRG1 := Lib.hid hrg1
        clear hfil hrg1
        go_wp2
        go_roundw
        case rel => exact ⟨_, cnt1, D', HRG1.out, HQ.out, HGW1.out⟩
        case measure => rw [HRG1.out.left_eq, HRG.out.left_eq]; exact HLT.out
      · have b0 : (t == 0) = false := by simp [h0]
        have hfil : (L.filter (fun p => fitK S p || left (.int .i64 p.1))).filter (fun p => !decide (p.1 = x)) = L.filter (fun p => fitK S p || (left (.int .i64 p.1) && !(Lit.int .i64 p.1).sameKey (.int .i64 x))) := by
          rw [List.filter_filter]
          refine List.filter_congr fun p _ => ?_
          rw [sk_eq]
          by_cases hpx : p.1 = x
          · rw [HFK.out p hpx, b0, decide_eq_true hpx]; simp
          · rw [decide_eq_false hpx]; simp
        have HQ := Lib.hid (show MpL (D'.del (.int .i64 x)) (L.filter (fun p => fitK S p || (left (.int .i64 p.1) && !(Lit.int .i64 p.1).sameKey (.int .i64 x)))) by rw [← hfil]; exact HD'.out.del (hrg1.owns.tidy lawI) x)
        clear hfil
        go_wp2_with (first | (at_delete; refine wpList_delete_ranges _ rfl _ _ 112 3 rfl 3 lawI Try.underlying112 _ gm w.heap.size n _ _ _ rfl hrg1 _ (.int .i64 x) rfl (Go.Maps.keyOf_int_mk Try.underlying3 hwx) ?_; intro w2 cnt2 hrg2 hle hturn; go_frame) | go_in)
        rw [Maps.strike_twice] at hrg2
        have HRG2 := Lib.hid hrg2
        have HLE := Lib.hid hle
        have HGW2 := Lib.hid (HGW1.out.andThen hturn.grown (fun j hj => by cases hj; exact Or.inr rfl))
        clear hrg2 hle hturn hrg1
        go_roundw
        case rel => exact ⟨_, cnt2, _, HRG2.out, HQ.out, HGW2.out⟩
        case measure => rw [HRG2.out.left_eq, HRG.out.left_eq]; have := HLE.out; have := HLT.out; omega

set_option maxRecDepth 100000 in
theorem settle_q (gm n : Nat) (L : List (Int × Int)) (S : Nat) (hS : S < 16777216) (ev t x1 x2 x3 : Int) (hr : (x1, x2, x3) = match mpAt L (S : Int) with | some o => (ev, t, o) | none => (1, t, -1)) (w : World) (hm : Mp w gm n L) :
    Calls Try.prog 88 #[.map (some gm), .int .i64 (S : Int), .int .i64 ev, .int .i64 t] w fun e w' => e = .returned (.tuple #[.int .i64 x1, .int .i64 x2, .int .i64 x3]) ∧ w = w' := by
  have HM := Lib.hid hm
  clear hm
  cases hq : mpAt L (S : Int) with
  | none =>
    rw [hq] at hr
    obtain ⟨rfl, rfl, rfl⟩ : x1 = 1 ∧ x2 = t ∧ x3 = -1 := by simpa using hr
    have HQ := Lib.hid hq
    clear hr hq
    go_enter Try.func88, Try.ntmps88
    go_wp2_with (first | (at_lookup; refine wpList_mp_look_ok _ rfl _ _ 112 rfl Try.underlying112 gm n _ rfl HM.out (S : Int) rfl (wfI_of (by omega)) 0 (by rw [HQ.out]; rfl) false (by rw [HQ.out]; rfl) ?_) | go_in)
    go_wp2
    go_ret3
    exact ⟨rfl, rfl⟩
  | some o =>
    rw [hq] at hr
    obtain ⟨rfl, rfl, rfl⟩ : x1 = ev ∧ x2 = t ∧ x3 = o := by simpa using hr
    have HQ := Lib.hid hq
    clear hr hq
    go_enter Try.func88, Try.ntmps88
    go_wp2_with (first | (at_lookup; refine wpList_mp_look_ok _ rfl _ _ 112 rfl Try.underlying112 gm n _ rfl HM.out (S : Int) rfl (wfI_of (by omega)) x3 (by rw [HQ.out]; rfl) true (by rw [HQ.out]; rfl) ?_) | go_in)
    go_wp2
    go_ret3
    exact ⟨rfl, rfl⟩

end Go.Proofs.Ytagmdkblcgnddaa
