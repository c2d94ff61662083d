/- DERIVED. The reference's draw of held keys, and MakeHeld: valid held keys in memory of their own. · The reference's draw of a macro, and MakeMacro: a valid macro in memory of its own. -/
import Derived.Test.YtnfnhbldphiohaaDoorRpDraw
import Derived.Test.YtnfnhbldphiohaaDoorAcDraw
import Derived.Test.YtnfnhbldphiohaaDoorAcTap
import Derived.Test.YtnfnhbldphiohaaDoorRpSpec5
import Derived.Deep.DeepCutAuto
import Derived.Deep.AppendLies
import Derived.Test.YtnfnhbldphiohaaDoorMcDef
namespace Go.Proofs.YtnfnhbldphiohaaDoor
open Go.RowKit

/-- What is known of held keys that are drawn. -/
def HdDrawn (B b : Nat) (v : Value) (n : Nat) (zs : List Int) (K : Nat) (w : World) (e : Ending) (w' : World) : Prop :=
  ∃ (l : List Hd) (a : Option Addr) (c : Nat), e = .returned (.slice a l.length c) ∧ okHd l = true ∧ l.length ≤ K ∧ w'.ownsRow w.heap.size 73 5 (.slice a l.length c) l.length (flatHd l) ∧ Draws B b v n zs w' ∧ w.grownBy w' (some b)
theorem box4_keep {w w' : World} {g : Nat} {k c m n : Int} (h : w.heap[g]? = some (.cells #[.int .i64 k, .int .i64 c, .int .i64 m, .int .i64 n] 67 (0, 0))) (hb : w'.heap[g]? = w.heap[g]?) : w'.heap[g]? = some (.cells #[.int .i64 k, .int .i64 c, .int .i64 m, .int .i64 n] 67 (0, 0)) := hb.trans h
theorem specTapOf_z (a z : Ac) (hz : z = tapR a) (w : World) : Calls Tryd.prog 49 #[acv a.k a.c a.m a.n] w fun e w' => e = .returned (acv z.k z.c z.m z.n) ∧ Below w.heap.size w w' := by
  rw [hz]; exact specTapOf_any a.k a.c a.m a.n w
theorem specHoldOf_z (a z : Ac) (hz : z = holdR a) (w : World) : Calls Tryd.prog 48 #[acv a.k a.c a.m a.n] w fun e w' => e = .returned (acv z.k z.c z.m z.n) ∧ Below w.heap.size w w' := by
  rw [hz]; exact specHoldOf_any a.k a.c a.m a.n w

set_option maxHeartbeats 8000000 in
set_option maxRecDepth 100000 in
theorem l7Draw_draw {B b n : Nat} {v : Value} {zs : List Int} {w : World} (K : Nat) (h : Draws B b v n zs w) (k32 : K ≤ 32) :
    Calls Tryd.prog 24 #[.pointer (some ⟨b, 0, none⟩), .int .i64 K] w (HdDrawn B b v n zs K w) := by
  obtain ⟨i0, hi, hz0, hz1, hz2⟩ := info_parts info_hd
  have HLT := Lib.hid h.lt
  have HBL := Lib.hid h.low
  have HD0 := Lib.hid h
  have HR0 := Lib.hid (grown_refl w (some b))
  have HS0 := Lib.hid (Nat.le_refl w.heap.size)
  clear h
  go_enter Tryd.func24, Tryd.ntmps24
  go_upto_region 2 with (fail)
  obtain ⟨V, hV⟩ : ∃ V, V = w.alloc (.cells #[] 73) := ⟨_, rfl⟩
  have HOV := Lib.hid (show V.ownsRow w.heap.size 73 5 (.slice (some ⟨w.heap.size, 0, none⟩) ([] : List Hd).length 0) ([] : List Hd).length (flatHd []) by
    rw [hV]; exact World.ownsRow_lit (e := 73) (size := 5) w #[] 0 (Nat.le_refl _) (by simp [maxLen]) rfl)
  have HDV := Lib.hid (show Draws B b v n zs V by rw [hV]; exact HD0.out.alloc _)
  have HRV := Lib.hid (show w.grownBy V (some b) by rw [hV]; exact grown_alloc _ _ _)
  rw [← hV]
  clear hV
  go_wp2
  go_loopw [5, 6, 7] (fun o i _ wr => ∃ (k : Nat) (l : List Hd) (a : Option Addr) (c : Nat), k ≤ K ∧ i = .int .i64 k ∧ o = .slice a l.length c ∧ l.length ≤ k ∧ okHd l = true ∧ (∀ i, i < l.length → (hdD l i).h < (k : Int)) ∧ wr.ownsRow w.heap.size 73 5 (.slice a l.length c) l.length (flatHd l) ∧ Draws B b v n zs wr ∧ w.grownBy wr (some b)) (fun _ i _ _ => K - (intOf i).toNat)
  case atStart => exact ⟨0, [], _, _, Nat.zero_le _, rfl, rfl, Nat.le_refl _, rfl, fun i hi => absurd hi (Nat.not_lt_zero _), HOV.out, HDV.out, HRV.out⟩
  case round =>
    obtain ⟨k, l, a, c, hk, rfl, rfl, hlk, hok, hlt, ho, hd, hr⟩ := hrel
    have HOk := Lib.hid hok
    have HLt := Lib.hid hlt
    have HO := Lib.hid ho
    have HD := Lib.hid hd
    have HR := Lib.hid hr
    obtain ⟨N, hN⟩ : ∃ N, N = l.length := ⟨_, rfl⟩
    have HN := Lib.hid hN
    rw [← hN] at HO hlk ⊢
    clear hok hlt ho hd hr hN
    by_cases hkK : k < K
    · go_wp2_with fail
      refine (l1Once_draw 2 HD.out (by omega) (by omega)).mono ?_
      rintro e w1 ⟨t, rfl, hd, hg⟩
      have HD1 := Lib.hid hd
      have HR1 := Lib.hid (grown_trans HR.out hg)
      have HO1 := Lib.hid (owns_grown HO.out hg (by have := HLT.out; omega))
      clear hd hg
      cases t
      · go_wp2_with fail
        refine (l5Draw_draw 4 HD1.out (by omega) (by omega)).mono ?_
        rintro e w2 ⟨z, rfl, hfit, hd, hg⟩
        have HNp := Lib.hid (show AcNp z from ⟨hfit.ok, hfit.np⟩)
        have HD2 := Lib.hid hd
        have HR2 := Lib.hid (grown_trans HR1.out hg)
        have HO2 := Lib.hid (owns_grown HO1.out hg (by have := HLT.out; omega))
        clear hd hg hfit
        go_upto_region 7 with (fail)
        obtain ⟨g7, hg7⟩ : ∃ x, x = w2.heap.size := ⟨_, rfl⟩
        obtain ⟨U, hU⟩ : ∃ x, x = w2.alloc (.cells #[.int .i64 z.k, .int .i64 z.c, .int .i64 z.m, .int .i64 z.n] 67) := ⟨_, rfl⟩
        have HGU := Lib.hid (show U.heap[g7]? = some (.cells #[.int .i64 z.k, .int .i64 z.c, .int .i64 z.m, .int .i64 z.n] 67 (0, 0)) by rw [hU, hg7]; exact heap_alloc_new w2 _)
        have HDU := Lib.hid (show Draws B b v n zs U by rw [hU]; exact HD2.out.alloc _)
        have HRU := Lib.hid (show w.grownBy U (some b) by rw [hU]; exact grown_high HR2.out (grown_alloc w2 _ none) (fun q e => by cases e))
        have HOU := Lib.hid (show U.ownsRow w.heap.size 73 5 (.slice a N c) N (flatHd l) by rw [hU]; exact HO2.out.alloc _)
        have hgw : w.heap.size ≤ g7 := by rw [hg7]; exact HR2.out.size
        have HNe := Lib.hid (show ∀ q, (Value.slice a N c).ownBlock = some q → ¬ q = g7 from fun q hq => by have h1 := (HO2.out.lt q hq).2; omega)
        have HUs := Lib.hid (show U.heap.size = g7 + 1 by rw [hU, hg7]; simp)
        rw [← hU, ← hg7]
        clear hU hg7
        go_upto_if 19 with (go_at_call 46; refine (l1Once_draw 2 HDU.out (by omega) (by omega)).mono ?_; rintro e w3 ⟨t2, rfl, hd, hg⟩; have HD3 := Lib.hid hd; have HR3 := Lib.hid (grown_trans HRU.out hg); have HO3 := Lib.hid (owns_grown HOU.out hg (by have := HLT.out; omega)); have HG3 := Lib.hid ((hg.block g7 (by rw [HUs.out]; omega) (by have := HLT.out; simp; omega)).trans HGU.out); have HS3 := Lib.hid (show g7 < w3.heap.size from Nat.lt_of_lt_of_le (by rw [HUs.out]; omega) hg.size); clear hd hg)
        go_cut [21] (fun _ wx => ∃ (y : Ac), AcNp y ∧ wx.heap[g7]? = some (.cells #[.int .i64 y.k, .int .i64 y.c, .int .i64 y.m, .int .i64 y.n] 67 (0, 0)) ∧ wx.ownsRow w.heap.size 73 5 (.slice a N c) N (flatHd l) ∧ Draws B b v n zs wx ∧ w.grownBy wx (some b))
        case first =>
          cases t2
          · go_wp2
            go_meet
            exact ⟨z, HNp.out, HG3.out, HO3.out, HD3.out, HR3.out⟩
          · have m0 := (cells_of_heap HG3.out 0 (by simp)).1
            have m1 := (cells_of_heap HG3.out 1 (by simp)).1
            have m2 := (cells_of_heap HG3.out 2 (by simp)).1
            have m3 := (cells_of_heap HG3.out 3 (by simp)).1
            simp only [List.getElem_toArray, List.getElem_cons_zero, List.getElem_cons_succ] at m0 m1 m2 m3
            obtain ⟨y, hy⟩ : ∃ y, y = holdR z := ⟨_, rfl⟩
            have HNy := Lib.hid (show AcNp y by rw [hy]; exact np_hold HNp.out)
            have HY := Lib.hid hy
            clear hy
            go_wp2_with fail
            refine (specHoldOf_z z y HY.out _).mono ?_
            rintro e w4 ⟨rfl, hb⟩
            have HG4 := Lib.hid ((hb.block g7 HS3.out).trans HG3.out)
            have HD4 := Lib.hid (HD3.out.below hb)
            have HR4 := Lib.hid (grown_high HR3.out (grown_of_below hb none) (fun q e => by cases e))
            have HO4 := Lib.hid (owns_below HO3.out hb)
            clear hb m0 m1 m2 m3
            obtain ⟨r0, s0⟩ := cells_of_heap HG4.out 0 (by simp)
            obtain ⟨r1, s1⟩ := cells_of_heap HG4.out 1 (by simp)
            obtain ⟨r2, s2⟩ := cells_of_heap HG4.out 2 (by simp)
            obtain ⟨r3, s3⟩ := cells_of_heap HG4.out 3 (by simp)
            go_wp2
            clear r0 r1 r2 r3 s0 s1 s2 s3
            go_meet
            refine ⟨y, HNy.out, ?_, ?_, ?_, ?_⟩
            · exact putW_all [.int .i64 y.k, .int .i64 y.c, .int .i64 y.m, .int .i64 y.n] HG4.out rfl
            · exact owns_putAt HO4.out (y := g7) HNe.out 0 [.int .i64 y.k, .int .i64 y.c, .int .i64 y.m, .int .i64 y.n]
            · exact HD4.out.putW (x := g7) (by have := HLT.out; omega) (by have := HLT.out; have := HBL.out; omega) [.int .i64 y.k, .int .i64 y.c, .int .i64 y.m, .int .i64 y.n] 0
            · exact grown_putW hgw [.int .i64 y.k, .int .i64 y.c, .int .i64 y.m, .int .i64 y.n] 0 HR4.out
        case rest =>
          obtain ⟨y, hnp, hg, ho, hd, hr⟩ := hcut
          have HNy := Lib.hid hnp
          have HO5 := Lib.hid ho
          have HD5 := Lib.hid hd
          have HR5 := Lib.hid hr
          have m0 := (cells_of_heap hg 0 (by simp)).1
          have m1 := (cells_of_heap hg 1 (by simp)).1
          have m2 := (cells_of_heap hg 2 (by simp)).1
          have m3 := (cells_of_heap hg 3 (by simp)).1
          simp only [List.getElem_toArray, List.getElem_cons_zero, List.getElem_cons_succ] at m0 m1 m2 m3
          obtain ⟨x, hx⟩ : ∃ x, x = tapR y := ⟨_, rfl⟩
          have HOne := Lib.hid (show okOne ⟨(k : Int), x.k, x.c, x.m, x.n⟩ = true by rw [hx]; exact np_tap HNy.out ⟨by omega, by omega⟩)
          have HX := Lib.hid hx
          clear hx hnp hg ho hd hr
          go_wp2_with fail
          refine (specTapOf_z y x HX.out _).mono ?_
          rintro e w6 ⟨rfl, hb⟩
          have HD6 := Lib.hid (HD5.out.below hb)
          have HR6 := Lib.hid (grown_high HR5.out (grown_of_below hb none) (fun q e => by cases e))
          have HO6 := Lib.hid (owns_below HO5.out hb)
          have b63 : N + 1 ≤ maxLen := by unfold maxLen; omega
          have b47 : (N + 1) * 40 ≤ 140737488355328 := by omega
          have hws : w.heap.size ≤ w6.heap.size := HR6.out.size
          clear hb m0 m1 m2 m3
          go_wp2_with (at_builtin; refine wpList_append_own _ rfl _ _ 24 rfl w.heap.size 73 i0 (.agg #[.int .i64 0, .int .i64 0, .int .i64 0, .int .i64 0, .int .i64 0]) 5 40 Tryd.underlying24 hi hz0 hz1 hz2 rfl (by decide) _ _ _ rfl (HO6.out.alloc _) ⟨w6.heap.size, 0, none⟩ 1 1 [.int .i64 k, .int .i64 x.k, .int .i64 x.c, .int .i64 x.m, .int .i64 x.n] rfl rfl ?c1 ?c2 b63 b47 ?c5 ?_)
          case c1 => exact World.news_of_block (cs := #[.int .i64 k, .int .i64 x.k, .int .i64 x.c, .int .i64 x.m, .int .i64 x.n]) (t := 73) (fr := (0, 0)) (heap_alloc_new w6 _)
          case c2 => intro u hu; simp at hu; rcases hu with rfl | rfl | rfl | rfl | rfl <;> rfl
          case c5 => simp; omega
          · intro v' w7 hown1 hgrow _
            obtain ⟨a', c', rfl⟩ := owns_shape hown1
            have HD7 := Lib.hid ((HD6.out.alloc (.cells #[.int .i64 k, .int .i64 x.k, .int .i64 x.c, .int .i64 x.m, .int .i64 x.n] 73)).high hgrow (H := w.heap.size) (fun q e => (HO6.out.lt q e).1) HLT.out)
            have HR7 := Lib.hid (grown_high (grown_high HR6.out (grown_alloc w6 (.cells #[.int .i64 k, .int .i64 x.k, .int .i64 x.c, .int .i64 x.m, .int .i64 x.n] 73) none) (fun q e => by cases e)) hgrow (fun q e => (HO6.out.lt q e).1))
            have hlen : (l ++ [(⟨(k : Int), x.k, x.c, x.m, x.n⟩ : Hd)]).length = N + 1 := by rw [List.length_append, ← HN.out]; rfl
            have HO7 := Lib.hid (show w7.ownsRow w.heap.size 73 5 (.slice a' (N + 1) c') (N + 1) (flatHd (l ++ [(⟨(k : Int), x.k, x.c, x.m, x.n⟩ : Hd)])) by rw [flatHd_snoc]; exact hown1)
            have HLen := Lib.hid hlen
            have HOk7 := Lib.hid (okHd_snoc (e := ⟨(k : Int), x.k, x.c, x.m, x.n⟩) HOk.out HOne.out (fun i hi => HLt.out i hi))
            have HLt7 := Lib.hid (show ∀ i, i < (l ++ [(⟨(k : Int), x.k, x.c, x.m, x.n⟩ : Hd)]).length → (hdD (l ++ [(⟨(k : Int), x.k, x.c, x.m, x.n⟩ : Hd)]) i).h < ((k + 1 : Nat) : Int) from fun i hi => by
              rw [List.length_append, List.length_singleton] at hi
              rw [hdD_snoc _ _ _ hi]
              split
              · have := HLt.out i (by assumption); omega
              · show (k : Int) < _; omega)
            clear hown1 hgrow hlen b63 b47
            go_wp2
            go_roundw
            case rel => exact ⟨k + 1, l ++ [(⟨(k : Int), x.k, x.c, x.m, x.n⟩ : Hd)], a', c', by omega, by go_num, by rw [HLen.out], by rw [HLen.out]; omega, HOk7.out, HLt7.out, by rw [HLen.out]; exact HO7.out, HD7.out, HR7.out⟩
            case measure => simp [intOf]; omega
      · go_wp2
        go_roundw
        case rel => exact ⟨k + 1, l, a, c, by omega, by go_num, by rw [← HN.out], by rw [← HN.out]; omega, HOk.out, fun i hi => by have := HLt.out i hi; omega, by rw [← HN.out]; exact HO1.out, HD1.out, HR1.out⟩
        case measure => simp [intOf]; omega
    · obtain rfl : k = K := by omega
      go_wp2
      go_ret
      exact ⟨l, a, c, by rw [← HN.out]; rfl, HOk.out, by rw [← HN.out]; omega, by rw [← HN.out]; exact HO.out, HD.out, HR.out⟩

/-- Valid held keys, in memory of their own. -/
def HdMade (w : World) (e : Ending) (w' : World) : Prop :=
  ∃ (l : List Hd) (a : Option Addr) (c : Nat) (fp : List Nat), e = .returned (.slice a l.length c) ∧ okHd l = true ∧ l.length ≤ 6 ∧ OwF w' w.heap.size 73 5 (.slice a l.length c) l.length (flatHd l) fp ∧ Below w.heap.size w w'
set_option maxHeartbeats 2000000 in
theorem MakeHeld_draw (v : Value) (zs : List Int) (w : World) (hl : zs.length ≤ 1099511627776) (hz : ∀ z ∈ zs, 0 ≤ z ∧ z < 256) (h : Rd w v (zs.map (.int .u8))) :
    Calls Tryd.prog 7 #[v] w (HdMade w) := by
  have HZ := Lib.hid hz
  have HL := Lib.hid hl
  have HR := Lib.hid h
  clear hz hl h
  go_enter Tryd.func7, Tryd.ntmps7
  go_wp2_with fail
  refine (l24New_draw v zs 4 _ HL.out HZ.out HR.out).mono ?_
  rintro e w1 ⟨rfl, hd, hb, hlt⟩
  have HD := Lib.hid hd
  have HB1 := Lib.hid hb
  clear hd hb hlt
  go_wp2_with fail
  refine (l7Draw_draw 6 HD.out (by decide)).mono ?_
  rintro e w2 ⟨l, a, c, rfl, hok, hl6, ho, hd, hg⟩
  have HB2 := Lib.hid (HB1.out.trans (low_of_grown (B := w.heap.size) hg (Nat.le_refl _) HB1.out.size))
  have HO := Lib.hid (owns_base ho HB1.out.size)
  have HOk := Lib.hid hok
  have HL6 := Lib.hid hl6
  clear hok hl6 ho hd hg
  go_wp2
  go_ret
  exact ⟨l, a, c, _, rfl, HOk.out, HL6.out, OwF.mk' HO.out, HB2.out⟩
end Go.Proofs.YtnfnhbldphiohaaDoor

namespace Go.Proofs.YtnfnhbldphiohaaDoor
open Go.RowKit

/-- Behind the steps l, all of which may come, d is down. -/
structure McS (l : List St) (d : List Hd) : Prop where
  ok : mcN l l.length = true
  dn : dwN l l.length = d
theorem stD_left (l m : List St) {j : Nat} (h : j < l.length) : stD (l ++ m) j = stD l j := by
  rw [stD, stD, List.getD_eq_getElem?_getD, List.getElem?_append_left h, List.getD_eq_getElem?_getD]
theorem stD_last (l : List St) (x : St) : stD (l ++ [x]) l.length = x := by
  rw [stD, List.getD_eq_getElem?_getD, List.getElem?_append_right (Nat.le_refl _)]; simp
theorem dw_left (l m : List St) : ∀ j, j ≤ l.length → dwN (l ++ m) j = dwN l j ∧ mcN (l ++ m) j = mcN l j
  | 0, _ => ⟨rfl, rfl⟩
  | j + 1, h => by
    obtain ⟨h1, h2⟩ := dw_left l m j (by omega)
    rw [dwN, dwN, mcN, mcN, stD_left l m (by omega), h1, h2]; exact ⟨rfl, rfl⟩
theorem McS.step {l : List St} {d : List Hd} {x : St} (h : McS l d) (hx : okX d x = true) : McS (l ++ [x]) (nxS d x) := by
  obtain ⟨h1, h2⟩ := dw_left l [x] l.length (Nat.le_refl _)
  have e : (l ++ [x]).length = l.length + 1 := by simp
  refine ⟨?_, ?_⟩
  · rw [e, mcN, stD_last, h1, h2, h.dn, h.ok, hx]; rfl
  · rw [e, dwN, stD_last, h1, h.dn]
theorem McS.nil : McS [] [] := ⟨rfl, rfl⟩
theorem fi_nil (x : St) : fiI [] x = -1 := by simp [fiI, fiH]
theorem fi_other {c m c2 k : Int} (h : m ≠ 8) : fiI [(⟨0, 2, c, m, 0⟩ : Hd)] ⟨k, c2, 8⟩ = -1 := by
  have h2 : ¬ m = 8 := h
  simp [fiI, fiH, List.findIdx_cons, mtS, h2]
theorem fi_same {c m k : Int} : fiI [(⟨0, 2, c, m, 0⟩ : Hd)] ⟨k, c, m⟩ = 0 := by simp [fiI, fiH, List.findIdx_cons, mtS]
theorem fh_same {c m k : Int} : fiH [(⟨0, 2, c, m, 0⟩ : Hd)] ⟨k, c, m⟩ = 0 := by simp [fiH, List.findIdx_cons, mtS]
theorem okAc_two {c m : Int} (hc : 1 ≤ c ∧ c ≤ 56) (hm : 0 ≤ m ∧ m ≤ 15) : okAc 2 c m 0 = true := by
  simp [okAc, inB]; omega
theorem McS.tap {l : List St} {c m : Int} (h : McS l []) (ha : okAc 2 c m 0 = true) : McS (l ++ [⟨0, c, m⟩]) [] := by
  have := h.step (x := ⟨0, c, m⟩) (by rw [okX, fi_nil, ha]; rfl)
  exact this
theorem McS.group {l : List St} {c m c2 : Int} (h : McS l []) (ha : okAc 2 c m 0 = true) (hb : okAc 2 c2 8 0 = true) (hm : m ≠ 8) : McS (l ++ [⟨1, c, m⟩, ⟨0, c2, 8⟩, ⟨2, c, m⟩]) [] := by
  have h1 := h.step (x := ⟨1, c, m⟩) (by rw [okX, fi_nil, ha]; rfl)
  have h1' : McS (l ++ [⟨1, c, m⟩]) [(⟨0, 2, c, m, 0⟩ : Hd)] := h1
  have h2 := h1'.step (x := ⟨0, c2, 8⟩) (by rw [okX, fi_other hm, hb]; rfl)
  have h2' : McS ((l ++ [⟨1, c, m⟩]) ++ [⟨0, c2, 8⟩]) [(⟨0, 2, c, m, 0⟩ : Hd)] := h2
  have h3 := h2'.step (x := ⟨2, c, m⟩) (by rw [okX, fi_same, ha]; rfl)
  have e : nxS [(⟨0, 2, c, m, 0⟩ : Hd)] ⟨2, c, m⟩ = [] := by
    rw [nxS, if_neg (show ¬ (2 : Int) = 1 by decide), if_pos rfl, fh_same]; rfl
  rw [e] at h3
  simpa using h3
theorem McS.valid {l : List St} (h : McS l []) (h8 : l.length ≤ 8) : okMc l = true := by
  rw [okMc, h.ok, h.dn, decide_eq_true (show (l.length : Int) ≤ 8 by omega)]; rfl

/-- What is known of a macro that is drawn. -/
def McDrawn (B b : Nat) (v : Value) (n : Nat) (zs : List Int) (w : World) (e : Ending) (w' : World) : Prop :=
  ∃ (l : List St) (a : Option Addr) (c : Nat), e = .returned (.slice a l.length c) ∧ okMc l = true ∧ w'.ownsRow w.heap.size 39 3 (.slice a l.length c) l.length (flatSt l) ∧ Draws B b v n zs w' ∧ w.grownBy w' (some b)

set_option maxHeartbeats 8000000 in
set_option maxRecDepth 100000 in
theorem l8Draw_draw {B b n : Nat} {v : Value} {zs : List Int} {w : World} (h : Draws B b v n zs w) :
    Calls Tryd.prog 26 #[.pointer (some ⟨b, 0, none⟩)] w (McDrawn B b v n zs w) := by
  obtain ⟨i0, hi, hz0, hz1, hz2⟩ := info_parts info_st
  have HLT := Lib.hid h.lt
  have HBL := Lib.hid h.low
  have HD0 := Lib.hid h
  have HR0 := Lib.hid (grown_refl w (some b))
  have HS0 := Lib.hid (Nat.le_refl w.heap.size)
  clear h
  go_enter Tryd.func26, Tryd.ntmps26
  go_upto_region 2 with (fail)
  obtain ⟨V, hV⟩ : ∃ V, V = w.alloc (.cells #[] 39) := ⟨_, rfl⟩
  have HOV := Lib.hid (show V.ownsRow w.heap.size 39 3 (.slice (some ⟨w.heap.size, 0, none⟩) ([] : List St).length 0) ([] : List St).length (flatSt []) by
    rw [hV]; exact World.ownsRow_lit (e := 39) (size := 3) w #[] 0 (Nat.le_refl _) (by simp [maxLen]) rfl)
  have HDV := Lib.hid (show Draws B b v n zs V by rw [hV]; exact HD0.out.alloc _)
  have HRV := Lib.hid (show w.grownBy V (some b) by rw [hV]; exact grown_alloc _ _ _)
  rw [← hV]
  clear hV
  go_wp2_with fail
  refine (l1Below_draw 3 HDV.out (by omega) (by omega)).mono ?_
  rintro e w0 ⟨x, rfl, x0, x1, hd, hg⟩
  have HD1 := Lib.hid hd
  have HR1 := Lib.hid (grown_trans HRV.out hg)
  have HO1 := Lib.hid (owns_grown HOV.out hg (by have := HLT.out; omega))
  clear hd hg
  obtain ⟨K, rfl⟩ := Int.eq_ofNat_of_zero_le x0
  have hK : K ≤ 2 := by omega
  go_wp2
  go_loopw [3, 4, 5, 6] (fun o i _ _ wr => ∃ (k : Nat) (l : List St) (a : Option Addr) (c : Nat), k ≤ 2 ∧ i = .int .i64 k ∧ o = .slice a l.length c ∧ l.length + 3 * k ≤ 6 ∧ McS l [] ∧ wr.ownsRow w.heap.size 39 3 (.slice a l.length c) l.length (flatSt l) ∧ Draws B b v n zs wr ∧ w.grownBy wr (some b)) (fun _ i _ _ _ => (intOf i).toNat)
  case atStart => exact ⟨K, [], _, _, hK, rfl, rfl, by simp; omega, McS.nil, HO1.out, HD1.out, HR1.out⟩
  case round =>
    obtain ⟨k, l, a, c, hk, rfl, rfl, hlk, hms, ho, hd, hr⟩ := hrel
    have HMS := Lib.hid hms
    have HO := Lib.hid ho
    have HD := Lib.hid hd
    have HR := Lib.hid hr
    obtain ⟨N, hN⟩ : ∃ N, N = l.length := ⟨_, rfl⟩
    have HN := Lib.hid hN
    rw [← hN] at HO hlk ⊢
    clear hms ho hd hr hN
    by_cases hk0 : 0 < k
    · obtain ⟨k', rfl⟩ : ∃ k', k = k' + 1 := ⟨k - 1, by omega⟩
      have hk0' : (0 : Int) < ((k' + 1 : Nat) : Int) := by omega
      go_wp2_with fail
      refine (l1Below_draw 56 HD.out (by omega) (by omega)).mono ?_
      rintro e w1 ⟨p, rfl, p0, p1, hd, hg⟩
      have HD1 := Lib.hid hd
      have HR1 := Lib.hid (grown_trans HR.out hg)
      have HO1 := Lib.hid (owns_grown HO.out hg (by have := HLT.out; omega))
      have hp1 : IntKind.i64.wrap (1 + p) = 1 + p := IntWalk.i64_in _ ⟨by omega, by omega⟩
      clear hd hg
      go_wp2_with fail
      obtain ⟨V1, hV1⟩ : ∃ V1, V1 = w1.alloc (.cells #[.int .i64 0, .int .i64 0, .int .i64 2, .int .i64 1] 3) := ⟨_, rfl⟩
      obtain ⟨gp, hgp⟩ : ∃ g, g = w1.heap.size := ⟨_, rfl⟩
      have hk1 : V1.heap[gp]? = some (.cells #[.int .i64 0, .int .i64 0, .int .i64 2, .int .i64 1] 3 (0, 0)) := by rw [hV1, hgp]; exact heap_alloc_new w1 _
      have hcell : ∀ j, j < ([0, 0, 2, 1] : List Int).length → V1.cell? ⟨gp, j, none⟩ = some (.int .i64 (([0, 0, 2, 1] : List Int).getD j 0)) := fun j hj => by
        have : j = 0 ∨ j = 1 ∨ j = 2 ∨ j = 3 := by simp at hj; omega
        rcases this with rfl | rfl | rfl | rfl <;> exact (cells_of_heap hk1 _ (by simp)).1
      have HC := Lib.hid hcell
      have HDV1 := Lib.hid (show Draws B b v n zs V1 by rw [hV1]; exact HD1.out.alloc _)
      have HRV1 := Lib.hid (show w.grownBy V1 (some b) by rw [hV1]; exact grown_high HR1.out (grown_alloc w1 _ none) (fun q e => by cases e))
      have HOV1 := Lib.hid (show V1.ownsRow w.heap.size 39 3 (.slice a N c) N (flatSt l) by rw [hV1]; exact HO1.out.alloc _)
      have HNb := Lib.hid (show gp ≠ b by have := HLT.out; have := HR1.out.size; omega)
      rw [← hV1, ← hgp]
      clear hV1 hgp hk1 hcell
      refine (l1PickInt_draw gp [0, 0, 2, 1] HDV1.out (by simp) (by simp) HNb.out HC.out).mono ?_
      rintro e w2 ⟨M, rfl, hM, hd, hg⟩
      have hM2 : 0 ≤ M ∧ M ≤ 2 := by
        simp only [List.mem_cons, List.not_mem_nil, or_false] at hM
        omega
      have HD2 := Lib.hid hd
      have HR2 := Lib.hid (grown_trans HRV1.out hg)
      have HO2 := Lib.hid (owns_grown HOV1.out hg (by have := HLT.out; omega))
      clear hd hg hM
      go_upto_region 6 with (fail)
      obtain ⟨gx, hgx⟩ : ∃ x, x = w2.heap.size := ⟨_, rfl⟩
      obtain ⟨U, hU⟩ : ∃ x, x = w2.alloc (.cells #[.int .i64 0, .int .i64 (1 + p), .int .i64 M] 39) := ⟨_, rfl⟩
      have HGU := Lib.hid (show U.heap[gx]? = some (.cells #[.int .i64 0, .int .i64 (1 + p), .int .i64 M] 39 (0, 0)) by rw [hU, hgx]; exact heap_alloc_new w2 _)
      have HDU := Lib.hid (show Draws B b v n zs U by rw [hU]; exact HD2.out.alloc _)
      have HRU := Lib.hid (show w.grownBy U (some b) by rw [hU]; exact grown_high HR2.out (grown_alloc w2 _ none) (fun q e => by cases e))
      have HOU := Lib.hid (show U.ownsRow w.heap.size 39 3 (.slice a N c) N (flatSt l) by rw [hU]; exact HO2.out.alloc _)
      have hgw : w.heap.size ≤ gx := by rw [hgx]; exact HR2.out.size
      have HNe := Lib.hid (show ∀ q, (Value.slice a N c).ownBlock = some q → ¬ q = gx from fun q hq => by have h1 := (HO2.out.lt q hq).2; omega)
      have HUs := Lib.hid (show gx < U.heap.size by rw [hU, hgx]; simp)
      rw [← hU, ← hgx]
      clear hU hgx
      go_wp2_with fail
      refine (l1Once_draw 2 HDU.out (by omega) (by omega)).mono ?_
      rintro e w3 ⟨t, rfl, hd, hg⟩
      have HD3 := Lib.hid hd
      have HR3 := Lib.hid (grown_trans HRU.out hg)
      have HO3 := Lib.hid (owns_grown HOU.out hg (by have := HLT.out; omega))
      have HG3 := Lib.hid ((hg.block gx HUs.out (by have := HLT.out; simp; omega)).trans HGU.out)
      have hS3 : gx < w3.heap.size := Nat.lt_of_lt_of_le HUs.out hg.size
      have hok : okAc 2 (1 + p) M 0 = true := okAc_two ⟨by omega, by omega⟩ ⟨by omega, by omega⟩
      have HOk := Lib.hid hok
      clear hd hg hok hp1
      obtain ⟨m0, s0⟩ := cells_of_heap HG3.out 0 (by simp)
      obtain ⟨m1, s1⟩ := cells_of_heap HG3.out 1 (by simp)
      obtain ⟨m2, s2⟩ := cells_of_heap HG3.out 2 (by simp)
      simp only [List.getElem_toArray, List.getElem_cons_zero, List.getElem_cons_succ] at m0 m1 m2
      cases t
      · obtain ⟨q1, hq1⟩ : ∃ x : Int, x = 50 - (N : Int) := ⟨_, rfl⟩
        have hw1 : IntKind.i64.wrap (60 - (N : Int)) = 60 - (N : Int) := IntWalk.i64_in _ ⟨by omega, by omega⟩
        have hw2 : IntKind.i64.wrap (60 - (N : Int) - 10) = q1 := by rw [hq1, show (60 - (N : Int) - 10) = 50 - (N : Int) by omega]; exact IntWalk.i64_in _ ⟨by omega, by omega⟩
        have hws : w.heap.size ≤ w3.heap.size := HR3.out.size
        go_upto_region 9 with (fail)
        obtain ⟨X1, hX1⟩ : ∃ x, x = w3.setCell ⟨gx, 0, none⟩ (.int .i64 1) := ⟨_, rfl⟩
        have HG4 := Lib.hid (show X1.heap[gx]? = some (.cells #[.int .i64 1, .int .i64 (1 + p), .int .i64 M] 39 (0, 0)) by rw [hX1]; exact heap_setCell_same w3 gx 0 _ _ _ HG3.out)
        have HO4 := Lib.hid (show X1.ownsRow w.heap.size 39 3 (.slice a N c) N (flatSt l) by rw [hX1]; exact owns_putAt HO3.out (y := gx) HNe.out 0 [.int .i64 1])
        have HD4 := Lib.hid (show Draws B b v n zs X1 by rw [hX1]; exact HD3.out.putW (x := gx) (by have := HLT.out; omega) (by have := HLT.out; have := HBL.out; omega) [.int .i64 1] 0)
        have HR4 := Lib.hid (show w.grownBy X1 (some b) by rw [hX1]; exact grown_putW hgw [.int .i64 1] 0 HR3.out)
        have HS4 := Lib.hid (show X1.heap.size = w3.heap.size by rw [hX1]; simp)
        rw [← hX1]
        clear hX1 m0 m1 m2 s0 s1 s2
        obtain ⟨m0, s0⟩ := cells_of_heap HG4.out 0 (by simp)
        obtain ⟨m1, s1⟩ := cells_of_heap HG4.out 1 (by simp)
        obtain ⟨m2, s2⟩ := cells_of_heap HG4.out 2 (by simp)
        simp only [List.getElem_toArray, List.getElem_cons_zero, List.getElem_cons_succ] at m0 m1 m2
        go_upto_region 10 with (fail)
        obtain ⟨X2, hX2⟩ : ∃ x, x = X1.alloc (.cells #[.int .i64 1, .int .i64 (1 + p), .int .i64 M] 39) := ⟨_, rfl⟩
        obtain ⟨gy, hgy⟩ : ∃ x, x = X1.heap.size := ⟨_, rfl⟩
        have HY5 := Lib.hid (show X2.heap[gy]? = some (.cells #[.int .i64 1, .int .i64 (1 + p), .int .i64 M] 39 (0, 0)) by rw [hX2, hgy]; exact heap_alloc_new X1 _)
        have HG5 := Lib.hid (show X2.heap[gx]? = some (.cells #[.int .i64 1, .int .i64 (1 + p), .int .i64 M] 39 (0, 0)) by rw [hX2]; exact ((below_alloc1 X1 _).block gx (by have := HS4.out; omega)).trans HG4.out)
        have HO5 := Lib.hid (show X2.ownsRow w.heap.size 39 3 (.slice a N c) N (flatSt l) by rw [hX2]; exact HO4.out.alloc _)
        have HD5 := Lib.hid (show Draws B b v n zs X2 by rw [hX2]; exact HD4.out.alloc _)
        have HR5 := Lib.hid (show w.grownBy X2 (some b) by rw [hX2]; exact grown_high HR4.out (grown_alloc X1 _ none) (fun q e => by cases e))
        have hne : ¬ gx = gy := by have := HS4.out; omega
        have hgyw : w.heap.size ≤ gy := by have := HS4.out; omega
        have HNy := Lib.hid (show ∀ q, (Value.slice a N c).ownBlock = some q → ¬ q = gy from fun q hq => by have h1 := (HO4.out.lt q hq).2; omega)
        rw [← hX2, ← hgy]
        clear hX2 hgy m0 m1 m2 s0 s1 s2
        obtain ⟨y0, t0⟩ := cells_of_heap HY5.out 0 (by simp)
        simp only [List.getElem_toArray, List.getElem_cons_zero] at y0
        go_upto_region 11 with (fail)
        obtain ⟨X3, hX3⟩ : ∃ x, x = X2.setCell ⟨gy, 0, none⟩ (.int .i64 2) := ⟨_, rfl⟩
        have HY6 := Lib.hid (show X3.heap[gy]? = some (.cells #[.int .i64 2, .int .i64 (1 + p), .int .i64 M] 39 (0, 0)) by rw [hX3]; exact heap_setCell_same X2 gy 0 _ _ _ HY5.out)
        have HG6 := Lib.hid (show X3.heap[gx]? = some (.cells #[.int .i64 1, .int .i64 (1 + p), .int .i64 M] 39 (0, 0)) by rw [hX3, heap_setCell_other X2 ⟨gy, 0, none⟩ gx _ (by show ¬ gx = gy; exact hne)]; exact HG5.out)
        have HO6 := Lib.hid (show X3.ownsRow w.heap.size 39 3 (.slice a N c) N (flatSt l) by rw [hX3]; exact owns_putAt HO5.out (y := gy) HNy.out 0 [.int .i64 2])
        have HD6 := Lib.hid (show Draws B b v n zs X3 by rw [hX3]; exact HD5.out.putW (x := gy) (by have := HLT.out; omega) (by have := HLT.out; have := HBL.out; omega) [.int .i64 2] 0)
        have HR6 := Lib.hid (show w.grownBy X3 (some b) by rw [hX3]; exact grown_putW hgyw [.int .i64 2] 0 HR5.out)
        rw [← hX3]
        clear hX3 y0 t0
        have m0 := (cells_of_heap HG6.out 0 (by simp)).1
        have m1 := (cells_of_heap HG6.out 1 (by simp)).1
        have m2 := (cells_of_heap HG6.out 2 (by simp)).1
        have y0 := (cells_of_heap HY6.out 0 (by simp)).1
        have y1 := (cells_of_heap HY6.out 1 (by simp)).1
        have y2 := (cells_of_heap HY6.out 2 (by simp)).1
        simp only [List.getElem_toArray, List.getElem_cons_zero, List.getElem_cons_succ] at m0 m1 m2 y0 y1 y2
        have hws6 : w.heap.size ≤ X3.heap.size := HR6.out.size
        have b63 : N + 3 ≤ maxLen := by unfold maxLen; omega
        have b47 : (N + 3) * 24 ≤ 140737488355328 := by omega
        have HQ := Lib.hid hq1
        have HMS2 := Lib.hid (HMS.out.group (c := 1 + p) (m := M) (c2 := q1) HOk.out (okAc_two ⟨by omega, by omega⟩ ⟨by decide, by decide⟩) (by omega))
        clear hq1
        go_wp2_with (at_builtin; refine wpList_append_own _ rfl _ _ 26 rfl w.heap.size 39 i0 (.agg #[.int .i64 0, .int .i64 0, .int .i64 0]) 3 24 Tryd.underlying26 hi hz0 hz1 hz2 rfl (by decide) _ _ _ rfl (HO6.out.alloc _) ⟨X3.heap.size, 0, none⟩ 3 3 [.int .i64 1, .int .i64 (1 + p), .int .i64 M, .int .i64 0, .int .i64 q1, .int .i64 8, .int .i64 2, .int .i64 (1 + p), .int .i64 M] rfl rfl (World.news_of_block (cs := #[.int .i64 1, .int .i64 (1 + p), .int .i64 M, .int .i64 0, .int .i64 q1, .int .i64 8, .int .i64 2, .int .i64 (1 + p), .int .i64 M]) (t := 39) (fr := (0, 0)) (heap_alloc_new X3 _)) (by intro u hu; simp at hu; rcases hu with rfl | rfl | rfl | rfl | rfl | rfl | rfl | rfl | rfl <;> rfl) b63 b47 (by simp; omega) ?_)
        intro v' w7 hown1 hgrow _
        obtain ⟨a', c', rfl⟩ := owns_shape hown1
        have HD7 := Lib.hid ((HD6.out.alloc (.cells #[.int .i64 1, .int .i64 (1 + p), .int .i64 M, .int .i64 0, .int .i64 q1, .int .i64 8, .int .i64 2, .int .i64 (1 + p), .int .i64 M] 39)).high hgrow (H := w.heap.size) (fun q e => (HO6.out.lt q e).1) HLT.out)
        have HR7 := Lib.hid (grown_high (grown_high HR6.out (grown_alloc X3 (.cells #[.int .i64 1, .int .i64 (1 + p), .int .i64 M, .int .i64 0, .int .i64 q1, .int .i64 8, .int .i64 2, .int .i64 (1 + p), .int .i64 M] 39) none) (fun q e => by cases e)) hgrow (fun q e => (HO6.out.lt q e).1))
        obtain ⟨L3, hL3⟩ : ∃ x, x = l ++ [(⟨1, 1 + p, M⟩ : St), ⟨0, q1, 8⟩, ⟨2, 1 + p, M⟩] := ⟨_, rfl⟩
        have hlen : L3.length = N + 3 := by rw [hL3, List.length_append, ← HN.out]; rfl
        have HO7 := Lib.hid (show w7.ownsRow w.heap.size 39 3 (.slice a' (N + 3) c') (N + 3) (flatSt L3) by
          have e : flatSt L3 = flatSt l ++ [.int .i64 1, .int .i64 (1 + p), .int .i64 M, .int .i64 0, .int .i64 q1, .int .i64 8, .int .i64 2, .int .i64 (1 + p), .int .i64 M] := by rw [hL3]; simp [flatSt]
          rw [e]; exact hown1)
        have HMS3 := Lib.hid (show McS L3 [] by rw [hL3]; exact HMS2.out)
        have HLen := Lib.hid hlen
        clear hown1 hgrow hlen hL3 b63 b47 m0 m1 m2 y0 y1 y2 hw1 hw2
        go_wp2
        go_roundw
        case rel => exact ⟨k', L3, a', c', by omega, by go_num, by rw [HLen.out], by rw [HLen.out]; omega, HMS3.out, by rw [HLen.out]; exact HO7.out, HD7.out, HR7.out⟩
        case measure => simp [intOf]; try omega
      · have hws : w.heap.size ≤ w3.heap.size := HR3.out.size
        have b63 : N + 1 ≤ maxLen := by unfold maxLen; omega
        have b47 : (N + 1) * 24 ≤ 140737488355328 := by omega
        go_wp2_with (at_builtin; refine wpList_append_own _ rfl _ _ 26 rfl w.heap.size 39 i0 (.agg #[.int .i64 0, .int .i64 0, .int .i64 0]) 3 24 Tryd.underlying26 hi hz0 hz1 hz2 rfl (by decide) _ _ _ rfl (HO3.out.alloc _) ⟨w3.heap.size, 0, none⟩ 1 1 [.int .i64 0, .int .i64 (1 + p), .int .i64 M] rfl rfl (World.news_of_block (cs := #[.int .i64 0, .int .i64 (1 + p), .int .i64 M]) (t := 39) (fr := (0, 0)) (heap_alloc_new w3 _)) (by intro u hu; simp at hu; rcases hu with rfl | rfl | rfl <;> rfl) b63 b47 (by simp; omega) ?_)
        intro v' w7 hown1 hgrow _
        obtain ⟨a', c', rfl⟩ := owns_shape hown1
        have HD7 := Lib.hid ((HD3.out.alloc (.cells #[.int .i64 0, .int .i64 (1 + p), .int .i64 M] 39)).high hgrow (H := w.heap.size) (fun q e => (HO3.out.lt q e).1) HLT.out)
        have HR7 := Lib.hid (grown_high (grown_high HR3.out (grown_alloc w3 (.cells #[.int .i64 0, .int .i64 (1 + p), .int .i64 M] 39) none) (fun q e => by cases e)) hgrow (fun q e => (HO3.out.lt q e).1))
        obtain ⟨L3, hL3⟩ : ∃ x, x = l ++ [(⟨0, 1 + p, M⟩ : St)] := ⟨_, rfl⟩
        have hlen : L3.length = N + 1 := by rw [hL3, List.length_append, ← HN.out]; rfl
        have HO7 := Lib.hid (show w7.ownsRow w.heap.size 39 3 (.slice a' (N + 1) c') (N + 1) (flatSt L3) by rw [hL3, flatSt_snoc]; exact hown1)
        have HMS3 := Lib.hid (show McS L3 [] by rw [hL3]; exact HMS.out.tap HOk.out)
        have HLen := Lib.hid hlen
        clear hown1 hgrow hlen hL3 b63 b47 m0 m1 m2 s0 s1 s2
        go_wp2
        go_roundw
        case rel => exact ⟨k', L3, a', c', by omega, by go_num, by rw [HLen.out], by rw [HLen.out]; omega, HMS3.out, by rw [HLen.out]; exact HO7.out, HD7.out, HR7.out⟩
        case measure => simp [intOf]; try omega
    · obtain rfl : k = 0 := by omega
      go_wp2
      go_ret
      exact ⟨l, a, c, by rw [← HN.out]; rfl, HMS.out.valid (by rw [← HN.out]; omega), by rw [← HN.out]; exact HO.out, HD.out, HR.out⟩

/-- A valid macro, in memory of its own. -/
def McMade (w : World) (e : Ending) (w' : World) : Prop :=
  ∃ (l : List St) (a : Option Addr) (c : Nat) (fp : List Nat), e = .returned (.slice a l.length c) ∧ okMc l = true ∧ OwF w' w.heap.size 39 3 (.slice a l.length c) l.length (flatSt l) fp ∧ Below w.heap.size w w'
set_option maxHeartbeats 2000000 in
theorem MakeMacro_draw (v : Value) (zs : List Int) (w : World) (hl : zs.length ≤ 1099511627776) (hz : ∀ z ∈ zs, 0 ≤ z ∧ z < 256) (h : Rd w v (zs.map (.int .u8))) :
    Calls Tryd.prog 8 #[v] w (McMade w) := by
  have HZ := Lib.hid hz
  have HL := Lib.hid hl
  have HR := Lib.hid h
  clear hz hl h
  go_enter Tryd.func8, Tryd.ntmps8
  go_wp2_with fail
  refine (l24New_draw v zs 6 _ HL.out HZ.out HR.out).mono ?_
  rintro e w1 ⟨rfl, hd, hb, hlt⟩
  have HD := Lib.hid hd
  have HB1 := Lib.hid hb
  clear hd hb hlt
  go_wp2_with fail
  refine (l8Draw_draw HD.out).mono ?_
  rintro e w2 ⟨l, a, c, rfl, hok, ho, hd, hg⟩
  have HB2 := Lib.hid (HB1.out.trans (low_of_grown (B := w.heap.size) hg (Nat.le_refl _) HB1.out.size))
  have HO := Lib.hid (owns_base ho HB1.out.size)
  have HOk := Lib.hid hok
  clear hok ho hd hg
  go_wp2
  go_ret
  exact ⟨l, a, c, _, rfl, HOk.out, OwF.mk' HO.out, HB2.out⟩

end Go.Proofs.YtnfnhbldphiohaaDoor
