/- DERIVED. The reference's draw of held keys, and MakeHeld: valid held keys in memory of their own. -/
import Derived.Test.YtghijkpcmamebaaHdMath
import Derived.Test.YtghijkpcmamebaaAcDraw
import Derived.Test.YtghijkpcmamebaaAcTap
import Derived.Test.YtghijkpcmamebaaRpSpec5
import Derived.Deep.DeepCutAuto
import Derived.Deep.AppendLies
namespace Go.Proofs.Ytghijkpcmamebaa
open Go.RowKit

/-- What is known of held keys that are drawn. -/
def HdDrawn (B b : Nat) (v : Value) (n : Nat) (zs : List Int) (K : Nat) (w : World) (e : Ending) (w' : World) : Prop :=
  ∃ (l : List Hd) (a : Option Addr) (c : Nat), e = .returned (.slice a l.length c) ∧ okHd l = true ∧ l.length ≤ K ∧ w'.ownsRow w.heap.size 33 5 (.slice a l.length c) l.length (flatHd l) ∧ Draws B b v n zs w' ∧ w.grownBy w' (some b)
theorem box4_keep {w w' : World} {g : Nat} {k c m n : Int} (h : w.heap[g]? = some (.cells #[.int .i64 k, .int .i64 c, .int .i64 m, .int .i64 n] 31 (0, 0))) (hb : w'.heap[g]? = w.heap[g]?) : w'.heap[g]? = some (.cells #[.int .i64 k, .int .i64 c, .int .i64 m, .int .i64 n] 31 (0, 0)) := hb.trans h
theorem specTapOf_z (a z : Ac) (hz : z = tapR a) (w : World) : Calls Try.prog 63 #[acv a.k a.c a.m a.n] w fun e w' => e = .returned (acv z.k z.c z.m z.n) ∧ Below w.heap.size w w' := by
  rw [hz]; exact specTapOf_any a.k a.c a.m a.n w
theorem specHoldOf_z (a z : Ac) (hz : z = holdR a) (w : World) : Calls Try.prog 62 #[acv a.k a.c a.m a.n] w fun e w' => e = .returned (acv z.k z.c z.m z.n) ∧ Below w.heap.size w w' := by
  rw [hz]; exact specHoldOf_any a.k a.c a.m a.n w

set_option maxHeartbeats 8000000 in
set_option maxRecDepth 100000 in
theorem l7Draw_draw {B b n : Nat} {v : Value} {zs : List Int} {w : World} (K : Nat) (h : Draws B b v n zs w) (k32 : K ≤ 32) :
    Calls Try.prog 41 #[.pointer (some ⟨b, 0, none⟩), .int .i64 K] w (HdDrawn B b v n zs K w) := by
  obtain ⟨i0, hi, hz0, hz1, hz2⟩ := info_parts info_hd
  have HLT := Lib.hid h.lt
  have HBL := Lib.hid h.low
  have HD0 := Lib.hid h
  have HR0 := Lib.hid (grown_refl w (some b))
  have HS0 := Lib.hid (Nat.le_refl w.heap.size)
  clear h
  go_enter Try.func41, Try.ntmps41
  go_upto_region 2 with (fail)
  obtain ⟨V, hV⟩ : ∃ V, V = w.alloc (.cells #[] 33) := ⟨_, rfl⟩
  have HOV := Lib.hid (show V.ownsRow w.heap.size 33 5 (.slice (some ⟨w.heap.size, 0, none⟩) ([] : List Hd).length 0) ([] : List Hd).length (flatHd []) by
    rw [hV]; exact World.ownsRow_lit (e := 33) (size := 5) w #[] 0 (Nat.le_refl _) (by simp [maxLen]) rfl)
  have HDV := Lib.hid (show Draws B b v n zs V by rw [hV]; exact HD0.out.alloc _)
  have HRV := Lib.hid (show w.grownBy V (some b) by rw [hV]; exact grown_alloc _ _ _)
  rw [← hV]
  clear hV
  go_wp2
  go_loopw [5, 6, 7] (fun o i _ wr => ∃ (k : Nat) (l : List Hd) (a : Option Addr) (c : Nat), k ≤ K ∧ i = .int .i64 k ∧ o = .slice a l.length c ∧ l.length ≤ k ∧ okHd l = true ∧ (∀ i, i < l.length → (hdD l i).h < (k : Int)) ∧ wr.ownsRow w.heap.size 33 5 (.slice a l.length c) l.length (flatHd l) ∧ Draws B b v n zs wr ∧ w.grownBy wr (some b)) (fun _ i _ _ => K - (intOf i).toNat)
  case atStart => exact ⟨0, [], _, _, Nat.zero_le _, rfl, rfl, Nat.le_refl _, rfl, fun i hi => absurd hi (Nat.not_lt_zero _), HOV.out, HDV.out, HRV.out⟩
  case round =>
    obtain ⟨k, l, a, c, hk, rfl, rfl, hlk, hok, hlt, ho, hd, hr⟩ := hrel
    have HOk := Lib.hid hok
    have HLt := Lib.hid hlt
    have HO := Lib.hid ho
    have HD := Lib.hid hd
    have HR := Lib.hid hr
    obtain ⟨N, hN⟩ : ∃ N, N = l.length := ⟨_, rfl⟩
    have HN := Lib.hid hN
    rw [← hN] at HO hlk ⊢
    clear hok hlt ho hd hr hN
    by_cases hkK : k < K
    · go_wp2_with fail
      refine (l1Once_draw 2 HD.out (by omega) (by omega)).mono ?_
      rintro e w1 ⟨t, rfl, hd, hg⟩
      have HD1 := Lib.hid hd
      have HR1 := Lib.hid (grown_trans HR.out hg)
      have HO1 := Lib.hid (owns_grown HO.out hg (by have := HLT.out; omega))
      clear hd hg
      cases t
      · go_wp2_with fail
        refine (l5Draw_draw 4 HD1.out (by omega) (by omega)).mono ?_
        rintro e w2 ⟨z, rfl, hfit, hd, hg⟩
        have HNp := Lib.hid (show AcNp z from ⟨hfit.ok, hfit.np⟩)
        have HD2 := Lib.hid hd
        have HR2 := Lib.hid (grown_trans HR1.out hg)
        have HO2 := Lib.hid (owns_grown HO1.out hg (by have := HLT.out; omega))
        clear hd hg hfit
        go_upto_region 7 with (fail)
        obtain ⟨g7, hg7⟩ : ∃ x, x = w2.heap.size := ⟨_, rfl⟩
        obtain ⟨U, hU⟩ : ∃ x, x = w2.alloc (.cells #[.int .i64 z.k, .int .i64 z.c, .int .i64 z.m, .int .i64 z.n] 31) := ⟨_, rfl⟩
        have HGU := Lib.hid (show U.heap[g7]? = some (.cells #[.int .i64 z.k, .int .i64 z.c, .int .i64 z.m, .int .i64 z.n] 31 (0, 0)) by rw [hU, hg7]; exact heap_alloc_new w2 _)
        have HDU := Lib.hid (show Draws B b v n zs U by rw [hU]; exact HD2.out.alloc _)
        have HRU := Lib.hid (show w.grownBy U (some b) by rw [hU]; exact grown_high HR2.out (grown_alloc w2 _ none) (fun q e => by cases e))
        have HOU := Lib.hid (show U.ownsRow w.heap.size 33 5 (.slice a N c) N (flatHd l) by rw [hU]; exact HO2.out.alloc _)
        have hgw : w.heap.size ≤ g7 := by rw [hg7]; exact HR2.out.size
        have HNe := Lib.hid (show ∀ q, (Value.slice a N c).ownBlock = some q → ¬ q = g7 from fun q hq => by have h1 := (HO2.out.lt q hq).2; omega)
        have HUs := Lib.hid (show U.heap.size = g7 + 1 by rw [hU, hg7]; simp)
        rw [← hU, ← hg7]
        clear hU hg7
        go_upto_if 19 with (go_at_call 60; refine (l1Once_draw 2 HDU.out (by omega) (by omega)).mono ?_; rintro e w3 ⟨t2, rfl, hd, hg⟩; have HD3 := Lib.hid hd; have HR3 := Lib.hid (grown_trans HRU.out hg); have HO3 := Lib.hid (owns_grown HOU.out hg (by have := HLT.out; omega)); have HG3 := Lib.hid ((hg.block g7 (by rw [HUs.out]; omega) (by have := HLT.out; simp; omega)).trans HGU.out); have HS3 := Lib.hid (show g7 < w3.heap.size from Nat.lt_of_lt_of_le (by rw [HUs.out]; omega) hg.size); clear hd hg)
        go_cut [21] (fun _ wx => ∃ (y : Ac), AcNp y ∧ wx.heap[g7]? = some (.cells #[.int .i64 y.k, .int .i64 y.c, .int .i64 y.m, .int .i64 y.n] 31 (0, 0)) ∧ wx.ownsRow w.heap.size 33 5 (.slice a N c) N (flatHd l) ∧ Draws B b v n zs wx ∧ w.grownBy wx (some b))
        case first =>
          cases t2
          · go_wp2
            go_meet
            exact ⟨z, HNp.out, HG3.out, HO3.out, HD3.out, HR3.out⟩
          · have m0 := (cells_of_heap HG3.out 0 (by simp)).1
            have m1 := (cells_of_heap HG3.out 1 (by simp)).1
            have m2 := (cells_of_heap HG3.out 2 (by simp)).1
            have m3 := (cells_of_heap HG3.out 3 (by simp)).1
            simp only [List.getElem_toArray, List.getElem_cons_zero, List.getElem_cons_succ] at m0 m1 m2 m3
            obtain ⟨y, hy⟩ : ∃ y, y = holdR z := ⟨_, rfl⟩
            have HNy := Lib.hid (show AcNp y by rw [hy]; exact np_hold HNp.out)
            have HY := Lib.hid hy
            clear hy
            go_wp2_with fail
            refine (specHoldOf_z z y HY.out _).mono ?_
            rintro e w4 ⟨rfl, hb⟩
            have HG4 := Lib.hid ((hb.block g7 HS3.out).trans HG3.out)
            have HD4 := Lib.hid (HD3.out.below hb)
            have HR4 := Lib.hid (grown_high HR3.out (grown_of_below hb none) (fun q e => by cases e))
            have HO4 := Lib.hid (owns_below HO3.out hb)
            clear hb m0 m1 m2 m3
            obtain ⟨r0, s0⟩ := cells_of_heap HG4.out 0 (by simp)
            obtain ⟨r1, s1⟩ := cells_of_heap HG4.out 1 (by simp)
            obtain ⟨r2, s2⟩ := cells_of_heap HG4.out 2 (by simp)
            obtain ⟨r3, s3⟩ := cells_of_heap HG4.out 3 (by simp)
            go_wp2
            clear r0 r1 r2 r3 s0 s1 s2 s3
            go_meet
            refine ⟨y, HNy.out, ?_, ?_, ?_, ?_⟩
            · exact putW_all [.int .i64 y.k, .int .i64 y.c, .int .i64 y.m, .int .i64 y.n] HG4.out rfl
            · exact owns_putAt HO4.out (y := g7) HNe.out 0 [.int .i64 y.k, .int .i64 y.c, .int .i64 y.m, .int .i64 y.n]
            · exact HD4.out.putW (x := g7) (by have := HLT.out; omega) (by have := HLT.out; have := HBL.out; omega) [.int .i64 y.k, .int .i64 y.c, .int .i64 y.m, .int .i64 y.n] 0
            · exact grown_putW hgw [.int .i64 y.k, .int .i64 y.c, .int .i64 y.m, .int .i64 y.n] 0 HR4.out
        case rest =>
          obtain ⟨y, hnp, hg, ho, hd, hr⟩ := hcut
          have HNy := Lib.hid hnp
          have HO5 := Lib.hid ho
          have HD5 := Lib.hid hd
          have HR5 := Lib.hid hr
          have m0 := (cells_of_heap hg 0 (by simp)).1
          have m1 := (cells_of_heap hg 1 (by simp)).1
          have m2 := (cells_of_heap hg 2 (by simp)).1
          have m3 := (cells_of_heap hg 3 (by simp)).1
          simp only [List.getElem_toArray, List.getElem_cons_zero, List.getElem_cons_succ] at m0 m1 m2 m3
          obtain ⟨x, hx⟩ : ∃ x, x = tapR y := ⟨_, rfl⟩
          have HOne := Lib.hid (show okOne ⟨(k : Int), x.k, x.c, x.m, x.n⟩ = true by rw [hx]; exact np_tap HNy.out ⟨by omega, by omega⟩)
          have HX := Lib.hid hx
          clear hx hnp hg ho hd hr
          go_wp2_with fail
          refine (specTapOf_z y x HX.out _).mono ?_
          rintro e w6 ⟨rfl, hb⟩
          have HD6 := Lib.hid (HD5.out.below hb)
          have HR6 := Lib.hid (grown_high HR5.out (grown_of_below hb none) (fun q e => by cases e))
          have HO6 := Lib.hid (owns_below HO5.out hb)
          have b63 : N + 1 ≤ maxLen := by unfold maxLen; omega
          have b47 : (N + 1) * 40 ≤ 140737488355328 := by omega
          have hws : w.heap.size ≤ w6.heap.size := HR6.out.size
          clear hb m0 m1 m2 m3
          go_wp2_with (at_builtin; refine wpList_append_own _ rfl _ _ 24 rfl w.heap.size 33 i0 (.agg #[.int .i64 0, .int .i64 0, .int .i64 0, .int .i64 0, .int .i64 0]) 5 40 Try.underlying24 hi hz0 hz1 hz2 rfl (by decide) _ _ _ rfl (HO6.out.alloc _) ⟨w6.heap.size, 0, none⟩ 1 1 [.int .i64 k, .int .i64 x.k, .int .i64 x.c, .int .i64 x.m, .int .i64 x.n] rfl rfl ?c1 ?c2 b63 b47 ?c5 ?_)
          case c1 => exact World.news_of_block (cs := #[.int .i64 k, .int .i64 x.k, .int .i64 x.c, .int .i64 x.m, .int .i64 x.n]) (t := 33) (fr := (0, 0)) (heap_alloc_new w6 _)
          case c2 => intro u hu; simp at hu; rcases hu with rfl | rfl | rfl | rfl | rfl <;> rfl
          case c5 => simp; omega
          · intro v' w7 hown1 hgrow _
            obtain ⟨a', c', rfl⟩ := owns_shape hown1
            have HD7 := Lib.hid ((HD6.out.alloc (.cells #[.int .i64 k, .int .i64 x.k, .int .i64 x.c, .int .i64 x.m, .int .i64 x.n] 33)).high hgrow (H := w.heap.size) (fun q e => (HO6.out.lt q e).1) HLT.out)
            have HR7 := Lib.hid (grown_high (grown_high HR6.out (grown_alloc w6 (.cells #[.int .i64 k, .int .i64 x.k, .int .i64 x.c, .int .i64 x.m, .int .i64 x.n] 33) none) (fun q e => by cases e)) hgrow (fun q e => (HO6.out.lt q e).1))
            have hlen : (l ++ [(⟨(k : Int), x.k, x.c, x.m, x.n⟩ : Hd)]).length = N + 1 := by rw [List.length_append, ← HN.out]; rfl
            have HO7 := Lib.hid (show w7.ownsRow w.heap.size 33 5 (.slice a' (N + 1) c') (N + 1) (flatHd (l ++ [(⟨(k : Int), x.k, x.c, x.m, x.n⟩ : Hd)])) by rw [flatHd_snoc]; exact hown1)
            have HLen := Lib.hid hlen
            have HOk7 := Lib.hid (okHd_snoc (e := ⟨(k : Int), x.k, x.c, x.m, x.n⟩) HOk.out HOne.out (fun i hi => HLt.out i hi))
            have HLt7 := Lib.hid (show ∀ i, i < (l ++ [(⟨(k : Int), x.k, x.c, x.m, x.n⟩ : Hd)]).length → (hdD (l ++ [(⟨(k : Int), x.k, x.c, x.m, x.n⟩ : Hd)]) i).h < ((k + 1 : Nat) : Int) from fun i hi => by
              rw [List.length_append, List.length_singleton] at hi
              rw [hdD_snoc _ _ _ hi]
              split
              · have := HLt.out i (by assumption); omega
              · show (k : Int) < _; omega)
            clear hown1 hgrow hlen b63 b47
            go_wp2
            go_roundw
            case rel => exact ⟨k + 1, l ++ [(⟨(k : Int), x.k, x.c, x.m, x.n⟩ : Hd)], a', c', by omega, by go_num, by rw [HLen.out], by rw [HLen.out]; omega, HOk7.out, HLt7.out, by rw [HLen.out]; exact HO7.out, HD7.out, HR7.out⟩
            case measure => simp [intOf]; omega
      · go_wp2
        go_roundw
        case rel => exact ⟨k + 1, l, a, c, by omega, by go_num, by rw [← HN.out], by rw [← HN.out]; omega, HOk.out, fun i hi => by have := HLt.out i hi; omega, by rw [← HN.out]; exact HO1.out, HD1.out, HR1.out⟩
        case measure => simp [intOf]; omega
    · obtain rfl : k = K := by omega
      go_wp2
      go_ret
      exact ⟨l, a, c, by rw [← HN.out]; rfl, HOk.out, by rw [← HN.out]; omega, by rw [← HN.out]; exact HO.out, HD.out, HR.out⟩

/-- Valid held keys, in memory of their own. -/
def HdMade (w : World) (e : Ending) (w' : World) : Prop :=
  ∃ (l : List Hd) (a : Option Addr) (c : Nat) (fp : List Nat), e = .returned (.slice a l.length c) ∧ okHd l = true ∧ l.length ≤ 6 ∧ OwF w' w.heap.size 33 5 (.slice a l.length c) l.length (flatHd l) fp ∧ Below w.heap.size w w'
set_option maxHeartbeats 2000000 in
theorem MakeHeld_draw (v : Value) (zs : List Int) (w : World) (hl : zs.length ≤ 1099511627776) (hz : ∀ z ∈ zs, 0 ≤ z ∧ z < 256) (h : Rd w v (zs.map (.int .u8))) :
    Calls Try.prog 12 #[v] w (HdMade w) := by
  have HZ := Lib.hid hz
  have HL := Lib.hid hl
  have HR := Lib.hid h
  clear hz hl h
  go_enter Try.func12, Try.ntmps12
  go_wp2_with fail
  refine (l24New_draw v zs 4 _ HL.out HZ.out HR.out).mono ?_
  rintro e w1 ⟨rfl, hd, hb, hlt⟩
  have HD := Lib.hid hd
  have HB1 := Lib.hid hb
  clear hd hb hlt
  go_wp2_with fail
  refine (l7Draw_draw 6 HD.out (by decide)).mono ?_
  rintro e w2 ⟨l, a, c, rfl, hok, hl6, ho, hd, hg⟩
  have HB2 := Lib.hid (HB1.out.trans (low_of_grown (B := w.heap.size) hg (Nat.le_refl _) HB1.out.size))
  have HO := Lib.hid (owns_base ho HB1.out.size)
  have HOk := Lib.hid hok
  have HL6 := Lib.hid hl6
  clear hok hl6 ho hd hg
  go_wp2
  go_ret
  exact ⟨l, a, c, _, rfl, HOk.out, HL6.out, OwF.mk' HO.out, HB2.out⟩

end Go.Proofs.Ytghijkpcmamebaa
