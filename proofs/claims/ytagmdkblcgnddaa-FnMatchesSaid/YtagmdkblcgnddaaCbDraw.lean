/- DERIVED. Drawing combinations and events of switches by the reference's cursor. -/
import Derived.Test.YtagmdkblcgnddaaDraw
import Derived.Test.YtagmdkblcgnddaaCnCpy
import Derived.Test.YtagmdkblcgnddaaMaDef
namespace Go.Proofs.Ytagmdkblcgnddaa
open Go.RowKit

def allK : List Int := [3, 5, 6, 7, 12, 24, 9, 11, 14, 15]
/-- The ten masks from which combinations are drawn, in a block of their own. -/
def AllK (g : Nat) (w : World) : Prop := w.heap[g]? = some (.cells #[.int .i64 3, .int .i64 5, .int .i64 6, .int .i64 7, .int .i64 12, .int .i64 24, .int .i64 9, .int .i64 11, .int .i64 14, .int .i64 15] 3 (0, 0))
theorem AllK.at {g : Nat} {w : World} (h : AllK g w) {j : Nat} (hj : j < 10) : ∃ k, w.cell? ⟨g, j, none⟩ = some (.int .i64 k) ∧ k = allK.getD j 0 := by
  have c := fun i hi => (cells_of_heap h i hi).1
  have : j = 0 ∨ j = 1 ∨ j = 2 ∨ j = 3 ∨ j = 4 ∨ j = 5 ∨ j = 6 ∨ j = 7 ∨ j = 8 ∨ j = 9 := by omega
  rcases this with rfl | rfl | rfl | rfl | rfl | rfl | rfl | rfl | rfl | rfl
  all_goals exact ⟨_, c _ (by simp), rfl⟩
theorem AllK.grown {g : Nat} {w w' : World} {r : Option Nat} (h : AllK g w) (hg : w.grownBy w' r) (hne : r ≠ some g) : AllK g w' :=
  (hg.block g (Array.getElem?_eq_some_iff.mp h).1 (fun e => hne e.symm)).trans h
/-- Combinations that are drawn. -/
def CbDrawn (B b : Nat) (v : Value) (n : Nat) (zs : List Int) (w : World) (e : Ending) (w' : World) : Prop := ∃ (l : List Cb) (a : Option Addr) (c : Nat), e = .returned (.slice a l.length c) ∧ l.length ≤ 4 ∧ w'.ownsRow w.heap.size 94 2 (.slice a l.length c) l.length (flatCb l) ∧ Draws B b v n zs w' ∧ w.grownBy w' (some b)
set_option maxHeartbeats 4000000 in
set_option maxRecDepth 100000 in
theorem l11Combos_draw {B b n : Nat} {v : Value} {zs : List Int} {w : World} (h : Draws B b v n zs w) :
    Calls Try.prog 124 #[.pointer (some ⟨b, 0, none⟩)] w (CbDrawn B b v n zs w) := by
  obtain ⟨i0, hi, hz0, hz1, hz2⟩ := info_parts info_cb
  have HLT := Lib.hid h.lt
  have HD0 := Lib.hid h
  clear h
  go_enter Try.func124, Try.ntmps124
  go_upto_region 3 with (fail)
  obtain ⟨V, hV⟩ : ∃ V, V = (w.alloc (.cells #[.int .i64 3, .int .i64 5, .int .i64 6, .int .i64 7, .int .i64 12, .int .i64 24, .int .i64 9, .int .i64 11, .int .i64 14, .int .i64 15] 3)).alloc (.cells #[] 94) := ⟨_, rfl⟩
  obtain ⟨gA, hgA⟩ : ∃ g, g = w.heap.size := ⟨_, rfl⟩
  have HAK := Lib.hid (show AllK gA V by rw [hV, hgA]; exact (Below.heap_alloc _ _ _ (by simp)).trans (heap_alloc_new w _))
  have HOV := Lib.hid (show V.ownsRow (gA + 1) 94 2 (.slice (some ⟨gA + 1, 0, none⟩) ([] : List Cb).length 0) ([] : List Cb).length (flatCb []) by
    obtain ⟨U, hU⟩ : ∃ U, U = w.alloc (.cells #[.int .i64 3, .int .i64 5, .int .i64 6, .int .i64 7, .int .i64 12, .int .i64 24, .int .i64 9, .int .i64 11, .int .i64 14, .int .i64 15] 3) := ⟨_, rfl⟩
    have hs : gA + 1 = U.heap.size := by rw [hU, hgA]; simp
    rw [hV, ← hU, hs]
    exact World.ownsRow_lit (e := 94) (size := 2) U #[] 0 (by simp) (by simp [maxLen]) rfl)
  have HDV := Lib.hid (show Draws B b v n zs V by rw [hV]; exact (HD0.out.alloc _).alloc _)
  have HRV := Lib.hid (show w.grownBy V (some b) by rw [hV]; exact grown_high (grown_alloc _ _ _) (grown_alloc _ _ none) (fun q e => by cases e))
  have HGA := Lib.hid hgA
  have HW := Lib.hid hV
  have HNB := Lib.hid (show b ≠ gA by have := HLT.out; omega)
  rw [← hV, ← hgA]
  clear hV hgA
  go_wp2_with fail
  refine (l1Below_draw 4 HDV.out (by omega) (by omega)).mono ?_
  rintro e w1 ⟨x, rfl, x0, x1, hd, hg⟩
  have HD1 := Lib.hid hd
  have HR1 := Lib.hid (grown_trans HRV.out hg)
  have HA1 := Lib.hid (HAK.out.grown hg (by have := HNB.out; simpa using this))
  have HO1 := Lib.hid (owns_grown HOV.out hg (by have := HLT.out; have := HGA.out; omega))
  clear hd hg
  go_wp2_with fail
  refine (l1Below_draw 5 HD1.out (by omega) (by omega)).mono ?_
  rintro e w2 ⟨y, rfl, y0, y1, hd, hg⟩
  have HD2 := Lib.hid hd
  have HR2 := Lib.hid (grown_trans HR1.out hg)
  have HA2 := Lib.hid (HA1.out.grown hg (by have := HNB.out; simpa using this))
  have HO2 := Lib.hid (owns_grown HO1.out hg (by have := HLT.out; have := HGA.out; omega))
  obtain ⟨X, rfl⟩ := Int.eq_ofNat_of_zero_le x0
  obtain ⟨Y, rfl⟩ := Int.eq_ofNat_of_zero_le y0
  have HX := Lib.hid (show X < 4 by omega)
  have HY := Lib.hid (show Y < 5 by omega)
  clear hd hg x0 x1 y0 y1
  go_wp2
  go_loopw [4, 5, 6] (fun o p m wr => ∃ (l : List Cb) (a : Option Addr) (c X Y : Nat), o = .slice a l.length c ∧ p = .int .i64 (X : Int) ∧ m = .int .i64 (Y : Int) ∧ l.length + Y ≤ 4 ∧ X ≤ 20 ∧ AllK gA wr ∧ wr.ownsRow (gA + 1) 94 2 (.slice a l.length c) l.length (flatCb l) ∧ Draws B b v n zs wr ∧ w.grownBy wr (some b)) (fun _ _ m _ => (intOf m).toNat)
  case atStart => exact ⟨[], _, _, X, Y, rfl, rfl, rfl, by have := HY.out; simp; omega, by have := HX.out; omega, HA2.out, HO2.out, HD2.out, HR2.out⟩
  case round =>
    obtain ⟨l, a, c, X, Y, rfl, rfl, rfl, hlY, hX, hak, ho, hd, hr⟩ := hrel
    obtain ⟨N, hN⟩ : ∃ N, N = l.length := ⟨_, rfl⟩
    have HN := Lib.hid hN
    have HAR := Lib.hid hak
    have HO := Lib.hid (show wr.ownsRow (gA + 1) 94 2 (.slice a N c) N (flatCb l) by rw [hN]; exact ho)
    have HD := Lib.hid hd
    have HR := Lib.hid hr
    rw [← hN] at hlY ⊢
    clear hak ho hd hr hN
    by_cases hY : (0 : Int) < (Y : Int)
    · by_cases hX10 : (X : Int) < 10
      · obtain ⟨k, c0, hk⟩ := HAR.out.at (show X < 10 by omega)
        have hX0 : (0 : Int) ≤ (X : Int) := by omega
        have b63 : N + 1 ≤ maxLen := by unfold maxLen; omega
        have b47 : (N + 1) * 16 ≤ 140737488355328 := by omega
        have hws : w.heap.size ≤ wr.heap.size := HR.out.size
        have hlg : gA < wr.heap.size := (Array.getElem?_eq_some_iff.mp HAR.out).1
        have hw24 : wrap64 (24 + (N : Int)) = 24 + (N : Int) := IntWalk.wrap64_in _ ⟨by omega, by omega⟩
        clear hk
        go_wp2_with (at_builtin; refine wpList_append_own _ rfl _ _ 24 rfl (gA + 1) 94 i0 (.agg #[.int .i64 0, .int .i64 0]) 2 16 Try.underlying24 hi hz0 hz1 hz2 rfl (by decide) _ _ _ rfl (HO.out.alloc _) ⟨wr.heap.size, 0, none⟩ 1 1 [.int .i64 k, .int .i64 (24 + (N : Int))] rfl rfl ?c1 ?c2 b63 b47 ?c5 ?_)
        case c1 => exact World.news_of_block (cs := #[.int .i64 k, .int .i64 (24 + (N : Int))]) (t := 94) (fr := (0, 0)) (heap_alloc_new wr _)
        case c2 => intro u hu; simp at hu; rcases hu with rfl | rfl <;> rfl
        case c5 => simp; omega
        · intro v' w3 hown1 hgrow _
          obtain ⟨a', c', rfl⟩ := owns_shape hown1
          have hlt3 := fun q (e : (Value.slice a N c).ownBlock = some q) => (HO.out.lt q e).1
          have HD3 := Lib.hid ((HD.out.alloc (.cells #[.int .i64 k, .int .i64 (24 + (N : Int))] 94)).high hgrow (H := gA + 1) hlt3 (by have := HLT.out; have := HGA.out; omega))
          have HR3 := Lib.hid (grown_high (grown_high HR.out (grown_alloc wr (.cells #[.int .i64 k, .int .i64 (24 + (N : Int))] 94) none) (fun q e => by cases e)) hgrow (fun q e => by have := hlt3 q e; have := HGA.out; omega))
          have HA3 := Lib.hid ((HAR.out.grown (grown_alloc wr (.cells #[.int .i64 k, .int .i64 (24 + (N : Int))] 94) none) (by simp)).grown hgrow (fun e => by have := hlt3 gA e; omega))
          have HO3 := Lib.hid (show w3.ownsRow (gA + 1) 94 2 (.slice a' (l ++ [(⟨k, 24 + (N : Int)⟩ : Cb)]).length c') (l ++ [(⟨k, 24 + (N : Int)⟩ : Cb)]).length (flatCb (l ++ [(⟨k, 24 + (N : Int)⟩ : Cb)])) by rw [List.length_append, ← HN.out, flatCb_snoc]; exact hown1)
          clear hown1 hgrow hlt3 c0 b63 b47
          obtain ⟨X1, hX1⟩ : ∃ X1 : Int, X1 = (X : Int) + 1 := ⟨_, rfl⟩
          have hx1 : wrap64 ((X : Int) + 1) = X1 := by rw [hX1]; exact IntWalk.wrap64_in _ ⟨by omega, by omega⟩
          have HX1 := Lib.hid hX1
          clear hX1
          go_wp2_with fail
          refine (l1Below_draw 3 HD3.out (by omega) (by omega)).mono ?_
          rintro e w4 ⟨z, rfl, z0, z1, hd, hg⟩
          have HD4 := Lib.hid hd
          have HR4 := Lib.hid (grown_trans HR3.out hg)
          have HA4 := Lib.hid (HA3.out.grown hg (by have := HNB.out; simpa using this))
          have HO4 := Lib.hid (owns_grown HO3.out hg (by have := HLT.out; have := HGA.out; omega))
          obtain ⟨X2, hX2⟩ : ∃ X2 : Nat, (X2 : Int) = X1 + z := ⟨(X1 + z).toNat, by have := HX1.out; omega⟩
          obtain ⟨Y2, hY2⟩ : ∃ Y2 : Nat, (Y2 : Int) = (Y : Int) - 1 := ⟨Y - 1, by omega⟩
          have hx2 : wrap64 (X1 + z) = (X2 : Int) := by rw [hX2]; exact IntWalk.wrap64_in _ ⟨by have := HX1.out; omega, by have := HX1.out; omega⟩
          have hy2 : wrap64 ((Y : Int) - 1) = (Y2 : Int) := by rw [hY2]; exact IntWalk.wrap64_in _ ⟨by omega, by omega⟩
          have HXW := Lib.hid (show wrap64 ((X : Int) + 1 + z) = (X2 : Int) by rw [← HX1.out]; exact hx2)
          have HX2 := Lib.hid (show X2 ≤ 20 by have := HX1.out; omega)
          have HY2 := Lib.hid (show Y = Y2 + 1 by omega)
          clear hX2 hY2
          have HLen := Lib.hid (show (l ++ [(⟨k, 24 + (N : Int)⟩ : Cb)]).length = N + 1 by rw [List.length_append, ← HN.out]; rfl)
          clear hd hg z0 z1
          go_wp2
          go_roundw
          case rel => exact ⟨l ++ [⟨k, 24 + (N : Int)⟩], a', c', X2, Y2, by rw [HLen.out], by rw [HXW.out], by rw [show ((Y : Int) - 1) = (Y2 : Int) by have := HY2.out; omega], by rw [HLen.out]; have := HY2.out; omega, HX2.out, HA4.out, HO4.out, HD4.out, HR4.out⟩
          case measure => have := HY2.out; simp [intOf]; omega
      · go_wp2
        go_ret
        exact ⟨l, a, c, by rw [← HN.out]; rfl, by rw [← HN.out]; omega, by rw [← HN.out]; exact owns_base HO.out (by have := HGA.out; omega), HD.out, HR.out⟩
    · go_wp2
      go_ret
      exact ⟨l, a, c, by rw [← HN.out]; rfl, by rw [← HN.out]; omega, by rw [← HN.out]; exact owns_base HO.out (by have := HGA.out; omega), HD.out, HR.out⟩

end Go.Proofs.Ytagmdkblcgnddaa
