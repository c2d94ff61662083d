/- DERIVED. Drawing a valid keymap of so many keys by the reference's cursor. · Drawing a valid keymap with more ways between its layers by the reference's cursor. · MakeKymap of the reference: a valid keymap of so many keys; and FnLayers over the program's contracts as premises. -/
import Derived.Test.YtleheibpgngmiaaDoorAcDraw
import Derived.Test.YtleheibpgngmiaaDoorKm
import Derived.Deep.AppendLies
import Derived.Test.YtleheibpgngmiaaDoorKmSpec5
import Derived.Deep.RegionLaw
import Derived.Test.YtleheibpgngmiaaDoorDraw
import Derived.Laws.StructEq
namespace Go.Proofs.YtleheibpgngmiaaDoor
open Go.RowKit

/-- The actions of a row may stand in layer j of N layers. -/
def rowOk (N j : Nat) (l : List Ac) : Prop := ∀ k, k < l.length → okA N j (acD l k) = true
def rowsOk (N K : Nat) (L : List (List Ac)) : Prop := ∀ j, j < L.length → (lD L j).length = K ∧ rowOk N j (lD L j)
theorem acD_snoc (l : List Ac) (a : Ac) (k : Nat) (hk : k < (l ++ [a]).length) : acD (l ++ [a]) k = if k < l.length then acD l k else a := by
  unfold acD
  rw [List.getD_eq_getElem?_getD, List.getD_eq_getElem?_getD]
  by_cases h : k < l.length
  · rw [if_pos h, List.getElem?_append_left h]
  · rw [if_neg h, List.getElem?_append_right (by omega), show k - l.length = 0 by simp at hk; omega]; rfl
theorem rowOk.snoc {N j : Nat} {l : List Ac} {a : Ac} (h : rowOk N j l) (ha : okA N j a = true) : rowOk N j (l ++ [a]) := by
  intro k hk
  rw [acD_snoc l a k hk]
  split
  · exact h k (by assumption)
  · exact ha
theorem rowsOk.snoc {N K : Nat} {L : List (List Ac)} {l : List Ac} (h : rowsOk N K L) (hl : l.length = K) (hr : rowOk N L.length l) : rowsOk N K (L ++ [l]) := by
  intro j hj
  rw [lD_snoc]
  by_cases h2 : j < L.length
  · rw [if_pos h2]; exact h j h2
  · obtain rfl : j = L.length := by simp at hj; omega
    rw [if_neg h2, if_pos rfl]; exact ⟨hl, hr⟩
theorem rowN_of {N j : Nat} {l : List Ac} (h : rowOk N j l) : ∀ m, m ≤ l.length → rowN N j l m = true
  | 0, _ => rfl
  | m + 1, hm => by rw [rowN, rowN_of h m (by omega), h m (by omega)]; rfl
theorem layN_of {K : Nat} {L : List (List Ac)} (h : rowsOk L.length K L) : ∀ m, m ≤ L.length → layN (K : Int) L m = true
  | 0, _ => rfl
  | m + 1, hm => by
    rw [layN, layN_of h m (by omega), layOk, rowN_of (h m (by omega)).2 _ (Nat.le_refl _), (h m (by omega)).1]
    simp
theorem okKm_of {N K : Nat} {L : List (List Ac)} (h : rowsOk N K L) (hN : L.length = N) (h1 : 1 ≤ N) (h4 : N ≤ 4) (k1 : 1 ≤ K) (k32 : K ≤ 32) : okKm (K : Int) L = true := by
  subst hN
  rw [okKm, layN_of h _ (Nat.le_refl _)]
  unfold inB
  simp
  omega
theorem okA_fit {N j : Nat} {a : Ac} (h : AcFit a (N : Int)) : okA N j a = true := by
  unfold okA
  rw [h.ok]
  have := h.np
  have := h.lay
  simp
  omega
theorem okA_pass {N j : Nat} (hN : 1 ≤ N) (hj : j ≠ 0) : okA N j ⟨1, 0, 0, 0⟩ = true := by
  unfold okA
  have : okAc 1 0 0 0 = true := by decide
  simp [this]
  omega
theorem OwB.grown {α : Type} {f : α → List Value} {w w' : World} {B : Nat} {T1 T2 : TypeId} {c n : Nat} {v : Value} {us : List Value} {L : List (List α)} {fps : List (List Nat)} {b : Nat} (h : OwB f w B T1 T2 c v n us L fps) (hg : w.grownBy w' (some b)) (hb : b < B) : OwB f w' B T1 T2 c v n us L fps :=
  h.turn (Turn.of_grown hg) (fun x hx hm => by rw [List.mem_singleton] at hm; have := (h.rng x hx).1; omega)
/-- What is drawn: a valid keymap of K keys, in memory of its own. -/
def KmDrawn (B b : Nat) (v : Value) (n : Nat) (zs : List Int) (K : Nat) (w : World) (e : Ending) (w' : World) : Prop :=
  ∃ L a cap fp, e = .returned (kmv K (.slice a L.length cap)) ∧ okKm (K : Int) L = true ∧ LoS w' w.heap.size (.slice a L.length cap) L fp ∧ Draws B b v n zs w' ∧ w.grownBy w' (some b)
theorem info_acS : (Tryd.prog.info? 54).map (fun i => (i.zero, i.size, i.bytes)) = some (some (.slice none 0 0), 1, 24) := by kernel_rfl

set_option maxHeartbeats 8000000 in
set_option maxRecDepth 100000 in
theorem l6Draw_draw {B b n : Nat} {v : Value} {zs : List Int} {w : World} (K : Nat) (h : Draws B b v n zs w) (k1 : 1 ≤ K) (k32 : K ≤ 32) :
    Calls Tryd.prog 71 #[.pointer (some ⟨b, 0, none⟩), .int .i64 K] w (KmDrawn B b v n zs K w) := by
  obtain ⟨i0, hi, hz0, hz1, hz2⟩ := info_parts info_ac
  obtain ⟨i1, hI1, hy0, hy1, hy2⟩ := info_parts info_acS
  have HLT := Lib.hid h.lt
  have HBL := Lib.hid h.low
  obtain ⟨V, hV⟩ : ∃ V, V = w.alloc (.cells #[.int .i64 0, .slice none 0 0] 31) := ⟨_, rfl⟩
  have HG0 := Lib.hid (show V.heap[w.heap.size]? = some (.cells #[.int .i64 0, .slice none 0 0] 31 (0, 0)) by rw [hV]; exact heap_alloc_new w _)
  have HS0 := Lib.hid (show w.heap.size < V.heap.size by rw [hV]; simp)
  have HD0 := Lib.hid (show Draws B b v n zs V by rw [hV]; exact h.alloc _)
  have HR0 := Lib.hid (show w.grownBy V (some b) by rw [hV]; exact grown_alloc _ _ _)
  have HV2 := Lib.hid hV
  clear hV h
  go_enter Tryd.func71, Tryd.ntmps71
  go_wp2_with fail
  rw [← HV2.out]
  refine (l1Below_draw 4 HD0.out (by omega) (by omega)).mono ?_
  rintro e w1 ⟨x, rfl, x0, x1, hd, hg⟩
  have HD1 := Lib.hid hd
  have HR1 := Lib.hid (grown_trans HR0.out hg)
  have HG1 := Lib.hid ((hg.block _ HS0.out (by have := HLT.out; simp; omega)).trans HG0.out)
  have HS1 := Lib.hid (Nat.lt_of_lt_of_le HS0.out hg.size)
  clear hd hg
  obtain ⟨N, hN⟩ : ∃ N : Nat, 1 + x = (N : Int) := ⟨(1 + x).toNat, by omega⟩
  have n1 : 1 ≤ N := by omega
  have n4 : N ≤ 4 := by omega
  go_upto_region 3 with (fail)
  clear hN
  obtain ⟨gm, hgm⟩ : ∃ g, g = w1.heap.size := ⟨_, rfl⟩
  obtain ⟨U, hU⟩ : ∃ U, U = w1.alloc (.cells #[.int .i64 K, .slice none 0 0] 31) := ⟨_, rfl⟩
  have hgU : w1.grownBy U none := by rw [hU]; exact grown_alloc _ _ _
  have HGm := Lib.hid (show U.heap[gm]? = some (.cells #[.int .i64 K, .slice none 0 0] 31 (0, 0)) by rw [hU, hgm]; exact heap_alloc_new _ _)
  have HDU := Lib.hid (show Draws B b v n zs U by rw [hU]; exact HD1.out.alloc _)
  have HRU := Lib.hid (grown_high HR1.out hgU (fun q e => by cases e))
  have HGU := Lib.hid ((hgU.block _ HS1.out (by simp)).trans HG1.out)
  have HSU := Lib.hid (show U.heap.size = gm + 1 by rw [hU, hgm]; simp)
  have HGW := Lib.hid (show w.heap.size < gm by rw [hgm]; exact HS1.out)
  rw [← hU, ← hgm]
  clear hU hgU hgm x0 x1
  go_wp2
  go_loopw [7] (fun i wr => ∃ (j : Nat) (us : List Value) (L : List (List Ac)) (fps : List (List Nat)) (a : Option Addr) (c : Nat), j ≤ N ∧ i = .int .i64 j ∧ L.length = j ∧ rowsOk N K L ∧ wr.heap[gm]? = some (.cells #[.int .i64 K, .slice a j c] 31 (0, 0)) ∧ LoB wr U.heap.size (.slice a j c) j us L fps ∧ Draws B b v n zs wr ∧ w.grownBy wr (some b) ∧ wr.heap[w.heap.size]? = some (.cells #[.int .i64 0, .slice none 0 0] 31 (0, 0)) ∧ U.heap.size ≤ wr.heap.size) (fun i _ => N - (intOf i).toNat)
  case atStart => exact ⟨0, [], [], [], none, 0, Nat.zero_le _, rfl, rfl, fun j hj => absurd hj (Nat.not_lt_zero _), HGm.out, OwB.start (World.ownsRow_nil _ _ _ _), HDU.out, HRU.out, HGU.out, Nat.le_refl _⟩
  case round =>
    obtain ⟨j, us, L, fps, a, c, hj, rfl, hL, hrows, hgm, hob, hd, hr, hg0, hsz⟩ := hrel
    obtain ⟨W1, hW1⟩ : ∃ x, x = wr := ⟨_, rfl⟩
    subst hW1
    have HLL := Lib.hid hL
    have HROWS := Lib.hid hrows
    have HGmW := Lib.hid hgm
    have HOB := Lib.hid hob
    have HD1 := Lib.hid hd
    have HR1 := Lib.hid hr
    have HG1 := Lib.hid hg0
    have HSZ := Lib.hid hsz
    clear hL hrows hgm hob hd hr hg0 hsz
    by_cases hlt : j < N
    · obtain ⟨V1, hV1⟩ : ∃ V, V = W1.alloc (.cells #[] 37) := ⟨_, rfl⟩
      have HO0 := Lib.hid (show V1.ownsRow W1.heap.size 37 4 (.slice (some ⟨W1.heap.size, 0, none⟩) 0 0) 0 (flatAc []) by rw [hV1]; exact owns_noneN _ _ (Nat.le_refl _))
      have HDV := Lib.hid (show Draws B b v n zs V1 by rw [hV1]; exact HD1.out.alloc _)
      have HRV := Lib.hid (show W1.grownBy V1 (some b) by rw [hV1]; exact grown_alloc _ _ _)
      have HV1 := Lib.hid hV1
      clear hV1
      go_upto_region 7 with (fail)
      rw [← HV1.out]
      go_wp2
      go_loopw [8, 9] (fun ro i wr => ∃ (k : Nat) (l : List Ac) (ra : Option Addr) (rc : Nat), k ≤ K ∧ i = .int .i64 k ∧ l.length = k ∧ rowOk N j l ∧ ro = .slice ra k rc ∧ wr.ownsRow W1.heap.size 37 4 (.slice ra k rc) k (flatAc l) ∧ Draws B b v n zs wr ∧ W1.grownBy wr (some b)) (fun _ i _ => K - (intOf i).toNat)
      case atStart => exact ⟨0, [], _, _, Nat.zero_le _, rfl, rfl, fun k hk => absurd hk (Nat.not_lt_zero _), rfl, HO0.out, HDV.out, HRV.out⟩
      case round =>
        obtain ⟨k, l, ra, rc, hk, rfl, hl, hrow, rfl, ho, hd, hr⟩ := hrel
        obtain ⟨W2, hW2⟩ : ∃ x, x = wr := ⟨_, rfl⟩
        subst hW2
        have HLk := Lib.hid hl
        have HROW := Lib.hid hrow
        have HO2 := Lib.hid ho
        have HD2 := Lib.hid hd
        have HR2 := Lib.hid hr
        have hbW : b < W1.heap.size := HD1.out.lt
        clear hl hrow ho hd hr
        by_cases hkl : k < K
        · go_wp2_with fail
          refine (l5Draw_draw (N : Int) HD2.out (by omega) (by omega)).mono ?_
          rintro e w3 ⟨x, rfl, hfit, hd, hg⟩
          obtain ⟨xk, xc, xm, xn⟩ := x
          simp only
          have HD3 := Lib.hid hd
          have HR3 := Lib.hid (grown_trans HR2.out hg)
          have HO3 := Lib.hid (owns_grown HO2.out hg hbW)
          have HFIT := Lib.hid (okA_fit (j := j) hfit)
          clear hd hg hfit
          go_upto_region 11 with (fail)
          obtain ⟨gx, hgx⟩ : ∃ g, g = w3.heap.size := ⟨_, rfl⟩
          obtain ⟨w4, hw4⟩ : ∃ x, x = w3.alloc (.cells #[.int .i64 xk, .int .i64 xc, .int .i64 xm, .int .i64 xn] 37) := ⟨_, rfl⟩
          have hg4 : w3.grownBy w4 none := by rw [hw4]; exact grown_alloc _ _ _
          have HX4 := Lib.hid (show w4.heap[gx]? = some (.cells #[.int .i64 xk, .int .i64 xc, .int .i64 xm, .int .i64 xn] 37 (0, 0)) by rw [hw4, hgx]; exact heap_alloc_new _ _)
          have HD4 := Lib.hid (show Draws B b v n zs w4 by rw [hw4]; exact HD3.out.alloc _)
          have HR4 := Lib.hid (grown_high HR3.out hg4 (fun q e => by cases e))
          have HO4 := Lib.hid (show w4.ownsRow W1.heap.size 37 4 (.slice ra k rc) k (flatAc l) by rw [hw4]; exact HO3.out.alloc _)
          have HGX := Lib.hid (show W1.heap.size ≤ gx by rw [hgx]; exact HR3.out.size)
          have HGXl := Lib.hid (show gx < w4.heap.size by rw [hw4, hgx]; simp)
          have HGXo := Lib.hid (show ∀ x ∈ ownFp (.slice ra k rc), x < gx from fun x hx => by have := ((OwF.mk' HO3.out).rng x hx).2; omega)
          rw [← hw4, ← hgx]
          clear hw4 hg4 hgx
          go_cut [35] (fun s wx => (∃ t : Bool, s = .bool t ∧ (j = 0 → t = false)) ∧ Draws B b v n zs wx ∧ w4.grownBy wx (some b))
          case first =>
            by_cases hj0 : j = 0
            · have hd0 : ¬ (0 : Int) < (j : Int) := by omega
              clear hj0
              go_wp2
              go_meet
              exact ⟨⟨false, rfl, fun _ => rfl⟩, HD4.out, grown_refl _ _⟩
            · have hd0 : (0 : Int) < (j : Int) := by omega
              go_wp2_with fail
              refine (l1Once_draw 3 HD4.out (by omega) (by omega)).mono ?_
              rintro e w5 ⟨t, rfl, hd, hg⟩
              have HD5 := Lib.hid hd
              have HR5 := Lib.hid hg
              clear hd hg
              go_wp2
              go_meet
              exact ⟨⟨t, rfl, fun h => absurd h hj0⟩, HD5.out, HR5.out⟩
          case rest =>
            obtain ⟨⟨t, rfl, ht0⟩, hd, hg⟩ := hcut
            obtain ⟨w5, hw5⟩ : ∃ x, x = wc := ⟨_, rfl⟩
            subst hw5
            have HD5 := Lib.hid hd
            have HR5 := Lib.hid (grown_trans HR4.out hg)
            have HO5 := Lib.hid (owns_grown HO4.out hg hbW)
            have HX5 := Lib.hid ((hg.block gx HGXl.out (by have := HGX.out; simp; omega)).trans HX4.out)
            have HS5 := Lib.hid (Nat.lt_of_lt_of_le HGXl.out hg.size)
            have HT0 := Lib.hid ht0
            clear hd hg ht0
            go_upto_if 35 with (fail)
            go_cut [] (fun wx => (∃ y : Ac, wx.heap[gx]? = some (.cells #[.int .i64 y.k, .int .i64 y.c, .int .i64 y.m, .int .i64 y.n] 37 (0, 0)) ∧ okA N j y = true) ∧ Draws B b v n zs wx ∧ W1.grownBy wx (some b) ∧ wx.ownsRow W1.heap.size 37 4 (.slice ra k rc) k (flatAc l))
            case first =>
              obtain ⟨y0, q0⟩ := cells_of_heap HX5.out 0 (by simp)
              obtain ⟨y1, q1⟩ := cells_of_heap HX5.out 1 (by simp)
              obtain ⟨y2, q2⟩ := cells_of_heap HX5.out 2 (by simp)
              obtain ⟨y3, q3⟩ := cells_of_heap HX5.out 3 (by simp)
              cases t
              · go_wp2
                go_meet
                exact ⟨⟨⟨xk, xc, xm, xn⟩, HX5.out, HFIT.out⟩, HD5.out, HR5.out, HO5.out⟩
              · have hj0 : j ≠ 0 := fun e => by have := HT0.out e; cases this
                go_wp2
                clear y0 q0 y1 q1 y2 q2 y3 q3
                obtain ⟨wf, hwf⟩ : ∃ wz, wz = putW w5 gx 0 [.int .i64 1, .int .i64 0, .int .i64 0, .int .i64 0] := ⟨_, rfl⟩
                have kf := putW_all [.int .i64 1, .int .i64 0, .int .i64 0, .int .i64 0] HX5.out rfl
                have hdf := HD5.out.putW (x := gx) (by have := HGX.out; omega) (by have := HGX.out; have := HBL.out; omega) [.int .i64 1, .int .i64 0, .int .i64 0, .int .i64 0] 0
                have hrf := grown_putW HGX.out [.int .i64 1, .int .i64 0, .int .i64 0, .int .i64 0] 0 HR5.out
                have hof := ((OwF.mk' HO5.out).turn (Turn.of_grown (putW_grown (b := gx) [.int .i64 1, .int .i64 0, .int .i64 0, .int .i64 0] 0 w5)) (fun x hx hm => by rw [List.mem_singleton] at hm; have := HGXo.out x hx; omega)).1
                rw [← hwf] at kf hdf hrf hof
                have cf := hwf.symm
                simp only [putW, Nat.reduceAdd] at cf
                rw [cf]
                clear cf hwf
                go_meet
                exact ⟨⟨⟨1, 0, 0, 0⟩, kf, okA_pass n1 hj0⟩, hdf, hrf, hof⟩
            case rest =>
              obtain ⟨⟨⟨ak, ac, am, an⟩, hx, hok⟩, hd, hr, ho⟩ := hcut
              obtain ⟨w6, hw6⟩ : ∃ x, x = wc := ⟨_, rfl⟩
              subst hw6
              obtain ⟨a0, -⟩ := cells_of_heap hx 0 (by simp)
              obtain ⟨a1, -⟩ := cells_of_heap hx 1 (by simp)
              obtain ⟨a2, -⟩ := cells_of_heap hx 2 (by simp)
              obtain ⟨a3, -⟩ := cells_of_heap hx 3 (by simp)
              simp only [List.getElem_toArray, List.getElem_cons_zero, List.getElem_cons_succ] at a0 a1 a2 a3
              have HD6 := Lib.hid hd
              have HR6 := Lib.hid hr
              have HO6 := Lib.hid ho
              have HOK6 := Lib.hid hok
              have hsz1 : W1.heap.size ≤ w6.heap.size + 1 := Nat.le_succ_of_le HR6.out.size
              have b63 : k + 1 ≤ maxLen := by unfold maxLen; omega
              have b47 : (k + 1) * 32 ≤ 140737488355328 := by omega
              clear hx hok hd hr ho
              go_wp2_with (at_builtin; refine wpList_append_owns rfl _ _ 54 rfl W1.heap.size 37 i0 (.agg #[.int .i64 0, .int .i64 0, .int .i64 0, .int .i64 0]) 4 32 Tryd.underlying54 hi hz0 hz1 hz2 rfl (by decide) _ _ _ rfl (HO6.out.alloc _) _ _ _ _ rfl (World.ownsRow_lit (e := 37) (size := 4) w6 #[.int .i64 ak, .int .i64 ac, .int .i64 am, .int .i64 an] 1 (Nat.le_refl _) (by simp [maxLen]) rfl) (by simp [Value.oneCell']) b63 b47 (by simp; exact hsz1) ?_)
              intro v7 w7 hown7 hgrow
              obtain ⟨ra7, rc7, rfl⟩ := owns_shape hown7
              have hq : ∀ q, (Value.slice ra k rc).ownBlock = some q → W1.heap.size ≤ q := fun q e => (HO6.out.lt q e).1
              have HR7 := Lib.hid (grown_high (grown_high HR6.out (grown_alloc w6 _ none) (fun q e => by cases e)) hgrow hq)
              have HD7 := Lib.hid ((HD6.out.alloc _).high hgrow hq hbW)
              have HO7 := Lib.hid (show w7.ownsRow W1.heap.size 37 4 (.slice ra7 (k + 1) rc7) (k + 1) (flatAc (l ++ [⟨ak, ac, am, an⟩])) by rw [flatAc_snoc]; exact hown7)
              have HRW7 := Lib.hid (HROW.out.snoc (a := ⟨ak, ac, am, an⟩) HOK6.out)
              clear hown7 hgrow hq b63 b47 hsz1 a0 a1 a2 a3
              go_wp2
              go_roundw
              case rel => exact ⟨k + 1, l ++ [⟨ak, ac, am, an⟩], ra7, rc7, by omega, by go_num, by rw [List.length_append, HLk.out]; rfl, HRW7.out, rfl, HO7.out, HD7.out, HR7.out⟩
              case measure => simp [intOf]; omega
        · obtain rfl : k = K := by omega
          have hgms : gm < W1.heap.size := (Array.getElem?_eq_some_iff.mp HGmW.out).1
          have hgm2 := (HR2.out.block gm hgms (by have := HGW.out; have := HLT.out; simp; omega)).trans HGmW.out
          obtain ⟨o1, p1⟩ := cells_of_heap hgm2 1 (by simp)
          have hbU : b < U.heap.size := by have := HSU.out; have := HGW.out; have := HLT.out; omega
          have HBU := Lib.hid hbU
          have hob2 := HOB.out.grown HR2.out hbU
          have HWU := Lib.hid HSZ.out
          have c63 : j + 1 ≤ maxLen := by unfold maxLen; omega
          have c47 : (j + 1) * 24 ≤ 140737488355328 := by omega
          have hsz1 : U.heap.size ≤ W2.heap.size + 1 := Nat.le_succ_of_le (Nat.le_trans HSZ.out HR2.out.size)
          have HGm2 := Lib.hid hgm2
          have HOB2 := Lib.hid hob2
          clear hgm2 hob2
          go_wp2_with (at_builtin; refine wpList_append_lies _ rfl _ _ 29 rfl U.heap.size 54 i1 (.slice none 0 0) 1 24 Tryd.underlying29 hI1 hy0 hy1 hy2 rfl (by decide) (.slice a j c) j us rfl (HOB2.out.own.alloc _) ⟨W2.heap.size, 0, none⟩ 1 1 [.slice ra k rc] rfl rfl (World.news_of_block (cs := #[.slice ra k rc]) (t := 54) (fr := (0, 0)) (heap_alloc_new W2 _)) (by simp [Value.oneCell']) (by decide) c63 c47 (by simp; exact hsz1) (W2.heap.size + 1) (by simp) ?_)
          intro g2 cap2 w4 hown2 hgrow2 hat2 hlt4
          have hq : ∀ q, (Value.slice a j c).ownBlock = some q → U.heap.size ≤ q := fun q e => (HOB2.out.own.lt q e).1
          have hgmU : gm < U.heap.size := by rw [HSU.out]; omega
          have hwU : w.heap.size < U.heap.size := by have := HGW.out; omega
          have hga : W2.grownBy (W2.alloc (.cells #[.slice ra k rc] 54)) none := grown_alloc _ _ _
          have hgms2 : gm < W2.heap.size := Nat.lt_of_lt_of_le hgms HR2.out.size
          have hws2 : w.heap.size < W2.heap.size := Nat.lt_trans HGW.out hgms2
          have keep : ∀ x, x < U.heap.size → x < W2.heap.size → w4.heap[x]? = W2.heap[x]? := fun x hx hx2 => (hgrow2.block x (Nat.lt_of_lt_of_le hx2 hga.size) (fun e => by have := hq x e.symm; omega)).trans (hga.block x hx2 (by simp))
          have hgm4 := (keep gm hgmU hgms2).trans HGm2.out
          have hg4 := (keep w.heap.size hwU hws2).trans ((HR2.out.block w.heap.size (Nat.lt_trans HGW.out hgms) (by have := HLT.out; simp; omega)).trans HG1.out)
          obtain ⟨o14, p14⟩ := cells_of_heap hgm4 1 (by simp)
          have hd4 := (HD2.out.alloc (.cells #[.slice ra k rc] 54)).high hgrow2 hq hbU
          have hr4 := grown_high (grown_high (grown_trans HR1.out HR2.out) hga (fun q e => by cases e)) hgrow2 (fun q e => by have := hq q e; omega)
          have hof : OwF (W2.alloc (.cells #[.slice ra k rc] 54)) U.heap.size 37 4 (.slice ra k rc) l.length (l.flatMap Ac.cells) (ownFp (.slice ra k rc)) := by
            rw [HLk.out]
            exact ⟨owns_base (HO2.out.alloc _) HWU.out, rfl⟩
          have hob3 := HOB2.out.below (w' := W2.alloc (.cells #[.slice ra k rc] 54)) ((Below.refl _ _).alloc (Nat.le_refl _) _)
          have hpush := OwB.push hob3 HLL.out.symm hof (fun x hx hx' => by have h1 := ((OwF.mk' HO2.out).rng x hx).1; have h2 := (HOB.out.rng x hx').2; omega) hown2 hgrow2 (by rcases hat2 with h1 | h1; exact .inl h1; exact .inr (by rw [h1]; simp))
          have hfin := hpush.turn (Turn.of_grown (grown_set w4 gm 1 (.slice (some ⟨g2, 0, none⟩) (j + 1) cap2))) (fun x hx hx' => by rw [List.mem_singleton] at hx'; have := (hpush.rng x hx).1; omega)
          have HGm5 := Lib.hid (heap_setCell_same w4 gm 1 _ _ (.slice (some ⟨g2, 0, none⟩) (j + 1) cap2) hgm4)
          have HF := Lib.hid hfin
          have HD5 := Lib.hid (hd4.setCell gm 1 (.slice (some ⟨g2, 0, none⟩) (j + 1) cap2) (by have := HGW.out; have := HLT.out; omega) (by have := HGW.out; have := HLT.out; have := HBL.out; omega))
          have HR5 := Lib.hid (grown_new hr4 gm 1 (.slice (some ⟨g2, 0, none⟩) (j + 1) cap2) (Nat.le_of_lt HGW.out))
          have HG5 := Lib.hid ((Below.heap_setCell w4 ⟨gm, 1, none⟩ (.slice (some ⟨g2, 0, none⟩) (j + 1) cap2) w.heap.size (fun e => by simp at e; have := HGW.out; omega)).trans hg4)
          have HRW := Lib.hid (HROWS.out.snoc HLk.out (by rw [HLL.out]; exact HROW.out))
          have HSZ5 := Lib.hid (show U.heap.size ≤ (w4.setCell ⟨gm, 1, none⟩ (.slice (some ⟨g2, 0, none⟩) (j + 1) cap2)).heap.size by have h1 := hgrow2.size; have h2 := hga.size; have h3 := HR2.out.size; have h4 := HSZ.out; simp at *; omega)
          clear hq hgmU hwU hga hgms2 hws2 keep hgm4 hg4 hd4 hr4 hof hob3 hpush hfin hown2 hgrow2 hat2 hlt4 o1 p1 c63 c47 hsz1
          go_wp2
          go_roundw
          case rel => exact ⟨j + 1, _, L ++ [l], _, some ⟨g2, 0, none⟩, cap2, by omega, by go_num, by rw [List.length_append, HLL.out]; rfl, HRW.out, by simpa using HGm5.out, HF.out, HD5.out, HR5.out, HG5.out, HSZ5.out⟩
          case measure => simp [intOf]; omega
    · obtain rfl : j = N := by omega
      have HOK := Lib.hid (okKm_of HROWS.out HLL.out n1 n4 k1 k32)
      have m0 := (cells_of_heap HGmW.out 0 (by simp)).1
      have m1 := (cells_of_heap HGmW.out 1 (by simp)).1
      obtain ⟨y0, q0⟩ := cells_of_heap HG1.out 0 (by simp)
      obtain ⟨y1, q1⟩ := cells_of_heap HG1.out 1 (by simp)
      go_wp2
      clear y0 q0 y1 q1 m0 m1
      have hwU : w.heap.size < U.heap.size := by have := HSU.out; have := HGW.out; omega
      obtain ⟨wf, hwf⟩ : ∃ wz, wz = putW W1 w.heap.size 0 [.int .i64 K, .slice a j c] := ⟨_, rfl⟩
      have kf := putW_all [.int .i64 K, .slice a j c] HG1.out rfl
      have hdf := HD1.out.putW (x := w.heap.size) (by have := HLT.out; omega) (by have := HLT.out; have := HBL.out; omega) [.int .i64 K, .slice a j c] 0
      have hrf := grown_putW (Nat.le_refl w.heap.size) [.int .i64 K, .slice a j c] 0 HR1.out
      have hof := (OwS.put (b := w.heap.size) [.int .i64 K, .slice a j c] 0 (OwB.done HOB.out HLL.out.symm) hwU).base (Nat.le_of_lt hwU)
      rw [← hwf] at kf hdf hrf hof
      have cf := hwf.symm
      simp only [putW, Nat.reduceAdd] at cf
      rw [cf]
      clear cf hwf
      have f0 := (cells_of_heap kf 0 (by simp)).1
      have f1 := (cells_of_heap kf 1 (by simp)).1
      simp only [List.getElem_toArray, List.getElem_cons_zero, List.getElem_cons_succ] at f0 f1
      exact bodyPost_ret (v := kmv K (.slice a j c)) (by simp [results, Tryd.results71, go_sem, f0, f1]) rfl ⟨L, a, c, _, by rw [HLL.out], HOK.out, by rw [HLL.out]; exact hof, hdf, hrf⟩
end Go.Proofs.YtleheibpgngmiaaDoor

namespace Go.Proofs.YtleheibpgngmiaaDoor
open Go.RowKit

theorem okKm_set {K : Nat} {L : List (List Ac)} {i q : Nat} {a : Ac} (h : okKm (K : Int) L = true) (hi : i < L.length) (hq : q < K) (ha : okA L.length i a = true) : okKm (K : Int) (setL L i q a) = true := by
  obtain ⟨⟨k1, k32⟩, ⟨l1, l4⟩, hall⟩ := okKm_at h
  have hlen : (setL L i q a).length = L.length := by simp [setL]
  have hlr : (lD L i).length = K := by have := (hall i hi).1; omega
  refine okKm_of (N := L.length) ?_ hlen l1 l4 (by omega) (by omega)
  intro j hj
  rw [hlen] at hj
  have hjr := hall j hj
  rw [setL, lD_set hi]
  by_cases e : j = i
  · subst e
    rw [if_pos rfl]
    refine ⟨by simp [hlr], fun k hk => ?_⟩
    have hk' : k < K := by simpa [hlr] using hk
    unfold acD
    rw [List.getD_eq_getElem?_getD, List.getElem?_set]
    by_cases e2 : q = k
    · subst e2
      rw [if_pos rfl, if_pos (by omega)]; exact ha
    · rw [if_neg e2, ← List.getD_eq_getElem?_getD]
      exact hjr.2 k (by omega)
  · rw [if_neg e]
    exact ⟨by omega, fun k hk => hjr.2 k hk⟩
theorem okA_way {N i : Nat} {k n : Int} (hk : k = 4 ∨ k = 5 ∨ k = 3) (hn : 1 ≤ n ∧ n ≤ 3) (hN : n < N) : okA N i ⟨k, 0, 0, n⟩ = true := by
  unfold okA okAc inB
  rcases hk with rfl | rfl | rfl <;> simp <;> omega

theorem grown_cell {wx wy : World} {b : Nat} (x o : Nat) (hg : wx.grownBy wy (some b)) (hx : x < wx.heap.size) (hne : x ≠ b) : wy.cell? ⟨x, o, none⟩ = wx.cell? ⟨x, o, none⟩ := World.cell?_of_block (hg.block x hx (by simpa using hne))
/-- The places of an action in a row. -/
theorem row_places {w : World} {B : Nat} {T1 T2 : TypeId} {v : Value} {n : Nat} {us : List Value} {L : List (List Ac)} {fps : List (List Nat)} {i q R cR : Nat} (h : OwB Ac.cells w B T1 T2 4 v n us L fps) (hi : i < L.length) (hq : q < (lD L i).length) (hR : uD us i = .slice (some ⟨R, 0, none⟩) (lD L i).length cR) :
    (∃ y, w.cell? ⟨R, q * 4, none⟩ = some y) ∧ (∃ y, w.cell? ⟨R, q * 4 + 1, none⟩ = some y) ∧ (∃ y, w.cell? ⟨R, q * 4 + 2, none⟩ = some y) ∧ (∃ y, w.cell? ⟨R, q * 4 + 3, none⟩ = some y) ∧ w.frozen? ⟨R, q * 4, none⟩ = false ∧ w.frozen? ⟨R, q * 4 + 1, none⟩ = false ∧ w.frozen? ⟨R, q * 4 + 2, none⟩ = false ∧ w.frozen? ⟨R, q * 4 + 3, none⟩ = false := by
  have hrow := (h.row i hi).1
  rw [hR] at hrow
  have hfl : (flatAc (lD L i)).length = (lD L i).length * 4 := flatAc_len _
  have hc : ∀ o, o < (flatAc (lD L i)).length → ∃ y, w.cell? ⟨R, o, none⟩ = some y := fun o ho => ⟨(flatAc (lD L i))[o], by rw [hrow.cellAt o (by rw [flatAc_len] at ho; exact ho)]; exact List.getElem?_eq_getElem ho⟩
  exact ⟨hc _ (by omega), hc _ (by omega), hc _ (by omega), hc _ (by omega), hrow.frozenAt _, hrow.frozenAt _, hrow.frozenAt _, hrow.frozenAt _⟩

set_option maxHeartbeats 8000000 in
set_option maxRecDepth 100000 in
theorem l18Draw_draw {B b n : Nat} {v : Value} {zs : List Int} {w : World} (K : Nat) (h : Draws B b v n zs w) (k1 : 1 ≤ K) (k32 : K ≤ 32) :
    Calls Tryd.prog 46 #[.pointer (some ⟨b, 0, none⟩), .int .i64 K] w (KmDrawn B b v n zs K w) := by
  have HLT := Lib.hid h.lt
  have HBL := Lib.hid h.low
  obtain ⟨V, hV⟩ : ∃ V, V = w.alloc (.cells #[.int .i64 0, .slice none 0 0] 31) := ⟨_, rfl⟩
  have HG0 := Lib.hid (show V.heap[w.heap.size]? = some (.cells #[.int .i64 0, .slice none 0 0] 31 (0, 0)) by rw [hV]; exact heap_alloc_new w _)
  have HS0 := Lib.hid (show w.heap.size < V.heap.size by rw [hV]; simp)
  have HD0 := Lib.hid (show Draws B b v n zs V by rw [hV]; exact h.alloc _)
  have HR0 := Lib.hid (show w.grownBy V (some b) by rw [hV]; exact grown_alloc _ _ _)
  have HV2 := Lib.hid hV
  clear hV h
  go_enter Tryd.func46, Tryd.ntmps46
  have hVs : w.heap.size < V.heap.size := HS0.out
  go_wp2_with fail
  rw [← HV2.out]
  refine (l6Draw_draw K HD0.out k1 k32).mono ?_
  rintro e w1 ⟨L, a, cap, fp, rfl, hok, hos, hd, hg⟩
  have HD1 := Lib.hid hd
  have HR1 := Lib.hid (grown_trans HR0.out hg)
  have HG1 := Lib.hid ((hg.block _ HS0.out (by have := HLT.out; simp; omega)).trans HG0.out)
  have HS1 := Lib.hid (Nat.lt_of_lt_of_le HS0.out hg.size)
  clear hd hg
  have HVS := Lib.hid hVs
  clear hVs
  obtain ⟨N, hN⟩ : ∃ N, N = L.length := ⟨_, rfl⟩
  have hlim := okKm_at hok
  have n1 : 1 ≤ N := by omega
  have n4 : N ≤ 4 := by omega
  rw [← hN] at hos ⊢
  have HOK1 := Lib.hid hok
  have HOS1 := Lib.hid hos
  have HN1 := Lib.hid hN
  clear hok hos hN hlim
  go_upto_region 2 with (fail)
  obtain ⟨gm, hgm⟩ : ∃ g, g = w1.heap.size := ⟨_, rfl⟩
  obtain ⟨U, hU⟩ : ∃ U, U = w1.alloc (.cells #[.int .i64 K, .slice a N cap] 31) := ⟨_, rfl⟩
  have hgU : w1.grownBy U none := by rw [hU]; exact grown_alloc _ _ _
  have HGm := Lib.hid (show U.heap[gm]? = some (.cells #[.int .i64 K, .slice a N cap] 31 (0, 0)) by rw [hU, hgm]; exact heap_alloc_new _ _)
  have HDU := Lib.hid (show Draws B b v n zs U by rw [hU]; exact HD1.out.alloc _)
  have HRU := Lib.hid (grown_high HR1.out hgU (fun q e => by cases e))
  have HGU := Lib.hid ((hgU.block _ HS1.out (by simp)).trans HG1.out)
  have HGW := Lib.hid (show w.heap.size < gm by rw [hgm]; exact HS1.out)
  have HOSU := Lib.hid (HOS1.out.below (w' := U) (by rw [hU]; exact (Below.refl _ _).alloc (Nat.le_refl _) _))
  have HFG := Lib.hid (show ∀ x ∈ fp, V.heap.size ≤ x ∧ x < gm from fun x hx => by have := HOS1.out.rng x hx; rw [hgm]; exact this)
  rw [← hU, ← hgm]
  clear hU hgU hgm
  go_wp2_with fail
  refine (l1Below_draw 6 HDU.out (by omega) (by omega)).mono ?_
  rintro e w2 ⟨x, rfl, x0, x1, hd, hg⟩
  obtain ⟨X, rfl⟩ := Int.eq_ofNat_of_zero_le x0
  have hgms : gm < U.heap.size := (Array.getElem?_eq_some_iff.mp HGm.out).1
  have HD2 := Lib.hid hd
  have HR2 := Lib.hid (grown_trans HRU.out hg)
  have HGm2 := Lib.hid ((hg.block gm hgms (by have := HGW.out; have := HLT.out; simp; omega)).trans HGm.out)
  have HG2 := Lib.hid ((hg.block w.heap.size (Nat.lt_trans HGW.out hgms) (by have := HLT.out; simp; omega)).trans HGU.out)
  have HOS2 := Lib.hid (HOSU.out.turn (Turn.of_grown hg) (fun x hx hm => by rw [List.mem_singleton] at hm; have := (HFG.out x hx).1; have := HVS.out; have := HLT.out; omega))
  have hX5 : X ≤ 5 := by omega
  clear hd hg hgms x0 x1
  go_wp2
  go_loopw [6] (fun i wr => ∃ (j : Nat) (L : List (List Ac)), j ≤ 5 ∧ i = .int .i64 j ∧ L.length = N ∧ okKm (K : Int) L = true ∧ wr.heap[gm]? = some (.cells #[.int .i64 K, .slice a N cap] 31 (0, 0)) ∧ LoS wr V.heap.size (.slice a N cap) L fp ∧ Draws B b v n zs wr ∧ w.grownBy wr (some b) ∧ wr.heap[w.heap.size]? = some (.cells #[.int .i64 0, .slice none 0 0] 31 (0, 0))) (fun i _ => (intOf i).toNat)
  case atStart => exact ⟨X, L, hX5, rfl, HN1.out.symm, HOK1.out, HGm2.out, HOS2.out, HD2.out, HR2.out, HG2.out⟩
  case round =>
    obtain ⟨j, L, hj5, rfl, hL, hok, hgm, hos, hd, hr, hg0⟩ := hrel
    obtain ⟨W1, hW1⟩ : ∃ x, x = wr := ⟨_, rfl⟩
    subst hW1
    have HLL := Lib.hid hL
    have HOK := Lib.hid hok
    have HGmW := Lib.hid hgm
    have HOS := Lib.hid hos
    have HDW := Lib.hid hd
    have HRW := Lib.hid hr
    have HGW1 := Lib.hid hg0
    clear hL hok hgm hos hd hr hg0
    have bV : b < V.heap.size := Nat.lt_trans HLT.out HVS.out
    by_cases hlt : 0 < j
    · have m1 := (cells_of_heap HGmW.out 1 (by simp)).1
      have hgms : gm < W1.heap.size := (Array.getElem?_eq_some_iff.mp HGmW.out).1
      have hgb : gm ≠ b := by have := HGW.out; have := HLT.out; omega
      have hwb : w.heap.size ≠ b := by have := HLT.out; omega
      go_wp2_with fail
      refine (l1Below_draw (N : Int) HDW.out (by omega) (by omega)).mono ?_
      rintro e w3 ⟨i, rfl, i0, i1, hd, hg⟩
      obtain ⟨i, rfl⟩ := Int.eq_ofNat_of_zero_le i0
      have HD3 := Lib.hid hd
      have HR3 := Lib.hid (grown_trans HRW.out hg)
      have HGm3 := Lib.hid ((hg.block gm hgms (by simpa using hgb)).trans HGmW.out)
      have HG3 := Lib.hid ((hg.block w.heap.size (Nat.lt_trans HGW.out hgms) (by simpa using hwb)).trans HGW1.out)
      have HOS3 := Lib.hid (HOS.out.turn (Turn.of_grown hg) (fun x hx hm => by rw [List.mem_singleton] at hm; have := (HFG.out x hx).1; omega))
      have hgms3 := Nat.lt_of_lt_of_le hgms hg.size
      clear hd hg m1 hgms i0
      go_wp2_with fail
      refine (l1Below_draw (K : Int) HD3.out (by omega) (by omega)).mono ?_
      rintro e w4 ⟨q, rfl, q0, q1, hd, hg⟩
      obtain ⟨q, rfl⟩ := Int.eq_ofNat_of_zero_le q0
      have HD4 := Lib.hid hd
      have HR4 := Lib.hid (grown_trans HR3.out hg)
      have HGm4 := Lib.hid ((hg.block gm hgms3 (by simpa using hgb)).trans HGm3.out)
      have HG4 := Lib.hid ((hg.block w.heap.size (Nat.lt_trans HGW.out hgms3) (by simpa using hwb)).trans HG3.out)
      have HOS4 := Lib.hid (HOS3.out.turn (Turn.of_grown hg) (fun x hx hm => by rw [List.mem_singleton] at hm; have := (HFG.out x hx).1; omega))
      have hgms4 := Nat.lt_of_lt_of_le hgms3 hg.size
      clear hd hg hgms3 q0
      have m1 := (cells_of_heap HGm4.out 1 (by simp)).1
      simp only [List.getElem_toArray, List.getElem_cons_zero, List.getElem_cons_succ] at m1
      by_cases hN1 : 1 < N
      · have hN1' : (1 : Int) < (N : Int) := by omega
        obtain ⟨us, fps, hob, hfp⟩ := HOS4.out
        rw [HLL.out] at hob
        obtain ⟨G, cG, hGv, hGB, hGlt⟩ := hob.own.form (by omega)
        obtain ⟨rfl, rfl⟩ := by simpa using hGv
        have hiN : i < N := by omega
        have hqK : q < K := by omega
        have hlenN : (lD L i).length = K := by have := ((okKm_at HOK.out).2.2 i (by rw [HLL.out]; exact hiN)).1; omega
        have hrow := hob.row i (by rw [HLL.out]; exact hiN)
        obtain ⟨R, cR, hRv, hRB, hRlt⟩ := hrow.1.form (by rw [hlenN]; omega)
        have husl : us.length = N := by have := hob.own.1; omega
        have gi : w4.cell? ⟨G, i, none⟩ = some (.slice (some ⟨R, 0, none⟩) K cR) := by
          rw [hob.own.cellAt i (by omega), List.getElem?_eq_getElem (by rw [husl]; omega), ← hlenN, ← hRv, uD, List.getD_eq_getElem?_getD, List.getElem?_eq_getElem (by rw [husl]; omega)]
          rfl
        have hGlt' : G < w4.heap.size := hGlt
        have HOB := Lib.hid hob
        have HFPE := Lib.hid hfp
        have HRV := Lib.hid hRv
        have HRB := Lib.hid hRB
        have HRL := Lib.hid hRlt
        have HLen := Lib.hid hlenN
        have HIN := Lib.hid hiN
        have HQK := Lib.hid hqK
        have hGb : G ≠ b := by omega
        clear hob hfp hGv hrow hRv hlenN husl hGlt
        have hRfp : R ∈ fps.flatten := mem_fD (j := i) (by rw [(HOB.out.row i (by rw [HLL.out]; exact hiN)).2, HRV.out]; simp [ownFp, Value.ownBlock])
        have hGR : G ≠ R := fun e => (List.nodup_append.1 HOB.out.nd).2.2 G (by simp [ownFp, Value.ownBlock]) R hRfp e
        have hRG : R ≠ G := fun e => hGR e.symm
        have hRg : R ≠ gm := by have := (HFG.out R (by rw [HFPE.out]; exact List.mem_append_right _ hRfp)).2; omega
        have hgR : gm ≠ R := fun e => hRg e.symm
        clear hRfp
        have hiL : i < L.length := by rw [HLL.out]; exact hiN
        have hgl : gm < w4.heap.size := hgms4
        have hwN : IntKind.i64.wrap ((N : Int) - 1) = (N : Int) - 1 := IntWalk.i64_in _ ⟨by omega, by omega⟩
        obtain ⟨Wa, hWa⟩ : ∃ x, x = (w4.alloc (.cells #[.int .i64 4, .int .i64 5, .int .i64 3] 3)).drew := ⟨_, rfl⟩
        have hKa : Wa.heap[w4.heap.size]? = some (.cells #[.int .i64 4, .int .i64 5, .int .i64 3] 3 (0, 0)) := by rw [hWa]; exact heap_alloc_new w4 _
        have HCa := Lib.hid (show ∀ z, z < ([4, 5, 3] : List Int).length → Wa.cell? ⟨w4.heap.size, z, none⟩ = some (.int .i64 (([4, 5, 3] : List Int).getD z 0)) from fun z hz => by
          simp only [List.length_cons, List.length_nil] at hz
          have : z = 0 ∨ z = 1 ∨ z = 2 := by omega
          rcases this with rfl | rfl | rfl <;> exact (cells_of_heap hKa _ (by simp)).1)
        have hga : w4.grownBy Wa (some b) := by rw [hWa]; exact grown_trans (grown_alloc w4 _ (some b)) (grown_drewN _ 1 _)
        have HDa := Lib.hid (show Draws B b v n zs Wa by rw [hWa]; exact (HD4.out.alloc _).below (Below.refl _ _).drew)
        have HGa := Lib.hid hga
        have HNb := Lib.hid (show w4.heap.size ≠ b by have := HD4.out.lt; omega)
        have HWa := Lib.hid hWa
        clear hWa hKa hga
        go_wp2_with fail
        go_region_held3 (fun w' => w'.cell? ⟨gm, 1, none⟩ = some (.slice (some ⟨G, 0, none⟩) N cap) ∧ w'.cell? ⟨G, i, none⟩ = some (.slice (some ⟨R, 0, none⟩) K cR)) (first | go_keep | simp [go_sem, *])
          (first
            | (go_at_call 72; rw [← HWa.out]; refine (l1PickInt_draw w4.heap.size [4, 5, 3] HDa.out (by simp) (by simp) HNb.out HCa.out).mono ?_; rintro e w5 ⟨s, rfl, hs, hd5, hg5⟩; have hr5 := grown_trans HGa.out hg5; have k1 := (grown_cell gm 1 hr5 hgl hgb).trans m1; have k2 := (grown_cell G i hr5 hGlt' hGb).trans gi; have HD5 := Lib.hid hd5; have HR5 := Lib.hid hr5; have HS5 := Lib.hid hs; clear hd5 hg5 hr5 hs)
            | (go_at_call 42; refine (l1Below_draw ((N : Int) - 1) HD5.out (by omega) (by omega)).mono ?_; rintro e w6 ⟨y, rfl, y0, y1, hd6, hg6⟩; have hr6 := grown_trans HR5.out hg6; have l1 := (grown_cell gm 1 hr6 hgl hgb).trans m1; have l2 := (grown_cell G i hr6 hGlt' hGb).trans gi; have hwy : IntKind.i64.wrap (1 + y) = 1 + y := IntWalk.i64_in _ ⟨by omega, by omega⟩; have HD6 := Lib.hid hd6; have HR6 := Lib.hid hr6; obtain ⟨⟨x0, s0⟩, ⟨x1, s1⟩, ⟨x2, s2⟩, ⟨x3, s3⟩, z0, z1, z2, z3⟩ := row_places (HOB.out.grown hr6 bV) hiL (q := q) (by rw [HLen.out]; exact HQK.out) HRV.out; clear hd6 hg6 hr6))
        all_goals
          obtain ⟨W4, e4⟩ : ∃ x, x = putW w6 R (q * 4) [.int .i64 s, .int .i64 0, .int .i64 0, .int .i64 (1 + y)] := ⟨_, rfl⟩
          have c4 := e4.symm
          simp only [putW, Nat.add_assoc, Nat.reduceAdd] at c4
          rw [c4]
          clear c4 s0 s1 s2 s3 z0 z1 z2 z3 k1 k2 l1 l2 gi m1
          have hob6 := HOB.out.grown HR6.out bV
          have hlq : q < (lD L i).length := by rw [HLen.out]; exact HQK.out
          have hrow6 := (hob6.row i hiL).1
          rw [HRV.out] at hrow6
          have hfl : (flatAc (lD L i)).length = (lD L i).length * 4 := flatAc_len _
          have hput := owns_put hrow6 (q * 4) [.int .i64 s, .int .i64 0, .int .i64 0, .int .i64 (1 + y)] (by show q * 4 + 4 ≤ (flatAc (lD L i)).length; omega)
          have hset := flatAc_set (lD L i) q ⟨s, 0, 0, 1 + y⟩ hlq
          have hsl : ((lD L i).set q ⟨s, 0, 0, 1 + y⟩).length = (lD L i).length := by simp
          have hRfp : fD fps i = [R] := by rw [(HOB.out.row i hiL).2, HRV.out]; simp [ownFp, Value.ownBlock]
          have hof : OwF (putW w6 R (q * 4) [.int .i64 s, .int .i64 0, .int .i64 0, .int .i64 (1 + y)]) V.heap.size 37 4 (uD us i) ((lD L i).set q ⟨s, 0, 0, 1 + y⟩).length (((lD L i).set q ⟨s, 0, 0, 1 + y⟩).flatMap Ac.cells) (fD fps i) := by
            rw [hsl, hRfp, HRV.out]
            refine ⟨?_, by simp [ownFp, Value.ownBlock]⟩
            show World.ownsRow _ _ _ _ _ _ (flatAc ((lD L i).set q ⟨s, 0, 0, 1 + y⟩))
            rw [hset]; exact hput
          have htn : Turn w6 (putW w6 R (q * 4) [.int .i64 s, .int .i64 0, .int .i64 0, .int .i64 (1 + y)]) (fD fps i) := by rw [hRfp]; exact Turn.of_grown (putW_grown _ _ _)
          have hnew := OwS.turned hob6 hiL hof htn
          have hsn : (setL L i q ⟨s, 0, 0, 1 + y⟩).length = N := by simp [setL, HLL.out]
          have hos : LoS W4 V.heap.size (.slice (some ⟨G, 0, none⟩) N cap) (setL L i q ⟨s, 0, 0, 1 + y⟩) fp := by
            rw [HFPE.out, e4]
            exact OwB.done hnew hsn.symm
          have hok : okKm (K : Int) (setL L i q ⟨s, 0, 0, 1 + y⟩) = true := okKm_set HOK.out hiL HQK.out (okA_way (by have := HS5.out; simpa using this) ⟨by omega, by omega⟩ (by rw [HLL.out]; omega))
          have hRb : R ≠ b := by have := HRB.out; omega
          have hgm4 : W4.heap[gm]? = some (.cells #[.int .i64 K, .slice (some ⟨G, 0, none⟩) N cap] 31 (0, 0)) := by rw [e4]; exact (putW_other hgR _ _ _).trans ((HR6.out.block gm hgl (by simpa using hgb)).trans HGm4.out)
          have hg4 : W4.heap[w.heap.size]? = some (.cells #[.int .i64 0, .slice none 0 0] 31 (0, 0)) := by rw [e4]; exact (putW_other (by have := HRB.out; have := HVS.out; omega) _ _ _).trans ((HR6.out.block w.heap.size (Nat.lt_trans HGW.out hgl) (by simpa using hwb)).trans HG4.out)
          have hd4 : Draws B b v n zs W4 := by rw [e4]; exact HD6.out.putW hRb (by have := HRB.out; have := HBL.out; omega) _ _
          have hr4 : w.grownBy W4 (some b) := by rw [e4]; exact grown_putW (by have := HRB.out; have := HVS.out; omega) _ _ (grown_trans HR4.out HR6.out)
          have HF1 := Lib.hid hos
          have HF2 := Lib.hid hok
          have HF3 := Lib.hid hgm4
          have HF4 := Lib.hid hg4
          have HF5 := Lib.hid hd4
          have HF6 := Lib.hid hr4
          have HF7 := Lib.hid hsn
          clear hob6 hlq hrow6 hfl hput hset hsl hRfp hof htn hnew hsn hos hok hRb hgm4 hg4 hd4 hr4 e4
          go_wp2
          go_roundw
          case rel => exact ⟨j - 1, _, by omega, by rw [show ((j - 1 : Nat) : Int) = (j : Int) - 1 by omega], HF7.out, HF2.out, HF3.out, HF1.out, HF5.out, HF6.out, HF4.out⟩
          case measure => simp [intOf]; omega
      · have hN1' : ¬ (1 : Int) < (N : Int) := by omega
        go_wp2
        go_roundw
        case rel => exact ⟨j - 1, L, by omega, by rw [show ((j - 1 : Nat) : Int) = (j : Int) - 1 by omega], HLL.out, HOK.out, HGm4.out, HOS4.out, HD4.out, HR4.out, HG4.out⟩
        case measure => simp [intOf]; omega
    · obtain rfl : j = 0 := by omega
      have m0 := (cells_of_heap HGmW.out 0 (by simp)).1
      have m1 := (cells_of_heap HGmW.out 1 (by simp)).1
      obtain ⟨y0, q0⟩ := cells_of_heap HGW1.out 0 (by simp)
      obtain ⟨y1, q1⟩ := cells_of_heap HGW1.out 1 (by simp)
      go_wp2
      clear y0 q0 y1 q1 m0 m1
      obtain ⟨wf, hwf⟩ : ∃ wz, wz = putW W1 w.heap.size 0 [.int .i64 K, .slice a N cap] := ⟨_, rfl⟩
      have kf := putW_all [.int .i64 K, .slice a N cap] HGW1.out rfl
      have hdf := HDW.out.putW (x := w.heap.size) (by have := HLT.out; omega) (by have := HLT.out; have := HBL.out; omega) [.int .i64 K, .slice a N cap] 0
      have hrf := grown_putW (Nat.le_refl w.heap.size) [.int .i64 K, .slice a N cap] 0 HRW.out
      have hof := (OwS.put (b := w.heap.size) [.int .i64 K, .slice a N cap] 0 HOS.out HVS.out).base (Nat.le_of_lt HVS.out)
      rw [← hwf] at kf hdf hrf hof
      have cf := hwf.symm
      simp only [putW, Nat.reduceAdd] at cf
      rw [cf]
      clear cf hwf
      have f0 := (cells_of_heap kf 0 (by simp)).1
      have f1 := (cells_of_heap kf 1 (by simp)).1
      simp only [List.getElem_toArray, List.getElem_cons_zero, List.getElem_cons_succ] at f0 f1
      exact bodyPost_ret (v := kmv K (.slice a N cap)) (by simp [results, Tryd.results46, go_sem, f0, f1]) rfl ⟨L, a, cap, fp, by rw [HLL.out], HOK.out, by rw [HLL.out]; exact hof, hdf, hrf⟩
end Go.Proofs.YtleheibpgngmiaaDoor

namespace Go.Proofs.YtleheibpgngmiaaDoor
open Go.RowKit

/-- A valid keymap of K keys, in memory of its own. -/
def KmMade (K : Nat) (w : World) (e : Ending) (w' : World) : Prop :=
  ∃ L a cap fp, e = .returned (kmv K (.slice a L.length cap)) ∧ okKm (K : Int) L = true ∧ LoS w' w.heap.size (.slice a L.length cap) L fp ∧ Below w.heap.size w w'
set_option maxHeartbeats 2000000 in
theorem MakeKeymap_draw (v : Value) (zs : List Int) (k : Int) (K : Nat) (w : World) (hl : zs.length ≤ 1099511627776) (hz : ∀ z ∈ zs, 0 ≤ z ∧ z < 256) (h : Rd w v (zs.map (.int .u8))) (k1 : 1 ≤ K) (k32 : K ≤ 32) :
    Calls Tryd.prog 13 #[v, .int .i64 k, .int .i64 K] w (KmMade K w) := by
  have HZ := Lib.hid hz
  have HL := Lib.hid hl
  have HR := Lib.hid h
  clear hz hl h
  obtain ⟨V, hV⟩ : ∃ V, V = w.alloc (.cells #[.int .i64 0, .slice none 0 0] 31) := ⟨_, rfl⟩
  have HG0 := Lib.hid (show V.heap[w.heap.size]? = some (.cells #[.int .i64 0, .slice none 0 0] 31 (0, 0)) by rw [hV]; exact heap_alloc_new w _)
  have HB0 := Lib.hid (show Below w.heap.size w V by rw [hV]; exact (Below.refl _ _).alloc (Nat.le_refl _) _)
  have HS0 := Lib.hid (show w.heap.size < V.heap.size by rw [hV]; simp)
  have HV2 := Lib.hid hV
  clear hV
  go_enter Tryd.func13, Tryd.ntmps13
  go_wp2_with fail
  rw [← HV2.out]
  refine (l24New_draw v zs k _ HL.out HZ.out (HR.out.below HB0.out)).mono ?_
  rintro e w1 ⟨rfl, hd, hb, hlt⟩
  have HD := Lib.hid hd
  have HB1 := Lib.hid (HB0.out.trans (hb.mono HB0.out.size))
  have HG1 := Lib.hid ((hb.block _ HS0.out).trans HG0.out)
  have HS1 := Lib.hid (Nat.lt_of_lt_of_le HS0.out hb.size)
  have HVl := Lib.hid hb.size
  clear hd hb hlt
  go_wp2_with fail
  refine (l18Draw_draw K HD.out k1 k32).mono ?_
  rintro e w2 ⟨L, a, cap, fp, rfl, hok, hos, hd, hg⟩
  have hb := low_of_grown (B := V.heap.size) hg (Nat.le_refl _) HVl.out
  have HB2 := Lib.hid (HB1.out.trans (hb.mono HB0.out.size))
  have HG2 := Lib.hid ((hb.block _ HS0.out).trans HG1.out)
  have HOS := Lib.hid hos
  have HOK := Lib.hid hok
  obtain ⟨N, hN⟩ : ∃ N, N = L.length := ⟨_, rfl⟩
  rw [← hN]
  have HN := Lib.hid hN
  clear hd hg hb hos hok hN
  obtain ⟨y0, q0⟩ := cells_of_heap HG2.out 0 (by simp)
  obtain ⟨y1, q1⟩ := cells_of_heap HG2.out 1 (by simp)
  go_wp2
  clear y0 q0 y1 q1
  obtain ⟨wf, hwf⟩ : ∃ wz, wz = putW w2 w.heap.size 0 [.int .i64 K, .slice a N cap] := ⟨_, rfl⟩
  have kf := putW_all [.int .i64 K, .slice a N cap] HG2.out rfl
  have hbf := putW_below (b := w.heap.size) (Nat.le_refl _) [.int .i64 K, .slice a N cap] 0 _ HB2.out
  have hof := (OwS.put (b := w.heap.size) [.int .i64 K, .slice a N cap] 0 HOS.out HS1.out).base (Nat.le_of_lt HS1.out)
  rw [← hwf] at kf hbf hof
  have cf := hwf.symm
  simp only [putW, Nat.reduceAdd] at cf
  rw [cf]
  clear cf hwf
  have f0 := (cells_of_heap kf 0 (by simp)).1
  have f1 := (cells_of_heap kf 1 (by simp)).1
  simp only [List.getElem_toArray, List.getElem_cons_zero, List.getElem_cons_succ] at f0 f1
  refine bodyPost_ret (v := kmv K (.slice a N cap)) (by simp [results, Tryd.results13, go_sem, f0, f1]) rfl ⟨L, a, cap, fp, by rw [HN.out], HOK.out, ?_, hbf⟩
  exact hof

theorem laD_props {L : List (List Ac)} {on : Int} {key : Nat} : ∀ (m I : Nat), laD L on key m = I → (I ≠ 0 → bitOn on I = true ∧ (acD (lD L I) key).k ≠ 1) ∧ ∀ p, I < p → p ≤ m → bitOn on p = true → (acD (lD L p) key).k = 1
  | 0, I, h => by
    have h0 : I = 0 := h.symm
    exact ⟨fun h2 => absurd h0 h2, fun p hp hm => by omega⟩
  | m + 1, I, h => by
    rw [laD] at h
    split at h
    · rename_i hc
      subst h
      simp only [Bool.and_eq_true, Bool.not_eq_true', decide_eq_false_iff_not] at hc
      exact ⟨fun _ => hc, fun p hp hm => by omega⟩
    · rename_i hc
      obtain ⟨h1, h2⟩ := laD_props m I h
      refine ⟨h1, fun p hp hm hb => ?_⟩
      rcases Nat.lt_or_ge p (m + 1) with h3 | h3
      · exact h2 p hp (by omega) hb
      · obtain rfl : p = m + 1 := by omega
        simp only [Bool.and_eq_true, Bool.not_eq_true', decide_eq_false_iff_not, not_and, Decidable.not_not] at hc
        exact hc hb

end Go.Proofs.YtleheibpgngmiaaDoor
