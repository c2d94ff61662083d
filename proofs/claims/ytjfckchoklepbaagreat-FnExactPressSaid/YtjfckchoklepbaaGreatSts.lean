/- DERIVED. Slices of macros as data; the laws' own functions on them: the size, a copy, two that are alike, marks. (Written by rewriting the ones on layers.) -/
import Derived.Test.YtjfckchoklepbaaGreatKm
import Derived.Test.YtjfckchoklepbaaGreatSt
namespace Go.Proofs.YtjfckchoklepbaaGreat
open Go.RowKit

abbrev LdT (w : World) (v : Value) (L : List (List St)) : Prop := RdS St.cells w v L
abbrev LoT (w : World) (B : Nat) (v : Value) (L : List (List St)) (fp : List Nat) : Prop := OwS St.cells w B 78 182 3 v L fp
abbrev LoBT (w : World) (B : Nat) (v : Value) (n : Nat) (us : List Value) (L : List (List St)) (fps : List (List Nat)) : Prop := OwB St.cells w B 78 182 3 v n us L fps
def lenT (L : List (List St)) : Nat → Nat
  | 0 => 0
  | j + 1 => lenT L j + (lD L j).length
theorem info_sts : (Tryz.prog.info? 78).map (fun i => (i.zero, i.size, i.bytes)) = some (some (.slice none 0 0), 1, 24) := by kernel_rfl
theorem lT_le {L : List (List St)} {m : Nat} (h : ∀ l ∈ L, l.length ≤ m) (j : Nat) : (lD L j).length ≤ m := by
  unfold lD
  rw [List.getD_eq_getElem?_getD]
  rcases hc : L[j]? with _ | p
  · exact Nat.zero_le _
  · exact h p (List.mem_of_getElem? hc)

set_option maxHeartbeats 1000000 in
theorem toStepSS_any (v : Value) (L : List (List St)) (w : World) (hl : L.length ≤ 1048576) (hr : ∀ l ∈ L, l.length ≤ 1048576) (h : LdT w v L) :
    Calls Tryz.prog 130 #[v] w fun e w' => ∃ u fp, e = .returned u ∧ LoT w' w.heap.size u L fp ∧ Below w.heap.size w w' := by
  obtain ⟨i0, hi, hz0, hz1, hz2⟩ := info_parts info_sts
  rcases RdS.cases h with ⟨rfl, a, cap, rfl⟩ | ⟨b, off, cap, us, hpos, rfl, hlt, hc⟩
  · clear h
    go_enter Tryz.func130, Tryz.ntmps130
    go_wp2_with (at_make; refine wpList_make_full w rfl _ _ 27 rfl w.heap.size 78 i0 (.slice none 0 0) 1 Tryz.underlying27 hi hz0 hz1 .i64 .i64 0 0 0 rfl rfl rfl rfl (by simp) ?_ ?_ ?_)
    · simp [maxLen]
    · exact Nat.le_refl _
    · intro w1 hown hg
      go_wp2
      refine wp_loop_rounds 1 ?_
      rw [rounds_succ]
      go_wp2
      go_ret
      exact ⟨_, _, rfl, (OwB.start (f := St.cells) (c := 3) (by simpa [madeCells] using hown)).done rfl, (Below.refl _ _).grown hg (Nat.le_refl _) (fun k hk => by cases hk)⟩
  · have HC := Lib.hid hc
    have HR := Lib.hid (fun j => lT_le hr j)
    clear h hc hr
    go_enter Tryz.func130, Tryz.ntmps130
    go_wp2_with (at_make; refine wpList_make_full w rfl _ _ 27 rfl w.heap.size 78 i0 (.slice none 0 0) 1 Tryz.underlying27 hi hz0 hz1 .i64 .i64 _ _ L.length rfl rfl rfl rfl (by rw [hz2]; omega) ?_ ?_ ?_)
    · simp [maxLen]; omega
    · exact Nat.le_refl _
    · intro w1 hown hg
      go_wp2
      go_loopw [4] (fun i wr => ∃ (k : Nat) (xs : List Value) (fps : List (List Nat)), k ≤ L.length ∧ i = .int .i64 k ∧ LoBT wr w.heap.size (.slice (some ⟨w.heap.size, 0, none⟩) L.length L.length) L.length xs (L.take k) fps ∧ Below w.heap.size w wr)
        (fun i _ => L.length - (intOf i).toNat)
      case atStart => exact ⟨0, _, [], Nat.zero_le _, rfl, by rw [List.take_zero]; exact OwB.start hown, (Below.refl _ _).grown hg (Nat.le_refl _) (fun k hk => by cases hk)⟩
      case round =>
        obtain ⟨k, xs, fps, hk, rfl, hown', hb⟩ := hrel
        by_cases hlt' : k < L.length
        · obtain ⟨c0, hrow⟩ := HC.out k hlt'
          obtain ⟨ua, uc, hu⟩ := RdN.shape hrow
          rw [hu] at c0 hrow
          have hrow' := hrow.below (show Below w.heap.size w wr from hb)
          have r0 := (hb.cell (p := ⟨b, off + k, none⟩) hlt).trans c0
          have HW := Lib.hid hrow'
          have HO := Lib.hid hown'
          have HB := Lib.hid hb
          clear c0 hown' hb hown hg hrow hrow' hu
          go_wp2_with fail
          refine (toStepS_any _ (lD L k) _ (HR.out k) HW.out).mono ?_
          rintro e w2 ⟨u, rfl, hnew, hb2⟩
          obtain ⟨xa, xc, xfp, rfl, hof⟩ := OwF.shape hnew
          have ho2 := HO.out.below hb2
          have hxl : xs.length = L.length := by have := ho2.own.1; omega
          obtain ⟨y0, s0⟩ : ∃ y, w2.cell? ⟨w.heap.size, k, none⟩ = some y := ⟨xs[k]'(by omega), by rw [ho2.own.cellAt k (by omega), List.getElem?_eq_getElem (show k < xs.length by omega)]⟩
          have z0 := ho2.own.frozenAt k
          have htl : (L.take k).length = k := by rw [List.length_take]; omega
          have hset := OwB.set (S := wr.heap.size) ho2 (by rw [htl]; exact hlt') (owF_base hof (Nat.le_trans HB.out.size (Nat.le_refl _))) (fun b hb => (hof.rng b hb).1) (fun b hb => (HO.out.rng b hb).2)
          rw [htl, ← lD_take L k hlt'] at hset
          have HO2 := Lib.hid hset
          have HB2 := Lib.hid (HB.out.trans (hb2.mono HB.out.size))
          clear hb2 ho2 hset hnew hof hxl htl
          go_wp2
          go_roundw
          case rel => exact ⟨k + 1, _, _, by omega, by go_num, HO2.out, HB2.out.setCell (Nat.le_refl _) _⟩
          case measure => simp [intOf]; omega
        · obtain rfl : k = L.length := by omega
          rw [List.take_of_length_le (Nat.le_refl _)] at hown'
          have HO := Lib.hid hown'
          clear hown' hown hg
          go_wp2
          go_ret
          exact ⟨_, _, rfl, HO.out.done rfl, hb⟩

set_option maxHeartbeats 1000000 in
theorem eqStepSS_same (va vb : Value) (L : List (List St)) (w : World) (hl : L.length ≤ 1000000000000) (hr : ∀ l ∈ L, l.length ≤ 1000000000000) (ha : LdT w va L) (hb : LdT w vb L) :
    Calls Tryz.prog 133 #[va, vb] w fun e w' => e = .returned (.bool true) ∧ Below w.heap.size w w' := by
  rcases RdS.cases ha with ⟨rfl, a, cap, rfl⟩ | ⟨b, off, cap, us, hpos, rfl, hlt, hc⟩
  · rcases RdS.cases hb with ⟨_, a2, cap2, rfl⟩ | ⟨_, _, _, _, hn, _⟩
    · clear ha hb
      go_enter Tryz.func133, Tryz.ntmps133
      go_wp2
      refine wp_loop_rounds 1 ?_
      rw [rounds_succ]
      go_wp2
      go_ret
      exact ⟨rfl, Below.refl _ _⟩
    · exact absurd hn (Nat.lt_irrefl _)
  · rcases RdS.cases hb with ⟨hn, _⟩ | ⟨b2, off2, cap2, us2, _, rfl, hlt2, hc2⟩
    · exfalso; rw [hn] at hpos; simp at hpos
    · have HC := Lib.hid hc
      have HC2 := Lib.hid hc2
      have HR := Lib.hid (fun j => lT_le hr j)
      clear ha hb hc hc2 hr
      go_enter Tryz.func133, Tryz.ntmps133
      go_wp2
      go_loopw [5] (fun i wr => ∃ k : Nat, k ≤ L.length ∧ i = .int .i64 k ∧ Below w.heap.size w wr) (fun i _ => L.length - (intOf i).toNat)
      case atStart => exact ⟨0, Nat.zero_le _, rfl, Below.refl _ _⟩
      case round =>
        obtain ⟨k, hk, rfl, hb⟩ := hrel
        by_cases hlt' : k < L.length
        · obtain ⟨c0, hrow⟩ := HC.out k hlt'
          obtain ⟨d0, hrow2⟩ := HC2.out k hlt'
          obtain ⟨ua, uc, hu⟩ := RdN.shape hrow
          obtain ⟨ub, ud, hu2⟩ := RdN.shape hrow2
          rw [hu] at c0 hrow
          rw [hu2] at d0 hrow2
          have HW1 := Lib.hid (hrow.below hb)
          have HW2 := Lib.hid (hrow2.below hb)
          have r0 := (hb.cell (p := ⟨b, off + k, none⟩) hlt).trans c0
          have t0 := (hb.cell (p := ⟨b2, off2 + k, none⟩) hlt2).trans d0
          have hbl : b < wr.heap.size := Nat.lt_of_lt_of_le hlt hb.size
          have hbl2 : b2 < wr.heap.size := Nat.lt_of_lt_of_le hlt2 hb.size
          have HB := Lib.hid hb
          clear c0 d0 hb hrow hrow2 hu hu2
          go_upto_region 6 with (fail)
          go_cut [26] (fun sd wx => sd = .bool false ∧ Below wr.heap.size wr wx)
          case first =>
            go_region_held3 (fun w' => w'.cell? ⟨b, off + k, none⟩ = some (.slice ua (lD L k).length uc) ∧ w'.cell? ⟨b2, off2 + k, none⟩ = some (.slice ub (lD L k).length ud)) (first | go_keep)
              (first | (go_at_call 199; refine (eqStepS_same _ _ (lD L k) _ (HR.out k) (by first | exact HW1.out | exact HW1.out.below (Below.refl _ _).drew | exact HW1.out.below (Below.refl _ _).drew.drew) (by first | exact HW2.out | exact HW2.out.below (Below.refl _ _).drew | exact HW2.out.below (Below.refl _ _).drew.drew)).mono ?_; rintro e v1 ⟨rfl, hb1⟩; have hbr : Below wr.heap.size wr v1 := (by first | exact hb1 | exact ((Below.refl _ _).drew).trans hb1 | exact ((Below.refl _ _).drew.drew).trans hb1); have kr0 := (hbr.cell (p := ⟨b, off + k, none⟩) hbl).trans r0; have kt0 := (hbr.cell (p := ⟨b2, off2 + k, none⟩) hbl2).trans t0; have HBR := Lib.hid hbr; clear hbr hb1))
            all_goals
              go_wp2
              go_meet
              exact ⟨rfl, by first | exact HBR.out | exact HBR.out.drew⟩
          case rest =>
            obtain ⟨rfl, hb⟩ := hcut
            have HB2 := Lib.hid (HB.out.trans (hb.mono HB.out.size))
            clear hb r0 t0
            go_wp2
            go_roundw
            case rel => exact ⟨k + 1, by omega, by go_num, HB2.out⟩
            case measure => simp [intOf]; omega
        · obtain rfl : k = L.length := by omega
          go_wp2
          go_ret
          exact ⟨rfl, hb⟩

/-- Layers whose first j rows hold marks, counted from q on. -/
def mkT (q : Int) (L : List (List St)) (j : Nat) : List (List St) := (List.range L.length).map fun i => if i < j then marksSt (q + ((lenT L i * 3 : Nat) : Int)) (lD L i).length else lD L i
def mkTS (q : Int) (L : List (List St)) : List (List St) := mkT q L L.length
theorem mkT_len (q : Int) (L : List (List St)) (j : Nat) : (mkT q L j).length = L.length := by simp [mkT]
theorem mkT_D (q : Int) (L : List (List St)) (j i : Nat) (h : i < L.length) : lD (mkT q L j) i = if i < j then marksSt (q + ((lenT L i * 3 : Nat) : Int)) (lD L i).length else lD L i := by
  unfold lD mkT
  rw [List.getD_eq_getElem?_getD, List.getElem?_map, List.getElem?_range h]
  rfl
theorem mkT_zero (q : Int) (L : List (List St)) : mkT q L 0 = L := by
  apply List.ext_getElem (mkT_len _ _ _)
  intro i h1 h2
  simp [mkT, lD, List.getD_eq_getElem?_getD, List.getElem?_eq_getElem h2]
theorem mkT_succ (q : Int) (L : List (List St)) (j : Nat) : (mkT q L j).set j (marksSt (q + ((lenT L j * 3 : Nat) : Int)) (lD L j).length) = mkT q L (j + 1) := by
  apply List.ext_getElem (by simp [mkT])
  intro i h1 h2
  rw [List.getElem_set]
  simp only [mkT, List.getElem_map, List.getElem_range]
  by_cases e : j = i
  · subst e; rw [if_pos rfl, if_pos (by omega)]
  · rw [if_neg e]
    by_cases hi : i < j
    · rw [if_pos hi, if_pos (by omega)]
    · rw [if_neg hi, if_neg (by omega)]
theorem lenT_mono (L : List (List St)) {i j : Nat} (h : i ≤ j) : lenT L i ≤ lenT L j := by
  induction j with
  | zero => obtain rfl : i = 0 := by omega
            exact Nat.le_refl _
  | succ j ih =>
    rcases Nat.lt_or_ge j i with h1 | h1
    · obtain rfl : i = j + 1 := by omega
      exact Nat.le_refl _
    · exact Nat.le_trans (ih h1) (Nat.le_add_right _ _)

set_option maxHeartbeats 1000000 in
theorem markStepSS_own (B : Nat) (v : Value) (L : List (List St)) (fp : List Nat) (q : Int) (w : World) (hn : L.length ≤ 1048576) (ht : lenT L L.length ≤ 1048576) (hk : 0 ≤ q) (hk' : q ≤ 1000000000) (h : LoT w B v L fp) :
    Calls Tryz.prog 137 #[v, .int .i64 q] w fun e w' => e = .returned (.int .i64 (q + ((lenT L L.length * 3 : Nat) : Int))) ∧ LoT w' B v (mkTS q L) fp ∧ Turn w w' fp := by
  obtain ⟨us, fps, h, rfl⟩ := h
  rcases h.own.2 with ⟨rfl, hn0⟩ | ⟨g, cap, cur, rfl, hg, hh, hnc, hcm, hcs, hta⟩
  · have hL : L = [] := List.eq_nil_of_length_eq_zero hn0
    subst hL
    have H := Lib.hid h
    clear h ht
    go_enter Tryz.func137, Tryz.ntmps137
    go_wp2
    refine wp_loop_rounds 1 ?_
    rw [rounds_succ]
    go_wp2
    go_ret
    exact ⟨ret_int (by simp [lenT]), H.out.done rfl, Turn.refl _ _⟩
  · have HH := Lib.hid h
    have HT := Lib.hid ht
    clear h hh hnc hcm hcs hta ht
    go_enter Tryz.func137, Tryz.ntmps137
    go_wp2
    go_loopw [1, 5] (fun p i wr => ∃ (j : Nat), j ≤ L.length ∧ i = .int .i64 j ∧ p = .int .i64 (q + ((lenT L j * 3 : Nat) : Int)) ∧ LoBT wr B (.slice (some ⟨g, 0, none⟩) L.length cap) L.length us (mkT q L j) fps ∧ Turn w wr (ownFp (.slice (some ⟨g, 0, none⟩) L.length cap) ++ fps.flatten))
      (fun _ i _ => L.length - (intOf i).toNat)
    case atStart => exact ⟨0, Nat.zero_le _, rfl, by simp [lenT], by rw [mkT_zero]; exact HH.out, Turn.refl _ _⟩
    case round =>
      obtain ⟨j, hj, rfl, rfl, hown, hb⟩ := hrel
      by_cases hlt : j < L.length
      · have hus : us.length = L.length := by have := hown.own.1; omega
        have hrow := hown.row j (by rw [mkT_len]; exact hlt)
        rw [mkT_D q L j j hlt, if_neg (Nat.lt_irrefl _)] at hrow
        obtain ⟨ua, uc, hu⟩ := owns_shape hrow.1
        have s0 : wr.cell? ⟨g, j, none⟩ = some (uD us j) := by
          rw [hown.own.cellAt j (by omega), uD, List.getD_eq_getElem?_getD, List.getElem?_eq_getElem (by omega)]; rfl
        obtain ⟨p, hp⟩ : ∃ p : Int, p = q + ((lenT L j * 3 : Nat) : Int) := ⟨_, rfl⟩
        rw [← hp]
        have hm := lenT_mono L (Nat.le_of_lt hlt)
        have hm2 := lenT_mono L (show j + 1 ≤ L.length from hlt)
        have hT := HT.out
        have hl1 : (lD L j).length ≤ 1048576 := by have : lenT L (j + 1) = lenT L j + (lD L j).length := rfl; omega
        have hp0 : 0 ≤ p := by omega
        have hp1 : p ≤ 1099511627776 := by omega
        have HO := Lib.hid hown
        have HB := Lib.hid hb
        have HP := Lib.hid hp
        have HRow := Lib.hid hrow
        have HU := Lib.hid hu
        rw [hu] at s0
        clear hown hb hp hrow hu hm hm2 hT
        go_wp2_with fail
        refine (markStepS_any B _ (lD L j).length _ p _ hl1 hp0 hp1 (by rw [← HU.out]; exact HRow.out.1)).mono ?_
        rintro e w2 ⟨rfl, ho2, hg2⟩
        rw [← HU.out] at ho2 hg2
        obtain ⟨hof, htn⟩ := HRow.out.marked ho2 hg2
        have hml : (marksSt p (lD L j).length).length = (lD L j).length := marksSt_len _ _
        have hnew := OwS.turned HO.out (j := j) (l := marksSt p (lD L j).length) (by rw [mkT_len]; exact hlt) (by rw [hml]; exact hof) htn
        rw [HP.out, mkT_succ q L j] at hnew
        have HN := Lib.hid hnew
        have HTn := Lib.hid (HB.out.trans (htn.mono fun x hx => List.mem_append_right _ (mem_fD hx)))
        clear ho2 hg2 hof htn hml hnew s0
        have hpe : p + (((lD L j).length * 3 : Nat) : Int) = q + ((lenT L (j + 1) * 3 : Nat) : Int) := by
          have : lenT L (j + 1) = lenT L j + (lD L j).length := rfl
          have := HP.out
          omega
        rw [hpe]
        clear hpe
        go_wp2
        go_roundw
        case rel => exact ⟨j + 1, by omega, by go_num, rfl, HN.out, HTn.out⟩
        case measure => simp [intOf]; omega
      · obtain rfl : j = L.length := by omega
        have HO := Lib.hid hown
        clear hown
        go_wp2
        go_ret
        exact ⟨rfl, HO.out.done (mkT_len _ _ _).symm, hb⟩

set_option maxHeartbeats 1000000 in
theorem heldStepSS_any (v : Value) (L : List (List St)) (q : Int) (w : World) (hn : L.length ≤ 1048576) (ht : lenT L L.length ≤ 1048576) (hk : 0 ≤ q) (hk' : q ≤ 1000000000) (h : LdT w v (mkTS q L)) :
    Calls Tryz.prog 140 #[v, .int .i64 q] w fun e w' => e = .returned (.int .i64 (q + ((lenT L L.length * 3 : Nat) : Int))) ∧ w = w' := by
  have hl : (mkTS q L).length = L.length := mkT_len _ _ _
  rcases RdS.cases h with ⟨hnil, a, cap, rfl⟩ | ⟨b, off, cap, us, hpos, rfl, hlt, hc⟩
  · have hL : L = [] := List.eq_nil_of_length_eq_zero (by rw [← hl, hnil]; rfl)
    subst hL
    clear h hnil hl ht
    go_enter Tryz.func140, Tryz.ntmps140
    go_wp2
    refine wp_loop_rounds 1 ?_
    rw [rounds_succ]
    go_wp2
    go_ret
    exact ⟨ret_int (by simp [lenT]), rfl⟩
  · rw [hl] at hc ⊢
    have HC := Lib.hid hc
    have HT := Lib.hid ht
    clear h hl hpos hc ht
    go_enter Tryz.func140, Tryz.ntmps140
    go_wp2
    go_loop [1, 5] (fun p i => ∃ (j : Nat), j ≤ L.length ∧ i = .int .i64 j ∧ p = .int .i64 (q + ((lenT L j * 3 : Nat) : Int))) (fun _ i => L.length - (intOf i).toNat)
    case atStart => exact ⟨0, Nat.zero_le _, rfl, by simp [lenT]⟩
    case round =>
      obtain ⟨j, hj, rfl, rfl⟩ := hrel
      by_cases hlt' : j < L.length
      · obtain ⟨r0, hrow⟩ := HC.out j hlt'
        rw [mkTS, mkT_D q L _ j hlt', if_pos hlt'] at hrow
        obtain ⟨p, hp⟩ : ∃ p : Int, p = q + ((lenT L j * 3 : Nat) : Int) := ⟨_, rfl⟩
        rw [← hp] at hrow ⊢
        rw [marksSt_len] at hrow
        obtain ⟨ua, uc, hu⟩ := RdN.shape hrow
        rw [hu] at r0 hrow
        have hm := lenT_mono L (Nat.le_of_lt hlt')
        have hm2 := lenT_mono L (show j + 1 ≤ L.length from hlt')
        have hT := HT.out
        have hl1 : (lD L j).length ≤ 1048576 := by have : lenT L (j + 1) = lenT L j + (lD L j).length := rfl; omega
        have hp0 : 0 ≤ p := by omega
        have hp1 : p ≤ 1099511627776 := by omega
        have hpe : p + (((lD L j).length * 3 : Nat) : Int) = q + ((lenT L (j + 1) * 3 : Nat) : Int) := by
          have : lenT L (j + 1) = lenT L j + (lD L j).length := rfl
          omega
        have hge : ¬ p + (((lD L j).length * 3 : Nat) : Int) < 0 := by omega
        have HRow := Lib.hid hrow
        have HPE := Lib.hid hpe
        obtain ⟨p2, hp2⟩ : ∃ p2 : Int, p2 = p + (((lD L j).length * 3 : Nat) : Int) := ⟨_, rfl⟩
        rw [← hp2] at hge
        have HP2 := Lib.hid hp2
        clear hp hrow hu hm hm2 hT hpe hp2
        go_wp2_with fail
        refine (heldStepS_any _ (lD L j).length p _ hl1 hp0 hp1 HRow.out).mono ?_
        rw [← HP2.out]
        rintro e w2 ⟨rfl, rfl⟩
        go_wp2
        go_round
        case rel => exact ⟨j + 1, by omega, by go_num, by rw [HP2.out, HPE.out]⟩
        case measure => simp [intOf]; omega
      · obtain rfl : j = L.length := by omega
        go_wp2
        go_ret
        exact ⟨rfl, rfl⟩

set_option maxHeartbeats 1000000 in
theorem szStepSS_any (X : Nat) (hX : X ≤ 1048576) (v : Value) (L : List (List St)) (w : World) (hn : L.length ≤ maxLen) (hm : ∀ l ∈ L, l.length ≤ maxLen) (h : LdT w v L) :
    Calls Tryz.prog 127 #[v, .int .i64 (X : Nat)] w fun e w' => e = .returned (.int .i64 (if L.length + lenT L L.length ≤ X then (X : Int) - ((L.length + lenT L L.length : Nat) : Int) else -1)) ∧ w = w' := by
  obtain ⟨r, hr⟩ : ∃ r, r = (if L.length + lenT L L.length ≤ X then (X : Int) - ((L.length + lenT L L.length : Nat) : Int) else -1) := ⟨_, rfl⟩
  rw [← hr]
  have HR := Lib.hid hr
  clear hr
  rcases RdS.cases h with ⟨rfl, a, cap, rfl⟩ | ⟨b, off, cap, us, hpos, rfl, hlt, hc⟩
  · clear h hn hm
    go_enter Tryz.func127, Tryz.ntmps127
    go_wp2
    refine wp_loop_rounds 1 ?_
    rw [rounds_succ]
    go_wp2
    go_ret
    exact ⟨ret_int (by rw [HR.out]; rfl), rfl⟩
  · have HC := Lib.hid hc
    have HM := Lib.hid (fun j => lT_le hm j)
    have HN := Lib.hid hn
    unfold maxLen at hn
    clear h hc hm
    by_cases hbig : L.length ≤ X
    · have hl0 : ¬ (X : Int) - (L.length : Int) < 0 := by omega
      clear hn
      go_enter Tryz.func127, Tryz.ntmps127
      go_wp2
      go_loop [1, 5] (fun p i => ∃ (j : Nat), j ≤ L.length ∧ i = .int .i64 j ∧ L.length + lenT L j ≤ X ∧ p = .int .i64 ((X : Int) - ((L.length + lenT L j : Nat) : Int))) (fun _ i => L.length - (intOf i).toNat)
      case atStart => exact ⟨0, Nat.zero_le _, rfl, hbig, by simp [lenT]⟩
      case round =>
        obtain ⟨j, hj, rfl, hs, rfl⟩ := hrel
        obtain ⟨p, hp⟩ : ∃ p : Int, p = (X : Int) - ((L.length + lenT L j : Nat) : Int) := ⟨_, rfl⟩
        rw [← hp]
        by_cases hlt' : j < L.length
        · obtain ⟨r0, hrow⟩ := HC.out j hlt'
          obtain ⟨ua, uc, hu⟩ := RdN.shape hrow
          rw [hu] at r0
          have hm2 := lenT_mono L (show j + 1 ≤ L.length from hlt')
          have hp0 : 0 ≤ p := by omega
          have hp1 : p ≤ 1099511627776 := by omega
          have hs1 : lenT L (j + 1) = lenT L j + (lD L j).length := rfl
          by_cases hfit : p < ((lD L j).length : Int)
          · have hrr : r = -1 := by rw [HR.out, if_neg (by omega)]
            subst hrr
            have HF := Lib.hid hfit
            have HP0 := Lib.hid hp0
            have HP1 := Lib.hid hp1
            clear hrow hu hm2 hs hs1 hfit hp hp0 hp1 hl0 hbig
            go_wp2_with fail
            refine (szStepS_any ua (lD L j).length uc p _ HP0.out HP1.out (HM.out j)).mono ?_
            rw [if_pos HF.out]
            rintro e w2 ⟨rfl, rfl⟩
            go_wp2
            go_ret
            exact ⟨rfl, rfl⟩
          · obtain ⟨p2, hp2⟩ : ∃ p2 : Int, p2 = p - ((lD L j).length : Int) := ⟨_, rfl⟩
            have hge : ¬ p2 < 0 := by omega
            have hpe : p2 = (X : Int) - ((L.length + lenT L (j + 1) : Nat) : Int) := by omega
            have HF := Lib.hid hfit
            have HP0 := Lib.hid hp0
            have HP1 := Lib.hid hp1
            have HP2 := Lib.hid hp2
            have HPE := Lib.hid hpe
            have HS := Lib.hid (show L.length + lenT L (j + 1) ≤ X by omega)
            clear hrow hu hm2 hs hs1 hfit hp hp0 hp1 hp2 hpe hl0
            go_wp2_with fail
            refine (szStepS_any ua (lD L j).length uc p _ HP0.out HP1.out (HM.out j)).mono ?_
            rw [if_neg (by have := HF.out; omega), ← HP2.out]
            rintro e w2 ⟨rfl, rfl⟩
            go_wp2
            go_round
            case rel => exact ⟨j + 1, by omega, by go_num, HS.out, by rw [HPE.out]⟩
            case measure => simp [intOf]; omega
        · obtain rfl : j = L.length := by omega
          have HRR := Lib.hid (show r = p by rw [HR.out, if_pos hs, hp])
          clear hs hp hl0 hbig
          go_wp2
          go_ret
          exact ⟨ret_int HRR.out.symm, rfl⟩
    · have hrr : r = -1 := by rw [HR.out, if_neg (by omega)]
      subst hrr
      have hl0 : (X : Int) - (L.length : Int) < 0 := by omega
      clear hbig
      go_enter Tryz.func127, Tryz.ntmps127
      go_wp2
      go_ret
      exact ⟨rfl, rfl⟩

end Go.Proofs.YtjfckchoklepbaaGreat
