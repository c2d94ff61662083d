/- DERIVED. Combos as data; the laws' own functions on them and on slices of them: the size, a copy, two that are alike, marks. -/
import Derived.Test.YtagmdkblcgnddaaCore
import Derived.Test.YtagmdkblcgnddaaInts
import Derived.WalkSmall
import Derived.Deep.RegionHeld3
import Derived.Deep.DeepCutAuto
namespace Go.Proofs.Ytagmdkblcgnddaa
open Go.RowKit

/-- One Combo. -/
structure Cb where
  k : Int
  o : Int
abbrev Cb.cells (e : Cb) : List Value := [.int .i64 e.k, .int .i64 e.o]
abbrev cbv (k : Int) (o : Int) : Value := .agg #[.int .i64 k, .int .i64 o]
def flatCb (l : List Cb) : List Value := l.flatMap Cb.cells
theorem flatCb_len (l : List Cb) : (flatCb l).length = l.length * 2 := by
  induction l with
  | nil => rfl
  | cons e l ih => simp [flatCb] at ih ⊢; omega
theorem flatCb_snoc (l : List Cb) (e : Cb) : flatCb (l ++ [e]) = flatCb l ++ e.cells := by simp [flatCb]
theorem flatCb_one (l : List Cb) : ∀ u ∈ flatCb l, u.oneCell' = true := by
  intro u hu
  simp only [flatCb, List.mem_flatMap] at hu
  obtain ⟨e, _, hu⟩ := hu
  simp at hu
  rcases hu with rfl | rfl <;> rfl
def cbD (l : List Cb) (j : Nat) : Cb := l.getD j ⟨0, 0⟩
theorem cbD_take (l : List Cb) (j : Nat) (h : j < l.length) : l.take (j + 1) = l.take j ++ [cbD l j] := by
  rw [List.take_succ_eq_append_getElem h, cbD]; simp [List.getElem?_eq_getElem h]
theorem flatCb_get (l : List Cb) (j f : Nat) (hj : j < l.length) (hf : f < 2) : (flatCb l)[j * 2 + f]? = (cbD l j).cells[f]? := by
  induction l generalizing j with
  | nil => simp at hj
  | cons e l ih =>
    have hc : flatCb (e :: l) = e.cells ++ flatCb l := by simp [flatCb]
    rw [hc]
    cases j with
    | zero => rw [List.getElem?_append_left (by simp; omega)]; simp [cbD]
    | succ j =>
      rw [List.getElem?_append_right (by simp; omega)]
      rw [show (j + 1) * 2 + f - e.cells.length = j * 2 + f by simp; omega, ih j (by simpa using hj)]
      simp [cbD]
/-- What a walk knows of a slice of these. -/
theorem rd_cbs {w : World} {v : Value} {l : List Cb} (h : RdN w v l.length (flatCb l)) :
    (l = [] ∧ ∃ a cap, v = .slice a 0 cap) ∨ ∃ b off cap, 0 < l.length ∧ v = .slice (some ⟨b, off, none⟩) l.length cap ∧ b < w.heap.size ∧
      ∀ j, j < l.length → w.cell? ⟨b, off + j * 2, none⟩ = some (.int .i64 (cbD l j).k) ∧ w.cell? ⟨b, off + j * 2 + 1, none⟩ = some (.int .i64 (cbD l j).o) := by
  rcases h.cases with ⟨hx, a, cap, rfl⟩ | ⟨hx, b, off, cap, rfl, hlt, hc⟩
  · exact .inl ⟨List.eq_nil_of_length_eq_zero hx, a, cap, rfl⟩
  · refine .inr ⟨b, off, cap, hx, rfl, hlt, fun j hj => ?_⟩
    have key : ∀ f, f < 2 → w.cell? ⟨b, off + j * 2 + f, none⟩ = (cbD l j).cells[f]? := fun f hf => by
      have hl : j * 2 + f < (flatCb l).length := by rw [flatCb_len]; omega
      rw [Nat.add_assoc, hc _ hl, ← List.getElem?_eq_getElem hl, flatCb_get l j f hj hf]
    exact ⟨by simpa using key 0 (by omega), by simpa using key 1 (by omega)⟩
theorem info_cb : (Try.prog.info? 94).map (fun i => (i.zero, i.size, i.bytes)) = some (some (.agg #[.int .i64 0, .int .i64 0]), 2, 16) := by kernel_rfl

theorem toCombo_any (k : Int) (o : Int) (w : World) : Calls Try.prog 98 #[cbv k o] w fun e w' => e = .returned (cbv k o) ∧ Below w.heap.size w w' := by
  go_enter Try.func98, Try.ntmps98
  go_wp2
  refine bodyPost_ret (v := cbv k o) (by simp [results, Try.results98, go_sem]) rfl ⟨rfl, ?_⟩
  exact (((Below.refl _ _).alloc (Nat.le_refl _) _).alloc (by simp) _).alloc (by simp; omega) _

theorem eqCombo_same (k : Int) (o : Int) (w : World) : Calls Try.prog 102 #[cbv k o, cbv k o] w fun e w' => e = .returned (.bool true) ∧ Below w.heap.size w w' := by
  go_enter Try.func102, Try.ntmps102
  go_wp2
  go_ret
  exact ⟨rfl, ((Below.refl _ _).alloc (Nat.le_refl _) _).alloc (by simp) _⟩

set_option maxHeartbeats 1000000 in
theorem toComboS_any (v : Value) (l : List Cb) (w : World) (hl : l.length ≤ 1048576) (h : RdN w v l.length (flatCb l)) :
    Calls Try.prog 41 #[v] w fun e w' => ∃ u, e = .returned u ∧ w'.ownsRow w.heap.size 94 2 u l.length (flatCb l) ∧ Below w.heap.size w w' := by
  obtain ⟨i0, hi, hz0, hz1, hz2⟩ := info_parts info_cb
  rcases rd_cbs h with ⟨rfl, a, cap, rfl⟩ | ⟨b, off, cap, hpos, rfl, hlt, hc⟩
  · clear h
    go_enter Try.func41, Try.ntmps41
    go_wp2_with (at_make; refine wpList_make_full w rfl _ _ 24 rfl w.heap.size 94 i0 (.agg #[.int .i64 0, .int .i64 0]) 2 Try.underlying24 hi hz0 hz1 .i64 .i64 0 0 0 rfl rfl rfl rfl (by simp) ?_ ?_ ?_)
    · simp [maxLen]
    · exact Nat.le_refl _
    · intro w1 hown hg
      go_wp2
      refine wp_loop_rounds 1 ?_
      rw [rounds_succ]
      go_wp2
      go_ret
      exact ⟨_, rfl, by simpa [madeCells, flatCb] using hown, (Below.refl _ _).grown hg (Nat.le_refl _) (fun k hk => by cases hk)⟩
  · have HC := Lib.hid hc
    clear h hc
    go_enter Try.func41, Try.ntmps41
    go_wp2_with (at_make; refine wpList_make_full w rfl _ _ 24 rfl w.heap.size 94 i0 (.agg #[.int .i64 0, .int .i64 0]) 2 Try.underlying24 hi hz0 hz1 .i64 .i64 _ _ l.length rfl rfl rfl rfl (by rw [hz2]; omega) ?_ ?_ ?_)
    · simp [maxLen]; omega
    · exact Nat.le_refl _
    · intro w1 hown hg
      go_wp2
      go_loopw [4] (fun i wr => ∃ (k : Nat) (xs : List Value), k ≤ l.length ∧ i = .int .i64 k ∧ wr.ownsRow w.heap.size 94 2 (.slice (some ⟨w.heap.size, 0, none⟩) l.length l.length) l.length xs ∧ xs.take (k * 2) = flatCb (l.take k) ∧ Below w.heap.size w wr)
        (fun i _ => l.length - (intOf i).toNat)
      case atStart => exact ⟨0, _, Nat.zero_le _, rfl, hown, by simp [flatCb], (Below.refl _ _).grown hg (Nat.le_refl _) (fun k hk => by cases hk)⟩
      case round =>
        obtain ⟨k, xs, hk, rfl, hown', hxs, hb⟩ := hrel
        have hlx : xs.length = l.length * 2 := hown'.1
        by_cases hlt' : k < l.length
        · obtain ⟨c0, c1⟩ := HC.out k hlt'
          obtain ⟨e, he⟩ : ∃ e, e = cbD l k := ⟨_, rfl⟩
          rw [← he] at c0 c1
          have r0 := (hb.cell (p := ⟨b, off + k * 2, none⟩) hlt).trans c0
          have r1 := (hb.cell (p := ⟨b, off + k * 2 + 1, none⟩) hlt).trans c1
          have HO := Lib.hid hown'
          have HX := Lib.hid hxs
          have HB := Lib.hid hb
          have HLX := Lib.hid hlx
          have HE := Lib.hid he
          clear c0 c1 hown' hxs hb hlx he hown hg
          obtain ⟨x0, x1⟩ := e
          simp only at r0 r1
          go_wp2_with fail
          refine (toCombo_any x0 x1 _).mono ?_
          rintro e w2 ⟨rfl, hb2⟩
          have ho2 := owns_below HO.out hb2
          obtain ⟨y0, s0⟩ : ∃ y, w2.cell? ⟨w.heap.size, k * 2, none⟩ = some y := ⟨xs[k * 2]'(by have := HLX.out; omega), by rw [ho2.cellAt (k * 2) (by omega), List.getElem?_eq_getElem (show k * 2 < xs.length by have := HLX.out; omega)]⟩
          have z0 := ho2.frozenAt (k * 2)
          obtain ⟨y1, s1⟩ : ∃ y, w2.cell? ⟨w.heap.size, k * 2 + 1, none⟩ = some y := ⟨xs[k * 2 + 1]'(by have := HLX.out; omega), by rw [ho2.cellAt (k * 2 + 1) (by omega), List.getElem?_eq_getElem (show k * 2 + 1 < xs.length by have := HLX.out; omega)]⟩
          have z1 := ho2.frozenAt (k * 2 + 1)
          have HO2 := Lib.hid (owns_put ho2 (k * 2) [.int .i64 x0, .int .i64 x1] (by have := HLX.out; simp; omega))
          have HB2 := Lib.hid (HB.out.trans (hb2.mono HB.out.size))
          clear hb2 ho2
          go_upto_region 4 with (fail)
          obtain ⟨wf, ewf⟩ : ∃ x, x = putW (w2) (w.heap.size) (k * 2) [.int .i64 x0, .int .i64 x1] := ⟨_, rfl⟩
          have cwf := ewf.symm
          simp only [putW] at cwf
          rw [cwf]
          clear cwf
          have HO3 := HO2.out
          rw [← ewf] at HO3
          have HB3 := Lib.hid (show Below w.heap.size w wf by rw [ewf]; exact putW_below (Nat.le_refl _) _ _ _ HB2.out)
          have HO4 := Lib.hid HO3
          clear HO3 ewf HO2 s0 s1 z0 z1
          go_wp2
          go_roundw
          case rel =>
            refine ⟨k + 1, _, by omega, by go_num, HO4.out, ?_, HB3.out⟩
            rw [take_put (by have := HLX.out; omega) (by simp; omega), HX.out, cbD_take l k hlt', flatCb_snoc, ← HE.out]
          case measure => simp [intOf]; omega
        · obtain rfl : k = l.length := by omega
          rw [List.take_of_length_le (by omega), List.take_of_length_le (Nat.le_refl _)] at hxs
          subst hxs
          have HO := Lib.hid hown'
          clear hown' hlx hown hg
          go_wp2
          go_ret
          exact ⟨_, rfl, HO.out, hb⟩

set_option maxHeartbeats 1000000 in
theorem eqComboS_same (va vb : Value) (l : List Cb) (w : World) (hl : l.length ≤ 1000000000000) (ha : RdN w va l.length (flatCb l)) (hb : RdN w vb l.length (flatCb l)) :
    Calls Try.prog 43 #[va, vb] w fun e w' => e = .returned (.bool true) ∧ Below w.heap.size w w' := by
  rcases rd_cbs ha with ⟨rfl, a, cap, rfl⟩ | ⟨b, off, cap, hpos, rfl, hlt, hc⟩
  · obtain ⟨a2, cap2, rfl, _⟩ := hb
    clear ha
    go_enter Try.func43, Try.ntmps43
    go_wp2
    refine wp_loop_rounds 1 ?_
    rw [rounds_succ]
    go_wp2
    go_ret
    exact ⟨rfl, Below.refl _ _⟩
  · rcases rd_cbs hb with ⟨hn, _⟩ | ⟨b2, off2, cap2, _, rfl, hlt2, hc2⟩
    · exfalso; rw [hn] at hpos; simp at hpos
    · have HC := Lib.hid hc
      have HC2 := Lib.hid hc2
      clear ha hb hc hc2
      go_enter Try.func43, Try.ntmps43
      go_wp2
      go_loopw [5] (fun i wr => ∃ k : Nat, k ≤ l.length ∧ i = .int .i64 k ∧ Below w.heap.size w wr) (fun i _ => l.length - (intOf i).toNat)
      case atStart => exact ⟨0, Nat.zero_le _, rfl, Below.refl _ _⟩
      case round =>
        obtain ⟨k, hk, rfl, hb⟩ := hrel
        by_cases hlt' : k < l.length
        · obtain ⟨c0, c1⟩ := HC.out k hlt'
          obtain ⟨d0, d1⟩ := HC2.out k hlt'
          obtain ⟨e, he⟩ : ∃ e, e = cbD l k := ⟨_, rfl⟩
          rw [← he] at c0 d0 c1 d1
          have r0 := (hb.cell (p := ⟨b, off + k * 2, none⟩) hlt).trans c0
          have r1 := (hb.cell (p := ⟨b, off + k * 2 + 1, none⟩) hlt).trans c1
          have t0 := (hb.cell (p := ⟨b2, off2 + k * 2, none⟩) hlt2).trans d0
          have t1 := (hb.cell (p := ⟨b2, off2 + k * 2 + 1, none⟩) hlt2).trans d1
          have hbl : b < wr.heap.size := Nat.lt_of_lt_of_le hlt hb.size
          have hbl2 : b2 < wr.heap.size := Nat.lt_of_lt_of_le hlt2 hb.size
          have HB := Lib.hid hb
          clear c0 d0 c1 d1 hb he
          obtain ⟨x0, x1⟩ := e
          simp only at r0 t0 r1 t1
          go_upto_region 6 with (fail)
          go_cut [26] (fun sd wx => sd = .bool false ∧ Below wr.heap.size wr wx)
          case first =>
            go_region_held3 (fun w' => w'.cell? ⟨b, off + k * 2, none⟩ = some (.int .i64 x0) ∧ w'.cell? ⟨b, off + k * 2 + 1, none⟩ = some (.int .i64 x1) ∧ w'.cell? ⟨b2, off2 + k * 2, none⟩ = some (.int .i64 x0) ∧ w'.cell? ⟨b2, off2 + k * 2 + 1, none⟩ = some (.int .i64 x1)) (first | go_keep)
              (first | (go_at_call 102; refine (eqCombo_same x0 x1 _).mono ?_; rintro e v1 ⟨rfl, hb1⟩; have hbr : Below wr.heap.size wr v1 := (by first | exact hb1 | exact ((Below.refl _ _).drew).trans hb1 | exact ((Below.refl _ _).drew.drew).trans hb1); have kr0 := (hbr.cell (p := ⟨b, off + k * 2, none⟩) hbl).trans r0; have kr1 := (hbr.cell (p := ⟨b, off + k * 2 + 1, none⟩) hbl).trans r1; have kt0 := (hbr.cell (p := ⟨b2, off2 + k * 2, none⟩) hbl2).trans t0; have kt1 := (hbr.cell (p := ⟨b2, off2 + k * 2 + 1, none⟩) hbl2).trans t1; have HBR := Lib.hid hbr; clear hbr hb1))
            all_goals
              go_wp2
              go_meet
              exact ⟨rfl, by first | exact HBR.out | exact HBR.out.drew⟩
          case rest =>
            obtain ⟨rfl, hb⟩ := hcut
            have HB2 := Lib.hid (HB.out.trans (hb.mono HB.out.size))
            clear hb r0 t0 r1 t1
            go_wp2
            go_roundw
            case rel => exact ⟨k + 1, by omega, by go_num, HB2.out⟩
            case measure => simp [intOf]; omega
        · obtain rfl : k = l.length := by omega
          go_wp2
          go_ret
          exact ⟨rfl, hb⟩

/-- The marks that a law writes into n of them, counted from q on. -/
def marksCb (q : Int) (n : Nat) : List Cb := (List.range n).map fun (j : Nat) => ⟨(q + ((j * 2 + 0 : Nat) : Int)), (q + ((j * 2 + 1 : Nat) : Int))⟩
theorem marksCb_len (q : Int) (n : Nat) : (marksCb q n).length = n := by simp [marksCb]
theorem marksCb_succ (q : Int) (n : Nat) : marksCb q (n + 1) = marksCb q n ++ [⟨(q + ((n * 2 + 0 : Nat) : Int)), (q + ((n * 2 + 1 : Nat) : Int))⟩] := by simp [marksCb, List.range_succ]
theorem marksCb_take (q : Int) (n j : Nat) (h : j ≤ n) : (marksCb q n).take j = marksCb q j := by simp [marksCb, ← List.map_take, List.take_range, Nat.min_eq_left h]
theorem marksCb_D (q : Int) (n j : Nat) (h : j < n) : cbD (marksCb q n) j = ⟨(q + ((j * 2 + 0 : Nat) : Int)), (q + ((j * 2 + 1 : Nat) : Int))⟩ := by simp [cbD, marksCb, h]
set_option maxHeartbeats 1000000 in
theorem markComboS_any (base : Nat) (v : Value) (n : Nat) (xs : List Value) (q : Int) (w : World) (hn : n ≤ 1048576) (hk : 0 ≤ q) (hk' : q ≤ 1099511627776) (h : w.ownsRow base 94 2 v n xs) :
    Calls Try.prog 49 #[v, .int .i64 q] w fun e w' => e = .returned (.int .i64 (q + ((n * 2 : Nat) : Int))) ∧ w'.ownsRow base 94 2 v n (flatCb (marksCb q n)) ∧ w.grownBy w' v.ownBlock := by
  rcases h.2 with ⟨rfl, hn0⟩ | ⟨g, cap, cur, rfl, hg, hh, hnc, hcm, hcs, ht⟩
  · subst hn0
    clear h
    go_enter Try.func49, Try.ntmps49
    go_wp2
    refine wp_loop_rounds 1 ?_
    rw [rounds_succ]
    go_wp2
    go_ret
    exact ⟨ret_int (by simp), World.ownsRow_nil _ _ _ _, grown_refl _ _⟩
  · have HH := Lib.hid h
    clear h hh hnc hcm hcs ht
    go_enter Try.func49, Try.ntmps49
    go_wp2
    go_loopw [1, 5] (fun p i wr => ∃ (j : Nat) (ys : List Value), j ≤ n ∧ i = .int .i64 j ∧ p = .int .i64 (q + ((j * 2 : Nat) : Int)) ∧ wr.ownsRow base 94 2 (.slice (some ⟨g, 0, none⟩) n cap) n ys ∧ ys.take (j * 2) = flatCb (marksCb q j) ∧ w.grownBy wr (some g))
      (fun _ i _ => n - (intOf i).toNat)
    case atStart => exact ⟨0, xs, Nat.zero_le _, rfl, by simp, HH.out, by simp [flatCb, marksCb], grown_refl _ _⟩
    case round =>
      obtain ⟨j, ys, hj, rfl, rfl, hown, hys, hb⟩ := hrel
      have hly : ys.length = n * 2 := hown.1
      by_cases hlt : j < n
      · obtain ⟨y0, s0⟩ : ∃ y, wr.cell? ⟨g, j * 2, none⟩ = some y := ⟨ys[j * 2]'(by omega), by rw [hown.cellAt (j * 2) (by omega), List.getElem?_eq_getElem (show j * 2 < ys.length by omega)]⟩
        have z0 := hown.frozenAt (j * 2)
        obtain ⟨y1, s1⟩ : ∃ y, wr.cell? ⟨g, j * 2 + 1, none⟩ = some y := ⟨ys[j * 2 + 1]'(by omega), by rw [hown.cellAt (j * 2 + 1) (by omega), List.getElem?_eq_getElem (show j * 2 + 1 < ys.length by omega)]⟩
        have z1 := hown.frozenAt (j * 2 + 1)
        obtain ⟨p, hp⟩ : ∃ p : Int, p = q + ((j * 2 : Nat) : Int) := ⟨_, rfl⟩
        rw [← hp]
        have hpl : 0 ≤ p := by omega
        have hpu : p ≤ 1099511627776 + 1048576 * 2 := by omega
        have HO2 := Lib.hid (owns_put hown (j * 2) [.int .i64 (p), .int .i64 (p + 1)] (by simp; omega))
        have HG2 := Lib.hid (grown_trans hb (putW_grown (b := g) [.int .i64 (p), .int .i64 (p + 1)] (j * 2) wr))
        have HX := Lib.hid hys
        have HLX := Lib.hid hly
        have HP := Lib.hid hp
        clear hown hys hb hly hp
        go_upto_region 7 with (fail)
        obtain ⟨wf, ewf⟩ : ∃ x, x = putW (wr) (g) (j * 2) [.int .i64 (p), .int .i64 (p + 1)] := ⟨_, rfl⟩
        have cwf := ewf.symm
        simp only [putW] at cwf
        rw [cwf]
        clear cwf
        have HO3 := HO2.out
        have HG3 := HG2.out
        rw [← ewf] at HO3 HG3
        have HO4 := Lib.hid HO3
        have HG4 := Lib.hid HG3
        clear HO3 HG3 ewf HO2 HG2 s0 s1 z0 z1
        go_wp2
        go_roundw
        case rel =>
          refine ⟨j + 1, _, by omega, by go_num, ?_, HO4.out, ?_, HG4.out⟩
          · have := HP.out
            congr 1
            omega
          · have hp := HP.out
            rw [take_put (by have := HLX.out; omega) (by simp; omega), HX.out, marksCb_succ, flatCb_snoc]
            congr 1
            have e0 : q + ((j * 2 + 0 : Nat) : Int) = p := by rw [hp]; omega
            have e1 : q + ((j * 2 + 1 : Nat) : Int) = p + 1 := by rw [hp]; omega
            simp only [e0, e1]
        case measure => simp [intOf]; omega
      · obtain rfl : j = n := by omega
        rw [List.take_of_length_le (by omega)] at hys
        subst hys
        have HO := Lib.hid hown
        clear hown hly
        go_wp2
        go_ret
        exact ⟨rfl, HO.out, hb⟩

set_option maxHeartbeats 1000000 in
theorem heldComboS_any (v : Value) (n : Nat) (q : Int) (w : World) (hn : n ≤ 1048576) (hk : 0 ≤ q) (hk' : q ≤ 1099511627776) (h : RdN w v n (flatCb (marksCb q n))) :
    Calls Try.prog 111 #[v, .int .i64 q] w fun e w' => e = .returned (.int .i64 (q + ((n * 2 : Nat) : Int))) ∧ w = w' := by
  have hl := marksCb_len q n
  rcases rd_cbs (l := marksCb q n) (by rw [hl]; exact h) with ⟨hnil, a, cap, rfl⟩ | ⟨b, off, cap, hpos, rfl, hlt, hc⟩
  · have hn0 : n = 0 := by rw [hnil] at hl; simpa using hl.symm
    subst hn0
    clear h hnil hl
    go_enter Try.func111, Try.ntmps111
    go_wp2
    refine wp_loop_rounds 1 ?_
    rw [rounds_succ]
    go_wp2
    go_ret
    exact ⟨ret_int (by simp), rfl⟩
  · rw [hl] at hc ⊢
    have HC := Lib.hid hc
    clear h hl hpos hc
    go_enter Try.func111, Try.ntmps111
    go_wp2
    go_loop [1, 5] (fun p i => ∃ (j : Nat), j ≤ n ∧ i = .int .i64 j ∧ p = .int .i64 (q + ((j * 2 : Nat) : Int))) (fun _ i => n - (intOf i).toNat)
    case atStart => exact ⟨0, Nat.zero_le _, rfl, by simp⟩
    case round =>
      obtain ⟨j, hj, rfl, rfl⟩ := hrel
      by_cases hlt' : j < n
      · obtain ⟨r0, r1⟩ := HC.out j hlt'
        rw [marksCb_D q n j hlt'] at r0 r1
        obtain ⟨p, hp⟩ : ∃ p : Int, p = q + ((j * 2 : Nat) : Int) := ⟨_, rfl⟩
        rw [← hp]
        have e0 : q + ((j * 2 + 0 : Nat) : Int) = p := by rw [hp]; omega
        have e1 : q + ((j * 2 + 1 : Nat) : Int) = p + 1 := by rw [hp]; omega
        have hpl : 0 ≤ p := by omega
        have hpu : p ≤ 1099511627776 + 1048576 * 2 := by omega
        replace r0 : w.cell? ⟨b, off + j * 2, none⟩ = some (.int .i64 (p)) := by rw [← e0]; exact r0
        replace r1 : w.cell? ⟨b, off + j * 2 + 1, none⟩ = some (.int .i64 (p + 1)) := by rw [← e1]; exact r1
        have HP := Lib.hid hp
        clear hp e0 e1
        go_wp2
        go_round
        case rel => exact ⟨j + 1, by omega, by go_num, by have := HP.out; congr 1; omega⟩
        case measure => simp [intOf]; omega
      · obtain rfl : j = n := by omega
        go_wp2
        go_ret
        exact ⟨rfl, rfl⟩

theorem szComboS_any (a : Option Addr) (n cap : Nat) (left : Int) (w : World) (hl : 0 ≤ left) (hl' : left ≤ 1099511627776) (hn : n ≤ maxLen) : Calls Try.prog 40 #[.slice a n cap, .int .i64 left] w fun e w' => e = .returned (.int .i64 (if left < n then -1 else left - n)) ∧ w = w' := by
  unfold maxLen at hn
  by_cases h : left < (n : Int)
  · rw [if_pos h]
    go_enter Try.func40, Try.ntmps40
    go_wp2
    go_ret
    exact ⟨rfl, rfl⟩
  · rw [if_neg h]
    go_enter Try.func40, Try.ntmps40
    go_wp2
    go_ret
    exact ⟨rfl, rfl⟩

end Go.Proofs.Ytagmdkblcgnddaa
