/- DERIVED. Events as data; the laws' own functions on them and on slices of them: the size, a copy, two that are alike, marks. -/
import Derived.Test.YtagmdkblcgnddaaCore
import Derived.Test.YtagmdkblcgnddaaInts
import Derived.WalkSmall
import Derived.Deep.RegionHeld3
import Derived.Deep.DeepCutAuto
namespace Go.Proofs.Ytagmdkblcgnddaa
open Go.RowKit

/-- One Event. -/
structure Ev where
  t : Int
  k : Int
  d : Bool
abbrev Ev.cells (e : Ev) : List Value := [.int .i64 e.t, .int .i64 e.k, .bool e.d]
abbrev evv (t : Int) (k : Int) (d : Bool) : Value := .agg #[.int .i64 t, .int .i64 k, .bool d]
def flatEv (l : List Ev) : List Value := l.flatMap Ev.cells
theorem flatEv_len (l : List Ev) : (flatEv l).length = l.length * 3 := by
  induction l with
  | nil => rfl
  | cons e l ih => simp [flatEv] at ih ⊢; omega
theorem flatEv_snoc (l : List Ev) (e : Ev) : flatEv (l ++ [e]) = flatEv l ++ e.cells := by simp [flatEv]
theorem flatEv_one (l : List Ev) : ∀ u ∈ flatEv l, u.oneCell' = true := by
  intro u hu
  simp only [flatEv, List.mem_flatMap] at hu
  obtain ⟨e, _, hu⟩ := hu
  simp at hu
  rcases hu with rfl | rfl | rfl <;> rfl
def evD (l : List Ev) (j : Nat) : Ev := l.getD j ⟨0, 0, false⟩
theorem evD_take (l : List Ev) (j : Nat) (h : j < l.length) : l.take (j + 1) = l.take j ++ [evD l j] := by
  rw [List.take_succ_eq_append_getElem h, evD]; simp [List.getElem?_eq_getElem h]
theorem flatEv_get (l : List Ev) (j f : Nat) (hj : j < l.length) (hf : f < 3) : (flatEv l)[j * 3 + f]? = (evD l j).cells[f]? := by
  induction l generalizing j with
  | nil => simp at hj
  | cons e l ih =>
    have hc : flatEv (e :: l) = e.cells ++ flatEv l := by simp [flatEv]
    rw [hc]
    cases j with
    | zero => rw [List.getElem?_append_left (by simp; omega)]; simp [evD]
    | succ j =>
      rw [List.getElem?_append_right (by simp; omega)]
      rw [show (j + 1) * 3 + f - e.cells.length = j * 3 + f by simp; omega, ih j (by simpa using hj)]
      simp [evD]
/-- What a walk knows of a slice of these. -/
theorem rd_evs {w : World} {v : Value} {l : List Ev} (h : RdN w v l.length (flatEv l)) :
    (l = [] ∧ ∃ a cap, v = .slice a 0 cap) ∨ ∃ b off cap, 0 < l.length ∧ v = .slice (some ⟨b, off, none⟩) l.length cap ∧ b < w.heap.size ∧
      ∀ j, j < l.length → w.cell? ⟨b, off + j * 3, none⟩ = some (.int .i64 (evD l j).t) ∧ w.cell? ⟨b, off + j * 3 + 1, none⟩ = some (.int .i64 (evD l j).k) ∧ w.cell? ⟨b, off + j * 3 + 2, none⟩ = some (.bool (evD l j).d) := by
  rcases h.cases with ⟨hx, a, cap, rfl⟩ | ⟨hx, b, off, cap, rfl, hlt, hc⟩
  · exact .inl ⟨List.eq_nil_of_length_eq_zero hx, a, cap, rfl⟩
  · refine .inr ⟨b, off, cap, hx, rfl, hlt, fun j hj => ?_⟩
    have key : ∀ f, f < 3 → w.cell? ⟨b, off + j * 3 + f, none⟩ = (evD l j).cells[f]? := fun f hf => by
      have hl : j * 3 + f < (flatEv l).length := by rw [flatEv_len]; omega
      rw [Nat.add_assoc, hc _ hl, ← List.getElem?_eq_getElem hl, flatEv_get l j f hj hf]
    exact ⟨by simpa using key 0 (by omega), by simpa using key 1 (by omega), by simpa using key 2 (by omega)⟩
theorem info_ev : (Try.prog.info? 36).map (fun i => (i.zero, i.size, i.bytes)) = some (some (.agg #[.int .i64 0, .int .i64 0, .bool false]), 3, 24) := by kernel_rfl

theorem toEvent_any (t : Int) (k : Int) (d : Bool) (w : World) : Calls Try.prog 60 #[evv t k d] w fun e w' => e = .returned (evv t k d) ∧ Below w.heap.size w w' := by
  go_enter Try.func60, Try.ntmps60
  go_wp2
  refine bodyPost_ret (v := evv t k d) (by simp [results, Try.results60, go_sem]) rfl ⟨rfl, ?_⟩
  exact (((Below.refl _ _).alloc (Nat.le_refl _) _).alloc (by simp) _).alloc (by simp; omega) _

theorem eqEvent_same (t : Int) (k : Int) (d : Bool) (w : World) : Calls Try.prog 116 #[evv t k d, evv t k d] w fun e w' => e = .returned (.bool true) ∧ Below w.heap.size w w' := by
  go_enter Try.func116, Try.ntmps116
  go_wp2
  go_ret
  exact ⟨rfl, ((Below.refl _ _).alloc (Nat.le_refl _) _).alloc (by simp) _⟩

set_option maxHeartbeats 1000000 in
theorem toEventS_any (v : Value) (l : List Ev) (w : World) (hl : l.length ≤ 1048576) (h : RdN w v l.length (flatEv l)) :
    Calls Try.prog 54 #[v] w fun e w' => ∃ u, e = .returned u ∧ w'.ownsRow w.heap.size 36 3 u l.length (flatEv l) ∧ Below w.heap.size w w' := by
  obtain ⟨i0, hi, hz0, hz1, hz2⟩ := info_parts info_ev
  rcases rd_evs h with ⟨rfl, a, cap, rfl⟩ | ⟨b, off, cap, hpos, rfl, hlt, hc⟩
  · clear h
    go_enter Try.func54, Try.ntmps54
    go_wp2_with (at_make; refine wpList_make_full w rfl _ _ 25 rfl w.heap.size 36 i0 (.agg #[.int .i64 0, .int .i64 0, .bool false]) 3 Try.underlying25 hi hz0 hz1 .i64 .i64 0 0 0 rfl rfl rfl rfl (by simp) ?_ ?_ ?_)
    · simp [maxLen]
    · exact Nat.le_refl _
    · intro w1 hown hg
      go_wp2
      refine wp_loop_rounds 1 ?_
      rw [rounds_succ]
      go_wp2
      go_ret
      exact ⟨_, rfl, by simpa [madeCells, flatEv] using hown, (Below.refl _ _).grown hg (Nat.le_refl _) (fun k hk => by cases hk)⟩
  · have HC := Lib.hid hc
    clear h hc
    go_enter Try.func54, Try.ntmps54
    go_wp2_with (at_make; refine wpList_make_full w rfl _ _ 25 rfl w.heap.size 36 i0 (.agg #[.int .i64 0, .int .i64 0, .bool false]) 3 Try.underlying25 hi hz0 hz1 .i64 .i64 _ _ l.length rfl rfl rfl rfl (by rw [hz2]; omega) ?_ ?_ ?_)
    · simp [maxLen]; omega
    · exact Nat.le_refl _
    · intro w1 hown hg
      go_wp2
      go_loopw [4] (fun i wr => ∃ (k : Nat) (xs : List Value), k ≤ l.length ∧ i = .int .i64 k ∧ wr.ownsRow w.heap.size 36 3 (.slice (some ⟨w.heap.size, 0, none⟩) l.length l.length) l.length xs ∧ xs.take (k * 3) = flatEv (l.take k) ∧ Below w.heap.size w wr)
        (fun i _ => l.length - (intOf i).toNat)
      case atStart => exact ⟨0, _, Nat.zero_le _, rfl, hown, by simp [flatEv], (Below.refl _ _).grown hg (Nat.le_refl _) (fun k hk => by cases hk)⟩
      case round =>
        obtain ⟨k, xs, hk, rfl, hown', hxs, hb⟩ := hrel
        have hlx : xs.length = l.length * 3 := hown'.1
        by_cases hlt' : k < l.length
        · obtain ⟨c0, c1, c2⟩ := HC.out k hlt'
          obtain ⟨e, he⟩ : ∃ e, e = evD l k := ⟨_, rfl⟩
          rw [← he] at c0 c1 c2
          have r0 := (hb.cell (p := ⟨b, off + k * 3, none⟩) hlt).trans c0
          have r1 := (hb.cell (p := ⟨b, off + k * 3 + 1, none⟩) hlt).trans c1
          have r2 := (hb.cell (p := ⟨b, off + k * 3 + 2, none⟩) hlt).trans c2
          have HO := Lib.hid hown'
          have HX := Lib.hid hxs
          have HB := Lib.hid hb
          have HLX := Lib.hid hlx
          have HE := Lib.hid he
          clear c0 c1 c2 hown' hxs hb hlx he hown hg
          obtain ⟨x0, x1, x2⟩ := e
          simp only at r0 r1 r2
          go_wp2_with fail
          refine (toEvent_any x0 x1 x2 _).mono ?_
          rintro e w2 ⟨rfl, hb2⟩
          have ho2 := owns_below HO.out hb2
          obtain ⟨y0, s0⟩ : ∃ y, w2.cell? ⟨w.heap.size, k * 3, none⟩ = some y := ⟨xs[k * 3]'(by have := HLX.out; omega), by rw [ho2.cellAt (k * 3) (by omega), List.getElem?_eq_getElem (show k * 3 < xs.length by have := HLX.out; omega)]⟩
          have z0 := ho2.frozenAt (k * 3)
          obtain ⟨y1, s1⟩ : ∃ y, w2.cell? ⟨w.heap.size, k * 3 + 1, none⟩ = some y := ⟨xs[k * 3 + 1]'(by have := HLX.out; omega), by rw [ho2.cellAt (k * 3 + 1) (by omega), List.getElem?_eq_getElem (show k * 3 + 1 < xs.length by have := HLX.out; omega)]⟩
          have z1 := ho2.frozenAt (k * 3 + 1)
          obtain ⟨y2, s2⟩ : ∃ y, w2.cell? ⟨w.heap.size, k * 3 + 2, none⟩ = some y := ⟨xs[k * 3 + 2]'(by have := HLX.out; omega), by rw [ho2.cellAt (k * 3 + 2) (by omega), List.getElem?_eq_getElem (show k * 3 + 2 < xs.length by have := HLX.out; omega)]⟩
          have z2 := ho2.frozenAt (k * 3 + 2)
          have HO2 := Lib.hid (owns_put ho2 (k * 3) [.int .i64 x0, .int .i64 x1, .bool x2] (by have := HLX.out; simp; omega))
          have HB2 := Lib.hid (HB.out.trans (hb2.mono HB.out.size))
          clear hb2 ho2
          go_upto_region 4 with (fail)
          obtain ⟨wf, ewf⟩ : ∃ x, x = putW (w2) (w.heap.size) (k * 3) [.int .i64 x0, .int .i64 x1, .bool x2] := ⟨_, rfl⟩
          have cwf := ewf.symm
          simp only [putW, Nat.add_assoc, Nat.reduceAdd] at cwf
          rw [cwf]
          clear cwf
          have HO3 := HO2.out
          rw [← ewf] at HO3
          have HB3 := Lib.hid (show Below w.heap.size w wf by rw [ewf]; exact putW_below (Nat.le_refl _) _ _ _ HB2.out)
          have HO4 := Lib.hid HO3
          clear HO3 ewf HO2 s0 s1 s2 z0 z1 z2
          go_wp2
          go_roundw
          case rel =>
            refine ⟨k + 1, _, by omega, by go_num, HO4.out, ?_, HB3.out⟩
            rw [take_put (by have := HLX.out; omega) (by simp; omega), HX.out, evD_take l k hlt', flatEv_snoc, ← HE.out]
          case measure => simp [intOf]; omega
        · obtain rfl : k = l.length := by omega
          rw [List.take_of_length_le (by omega), List.take_of_length_le (Nat.le_refl _)] at hxs
          subst hxs
          have HO := Lib.hid hown'
          clear hown' hlx hown hg
          go_wp2
          go_ret
          exact ⟨_, rfl, HO.out, hb⟩

set_option maxHeartbeats 1000000 in
theorem eqEventS_same (va vb : Value) (l : List Ev) (w : World) (hl : l.length ≤ 1000000000000) (ha : RdN w va l.length (flatEv l)) (hb : RdN w vb l.length (flatEv l)) :
    Calls Try.prog 55 #[va, vb] w fun e w' => e = .returned (.bool true) ∧ Below w.heap.size w w' := by
  rcases rd_evs ha with ⟨rfl, a, cap, rfl⟩ | ⟨b, off, cap, hpos, rfl, hlt, hc⟩
  · obtain ⟨a2, cap2, rfl, _⟩ := hb
    clear ha
    go_enter Try.func55, Try.ntmps55
    go_wp2
    refine wp_loop_rounds 1 ?_
    rw [rounds_succ]
    go_wp2
    go_ret
    exact ⟨rfl, Below.refl _ _⟩
  · rcases rd_evs hb with ⟨hn, _⟩ | ⟨b2, off2, cap2, _, rfl, hlt2, hc2⟩
    · exfalso; rw [hn] at hpos; simp at hpos
    · have HC := Lib.hid hc
      have HC2 := Lib.hid hc2
      clear ha hb hc hc2
      go_enter Try.func55, Try.ntmps55
      go_wp2
      go_loopw [5] (fun i wr => ∃ k : Nat, k ≤ l.length ∧ i = .int .i64 k ∧ Below w.heap.size w wr) (fun i _ => l.length - (intOf i).toNat)
      case atStart => exact ⟨0, Nat.zero_le _, rfl, Below.refl _ _⟩
      case round =>
        obtain ⟨k, hk, rfl, hb⟩ := hrel
        by_cases hlt' : k < l.length
        · obtain ⟨c0, c1, c2⟩ := HC.out k hlt'
          obtain ⟨d0, d1, d2⟩ := HC2.out k hlt'
          obtain ⟨e, he⟩ : ∃ e, e = evD l k := ⟨_, rfl⟩
          rw [← he] at c0 d0 c1 d1 c2 d2
          have r0 := (hb.cell (p := ⟨b, off + k * 3, none⟩) hlt).trans c0
          have r1 := (hb.cell (p := ⟨b, off + k * 3 + 1, none⟩) hlt).trans c1
          have r2 := (hb.cell (p := ⟨b, off + k * 3 + 2, none⟩) hlt).trans c2
          have t0 := (hb.cell (p := ⟨b2, off2 + k * 3, none⟩) hlt2).trans d0
          have t1 := (hb.cell (p := ⟨b2, off2 + k * 3 + 1, none⟩) hlt2).trans d1
          have t2 := (hb.cell (p := ⟨b2, off2 + k * 3 + 2, none⟩) hlt2).trans d2
          have hbl : b < wr.heap.size := Nat.lt_of_lt_of_le hlt hb.size
          have hbl2 : b2 < wr.heap.size := Nat.lt_of_lt_of_le hlt2 hb.size
          have HB := Lib.hid hb
          clear c0 d0 c1 d1 c2 d2 hb he
          obtain ⟨x0, x1, x2⟩ := e
          simp only at r0 t0 r1 t1 r2 t2
          go_upto_region 6 with (fail)
          go_cut [26] (fun sd wx => sd = .bool false ∧ Below wr.heap.size wr wx)
          case first =>
            go_region_held3 (fun w' => w'.cell? ⟨b, off + k * 3, none⟩ = some (.int .i64 x0) ∧ w'.cell? ⟨b, off + k * 3 + 1, none⟩ = some (.int .i64 x1) ∧ w'.cell? ⟨b, off + k * 3 + 2, none⟩ = some (.bool x2) ∧ w'.cell? ⟨b2, off2 + k * 3, none⟩ = some (.int .i64 x0) ∧ w'.cell? ⟨b2, off2 + k * 3 + 1, none⟩ = some (.int .i64 x1) ∧ w'.cell? ⟨b2, off2 + k * 3 + 2, none⟩ = some (.bool x2)) (first | go_keep)
              (first | (go_at_call 116; refine (eqEvent_same x0 x1 x2 _).mono ?_; rintro e v1 ⟨rfl, hb1⟩; have hbr : Below wr.heap.size wr v1 := (by first | exact hb1 | exact ((Below.refl _ _).drew).trans hb1 | exact ((Below.refl _ _).drew.drew).trans hb1); have kr0 := (hbr.cell (p := ⟨b, off + k * 3, none⟩) hbl).trans r0; have kr1 := (hbr.cell (p := ⟨b, off + k * 3 + 1, none⟩) hbl).trans r1; have kr2 := (hbr.cell (p := ⟨b, off + k * 3 + 2, none⟩) hbl).trans r2; have kt0 := (hbr.cell (p := ⟨b2, off2 + k * 3, none⟩) hbl2).trans t0; have kt1 := (hbr.cell (p := ⟨b2, off2 + k * 3 + 1, none⟩) hbl2).trans t1; have kt2 := (hbr.cell (p := ⟨b2, off2 + k * 3 + 2, none⟩) hbl2).trans t2; have HBR := Lib.hid hbr; clear hbr hb1))
            all_goals
              go_wp2
              go_meet
              exact ⟨rfl, by first | exact HBR.out | exact HBR.out.drew⟩
          case rest =>
            obtain ⟨rfl, hb⟩ := hcut
            have HB2 := Lib.hid (HB.out.trans (hb.mono HB.out.size))
            clear hb r0 t0 r1 t1 r2 t2
            go_wp2
            go_roundw
            case rel => exact ⟨k + 1, by omega, by go_num, HB2.out⟩
            case measure => simp [intOf]; omega
        · obtain rfl : k = l.length := by omega
          go_wp2
          go_ret
          exact ⟨rfl, hb⟩

/-- The marks that a law writes into n of them, counted from q on. -/
def marksEv (q : Int) (n : Nat) : List Ev := (List.range n).map fun (j : Nat) => ⟨(q + ((j * 3 + 0 : Nat) : Int)), (q + ((j * 3 + 1 : Nat) : Int)), (decide ((q + ((j * 3 + 2 : Nat) : Int)) % 3 = 0))⟩
theorem marksEv_len (q : Int) (n : Nat) : (marksEv q n).length = n := by simp [marksEv]
theorem marksEv_succ (q : Int) (n : Nat) : marksEv q (n + 1) = marksEv q n ++ [⟨(q + ((n * 3 + 0 : Nat) : Int)), (q + ((n * 3 + 1 : Nat) : Int)), (decide ((q + ((n * 3 + 2 : Nat) : Int)) % 3 = 0))⟩] := by simp [marksEv, List.range_succ]
theorem marksEv_take (q : Int) (n j : Nat) (h : j ≤ n) : (marksEv q n).take j = marksEv q j := by simp [marksEv, ← List.map_take, List.take_range, Nat.min_eq_left h]
theorem marksEv_D (q : Int) (n j : Nat) (h : j < n) : evD (marksEv q n) j = ⟨(q + ((j * 3 + 0 : Nat) : Int)), (q + ((j * 3 + 1 : Nat) : Int)), (decide ((q + ((j * 3 + 2 : Nat) : Int)) % 3 = 0))⟩ := by simp [evD, marksEv, h]
set_option maxHeartbeats 1000000 in
theorem markEventS_any (base : Nat) (v : Value) (n : Nat) (xs : List Value) (q : Int) (w : World) (hn : n ≤ 1048576) (hk : 0 ≤ q) (hk' : q ≤ 1099511627776) (h : w.ownsRow base 36 3 v n xs) :
    Calls Try.prog 57 #[v, .int .i64 q] w fun e w' => e = .returned (.int .i64 (q + ((n * 3 : Nat) : Int))) ∧ w'.ownsRow base 36 3 v n (flatEv (marksEv q n)) ∧ w.grownBy w' v.ownBlock := by
  rcases h.2 with ⟨rfl, hn0⟩ | ⟨g, cap, cur, rfl, hg, hh, hnc, hcm, hcs, ht⟩
  · subst hn0
    clear h
    go_enter Try.func57, Try.ntmps57
    go_wp2
    refine wp_loop_rounds 1 ?_
    rw [rounds_succ]
    go_wp2
    go_ret
    exact ⟨ret_int (by simp), World.ownsRow_nil _ _ _ _, grown_refl _ _⟩
  · have HH := Lib.hid h
    clear h hh hnc hcm hcs ht
    go_enter Try.func57, Try.ntmps57
    go_wp2
    go_loopw [1, 5] (fun p i wr => ∃ (j : Nat) (ys : List Value), j ≤ n ∧ i = .int .i64 j ∧ p = .int .i64 (q + ((j * 3 : Nat) : Int)) ∧ wr.ownsRow base 36 3 (.slice (some ⟨g, 0, none⟩) n cap) n ys ∧ ys.take (j * 3) = flatEv (marksEv q j) ∧ w.grownBy wr (some g))
      (fun _ i _ => n - (intOf i).toNat)
    case atStart => exact ⟨0, xs, Nat.zero_le _, rfl, by simp, HH.out, by simp [flatEv, marksEv], grown_refl _ _⟩
    case round =>
      obtain ⟨j, ys, hj, rfl, rfl, hown, hys, hb⟩ := hrel
      have hly : ys.length = n * 3 := hown.1
      by_cases hlt : j < n
      · obtain ⟨y0, s0⟩ : ∃ y, wr.cell? ⟨g, j * 3, none⟩ = some y := ⟨ys[j * 3]'(by omega), by rw [hown.cellAt (j * 3) (by omega), List.getElem?_eq_getElem (show j * 3 < ys.length by omega)]⟩
        have z0 := hown.frozenAt (j * 3)
        obtain ⟨y1, s1⟩ : ∃ y, wr.cell? ⟨g, j * 3 + 1, none⟩ = some y := ⟨ys[j * 3 + 1]'(by omega), by rw [hown.cellAt (j * 3 + 1) (by omega), List.getElem?_eq_getElem (show j * 3 + 1 < ys.length by omega)]⟩
        have z1 := hown.frozenAt (j * 3 + 1)
        obtain ⟨y2, s2⟩ : ∃ y, wr.cell? ⟨g, j * 3 + 2, none⟩ = some y := ⟨ys[j * 3 + 2]'(by omega), by rw [hown.cellAt (j * 3 + 2) (by omega), List.getElem?_eq_getElem (show j * 3 + 2 < ys.length by omega)]⟩
        have z2 := hown.frozenAt (j * 3 + 2)
        obtain ⟨p, hp⟩ : ∃ p : Int, p = q + ((j * 3 : Nat) : Int) := ⟨_, rfl⟩
        rw [← hp]
        have hpl : 0 ≤ p := by omega
        have hpu : p ≤ 1099511627776 + 1048576 * 3 := by omega
        have HO2 := Lib.hid (owns_put hown (j * 3) [.int .i64 (p), .int .i64 (p + 1), .bool ((p + 1 + 1) % 3 == 0)] (by simp; omega))
        have HG2 := Lib.hid (grown_trans hb (putW_grown (b := g) [.int .i64 (p), .int .i64 (p + 1), .bool ((p + 1 + 1) % 3 == 0)] (j * 3) wr))
        have HX := Lib.hid hys
        have HLX := Lib.hid hly
        have HP := Lib.hid hp
        clear hown hys hb hly hp
        go_upto_region 9 with (fail)
        obtain ⟨wf, ewf⟩ : ∃ x, x = putW (wr) (g) (j * 3) [.int .i64 (p), .int .i64 (p + 1), .bool ((p + 1 + 1) % 3 == 0)] := ⟨_, rfl⟩
        have cwf := ewf.symm
        simp only [putW, Nat.add_assoc, Nat.reduceAdd] at cwf
        rw [cwf]
        clear cwf
        have HO3 := HO2.out
        have HG3 := HG2.out
        rw [← ewf] at HO3 HG3
        have HO4 := Lib.hid HO3
        have HG4 := Lib.hid HG3
        clear HO3 HG3 ewf HO2 HG2 s0 s1 s2 z0 z1 z2
        go_wp2
        go_roundw
        case rel =>
          refine ⟨j + 1, _, by omega, by go_num, ?_, HO4.out, ?_, HG4.out⟩
          · have := HP.out
            congr 1
            omega
          · have hp := HP.out
            rw [take_put (by have := HLX.out; omega) (by simp; omega), HX.out, marksEv_succ, flatEv_snoc]
            congr 1
            have e0 : q + ((j * 3 + 0 : Nat) : Int) = p := by rw [hp]; omega
            have e1 : q + ((j * 3 + 1 : Nat) : Int) = p + 1 := by rw [hp]; omega
            have e2 : q + ((j * 3 + 2 : Nat) : Int) = p + 1 + 1 := by rw [hp]; omega
            simp only [e0, e1, e2]
            rfl
        case measure => simp [intOf]; omega
      · obtain rfl : j = n := by omega
        rw [List.take_of_length_le (by omega)] at hys
        subst hys
        have HO := Lib.hid hown
        clear hown hly
        go_wp2
        go_ret
        exact ⟨rfl, HO.out, hb⟩

set_option maxHeartbeats 1000000 in
theorem heldEventS_any (v : Value) (n : Nat) (q : Int) (w : World) (hn : n ≤ 1048576) (hk : 0 ≤ q) (hk' : q ≤ 1099511627776) (h : RdN w v n (flatEv (marksEv q n))) :
    Calls Try.prog 58 #[v, .int .i64 q] w fun e w' => e = .returned (.int .i64 (q + ((n * 3 : Nat) : Int))) ∧ w = w' := by
  have hl := marksEv_len q n
  rcases rd_evs (l := marksEv q n) (by rw [hl]; exact h) with ⟨hnil, a, cap, rfl⟩ | ⟨b, off, cap, hpos, rfl, hlt, hc⟩
  · have hn0 : n = 0 := by rw [hnil] at hl; simpa using hl.symm
    subst hn0
    clear h hnil hl
    go_enter Try.func58, Try.ntmps58
    go_wp2
    refine wp_loop_rounds 1 ?_
    rw [rounds_succ]
    go_wp2
    go_ret
    exact ⟨ret_int (by simp), rfl⟩
  · rw [hl] at hc ⊢
    have HC := Lib.hid hc
    clear h hl hpos hc
    go_enter Try.func58, Try.ntmps58
    go_wp2
    go_loop [1, 5] (fun p i => ∃ (j : Nat), j ≤ n ∧ i = .int .i64 j ∧ p = .int .i64 (q + ((j * 3 : Nat) : Int))) (fun _ i => n - (intOf i).toNat)
    case atStart => exact ⟨0, Nat.zero_le _, rfl, by simp⟩
    case round =>
      obtain ⟨j, hj, rfl, rfl⟩ := hrel
      by_cases hlt' : j < n
      · obtain ⟨r0, r1, r2⟩ := HC.out j hlt'
        rw [marksEv_D q n j hlt'] at r0 r1 r2
        obtain ⟨p, hp⟩ : ∃ p : Int, p = q + ((j * 3 : Nat) : Int) := ⟨_, rfl⟩
        rw [← hp]
        have e0 : q + ((j * 3 + 0 : Nat) : Int) = p := by rw [hp]; omega
        have e1 : q + ((j * 3 + 1 : Nat) : Int) = p + 1 := by rw [hp]; omega
        have e2 : q + ((j * 3 + 2 : Nat) : Int) = p + 1 + 1 := by rw [hp]; omega
        have hpl : 0 ≤ p := by omega
        have hpu : p ≤ 1099511627776 + 1048576 * 3 := by omega
        replace r0 : w.cell? ⟨b, off + j * 3, none⟩ = some (.int .i64 (p)) := by rw [← e0]; exact r0
        replace r1 : w.cell? ⟨b, off + j * 3 + 1, none⟩ = some (.int .i64 (p + 1)) := by rw [← e1]; exact r1
        replace r2 : w.cell? ⟨b, off + j * 3 + 2, none⟩ = some (.bool ((p + 1 + 1) % 3 == 0)) := by rw [← e2]; exact r2
        have HP := Lib.hid hp
        clear hp e0 e1 e2
        go_wp2
        go_round
        case rel => exact ⟨j + 1, by omega, by go_num, by have := HP.out; congr 1; omega⟩
        case measure => simp [intOf]; omega
      · obtain rfl : j = n := by omega
        go_wp2
        go_ret
        exact ⟨rfl, rfl⟩

theorem szEventS_any (a : Option Addr) (n cap : Nat) (left : Int) (w : World) (hl : 0 ≤ left) (hl' : left ≤ 1099511627776) (hn : n ≤ maxLen) : Calls Try.prog 52 #[.slice a n cap, .int .i64 left] w fun e w' => e = .returned (.int .i64 (if left < n then -1 else left - n)) ∧ w = w' := by
  unfold maxLen at hn
  by_cases h : left < (n : Int)
  · rw [if_pos h]
    go_enter Try.func52, Try.ntmps52
    go_wp2
    go_ret
    exact ⟨rfl, rfl⟩
  · rw [if_neg h]
    go_enter Try.func52, Try.ntmps52
    go_wp2
    go_ret
    exact ⟨rfl, rfl⟩

end Go.Proofs.Ytagmdkblcgnddaa
