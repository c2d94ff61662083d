/- DERIVED. Steps as data; the laws' own functions on them and on slices of them: the size, a copy, two that are alike, marks. -/
import Derived.Test.YteljmfdlegohbaaCore
import Derived.Test.YteljmfdlegohbaaInts
import Derived.WalkSmall
import Derived.Deep.RegionHeld3
import Derived.Deep.DeepCutAuto
namespace Go.Proofs.Yteljmfdlegohbaa
open Go.RowKit

/-- One Step. -/
structure St where
  k : Int
  c : Int
  m : Int
abbrev St.cells (e : St) : List Value := [.int .i64 e.k, .int .i64 e.c, .int .i64 e.m]
abbrev stv (k : Int) (c : Int) (m : Int) : Value := .agg #[.int .i64 k, .int .i64 c, .int .i64 m]
def flatSt (l : List St) : List Value := l.flatMap St.cells
theorem flatSt_len (l : List St) : (flatSt l).length = l.length * 3 := by
  induction l with
  | nil => rfl
  | cons e l ih => simp [flatSt] at ih ⊢; omega
theorem flatSt_snoc (l : List St) (e : St) : flatSt (l ++ [e]) = flatSt l ++ e.cells := by simp [flatSt]
theorem flatSt_one (l : List St) : ∀ u ∈ flatSt l, u.oneCell' = true := by
  intro u hu
  simp only [flatSt, List.mem_flatMap] at hu
  obtain ⟨e, _, hu⟩ := hu
  simp at hu
  rcases hu with rfl | rfl | rfl <;> rfl
def stD (l : List St) (j : Nat) : St := l.getD j ⟨0, 0, 0⟩
theorem stD_take (l : List St) (j : Nat) (h : j < l.length) : l.take (j + 1) = l.take j ++ [stD l j] := by
  rw [List.take_succ_eq_append_getElem h, stD]; simp [List.getElem?_eq_getElem h]
theorem flatSt_get (l : List St) (j f : Nat) (hj : j < l.length) (hf : f < 3) : (flatSt l)[j * 3 + f]? = (stD l j).cells[f]? := by
  induction l generalizing j with
  | nil => simp at hj
  | cons e l ih =>
    have hc : flatSt (e :: l) = e.cells ++ flatSt l := by simp [flatSt]
    rw [hc]
    cases j with
    | zero => rw [List.getElem?_append_left (by simp; omega)]; simp [stD]
    | succ j =>
      rw [List.getElem?_append_right (by simp; omega)]
      rw [show (j + 1) * 3 + f - e.cells.length = j * 3 + f by simp; omega, ih j (by simpa using hj)]
      simp [stD]
/-- What a walk knows of a slice of these. -/
theorem rd_sts {w : World} {v : Value} {l : List St} (h : RdN w v l.length (flatSt l)) :
    (l = [] ∧ ∃ a cap, v = .slice a 0 cap) ∨ ∃ b off cap, 0 < l.length ∧ v = .slice (some ⟨b, off, none⟩) l.length cap ∧ b < w.heap.size ∧
      ∀ j, j < l.length → w.cell? ⟨b, off + j * 3, none⟩ = some (.int .i64 (stD l j).k) ∧ w.cell? ⟨b, off + j * 3 + 1, none⟩ = some (.int .i64 (stD l j).c) ∧ w.cell? ⟨b, off + j * 3 + 2, none⟩ = some (.int .i64 (stD l j).m) := by
  rcases h.cases with ⟨hx, a, cap, rfl⟩ | ⟨hx, b, off, cap, rfl, hlt, hc⟩
  · exact .inl ⟨List.eq_nil_of_length_eq_zero hx, a, cap, rfl⟩
  · refine .inr ⟨b, off, cap, hx, rfl, hlt, fun j hj => ?_⟩
    have key : ∀ f, f < 3 → w.cell? ⟨b, off + j * 3 + f, none⟩ = (stD l j).cells[f]? := fun f hf => by
      have hl : j * 3 + f < (flatSt l).length := by rw [flatSt_len]; omega
      rw [Nat.add_assoc, hc _ hl, ← List.getElem?_eq_getElem hl, flatSt_get l j f hj hf]
    exact ⟨by simpa using key 0 (by omega), by simpa using key 1 (by omega), by simpa using key 2 (by omega)⟩
theorem info_st : (Try.prog.info? 136).map (fun i => (i.zero, i.size, i.bytes)) = some (some (.agg #[.int .i64 0, .int .i64 0, .int .i64 0]), 3, 24) := by kernel_rfl

theorem eqStep_same (k : Int) (c : Int) (m : Int) (w : World) : Calls Try.prog 147 #[stv k c m, stv k c m] w fun e w' => e = .returned (.bool true) ∧ Below w.heap.size w w' := by
  go_enter Try.func147, Try.ntmps147
  go_wp2
  go_ret
  exact ⟨rfl, ((Below.refl _ _).alloc (Nat.le_refl _) _).alloc (by simp) _⟩

set_option maxHeartbeats 1000000 in
theorem eqStepS_same (va vb : Value) (l : List St) (w : World) (hl : l.length ≤ 1000000000000) (ha : RdN w va l.length (flatSt l)) (hb : RdN w vb l.length (flatSt l)) :
    Calls Try.prog 80 #[va, vb] w fun e w' => e = .returned (.bool true) ∧ Below w.heap.size w w' := by
  rcases rd_sts ha with ⟨rfl, a, cap, rfl⟩ | ⟨b, off, cap, hpos, rfl, hlt, hc⟩
  · obtain ⟨a2, cap2, rfl, _⟩ := hb
    clear ha
    go_enter Try.func80, Try.ntmps80
    go_wp2
    refine wp_loop_rounds 1 ?_
    rw [rounds_succ]
    go_wp2
    go_ret
    exact ⟨rfl, Below.refl _ _⟩
  · rcases rd_sts hb with ⟨hn, _⟩ | ⟨b2, off2, cap2, _, rfl, hlt2, hc2⟩
    · exfalso; rw [hn] at hpos; simp at hpos
    · have HC := Lib.hid hc
      have HC2 := Lib.hid hc2
      clear ha hb hc hc2
      go_enter Try.func80, Try.ntmps80
      go_wp2
      go_loopw [5] (fun i wr => ∃ k : Nat, k ≤ l.length ∧ i = .int .i64 k ∧ Below w.heap.size w wr) (fun i _ => l.length - (intOf i).toNat)
      case atStart => exact ⟨0, Nat.zero_le _, rfl, Below.refl _ _⟩
      case round =>
        obtain ⟨k, hk, rfl, hb⟩ := hrel
        by_cases hlt' : k < l.length
        · obtain ⟨c0, c1, c2⟩ := HC.out k hlt'
          obtain ⟨d0, d1, d2⟩ := HC2.out k hlt'
          obtain ⟨e, he⟩ : ∃ e, e = stD l k := ⟨_, rfl⟩
          rw [← he] at c0 d0 c1 d1 c2 d2
          have r0 := (hb.cell (p := ⟨b, off + k * 3, none⟩) hlt).trans c0
          have r1 := (hb.cell (p := ⟨b, off + k * 3 + 1, none⟩) hlt).trans c1
          have r2 := (hb.cell (p := ⟨b, off + k * 3 + 2, none⟩) hlt).trans c2
          have t0 := (hb.cell (p := ⟨b2, off2 + k * 3, none⟩) hlt2).trans d0
          have t1 := (hb.cell (p := ⟨b2, off2 + k * 3 + 1, none⟩) hlt2).trans d1
          have t2 := (hb.cell (p := ⟨b2, off2 + k * 3 + 2, none⟩) hlt2).trans d2
          have hbl : b < wr.heap.size := Nat.lt_of_lt_of_le hlt hb.size
          have hbl2 : b2 < wr.heap.size := Nat.lt_of_lt_of_le hlt2 hb.size
          have HB := Lib.hid hb
          clear c0 d0 c1 d1 c2 d2 hb he
          obtain ⟨x0, x1, x2⟩ := e
          simp only at r0 t0 r1 t1 r2 t2
          go_upto_region 6 with (fail)
          go_cut [26] (fun sd wx => sd = .bool false ∧ Below wr.heap.size wr wx)
          case first =>
            go_region_held3 (fun w' => w'.cell? ⟨b, off + k * 3, none⟩ = some (.int .i64 x0) ∧ w'.cell? ⟨b, off + k * 3 + 1, none⟩ = some (.int .i64 x1) ∧ w'.cell? ⟨b, off + k * 3 + 2, none⟩ = some (.int .i64 x2) ∧ w'.cell? ⟨b2, off2 + k * 3, none⟩ = some (.int .i64 x0) ∧ w'.cell? ⟨b2, off2 + k * 3 + 1, none⟩ = some (.int .i64 x1) ∧ w'.cell? ⟨b2, off2 + k * 3 + 2, none⟩ = some (.int .i64 x2)) (first | go_keep)
              (first | (go_at_call 147; refine (eqStep_same x0 x1 x2 _).mono ?_; rintro e v1 ⟨rfl, hb1⟩; have hbr : Below wr.heap.size wr v1 := (by first | exact hb1 | exact ((Below.refl _ _).drew).trans hb1 | exact ((Below.refl _ _).drew.drew).trans hb1); have kr0 := (hbr.cell (p := ⟨b, off + k * 3, none⟩) hbl).trans r0; have kr1 := (hbr.cell (p := ⟨b, off + k * 3 + 1, none⟩) hbl).trans r1; have kr2 := (hbr.cell (p := ⟨b, off + k * 3 + 2, none⟩) hbl).trans r2; have kt0 := (hbr.cell (p := ⟨b2, off2 + k * 3, none⟩) hbl2).trans t0; have kt1 := (hbr.cell (p := ⟨b2, off2 + k * 3 + 1, none⟩) hbl2).trans t1; have kt2 := (hbr.cell (p := ⟨b2, off2 + k * 3 + 2, none⟩) hbl2).trans t2; have HBR := Lib.hid hbr; clear hbr hb1))
            all_goals
              go_wp2
              go_meet
              exact ⟨rfl, by first | exact HBR.out | exact HBR.out.drew⟩
          case rest =>
            obtain ⟨rfl, hb⟩ := hcut
            have HB2 := Lib.hid (HB.out.trans (hb.mono HB.out.size))
            clear hb r0 t0 r1 t1 r2 t2
            go_wp2
            go_roundw
            case rel => exact ⟨k + 1, by omega, by go_num, HB2.out⟩
            case measure => simp [intOf]; omega
        · obtain rfl : k = l.length := by omega
          go_wp2
          go_ret
          exact ⟨rfl, hb⟩

/-- The marks that a law writes into n of them, counted from q on. -/
def marksSt (q : Int) (n : Nat) : List St := (List.range n).map fun (j : Nat) => ⟨(q + ((j * 3 + 0 : Nat) : Int)), (q + ((j * 3 + 1 : Nat) : Int)), (q + ((j * 3 + 2 : Nat) : Int))⟩
theorem marksSt_len (q : Int) (n : Nat) : (marksSt q n).length = n := by simp [marksSt]
theorem marksSt_succ (q : Int) (n : Nat) : marksSt q (n + 1) = marksSt q n ++ [⟨(q + ((n * 3 + 0 : Nat) : Int)), (q + ((n * 3 + 1 : Nat) : Int)), (q + ((n * 3 + 2 : Nat) : Int))⟩] := by simp [marksSt, List.range_succ]
theorem marksSt_take (q : Int) (n j : Nat) (h : j ≤ n) : (marksSt q n).take j = marksSt q j := by simp [marksSt, ← List.map_take, List.take_range, Nat.min_eq_left h]
theorem marksSt_D (q : Int) (n j : Nat) (h : j < n) : stD (marksSt q n) j = ⟨(q + ((j * 3 + 0 : Nat) : Int)), (q + ((j * 3 + 1 : Nat) : Int)), (q + ((j * 3 + 2 : Nat) : Int))⟩ := by simp [stD, marksSt, h]
set_option maxHeartbeats 1000000 in
theorem markStepS_any (base : Nat) (v : Value) (n : Nat) (xs : List Value) (q : Int) (w : World) (hn : n ≤ 1048576) (hk : 0 ≤ q) (hk' : q ≤ 1099511627776) (h : w.ownsRow base 136 3 v n xs) :
    Calls Try.prog 81 #[v, .int .i64 q] w fun e w' => e = .returned (.int .i64 (q + ((n * 3 : Nat) : Int))) ∧ w'.ownsRow base 136 3 v n (flatSt (marksSt q n)) ∧ w.grownBy w' v.ownBlock := by
  rcases h.2 with ⟨rfl, hn0⟩ | ⟨g, cap, cur, rfl, hg, hh, hnc, hcm, hcs, ht⟩
  · subst hn0
    clear h
    go_enter Try.func81, Try.ntmps81
    go_wp2
    refine wp_loop_rounds 1 ?_
    rw [rounds_succ]
    go_wp2
    go_ret
    exact ⟨ret_int (by simp), World.ownsRow_nil _ _ _ _, grown_refl _ _⟩
  · have HH := Lib.hid h
    clear h hh hnc hcm hcs ht
    go_enter Try.func81, Try.ntmps81
    go_wp2
    go_loopw [1, 5] (fun p i wr => ∃ (j : Nat) (ys : List Value), j ≤ n ∧ i = .int .i64 j ∧ p = .int .i64 (q + ((j * 3 : Nat) : Int)) ∧ wr.ownsRow base 136 3 (.slice (some ⟨g, 0, none⟩) n cap) n ys ∧ ys.take (j * 3) = flatSt (marksSt q j) ∧ w.grownBy wr (some g))
      (fun _ i _ => n - (intOf i).toNat)
    case atStart => exact ⟨0, xs, Nat.zero_le _, rfl, by simp, HH.out, by simp [flatSt, marksSt], grown_refl _ _⟩
    case round =>
      obtain ⟨j, ys, hj, rfl, rfl, hown, hys, hb⟩ := hrel
      have hly : ys.length = n * 3 := hown.1
      by_cases hlt : j < n
      · obtain ⟨y0, s0⟩ : ∃ y, wr.cell? ⟨g, j * 3, none⟩ = some y := ⟨ys[j * 3]'(by omega), by rw [hown.cellAt (j * 3) (by omega), List.getElem?_eq_getElem (show j * 3 < ys.length by omega)]⟩
        have z0 := hown.frozenAt (j * 3)
        obtain ⟨y1, s1⟩ : ∃ y, wr.cell? ⟨g, j * 3 + 1, none⟩ = some y := ⟨ys[j * 3 + 1]'(by omega), by rw [hown.cellAt (j * 3 + 1) (by omega), List.getElem?_eq_getElem (show j * 3 + 1 < ys.length by omega)]⟩
        have z1 := hown.frozenAt (j * 3 + 1)
        obtain ⟨y2, s2⟩ : ∃ y, wr.cell? ⟨g, j * 3 + 2, none⟩ = some y := ⟨ys[j * 3 + 2]'(by omega), by rw [hown.cellAt (j * 3 + 2) (by omega), List.getElem?_eq_getElem (show j * 3 + 2 < ys.length by omega)]⟩
        have z2 := hown.frozenAt (j * 3 + 2)
        obtain ⟨p, hp⟩ : ∃ p : Int, p = q + ((j * 3 : Nat) : Int) := ⟨_, rfl⟩
        rw [← hp]
        have hpl : 0 ≤ p := by omega
        have hpu : p ≤ 1099511627776 + 1048576 * 3 := by omega
        have HO2 := Lib.hid (owns_put hown (j * 3) [.int .i64 (p), .int .i64 (p + 1), .int .i64 (p + 1 + 1)] (by simp; omega))
        have HG2 := Lib.hid (grown_trans hb (putW_grown (b := g) [.int .i64 (p), .int .i64 (p + 1), .int .i64 (p + 1 + 1)] (j * 3) wr))
        have HX := Lib.hid hys
        have HLX := Lib.hid hly
        have HP := Lib.hid hp
        clear hown hys hb hly hp
        go_upto_region 9 with (fail)
        obtain ⟨wf, ewf⟩ : ∃ x, x = putW (wr) (g) (j * 3) [.int .i64 (p), .int .i64 (p + 1), .int .i64 (p + 1 + 1)] := ⟨_, rfl⟩
        have cwf := ewf.symm
        simp only [putW, Nat.add_assoc, Nat.reduceAdd] at cwf
        rw [cwf]
        clear cwf
        have HO3 := HO2.out
        have HG3 := HG2.out
        rw [← ewf] at HO3 HG3
        have HO4 := Lib.hid HO3
        have HG4 := Lib.hid HG3
        clear HO3 HG3 ewf HO2 HG2 s0 s1 s2 z0 z1 z2
        go_wp2
        go_roundw
        case rel =>
          refine ⟨j + 1, _, by omega, by go_num, ?_, HO4.out, ?_, HG4.out⟩
          · have := HP.out
            congr 1
            omega
          · have hp := HP.out
            rw [take_put (by have := HLX.out; omega) (by simp; omega), HX.out, marksSt_succ, flatSt_snoc]
            congr 1
            have e0 : q + ((j * 3 + 0 : Nat) : Int) = p := by rw [hp]; omega
            have e1 : q + ((j * 3 + 1 : Nat) : Int) = p + 1 := by rw [hp]; omega
            have e2 : q + ((j * 3 + 2 : Nat) : Int) = p + 1 + 1 := by rw [hp]; omega
            simp only [e0, e1, e2]
        case measure => simp [intOf]; omega
      · obtain rfl : j = n := by omega
        rw [List.take_of_length_le (by omega)] at hys
        subst hys
        have HO := Lib.hid hown
        clear hown hly
        go_wp2
        go_ret
        exact ⟨rfl, HO.out, hb⟩

set_option maxHeartbeats 1000000 in
theorem heldStepS_any (v : Value) (n : Nat) (q : Int) (w : World) (hn : n ≤ 1048576) (hk : 0 ≤ q) (hk' : q ≤ 1099511627776) (h : RdN w v n (flatSt (marksSt q n))) :
    Calls Try.prog 82 #[v, .int .i64 q] w fun e w' => e = .returned (.int .i64 (q + ((n * 3 : Nat) : Int))) ∧ w = w' := by
  have hl := marksSt_len q n
  rcases rd_sts (l := marksSt q n) (by rw [hl]; exact h) with ⟨hnil, a, cap, rfl⟩ | ⟨b, off, cap, hpos, rfl, hlt, hc⟩
  · have hn0 : n = 0 := by rw [hnil] at hl; simpa using hl.symm
    subst hn0
    clear h hnil hl
    go_enter Try.func82, Try.ntmps82
    go_wp2
    refine wp_loop_rounds 1 ?_
    rw [rounds_succ]
    go_wp2
    go_ret
    exact ⟨ret_int (by simp), rfl⟩
  · rw [hl] at hc ⊢
    have HC := Lib.hid hc
    clear h hl hpos hc
    go_enter Try.func82, Try.ntmps82
    go_wp2
    go_loop [1, 5] (fun p i => ∃ (j : Nat), j ≤ n ∧ i = .int .i64 j ∧ p = .int .i64 (q + ((j * 3 : Nat) : Int))) (fun _ i => n - (intOf i).toNat)
    case atStart => exact ⟨0, Nat.zero_le _, rfl, by simp⟩
    case round =>
      obtain ⟨j, hj, rfl, rfl⟩ := hrel
      by_cases hlt' : j < n
      · obtain ⟨r0, r1, r2⟩ := HC.out j hlt'
        rw [marksSt_D q n j hlt'] at r0 r1 r2
        obtain ⟨p, hp⟩ : ∃ p : Int, p = q + ((j * 3 : Nat) : Int) := ⟨_, rfl⟩
        rw [← hp]
        have e0 : q + ((j * 3 + 0 : Nat) : Int) = p := by rw [hp]; omega
        have e1 : q + ((j * 3 + 1 : Nat) : Int) = p + 1 := by rw [hp]; omega
        have e2 : q + ((j * 3 + 2 : Nat) : Int) = p + 1 + 1 := by rw [hp]; omega
        have hpl : 0 ≤ p := by omega
        have hpu : p ≤ 1099511627776 + 1048576 * 3 := by omega
        replace r0 : w.cell? ⟨b, off + j * 3, none⟩ = some (.int .i64 (p)) := by rw [← e0]; exact r0
        replace r1 : w.cell? ⟨b, off + j * 3 + 1, none⟩ = some (.int .i64 (p + 1)) := by rw [← e1]; exact r1
        replace r2 : w.cell? ⟨b, off + j * 3 + 2, none⟩ = some (.int .i64 (p + 1 + 1)) := by rw [← e2]; exact r2
        have HP := Lib.hid hp
        clear hp e0 e1 e2
        go_wp2
        go_round
        case rel => exact ⟨j + 1, by omega, by go_num, by have := HP.out; congr 1; omega⟩
        case measure => simp [intOf]; omega
      · obtain rfl : j = n := by omega
        go_wp2
        go_ret
        exact ⟨rfl, rfl⟩

end Go.Proofs.Yteljmfdlegohbaa
