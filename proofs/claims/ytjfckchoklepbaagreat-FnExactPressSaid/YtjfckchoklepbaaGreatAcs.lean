/- DERIVED. Actions as data; the laws' own functions on them and on slices of them: the size, a copy, two that are alike, marks. · Chapter 5's words as plain functions: the names of codes, modifiers, valid actions, their texts. No condition. · The reference's CodeName, CodeOf, FormatMods, ParseMods: each returns what a plain function says. -/
import Derived.Test.YtjfckchoklepbaaGreatCore
import Derived.Test.YtjfckchoklepbaaGreatInts
import Derived.WalkSmall
import Derived.Deep.RegionHeld3
import Derived.Deep.DeepCutAuto
import Derived.Test.YtjfckchoklepbaaGreatText
import Derived.Deep.AppendLies
namespace Go.Proofs.YtjfckchoklepbaaGreat
open Go.RowKit

/-- One Action. -/
structure Ac where
  k : Int
  c : Int
  m : Int
  n : Int
abbrev Ac.cells (e : Ac) : List Value := [.int .i64 e.k, .int .i64 e.c, .int .i64 e.m, .int .i64 e.n]
abbrev acv (k : Int) (c : Int) (m : Int) (n : Int) : Value := .agg #[.int .i64 k, .int .i64 c, .int .i64 m, .int .i64 n]
def flatAc (l : List Ac) : List Value := l.flatMap Ac.cells
theorem flatAc_len (l : List Ac) : (flatAc l).length = l.length * 4 := by
  induction l with
  | nil => rfl
  | cons e l ih => simp [flatAc] at ih ⊢; omega
theorem flatAc_snoc (l : List Ac) (e : Ac) : flatAc (l ++ [e]) = flatAc l ++ e.cells := by simp [flatAc]
theorem flatAc_one (l : List Ac) : ∀ u ∈ flatAc l, u.oneCell' = true := by
  intro u hu
  simp only [flatAc, List.mem_flatMap] at hu
  obtain ⟨e, _, hu⟩ := hu
  simp at hu
  rcases hu with rfl | rfl | rfl | rfl <;> rfl
def acD (l : List Ac) (j : Nat) : Ac := l.getD j ⟨0, 0, 0, 0⟩
theorem acD_take (l : List Ac) (j : Nat) (h : j < l.length) : l.take (j + 1) = l.take j ++ [acD l j] := by
  rw [List.take_succ_eq_append_getElem h, acD]; simp [List.getElem?_eq_getElem h]
theorem flatAc_get (l : List Ac) (j f : Nat) (hj : j < l.length) (hf : f < 4) : (flatAc l)[j * 4 + f]? = (acD l j).cells[f]? := by
  induction l generalizing j with
  | nil => simp at hj
  | cons e l ih =>
    have hc : flatAc (e :: l) = e.cells ++ flatAc l := by simp [flatAc]
    rw [hc]
    cases j with
    | zero => rw [List.getElem?_append_left (by simp; omega)]; simp [acD]
    | succ j =>
      rw [List.getElem?_append_right (by simp; omega)]
      rw [show (j + 1) * 4 + f - e.cells.length = j * 4 + f by simp; omega, ih j (by simpa using hj)]
      simp [acD]
/-- What a walk knows of a slice of these. -/
theorem rd_acs {w : World} {v : Value} {l : List Ac} (h : RdN w v l.length (flatAc l)) :
    (l = [] ∧ ∃ a cap, v = .slice a 0 cap) ∨ ∃ b off cap, 0 < l.length ∧ v = .slice (some ⟨b, off, none⟩) l.length cap ∧ b < w.heap.size ∧
      ∀ j, j < l.length → w.cell? ⟨b, off + j * 4, none⟩ = some (.int .i64 (acD l j).k) ∧ w.cell? ⟨b, off + j * 4 + 1, none⟩ = some (.int .i64 (acD l j).c) ∧ w.cell? ⟨b, off + j * 4 + 2, none⟩ = some (.int .i64 (acD l j).m) ∧ w.cell? ⟨b, off + j * 4 + 3, none⟩ = some (.int .i64 (acD l j).n) := by
  rcases h.cases with ⟨hx, a, cap, rfl⟩ | ⟨hx, b, off, cap, rfl, hlt, hc⟩
  · exact .inl ⟨List.eq_nil_of_length_eq_zero hx, a, cap, rfl⟩
  · refine .inr ⟨b, off, cap, hx, rfl, hlt, fun j hj => ?_⟩
    have key : ∀ f, f < 4 → w.cell? ⟨b, off + j * 4 + f, none⟩ = (acD l j).cells[f]? := fun f hf => by
      have hl : j * 4 + f < (flatAc l).length := by rw [flatAc_len]; omega
      rw [Nat.add_assoc, hc _ hl, ← List.getElem?_eq_getElem hl, flatAc_get l j f hj hf]
    exact ⟨by simpa using key 0 (by omega), by simpa using key 1 (by omega), by simpa using key 2 (by omega), by simpa using key 3 (by omega)⟩
theorem info_ac : (Tryz.prog.info? 41).map (fun i => (i.zero, i.size, i.bytes)) = some (some (.agg #[.int .i64 0, .int .i64 0, .int .i64 0, .int .i64 0]), 4, 32) := by kernel_rfl

theorem toAction_any (k : Int) (c : Int) (m : Int) (n : Int) (w : World) : Calls Tryz.prog 222 #[acv k c m n] w fun e w' => e = .returned (acv k c m n) ∧ Below w.heap.size w w' := by
  go_enter Tryz.func222, Tryz.ntmps222
  go_wp2
  refine bodyPost_ret (v := acv k c m n) (by simp [results, Tryz.results222, go_sem]) rfl ⟨rfl, ?_⟩
  exact (((Below.refl _ _).alloc (Nat.le_refl _) _).alloc (by simp) _).alloc (by simp; omega) _

theorem eqAction_same (k : Int) (c : Int) (m : Int) (n : Int) (w : World) : Calls Tryz.prog 225 #[acv k c m n, acv k c m n] w fun e w' => e = .returned (.bool true) ∧ Below w.heap.size w w' := by
  go_enter Tryz.func225, Tryz.ntmps225
  go_wp2
  go_ret
  exact ⟨rfl, ((Below.refl _ _).alloc (Nat.le_refl _) _).alloc (by simp) _⟩

set_option maxHeartbeats 1000000 in
theorem toActionS_any (v : Value) (l : List Ac) (w : World) (hl : l.length ≤ 1048576) (h : RdN w v l.length (flatAc l)) :
    Calls Tryz.prog 220 #[v] w fun e w' => ∃ u, e = .returned u ∧ w'.ownsRow w.heap.size 41 4 u l.length (flatAc l) ∧ Below w.heap.size w w' := by
  obtain ⟨i0, hi, hz0, hz1, hz2⟩ := info_parts info_ac
  rcases rd_acs h with ⟨rfl, a, cap, rfl⟩ | ⟨b, off, cap, hpos, rfl, hlt, hc⟩
  · clear h
    go_enter Tryz.func220, Tryz.ntmps220
    go_wp2_with (at_make; refine wpList_make_full w rfl _ _ 75 rfl w.heap.size 41 i0 (.agg #[.int .i64 0, .int .i64 0, .int .i64 0, .int .i64 0]) 4 Tryz.underlying75 hi hz0 hz1 .i64 .i64 0 0 0 rfl rfl rfl rfl (by simp) ?_ ?_ ?_)
    · simp [maxLen]
    · exact Nat.le_refl _
    · intro w1 hown hg
      go_wp2
      refine wp_loop_rounds 1 ?_
      rw [rounds_succ]
      go_wp2
      go_ret
      exact ⟨_, rfl, by simpa [madeCells, flatAc] using hown, (Below.refl _ _).grown hg (Nat.le_refl _) (fun k hk => by cases hk)⟩
  · have HC := Lib.hid hc
    clear h hc
    go_enter Tryz.func220, Tryz.ntmps220
    go_wp2_with (at_make; refine wpList_make_full w rfl _ _ 75 rfl w.heap.size 41 i0 (.agg #[.int .i64 0, .int .i64 0, .int .i64 0, .int .i64 0]) 4 Tryz.underlying75 hi hz0 hz1 .i64 .i64 _ _ l.length rfl rfl rfl rfl (by rw [hz2]; omega) ?_ ?_ ?_)
    · simp [maxLen]; omega
    · exact Nat.le_refl _
    · intro w1 hown hg
      go_wp2
      go_loopw [4] (fun i wr => ∃ (k : Nat) (xs : List Value), k ≤ l.length ∧ i = .int .i64 k ∧ wr.ownsRow w.heap.size 41 4 (.slice (some ⟨w.heap.size, 0, none⟩) l.length l.length) l.length xs ∧ xs.take (k * 4) = flatAc (l.take k) ∧ Below w.heap.size w wr)
        (fun i _ => l.length - (intOf i).toNat)
      case atStart => exact ⟨0, _, Nat.zero_le _, rfl, hown, by simp [flatAc], (Below.refl _ _).grown hg (Nat.le_refl _) (fun k hk => by cases hk)⟩
      case round =>
        obtain ⟨k, xs, hk, rfl, hown', hxs, hb⟩ := hrel
        have hlx : xs.length = l.length * 4 := hown'.1
        by_cases hlt' : k < l.length
        · obtain ⟨c0, c1, c2, c3⟩ := HC.out k hlt'
          obtain ⟨e, he⟩ : ∃ e, e = acD l k := ⟨_, rfl⟩
          rw [← he] at c0 c1 c2 c3
          have r0 := (hb.cell (p := ⟨b, off + k * 4, none⟩) hlt).trans c0
          have r1 := (hb.cell (p := ⟨b, off + k * 4 + 1, none⟩) hlt).trans c1
          have r2 := (hb.cell (p := ⟨b, off + k * 4 + 2, none⟩) hlt).trans c2
          have r3 := (hb.cell (p := ⟨b, off + k * 4 + 3, none⟩) hlt).trans c3
          have HO := Lib.hid hown'
          have HX := Lib.hid hxs
          have HB := Lib.hid hb
          have HLX := Lib.hid hlx
          have HE := Lib.hid he
          clear c0 c1 c2 c3 hown' hxs hb hlx he hown hg
          obtain ⟨x0, x1, x2, x3⟩ := e
          simp only at r0 r1 r2 r3
          go_wp2_with fail
          refine (toAction_any x0 x1 x2 x3 _).mono ?_
          rintro e w2 ⟨rfl, hb2⟩
          have ho2 := owns_below HO.out hb2
          obtain ⟨y0, s0⟩ : ∃ y, w2.cell? ⟨w.heap.size, k * 4, none⟩ = some y := ⟨xs[k * 4]'(by have := HLX.out; omega), by rw [ho2.cellAt (k * 4) (by omega), List.getElem?_eq_getElem (show k * 4 < xs.length by have := HLX.out; omega)]⟩
          have z0 := ho2.frozenAt (k * 4)
          obtain ⟨y1, s1⟩ : ∃ y, w2.cell? ⟨w.heap.size, k * 4 + 1, none⟩ = some y := ⟨xs[k * 4 + 1]'(by have := HLX.out; omega), by rw [ho2.cellAt (k * 4 + 1) (by omega), List.getElem?_eq_getElem (show k * 4 + 1 < xs.length by have := HLX.out; omega)]⟩
          have z1 := ho2.frozenAt (k * 4 + 1)
          obtain ⟨y2, s2⟩ : ∃ y, w2.cell? ⟨w.heap.size, k * 4 + 2, none⟩ = some y := ⟨xs[k * 4 + 2]'(by have := HLX.out; omega), by rw [ho2.cellAt (k * 4 + 2) (by omega), List.getElem?_eq_getElem (show k * 4 + 2 < xs.length by have := HLX.out; omega)]⟩
          have z2 := ho2.frozenAt (k * 4 + 2)
          obtain ⟨y3, s3⟩ : ∃ y, w2.cell? ⟨w.heap.size, k * 4 + 3, none⟩ = some y := ⟨xs[k * 4 + 3]'(by have := HLX.out; omega), by rw [ho2.cellAt (k * 4 + 3) (by omega), List.getElem?_eq_getElem (show k * 4 + 3 < xs.length by have := HLX.out; omega)]⟩
          have z3 := ho2.frozenAt (k * 4 + 3)
          have HO2 := Lib.hid (owns_put ho2 (k * 4) [.int .i64 x0, .int .i64 x1, .int .i64 x2, .int .i64 x3] (by have := HLX.out; simp; omega))
          have HB2 := Lib.hid (HB.out.trans (hb2.mono HB.out.size))
          clear hb2 ho2
          go_upto_region 4 with (fail)
          obtain ⟨wf, ewf⟩ : ∃ x, x = putW (w2) (w.heap.size) (k * 4) [.int .i64 x0, .int .i64 x1, .int .i64 x2, .int .i64 x3] := ⟨_, rfl⟩
          have cwf := ewf.symm
          simp only [putW, Nat.add_assoc, Nat.reduceAdd] at cwf
          rw [cwf]
          clear cwf
          have HO3 := HO2.out
          rw [← ewf] at HO3
          have HB3 := Lib.hid (show Below w.heap.size w wf by rw [ewf]; exact putW_below (Nat.le_refl _) _ _ _ HB2.out)
          have HO4 := Lib.hid HO3
          clear HO3 ewf HO2 s0 s1 s2 s3 z0 z1 z2 z3
          go_wp2
          go_roundw
          case rel =>
            refine ⟨k + 1, _, by omega, by go_num, HO4.out, ?_, HB3.out⟩
            rw [take_put (by have := HLX.out; omega) (by simp; omega), HX.out, acD_take l k hlt', flatAc_snoc, ← HE.out]
          case measure => simp [intOf]; omega
        · obtain rfl : k = l.length := by omega
          rw [List.take_of_length_le (by omega), List.take_of_length_le (Nat.le_refl _)] at hxs
          subst hxs
          have HO := Lib.hid hown'
          clear hown' hlx hown hg
          go_wp2
          go_ret
          exact ⟨_, rfl, HO.out, hb⟩

set_option maxHeartbeats 1000000 in
theorem eqActionS_same (va vb : Value) (l : List Ac) (w : World) (hl : l.length ≤ 1000000000000) (ha : RdN w va l.length (flatAc l)) (hb : RdN w vb l.length (flatAc l)) :
    Calls Tryz.prog 223 #[va, vb] w fun e w' => e = .returned (.bool true) ∧ Below w.heap.size w w' := by
  rcases rd_acs ha with ⟨rfl, a, cap, rfl⟩ | ⟨b, off, cap, hpos, rfl, hlt, hc⟩
  · obtain ⟨a2, cap2, rfl, _⟩ := hb
    clear ha
    go_enter Tryz.func223, Tryz.ntmps223
    go_wp2
    refine wp_loop_rounds 1 ?_
    rw [rounds_succ]
    go_wp2
    go_ret
    exact ⟨rfl, Below.refl _ _⟩
  · rcases rd_acs hb with ⟨hn, _⟩ | ⟨b2, off2, cap2, _, rfl, hlt2, hc2⟩
    · exfalso; rw [hn] at hpos; simp at hpos
    · have HC := Lib.hid hc
      have HC2 := Lib.hid hc2
      clear ha hb hc hc2
      go_enter Tryz.func223, Tryz.ntmps223
      go_wp2
      go_loopw [5] (fun i wr => ∃ k : Nat, k ≤ l.length ∧ i = .int .i64 k ∧ Below w.heap.size w wr) (fun i _ => l.length - (intOf i).toNat)
      case atStart => exact ⟨0, Nat.zero_le _, rfl, Below.refl _ _⟩
      case round =>
        obtain ⟨k, hk, rfl, hb⟩ := hrel
        by_cases hlt' : k < l.length
        · obtain ⟨c0, c1, c2, c3⟩ := HC.out k hlt'
          obtain ⟨d0, d1, d2, d3⟩ := HC2.out k hlt'
          obtain ⟨e, he⟩ : ∃ e, e = acD l k := ⟨_, rfl⟩
          rw [← he] at c0 d0 c1 d1 c2 d2 c3 d3
          have r0 := (hb.cell (p := ⟨b, off + k * 4, none⟩) hlt).trans c0
          have r1 := (hb.cell (p := ⟨b, off + k * 4 + 1, none⟩) hlt).trans c1
          have r2 := (hb.cell (p := ⟨b, off + k * 4 + 2, none⟩) hlt).trans c2
          have r3 := (hb.cell (p := ⟨b, off + k * 4 + 3, none⟩) hlt).trans c3
          have t0 := (hb.cell (p := ⟨b2, off2 + k * 4, none⟩) hlt2).trans d0
          have t1 := (hb.cell (p := ⟨b2, off2 + k * 4 + 1, none⟩) hlt2).trans d1
          have t2 := (hb.cell (p := ⟨b2, off2 + k * 4 + 2, none⟩) hlt2).trans d2
          have t3 := (hb.cell (p := ⟨b2, off2 + k * 4 + 3, none⟩) hlt2).trans d3
          have hbl : b < wr.heap.size := Nat.lt_of_lt_of_le hlt hb.size
          have hbl2 : b2 < wr.heap.size := Nat.lt_of_lt_of_le hlt2 hb.size
          have HB := Lib.hid hb
          clear c0 d0 c1 d1 c2 d2 c3 d3 hb he
          obtain ⟨x0, x1, x2, x3⟩ := e
          simp only at r0 t0 r1 t1 r2 t2 r3 t3
          go_upto_region 6 with (fail)
          go_cut [26] (fun sd wx => sd = .bool false ∧ Below wr.heap.size wr wx)
          case first =>
            go_region_held3 (fun w' => w'.cell? ⟨b, off + k * 4, none⟩ = some (.int .i64 x0) ∧ w'.cell? ⟨b, off + k * 4 + 1, none⟩ = some (.int .i64 x1) ∧ w'.cell? ⟨b, off + k * 4 + 2, none⟩ = some (.int .i64 x2) ∧ w'.cell? ⟨b, off + k * 4 + 3, none⟩ = some (.int .i64 x3) ∧ w'.cell? ⟨b2, off2 + k * 4, none⟩ = some (.int .i64 x0) ∧ w'.cell? ⟨b2, off2 + k * 4 + 1, none⟩ = some (.int .i64 x1) ∧ w'.cell? ⟨b2, off2 + k * 4 + 2, none⟩ = some (.int .i64 x2) ∧ w'.cell? ⟨b2, off2 + k * 4 + 3, none⟩ = some (.int .i64 x3)) (first | go_keep)
              (first | (go_at_call 225; refine (eqAction_same x0 x1 x2 x3 _).mono ?_; rintro e v1 ⟨rfl, hb1⟩; have hbr : Below wr.heap.size wr v1 := (by first | exact hb1 | exact ((Below.refl _ _).drew).trans hb1 | exact ((Below.refl _ _).drew.drew).trans hb1); have kr0 := (hbr.cell (p := ⟨b, off + k * 4, none⟩) hbl).trans r0; have kr1 := (hbr.cell (p := ⟨b, off + k * 4 + 1, none⟩) hbl).trans r1; have kr2 := (hbr.cell (p := ⟨b, off + k * 4 + 2, none⟩) hbl).trans r2; have kr3 := (hbr.cell (p := ⟨b, off + k * 4 + 3, none⟩) hbl).trans r3; have kt0 := (hbr.cell (p := ⟨b2, off2 + k * 4, none⟩) hbl2).trans t0; have kt1 := (hbr.cell (p := ⟨b2, off2 + k * 4 + 1, none⟩) hbl2).trans t1; have kt2 := (hbr.cell (p := ⟨b2, off2 + k * 4 + 2, none⟩) hbl2).trans t2; have kt3 := (hbr.cell (p := ⟨b2, off2 + k * 4 + 3, none⟩) hbl2).trans t3; have HBR := Lib.hid hbr; clear hbr hb1))
            all_goals
              go_wp2
              go_meet
              exact ⟨rfl, by first | exact HBR.out | exact HBR.out.drew⟩
          case rest =>
            obtain ⟨rfl, hb⟩ := hcut
            have HB2 := Lib.hid (HB.out.trans (hb.mono HB.out.size))
            clear hb r0 t0 r1 t1 r2 t2 r3 t3
            go_wp2
            go_roundw
            case rel => exact ⟨k + 1, by omega, by go_num, HB2.out⟩
            case measure => simp [intOf]; omega
        · obtain rfl : k = l.length := by omega
          go_wp2
          go_ret
          exact ⟨rfl, hb⟩

/-- The marks that a law writes into n of them, counted from q on. -/
def marksAc (q : Int) (n : Nat) : List Ac := (List.range n).map fun (j : Nat) => ⟨(q + ((j * 4 + 0 : Nat) : Int)), (q + ((j * 4 + 1 : Nat) : Int)), (q + ((j * 4 + 2 : Nat) : Int)), (q + ((j * 4 + 3 : Nat) : Int))⟩
theorem marksAc_len (q : Int) (n : Nat) : (marksAc q n).length = n := by simp [marksAc]
theorem marksAc_succ (q : Int) (n : Nat) : marksAc q (n + 1) = marksAc q n ++ [⟨(q + ((n * 4 + 0 : Nat) : Int)), (q + ((n * 4 + 1 : Nat) : Int)), (q + ((n * 4 + 2 : Nat) : Int)), (q + ((n * 4 + 3 : Nat) : Int))⟩] := by simp [marksAc, List.range_succ]
theorem marksAc_take (q : Int) (n j : Nat) (h : j ≤ n) : (marksAc q n).take j = marksAc q j := by simp [marksAc, ← List.map_take, List.take_range, Nat.min_eq_left h]
theorem marksAc_D (q : Int) (n j : Nat) (h : j < n) : acD (marksAc q n) j = ⟨(q + ((j * 4 + 0 : Nat) : Int)), (q + ((j * 4 + 1 : Nat) : Int)), (q + ((j * 4 + 2 : Nat) : Int)), (q + ((j * 4 + 3 : Nat) : Int))⟩ := by simp [acD, marksAc, h]
set_option maxHeartbeats 1000000 in
theorem markActionS_any (base : Nat) (v : Value) (n : Nat) (xs : List Value) (q : Int) (w : World) (hn : n ≤ 1048576) (hk : 0 ≤ q) (hk' : q ≤ 1099511627776) (h : w.ownsRow base 41 4 v n xs) :
    Calls Tryz.prog 226 #[v, .int .i64 q] w fun e w' => e = .returned (.int .i64 (q + ((n * 4 : Nat) : Int))) ∧ w'.ownsRow base 41 4 v n (flatAc (marksAc q n)) ∧ w.grownBy w' v.ownBlock := by
  rcases h.2 with ⟨rfl, hn0⟩ | ⟨g, cap, cur, rfl, hg, hh, hnc, hcm, hcs, ht⟩
  · subst hn0
    clear h
    go_enter Tryz.func226, Tryz.ntmps226
    go_wp2
    refine wp_loop_rounds 1 ?_
    rw [rounds_succ]
    go_wp2
    go_ret
    exact ⟨ret_int (by simp), World.ownsRow_nil _ _ _ _, grown_refl _ _⟩
  · have HH := Lib.hid h
    clear h hh hnc hcm hcs ht
    go_enter Tryz.func226, Tryz.ntmps226
    go_wp2
    go_loopw [1, 5] (fun p i wr => ∃ (j : Nat) (ys : List Value), j ≤ n ∧ i = .int .i64 j ∧ p = .int .i64 (q + ((j * 4 : Nat) : Int)) ∧ wr.ownsRow base 41 4 (.slice (some ⟨g, 0, none⟩) n cap) n ys ∧ ys.take (j * 4) = flatAc (marksAc q j) ∧ w.grownBy wr (some g))
      (fun _ i _ => n - (intOf i).toNat)
    case atStart => exact ⟨0, xs, Nat.zero_le _, rfl, by simp, HH.out, by simp [flatAc, marksAc], grown_refl _ _⟩
    case round =>
      obtain ⟨j, ys, hj, rfl, rfl, hown, hys, hb⟩ := hrel
      have hly : ys.length = n * 4 := hown.1
      by_cases hlt : j < n
      · obtain ⟨y0, s0⟩ : ∃ y, wr.cell? ⟨g, j * 4, none⟩ = some y := ⟨ys[j * 4]'(by omega), by rw [hown.cellAt (j * 4) (by omega), List.getElem?_eq_getElem (show j * 4 < ys.length by omega)]⟩
        have z0 := hown.frozenAt (j * 4)
        obtain ⟨y1, s1⟩ : ∃ y, wr.cell? ⟨g, j * 4 + 1, none⟩ = some y := ⟨ys[j * 4 + 1]'(by omega), by rw [hown.cellAt (j * 4 + 1) (by omega), List.getElem?_eq_getElem (show j * 4 + 1 < ys.length by omega)]⟩
        have z1 := hown.frozenAt (j * 4 + 1)
        obtain ⟨y2, s2⟩ : ∃ y, wr.cell? ⟨g, j * 4 + 2, none⟩ = some y := ⟨ys[j * 4 + 2]'(by omega), by rw [hown.cellAt (j * 4 + 2) (by omega), List.getElem?_eq_getElem (show j * 4 + 2 < ys.length by omega)]⟩
        have z2 := hown.frozenAt (j * 4 + 2)
        obtain ⟨y3, s3⟩ : ∃ y, wr.cell? ⟨g, j * 4 + 3, none⟩ = some y := ⟨ys[j * 4 + 3]'(by omega), by rw [hown.cellAt (j * 4 + 3) (by omega), List.getElem?_eq_getElem (show j * 4 + 3 < ys.length by omega)]⟩
        have z3 := hown.frozenAt (j * 4 + 3)
        obtain ⟨p, hp⟩ : ∃ p : Int, p = q + ((j * 4 : Nat) : Int) := ⟨_, rfl⟩
        rw [← hp]
        have hpl : 0 ≤ p := by omega
        have hpu : p ≤ 1099511627776 + 1048576 * 4 := by omega
        have HO2 := Lib.hid (owns_put hown (j * 4) [.int .i64 (p), .int .i64 (p + 1), .int .i64 (p + 1 + 1), .int .i64 (p + 1 + 1 + 1)] (by simp; omega))
        have HG2 := Lib.hid (grown_trans hb (putW_grown (b := g) [.int .i64 (p), .int .i64 (p + 1), .int .i64 (p + 1 + 1), .int .i64 (p + 1 + 1 + 1)] (j * 4) wr))
        have HX := Lib.hid hys
        have HLX := Lib.hid hly
        have HP := Lib.hid hp
        clear hown hys hb hly hp
        go_upto_region 11 with (fail)
        obtain ⟨wf, ewf⟩ : ∃ x, x = putW (wr) (g) (j * 4) [.int .i64 (p), .int .i64 (p + 1), .int .i64 (p + 1 + 1), .int .i64 (p + 1 + 1 + 1)] := ⟨_, rfl⟩
        have cwf := ewf.symm
        simp only [putW, Nat.add_assoc, Nat.reduceAdd] at cwf
        rw [cwf]
        clear cwf
        have HO3 := HO2.out
        have HG3 := HG2.out
        rw [← ewf] at HO3 HG3
        have HO4 := Lib.hid HO3
        have HG4 := Lib.hid HG3
        clear HO3 HG3 ewf HO2 HG2 s0 s1 s2 s3 z0 z1 z2 z3
        go_wp2
        go_roundw
        case rel =>
          refine ⟨j + 1, _, by omega, by go_num, ?_, HO4.out, ?_, HG4.out⟩
          · have := HP.out
            congr 1
            omega
          · have hp := HP.out
            rw [take_put (by have := HLX.out; omega) (by simp; omega), HX.out, marksAc_succ, flatAc_snoc]
            congr 1
            have e0 : q + ((j * 4 + 0 : Nat) : Int) = p := by rw [hp]; omega
            have e1 : q + ((j * 4 + 1 : Nat) : Int) = p + 1 := by rw [hp]; omega
            have e2 : q + ((j * 4 + 2 : Nat) : Int) = p + 1 + 1 := by rw [hp]; omega
            have e3 : q + ((j * 4 + 3 : Nat) : Int) = p + 1 + 1 + 1 := by rw [hp]; omega
            simp only [e0, e1, e2, e3]
        case measure => simp [intOf]; omega
      · obtain rfl : j = n := by omega
        rw [List.take_of_length_le (by omega)] at hys
        subst hys
        have HO := Lib.hid hown
        clear hown hly
        go_wp2
        go_ret
        exact ⟨rfl, HO.out, hb⟩

set_option maxHeartbeats 1000000 in
theorem heldActionS_any (v : Value) (n : Nat) (q : Int) (w : World) (hn : n ≤ 1048576) (hk : 0 ≤ q) (hk' : q ≤ 1099511627776) (h : RdN w v n (flatAc (marksAc q n))) :
    Calls Tryz.prog 227 #[v, .int .i64 q] w fun e w' => e = .returned (.int .i64 (q + ((n * 4 : Nat) : Int))) ∧ w = w' := by
  have hl := marksAc_len q n
  rcases rd_acs (l := marksAc q n) (by rw [hl]; exact h) with ⟨hnil, a, cap, rfl⟩ | ⟨b, off, cap, hpos, rfl, hlt, hc⟩
  · have hn0 : n = 0 := by rw [hnil] at hl; simpa using hl.symm
    subst hn0
    clear h hnil hl
    go_enter Tryz.func227, Tryz.ntmps227
    go_wp2
    refine wp_loop_rounds 1 ?_
    rw [rounds_succ]
    go_wp2
    go_ret
    exact ⟨ret_int (by simp), rfl⟩
  · rw [hl] at hc ⊢
    have HC := Lib.hid hc
    clear h hl hpos hc
    go_enter Tryz.func227, Tryz.ntmps227
    go_wp2
    go_loop [1, 5] (fun p i => ∃ (j : Nat), j ≤ n ∧ i = .int .i64 j ∧ p = .int .i64 (q + ((j * 4 : Nat) : Int))) (fun _ i => n - (intOf i).toNat)
    case atStart => exact ⟨0, Nat.zero_le _, rfl, by simp⟩
    case round =>
      obtain ⟨j, hj, rfl, rfl⟩ := hrel
      by_cases hlt' : j < n
      · obtain ⟨r0, r1, r2, r3⟩ := HC.out j hlt'
        rw [marksAc_D q n j hlt'] at r0 r1 r2 r3
        obtain ⟨p, hp⟩ : ∃ p : Int, p = q + ((j * 4 : Nat) : Int) := ⟨_, rfl⟩
        rw [← hp]
        have e0 : q + ((j * 4 + 0 : Nat) : Int) = p := by rw [hp]; omega
        have e1 : q + ((j * 4 + 1 : Nat) : Int) = p + 1 := by rw [hp]; omega
        have e2 : q + ((j * 4 + 2 : Nat) : Int) = p + 1 + 1 := by rw [hp]; omega
        have e3 : q + ((j * 4 + 3 : Nat) : Int) = p + 1 + 1 + 1 := by rw [hp]; omega
        have hpl : 0 ≤ p := by omega
        have hpu : p ≤ 1099511627776 + 1048576 * 4 := by omega
        replace r0 : w.cell? ⟨b, off + j * 4, none⟩ = some (.int .i64 (p)) := by rw [← e0]; exact r0
        replace r1 : w.cell? ⟨b, off + j * 4 + 1, none⟩ = some (.int .i64 (p + 1)) := by rw [← e1]; exact r1
        replace r2 : w.cell? ⟨b, off + j * 4 + 2, none⟩ = some (.int .i64 (p + 1 + 1)) := by rw [← e2]; exact r2
        replace r3 : w.cell? ⟨b, off + j * 4 + 3, none⟩ = some (.int .i64 (p + 1 + 1 + 1)) := by rw [← e3]; exact r3
        have HP := Lib.hid hp
        clear hp e0 e1 e2 e3
        go_wp2
        go_round
        case rel => exact ⟨j + 1, by omega, by go_num, by have := HP.out; congr 1; omega⟩
        case measure => simp [intOf]; omega
      · obtain rfl : j = n := by omega
        go_wp2
        go_ret
        exact ⟨rfl, rfl⟩

theorem szActionS_any (a : Option Addr) (n cap : Nat) (left : Int) (w : World) (hl : 0 ≤ left) (hl' : left ≤ 1099511627776) (hn : n ≤ maxLen) : Calls Tryz.prog 219 #[.slice a n cap, .int .i64 left] w fun e w' => e = .returned (.int .i64 (if left < n then -1 else left - n)) ∧ w = w' := by
  unfold maxLen at hn
  by_cases h : left < (n : Int)
  · rw [if_pos h]
    go_enter Tryz.func219, Tryz.ntmps219
    go_wp2
    go_ret
    exact ⟨rfl, rfl⟩
  · rw [if_neg h]
    go_enter Tryz.func219, Tryz.ntmps219
    go_wp2
    go_ret
    exact ⟨rfl, rfl⟩
end Go.Proofs.YtjfckchoklepbaaGreat

namespace Go.Proofs.YtjfckchoklepbaaGreat
open Go.RowKit

abbrev nameStr : ByteArray := ⟨#[97, 32, 98, 32, 99, 32, 100, 32, 101, 32, 102, 32, 103, 32, 104, 32, 105, 32, 106, 32, 107, 32, 108, 32, 109, 32, 110, 32, 111, 32, 112, 32, 113, 32, 114, 32, 115, 32, 116, 32, 117, 32, 118, 32, 119, 32, 120, 32, 121, 32, 122, 32, 49, 32, 50, 32, 51, 32, 52, 32, 53, 32, 54, 32, 55, 32, 56, 32, 57, 32, 48, 32, 101, 110, 116, 101, 114, 32, 101, 115, 99, 32, 98, 97, 99, 107, 32, 116, 97, 98, 32, 115, 112, 97, 99, 101, 32, 109, 105, 110, 117, 115, 32, 101, 113, 117, 97, 108, 32, 108, 101, 102, 116, 32, 114, 105, 103, 104, 116, 32, 117, 112, 32, 100, 111, 119, 110, 32, 102, 49, 32, 102, 50, 32, 102, 51, 32, 102, 52, 32, 102, 53, 32, 102, 54, 32, 102, 55, 32, 102, 56, 32, 102, 57]⟩
def nms : List ByteArray := [⟨#[97]⟩, ⟨#[98]⟩, ⟨#[99]⟩, ⟨#[100]⟩, ⟨#[101]⟩, ⟨#[102]⟩, ⟨#[103]⟩, ⟨#[104]⟩, ⟨#[105]⟩, ⟨#[106]⟩, ⟨#[107]⟩, ⟨#[108]⟩, ⟨#[109]⟩, ⟨#[110]⟩, ⟨#[111]⟩, ⟨#[112]⟩, ⟨#[113]⟩, ⟨#[114]⟩, ⟨#[115]⟩, ⟨#[116]⟩, ⟨#[117]⟩, ⟨#[118]⟩, ⟨#[119]⟩, ⟨#[120]⟩, ⟨#[121]⟩, ⟨#[122]⟩, ⟨#[49]⟩, ⟨#[50]⟩, ⟨#[51]⟩, ⟨#[52]⟩, ⟨#[53]⟩, ⟨#[54]⟩, ⟨#[55]⟩, ⟨#[56]⟩, ⟨#[57]⟩, ⟨#[48]⟩, ⟨#[101, 110, 116, 101, 114]⟩, ⟨#[101, 115, 99]⟩, ⟨#[98, 97, 99, 107]⟩, ⟨#[116, 97, 98]⟩, ⟨#[115, 112, 97, 99, 101]⟩, ⟨#[109, 105, 110, 117, 115]⟩, ⟨#[101, 113, 117, 97, 108]⟩, ⟨#[108, 101, 102, 116]⟩, ⟨#[114, 105, 103, 104, 116]⟩, ⟨#[117, 112]⟩, ⟨#[100, 111, 119, 110]⟩, ⟨#[102, 49]⟩, ⟨#[102, 50]⟩, ⟨#[102, 51]⟩, ⟨#[102, 52]⟩, ⟨#[102, 53]⟩, ⟨#[102, 54]⟩, ⟨#[102, 55]⟩, ⟨#[102, 56]⟩, ⟨#[102, 57]⟩]
set_option maxRecDepth 1000000 in
set_option maxHeartbeats 4000000 in
theorem parts_names : parts nameStr 32 = nms := by kernel_rfl
theorem nms_len : nms.length = 56 := rfl
/-- The name of a code. -/
def nmV (c : Int) : ByteArray := if inB c 1 56 = true then nms.getD (c.toNat - 1) ⟨#[]⟩ else ⟨#[]⟩
/-- The first code up to k with the name s, 0 if there is none. -/
def codeN (s : ByteArray) : Nat → Nat
  | 0 => 0
  | k + 1 => if codeN s k = 0 then (if nmV ((k + 1 : Nat) : Int) = s then k + 1 else 0) else codeN s k
def codeV (s : ByteArray) : Nat := codeN s 56
theorem codeN_hit {s : ByteArray} {k : Nat} (h : codeN s k = 0) (hn : nmV ((k + 1 : Nat) : Int) = s) : ∀ m, k < m → codeN s m = k + 1
  | 0, hm => absurd hm (Nat.not_lt_zero _)
  | m + 1, hm => by
    rcases Nat.lt_or_ge k m with h2 | h2
    · rw [codeN, codeN_hit h hn m h2, if_neg (by omega)]
    · obtain rfl : k = m := by omega
      rw [codeN, if_pos h, if_pos hn]
theorem codeN_miss {s : ByteArray} {k : Nat} (h : codeN s k = 0) (hn : ¬ nmV ((k + 1 : Nat) : Int) = s) : codeN s (k + 1) = 0 := by rw [codeN, if_pos h, if_neg hn]
theorem codeN_le (s : ByteArray) : ∀ k, codeN s k ≤ k
  | 0 => Nat.le_refl _
  | k + 1 => by rw [codeN]; have := codeN_le s k; split <;> (try split) <;> omega
abbrev csag : ByteArray := ⟨#[67, 83, 65, 71]⟩
/-- The letters of the modifiers below number n. -/
def mdN (m : Nat) : Nat → ByteArray
  | 0 => ⟨#[]⟩
  | k + 1 => if m.testBit k = true then mdN m k ++ csag.extract k (k + 1) else mdN m k
def mdV (m : Int) : ByteArray := if inB m 1 15 = true then mdN m.toNat 4 else ⟨#[]⟩
def pmN (s : ByteArray) : Nat → Nat
  | 0 => 0
  | k + 1 => if pmN s k = 0 then (if mdV ((k + 1 : Nat) : Int) = s then k + 1 else 0) else pmN s k
def pmV (s : ByteArray) : Nat := pmN s 15
theorem pmN_hit {s : ByteArray} {k : Nat} (h : pmN s k = 0) (hn : mdV ((k + 1 : Nat) : Int) = s) : ∀ m, k < m → pmN s m = k + 1
  | 0, hm => absurd hm (Nat.not_lt_zero _)
  | m + 1, hm => by
    rcases Nat.lt_or_ge k m with h2 | h2
    · rw [pmN, pmN_hit h hn m h2, if_neg (by omega)]
    · obtain rfl : k = m := by omega
      rw [pmN, if_pos h, if_pos hn]
theorem pmN_miss {s : ByteArray} {k : Nat} (h : pmN s k = 0) (hn : ¬ mdV ((k + 1 : Nat) : Int) = s) : pmN s (k + 1) = 0 := by rw [pmN, if_pos h, if_neg hn]
theorem pmN_le (s : ByteArray) : ∀ k, pmN s k ≤ k
  | 0 => Nat.le_refl _
  | k + 1 => by rw [pmN]; have := pmN_le s k; split <;> (try split) <;> omega
theorem mdN_size (m : Nat) : ∀ k, (mdN m k).size ≤ k
  | 0 => Nat.le_refl _
  | k + 1 => by
    rw [mdN]
    have h := mdN_size m k
    split
    · rw [ByteArray.size_append, ByteArray.size_extract]; omega
    · omega
theorem mdV_size (m : Int) : (mdV m).size ≤ 4 := by
  unfold mdV; split
  · exact mdN_size _ 4
  · exact Nat.zero_le _
theorem nmV_size (c : Int) : (nmV c).size ≤ 5 := by
  unfold nmV
  split
  · have h : ∀ s ∈ nms, s.size ≤ 5 := by decide
    rw [List.getD_eq_getElem?_getD]
    rcases hc : nms[c.toNat - 1]? with _ | p
    · exact Nat.zero_le _
    · exact h p (List.mem_of_getElem? hc)
  · exact Nat.zero_le _
theorem lit_ne {x : ByteArray} (l : List UInt8) (h : x ≠ ⟨l.toArray⟩) : (x.toList == l) = false := by
  have := toList_ne h
  rwa [ByteArray.toList_eq ⟨l.toArray⟩, List.toList_toArray] at this
theorem lit_eq {x : ByteArray} (l : List UInt8) (h : x = ⟨l.toArray⟩) : (x.toList == l) = true := by
  rw [h, ByteArray.toList_eq, List.toList_toArray]; simp
theorem ret_tx {a b : ByteArray} (h : a = b) : Ending.returned (.string a) = .returned (.string b) := by rw [h]
/-- Valid actions. -/
def okAc (k c m n : Int) : Bool :=
  if k = 0 ∨ k = 1 ∨ k = 10 then decide (c = 0) && (decide (m = 0) && decide (n = 0))
  else if k = 2 then decide (n = 0) && ((inB c 1 56 || (decide (c = 0) && inB m 1 15)) && (inB m 1 15 || decide (m = 0)))
  else if k = 3 ∨ k = 4 then inB n 1 3 && (decide (c = 0) && decide (m = 0))
  else if k = 5 ∨ k = 9 then inB n 0 3 && (decide (c = 0) && decide (m = 0))
  else if k = 6 then inB c 1 56 && (inB m 1 15 && decide (n = 0))
  else if k = 7 then inB c 1 56 && (inB n 1 3 && decide (m = 0))
  else if k = 8 then inB m 1 15 && (decide (c = 0) && decide (n = 0))
  else false
def holdAc (k c m n : Int) : Bool := okAc k c m n && decide (k = 6 ∨ k = 7)
def tapR (a : Ac) : Ac := if holdAc a.k a.c a.m a.n = true then ⟨2, a.c, 0, 0⟩ else a
def holdR (a : Ac) : Ac := if holdAc a.k a.c a.m a.n = true then (if a.k = 6 then ⟨2, 0, a.m, 0⟩ else ⟨3, 0, 0, a.n⟩) else a
end Go.Proofs.YtjfckchoklepbaaGreat

namespace Go.Proofs.YtjfckchoklepbaaGreat
open Go.RowKit

end Go.Proofs.YtjfckchoklepbaaGreat
