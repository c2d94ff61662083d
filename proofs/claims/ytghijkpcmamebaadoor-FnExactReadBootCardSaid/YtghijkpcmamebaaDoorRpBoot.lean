/- DERIVED. The program's boot bytes: placesOf, keysAt, the copy of a list, BootBytes and ReadBoot, where the table of crowded places is as its text lays it. · The program's BootBytes and ReadBoot: a report's boot bytes, and the report that a host takes from bytes, where the table of crowded places is as its text lays it. · The program's ReadBoot: the report that a host takes from bytes, where the table of crowded places is as its text lays it. -/
import Derived.Test.YtghijkpcmamebaaDoorRpImpl
import Derived.Test.YtghijkpcmamebaaDoorRpMath
import Derived.Test.YtghijkpcmamebaaDoorRpLaw2
import Derived.Lib.LaidTab
import Derived.Deep.RegionLaw
import Derived.Laws.CopyOwn
import Derived.Laws.StructEq
import Derived.Stop.BytesEq
import Derived.Laws.Rows
import Derived.Lib.SliceRun
import Derived.Deep.AppendLies
import Derived.Deep.RegionHeld3
namespace Go.Proofs.YtghijkpcmamebaaDoor
open Go.RowKit

/-! The plain functions: the places of boot bytes. -/
def plF (b : List Int) (i : Nat) : Int := b.getD (i + 2) 0
/-- The codes at the first places. -/
def ksN (f : Nat → Int) : Nat → List Int
  | 0 => []
  | k + 1 => if 3 < f k then ksN f k ++ [f k - 3] else ksN f k
theorem ksN_len (f : Nat → Int) : ∀ k, (ksN f k).length ≤ k
  | 0 => Nat.le_refl _
  | k + 1 => by
    have := ksN_len f k
    rw [ksN]; split
    · simp; omega
    · omega
def allOne (b : List Int) : Bool := decide (plF b 0 = 1 ∧ plF b 1 = 1 ∧ plF b 2 = 1 ∧ plF b 3 = 1 ∧ plF b 4 = 1 ∧ plF b 5 = 1)
def sameAt (zs : List Int) (b : List Int) : Bool := decide (bootAt zs 0 = plF b 0 ∧ bootAt zs 1 = plF b 1 ∧ bootAt zs 2 = plF b 2 ∧ bootAt zs 3 = plF b 3 ∧ bootAt zs 4 = plF b 4 ∧ bootAt zs 5 = plF b 5)
/-- What the program reads of boot bytes. -/
def pbV (b : List Int) (rl : Int) (zl : List Int) : Rpr := if b.length = 8 ∧ b.getD 0 0 ≤ 15 ∧ b.getD 1 0 = 0 ∧ okRp rl zl = true then (if allOne b = true then ⟨b.getD 0 0, zl, true⟩ else if okRp (b.getD 0 0) (ksN (plF b) 6) = true ∧ sameAt (ksN (plF b) 6) b = true then ⟨b.getD 0 0, ksN (plF b) 6, true⟩ else ⟨0, [], false⟩) else ⟨0, [], false⟩
theorem bOnes_all {b : List Int} : ∀ k, bOnes b k = k → ∀ i, i < k → b.getD (i + 2) 0 = 1
  | 0, _, i, hi => absurd hi (Nat.not_lt_zero _)
  | k + 1, h, i, hi => by
    rw [bOnes] at h
    have hle := bOnes_le b k
    split at h
    · rename_i h1
      rcases Nat.lt_or_ge i k with h2 | h2
      · exact bOnes_all k (by omega) i h2
      · obtain rfl : i = k := by omega
        exact h1
    · omega
theorem bKeys_mem {b : List Int} : ∀ k i, i < k → b.getD (i + 2) 0 ≠ 0 → b.getD (i + 2) 0 - 3 ∈ bKeys b k
  | 0, i, hi, _ => absurd hi (Nat.not_lt_zero _)
  | k + 1, i, hi, h => by
    rw [bKeys]
    rcases Nat.lt_or_ge i k with h2 | h2
    · have := bKeys_mem k i h2 h
      split
      · exact List.mem_append_left _ this
      · exact this
    · obtain rfl : i = k := by omega
      rw [if_pos h]
      exact List.mem_append_right _ (List.mem_singleton_self _)
theorem ks_bKeys {b : List Int} (h : ∀ i, i < 6 → b.getD (i + 2) 0 ≠ 0 → 3 < b.getD (i + 2) 0) : ∀ k, k ≤ 6 → ksN (plF b) k = bKeys b k
  | 0, _ => rfl
  | k + 1, hk => by
    rw [ksN, bKeys, ks_bKeys h k (by omega), plF]
    by_cases h0 : b.getD (k + 2) 0 = 0
    · rw [if_neg (by omega), if_neg (fun e => e h0)]
    · rw [if_pos (h k (by omega) h0), if_pos h0]
theorem bHole_at {b : List Int} : ∀ m, bFine b m = true → ∀ i, i < m → bHole b i = false
  | 0, _, i, hi => absurd hi (Nat.not_lt_zero _)
  | m + 1, h, i, hi => by
    rw [bFine, Bool.and_eq_true] at h
    rcases Nat.lt_or_ge i m with h2 | h2
    · exact bHole_at m h.1 i h2
    · obtain rfl : i = m := by omega
      simpa using h.2
theorem no_hole {b : List Int} (h : bFine b 6 = true) (i : Nat) (hi : i + 1 < 6) (h0 : plF b i = 0) : plF b (i + 1) = 0 := by
  have h1 := bHole_at 6 h (i + 1) hi
  rw [bHole] at h1
  by_cases h2 : plF b (i + 1) = 0
  · exact h2
  · exfalso
    have h3 : b.getD (i + 1 + 2) 0 ≠ 0 := h2
    have h4 : b.getD (i + 1 + 1) 0 = 0 := h0
    rw [decide_eq_true h3, decide_eq_true h4, decide_eq_true (show 0 < i + 1 by omega)] at h1
    exact absurd h1 (by decide)
theorem keys_same {b : List Int} (h : bFine b 6 = true) : sameAt (bKeys b 6) b = true := by
  have n0 := no_hole h 0 (by omega)
  have n1 := no_hole h 1 (by omega)
  have n2 := no_hole h 2 (by omega)
  have n3 := no_hole h 3 (by omega)
  have n4 := no_hole h 4 (by omega)
  unfold sameAt plF bKeys at *
  simp only [Nat.zero_add, Nat.reduceAdd] at *
  obtain ⟨p0, e0⟩ : ∃ x, x = b.getD 2 0 := ⟨_, rfl⟩
  obtain ⟨p1, e1⟩ : ∃ x, x = b.getD 3 0 := ⟨_, rfl⟩
  obtain ⟨p2, e2⟩ : ∃ x, x = b.getD 4 0 := ⟨_, rfl⟩
  obtain ⟨p3, e3⟩ : ∃ x, x = b.getD 5 0 := ⟨_, rfl⟩
  obtain ⟨p4, e4⟩ : ∃ x, x = b.getD 6 0 := ⟨_, rfl⟩
  obtain ⟨p5, e5⟩ : ∃ x, x = b.getD 7 0 := ⟨_, rfl⟩
  simp only [bKeys, Nat.zero_add, Nat.reduceAdd]
  rw [← e0, ← e1] at n0
  rw [← e1, ← e2] at n1
  rw [← e2, ← e3] at n2
  rw [← e3, ← e4] at n3
  rw [← e4, ← e5] at n4
  rw [← e0, ← e1, ← e2, ← e3, ← e4, ← e5]
  clear e0 e1 e2 e3 e4 e5 h
  apply decide_eq_true
  by_cases h0 : p0 = 0
  · obtain rfl := n0 h0; obtain rfl := n1 rfl; obtain rfl := n2 rfl; obtain rfl := n3 rfl; obtain rfl := n4 rfl; subst h0; simp [bootAt]
  by_cases h1 : p1 = 0
  · obtain rfl := n1 h1; obtain rfl := n2 rfl; obtain rfl := n3 rfl; obtain rfl := n4 rfl; subst h1; simp [bootAt, h0]
  by_cases h2 : p2 = 0
  · obtain rfl := n2 h2; obtain rfl := n3 rfl; obtain rfl := n4 rfl; subst h2; simp [bootAt, h0, h1]
  by_cases h3 : p3 = 0
  · obtain rfl := n3 h3; obtain rfl := n4 rfl; subst h3; simp [bootAt, h0, h1, h2]
  by_cases h4 : p4 = 0
  · obtain rfl := n4 h4; subst h4; simp [bootAt, h0, h1, h2, h3]
  by_cases h5 : p5 = 0
  · subst h5; simp [bootAt, h0, h1, h2, h3, h4]
  · simp [bootAt, h0, h1, h2, h3, h4, h5]
theorem list8 {b : List Int} (h : b.length = 8) : b = [b.getD 0 0, b.getD 1 0, plF b 0, plF b 1, plF b 2, plF b 3, plF b 4, plF b 5] := by
  rcases b with _ | ⟨x0, _ | ⟨x1, _ | ⟨x2, _ | ⟨x3, _ | ⟨x4, _ | ⟨x5, _ | ⟨x6, _ | ⟨x7, _ | ⟨x8, l⟩⟩⟩⟩⟩⟩⟩⟩⟩ <;> first | rfl | (simp at h)
theorem pbV_eq {b : List Int} (rl : Int) (zl : List Int) : pbV b rl zl = rbV b rl zl := by
  by_cases h : b.length = 8 ∧ b.getD 0 0 ≤ 15 ∧ b.getD 1 0 = 0 ∧ okRp rl zl = true
  · rw [pbV, if_pos h]
    obtain ⟨h8, h15, h1, hok⟩ := h
    by_cases ha : allOne b = true
    · rw [if_pos ha]
      have hb := of_decide_eq_true ha
      unfold plF at hb
      simp only [Nat.zero_add, Nat.reduceAdd] at hb
      simp only [List.getD_eq_getElem?_getD] at hb
      obtain ⟨a0, a1, a2, a3, a4, a5⟩ := hb
      have hf : bFine b 6 = true := by simp [bFine, bHole, a0, a1, a2, a3, a4, a5]
      have ho : bOnes b 6 = 6 := by simp [bOnes, a0, a1, a2, a3, a4, a5]
      rw [rbV, if_pos ⟨h8, h15, h1, hok, hf⟩, rbEnd, if_pos ho]
    · rw [if_neg ha]
      by_cases hk : okRp (b.getD 0 0) (ksN (plF b) 6) = true ∧ sameAt (ksN (plF b) 6) b = true
      · rw [if_pos hk]
        obtain ⟨hk1, hk2⟩ := hk
        obtain ⟨s0, s1, s2, s3, s4, s5⟩ := of_decide_eq_true hk2
        have hbb : bbV (b.getD 0 0) (ksN (plF b) 6) = b := by
          rw [bbV, if_pos hk1]
          show [b.getD 0 0, 0, bootAt _ 0, bootAt _ 1, bootAt _ 2, bootAt _ 3, bootAt _ 4, bootAt _ 5] = b
          rw [s0, s1, s2, s3, s4, s5]
          have h9 := list8 h8
          rw [h1] at h9
          exact h9.symm
        have hl := ksN_len (plF b) 6
        have := rbV_bbV (b.getD 0 0) (ksN (plF b) 6) rl zl hk1 hok
        rw [hbb, if_neg (by omega)] at this
        rw [this]
      · rw [if_neg hk, rbV]
        split
        · rename_i hc
          have hf := hc.2.2.2.2
          rw [rbEnd]
          have hno : bOnes b 6 ≠ 6 := fun e => ha (by
            have hall := bOnes_all 6 e
            exact decide_eq_true ⟨hall 0 (by omega), hall 1 (by omega), hall 2 (by omega), hall 3 (by omega), hall 4 (by omega), hall 5 (by omega)⟩)
          rw [if_neg hno]
          split
          · rename_i hr
            exfalso
            have hz := (okRp_at hr).2
            have h3 : ∀ i, i < 6 → b.getD (i + 2) 0 ≠ 0 → 3 < b.getD (i + 2) 0 := fun i hi h0 => by
              obtain ⟨q, hq, e⟩ := List.getElem_of_mem (bKeys_mem 6 i hi h0)
              have h4 := hz q hq
              rw [List.getD_eq_getElem?_getD, List.getElem?_eq_getElem hq] at h4
              have h5 : 1 ≤ (bKeys b 6)[q] := h4.1
              omega
            rw [ks_bKeys h3 6 (Nat.le_refl _)] at hk
            exact hk ⟨hr, keys_same hf⟩
          · rfl
        · rfl
  · rw [pbV, if_neg h, rbV, if_neg (fun e => h ⟨e.1, e.2.1, e.2.2.1, e.2.2.2.1⟩)]

theorem run_index_pl {P : Program} {ty e : TypeId} {n : Nat} {cs : Array Value} {j : Nat} {v : Value} (hu : P.underlying ty = some (.array n e)) (hj : j < n) (ha : ∀ w, (isAgg e).run P w = .ok false w) (hz : ∀ w, (sizeOf e).run P w = .ok 1 w) (hv : cs[j]? = some v) (w : World) :
    (Instr.index ty (.agg cs) (.int .i64 (j : Int))).run P w = .ok v w := by
  have h1 : (0 : Int) ≤ (j : Int) ∧ (j : Int) < (n : Int) := by omega
  simp [Instr.index, run_underlying hu, asIntOf, hj, part, ha, hz, hv]
theorem add_block7 (a : Addr) (j : Nat) : (a.add j).block = a.block := by unfold Addr.add; split <;> rfl
theorem block_lt_of_cell7 {w : World} {a : Addr} {j : Nat} {v : Value} (h : w.cell? (a.add j) = some v) : a.block < w.heap.size := by
  have := block_lt_of_cell h
  rwa [add_block7] at this
/-! The table of crowded places. -/
def CrH (w : World) (g : Nat) : Prop := ∃ t fr, w.heap[g]? = some (.cells #[.int .u8 1, .int .u8 1, .int .u8 1, .int .u8 1, .int .u8 1, .int .u8 1] t fr)
theorem CrH.lt {w : World} {g : Nat} (h : CrH w g) : g < w.heap.size := by
  obtain ⟨t, fr, h⟩ := h
  exact (Array.getElem?_eq_some_iff.1 h).1
theorem CrH.below {w w' : World} {B g : Nat} (h : CrH w g) (hb : Below B w w') (hg : g < B) : CrH w' g := by
  obtain ⟨t, fr, h⟩ := h
  exact ⟨t, fr, (hb.block g hg).trans h⟩
theorem CrH.cell {w : World} {g : Nat} (h : CrH w g) {j : Nat} (hj : j < 6) : w.cell? ⟨g, j, none⟩ = some (.int .u8 1) := by
  obtain ⟨t, fr, h⟩ := h
  rw [cell_of_row w g j _ t fr h]
  have : j = 0 ∨ j = 1 ∨ j = 2 ∨ j = 3 ∨ j = 4 ∨ j = 5 := by omega
  rcases this with rfl | rfl | rfl | rfl | rfl | rfl <;> rfl
theorem crH_of {w : World} {name : String} {g : Nat} (hg : Tryd.prog.globalNamed name = some g) (h : Lib.TabIs Tryd.prog w name .u8 [1, 1, 1, 1, 1, 1]) : CrH w g := by
  unfold Lib.TabIs World.var? at h
  rw [hg] at h
  simp only [Option.bind_some] at h
  split at h
  · rename_i c t2 fr hh
    simp only [Option.some.injEq] at h
    exact ⟨t2, fr, by rw [hh, h]; rfl⟩
  · cases h

/-- A block that holds six places. -/
def PlH (w : World) (g : Nat) (f : Nat → Int) : Prop := w.heap[g]? = some (.cells #[.int .u8 (f 0), .int .u8 (f 1), .int .u8 (f 2), .int .u8 (f 3), .int .u8 (f 4), .int .u8 (f 5)] 63 (0, 0))
theorem PlH.congr {w : World} {g : Nat} {f f' : Nat → Int} (h : PlH w g f) (e : ∀ i, i < 6 → f i = f' i) : PlH w g f' := by
  unfold PlH at h ⊢
  rw [h, e 0 (by omega), e 1 (by omega), e 2 (by omega), e 3 (by omega), e 4 (by omega), e 5 (by omega)]
theorem PlH.cell {w : World} {g : Nat} {f : Nat → Int} (h : PlH w g f) {j : Nat} (hj : j < 6) : w.cell? ⟨g, j, none⟩ = some (.int .u8 (f j)) ∧ w.frozen? ⟨g, j, none⟩ = false := by
  refine ⟨?_, frozen_of_row w g j _ _ h⟩
  rw [cell_of_row w g j _ _ _ h]
  have : j = 0 ∨ j = 1 ∨ j = 2 ∨ j = 3 ∨ j = 4 ∨ j = 5 := by omega
  rcases this with rfl | rfl | rfl | rfl | rfl | rfl <;> rfl
theorem PlH.block {w w' : World} {g : Nat} {f : Nat → Int} (h : PlH w g f) (hb : w'.heap[g]? = w.heap[g]?) : PlH w' g f := hb.trans h
theorem PlH.set {w : World} {g : Nat} {f : Nat → Int} (h : PlH w g f) {j : Nat} (hj : j < 6) (v : Int) : PlH (w.setCell ⟨g, j, none⟩ (.int .u8 v)) g (fun i => if i = j then v else f i) := by
  have h1 := heap_setCell_same w g j _ _ (.int .u8 v) h
  unfold PlH
  rw [h1]
  have : j = 0 ∨ j = 1 ∨ j = 2 ∨ j = 3 ∨ j = 4 ∨ j = 5 := by omega
  rcases this with rfl | rfl | rfl | rfl | rfl | rfl <;> rfl
theorem tyPl : Tryd.prog.underlying 63 = some (.array 6 5) := by kernel_rfl
theorem iPl : (Tryd.prog.info? 63).map (·.size) = some 6 := by kernel_rfl

set_option maxRecDepth 100000 in
set_option maxHeartbeats 4000000 in
theorem placesOf_any (u : Value) (zs : List Int) (w : World) (hl : zs.length ≤ maxLen) (hz : ∀ j, j < zs.length → 1 ≤ zs.getD j 0 ∧ zs.getD j 0 ≤ 56) (hc : CrH w 0) (h : Rd w u (zs.map (.int .i64))) :
    Calls Tryd.prog 45 #[u] w fun e w' => e = .returned (.agg #[.int .u8 (bootAt zs 0), .int .u8 (bootAt zs 1), .int .u8 (bootAt zs 2), .int .u8 (bootAt zs 3), .int .u8 (bootAt zs 4), .int .u8 (bootAt zs 5)]) ∧ Below w.heap.size w w' := by
  obtain ⟨a, cap, rfl⟩ := ints_shape h
  obtain ⟨n, hnl⟩ : ∃ n, n = zs.length := ⟨_, rfl⟩
  have HNL := Lib.hid hnl
  have H := Lib.hid h
  have HZ := Lib.hid hz
  have HC := Lib.hid hc
  have hnm : n ≤ maxLen := by rw [hnl]; exact hl
  unfold maxLen at hnm
  rw [← hnl]
  clear hl h hz hnl hc
  obtain ⟨gw, hgw⟩ : ∃ g, g = w.heap.size := ⟨_, rfl⟩
  obtain ⟨gp, hgp⟩ : ∃ g, g = gw + 1 := ⟨_, rfl⟩
  obtain ⟨V, hV⟩ : ∃ V, V = (w.alloc (.cells #[.int .u8 0, .int .u8 0, .int .u8 0, .int .u8 0, .int .u8 0, .int .u8 0] 63)).alloc (.cells #[.int .u8 0, .int .u8 0, .int .u8 0, .int .u8 0, .int .u8 0, .int .u8 0] 63) := ⟨_, rfl⟩
  have HGw := Lib.hid (show PlH V gw (fun _ => 0) by
    show V.heap[gw]? = _
    rw [hV, hgw, Below.heap_alloc _ _ _ (by simp)]; exact heap_alloc_new w _)
  have HGp := Lib.hid (show PlH V gp (fun i => if i < 0 then bootAt zs i else 0) from PlH.congr (f := fun _ => 0) (by
    show V.heap[gp]? = _
    rw [hV, hgp, hgw]; simpa using heap_alloc_new (w.alloc (.cells #[.int .u8 0, .int .u8 0, .int .u8 0, .int .u8 0, .int .u8 0, .int .u8 0] 63)) _) (fun i _ => by simp))
  have HB0 := Lib.hid (show Below w.heap.size w V by rw [hV]; exact ((Below.refl _ _).alloc (Nat.le_refl _) _).alloc (by simp) _)
  have HV := Lib.hid hV
  have HGW := Lib.hid hgw
  have HGP := Lib.hid hgp
  have hne : ¬ gw = gp := by omega
  have hwp : w.heap.size ≤ gp := by omega
  have hle : w.heap.size ≤ gw := by omega
  clear hV hgw hgp
  go_enter Tryd.func45, Tryd.ntmps45
  go_upto_region 2 with (fail)
  rw [← HV.out, ← HGW.out, ← HGP.out]
  have HCV := Lib.hid (HC.out.below HB0.out HC.out.lt)
  by_cases h6 : 6 < n
  · have h6' : (6 : Int) < (n : Int) := by omega
    have hb6 : ∀ i, bootAt zs i = 1 := fun i => by rw [bootAt, if_pos (by rw [← HNL.out]; exact h6)]
    have k0 := HCV.out.cell (j := 0) (by omega)
    have k1 := HCV.out.cell (j := 1) (by omega)
    have k2 := HCV.out.cell (j := 2) (by omega)
    have k3 := HCV.out.cell (j := 3) (by omega)
    have k4 := HCV.out.cell (j := 4) (by omega)
    have k5 := HCV.out.cell (j := 5) (by omega)
    obtain ⟨y0, z0⟩ := HGw.out.cell (j := 0) (by omega)
    obtain ⟨y1, z1⟩ := HGw.out.cell (j := 1) (by omega)
    obtain ⟨y2, z2⟩ := HGw.out.cell (j := 2) (by omega)
    obtain ⟨y3, z3⟩ := HGw.out.cell (j := 3) (by omega)
    obtain ⟨y4, z4⟩ := HGw.out.cell (j := 4) (by omega)
    obtain ⟨y5, z5⟩ := HGw.out.cell (j := 5) (by omega)
    have HB6f := Lib.hid hb6
    clear hb6
    go_wp2
    clear k0 k1 k2 k3 k4 k5 y0 z0 y1 z1 y2 z2 y3 z3 y4 z4 y5 z5
    obtain ⟨wf, hwf⟩ : ∃ x, x = putW (V) (gw) 0 [.int .u8 1, .int .u8 1, .int .u8 1, .int .u8 1, .int .u8 1, .int .u8 1] := ⟨_, rfl⟩
    have kf := putW_all [.int .u8 1, .int .u8 1, .int .u8 1, .int .u8 1, .int .u8 1, .int .u8 1] HGw.out rfl
    have bf := putW_below (b := gw) (by first | omega | simp) [.int .u8 1, .int .u8 1, .int .u8 1, .int .u8 1, .int .u8 1, .int .u8 1] 0 _ HB0.out
    rw [← hwf] at kf bf
    have cf := hwf.symm
    simp only [putW, Nat.reduceAdd] at cf
    rw [cf]
    clear cf hwf
    have f0 := (cells_of_heap kf 0 (by simp)).1
    have f1 := (cells_of_heap kf 1 (by simp)).1
    have f2 := (cells_of_heap kf 2 (by simp)).1
    have f3 := (cells_of_heap kf 3 (by simp)).1
    have f4 := (cells_of_heap kf 4 (by simp)).1
    have f5 := (cells_of_heap kf 5 (by simp)).1
    simp only [List.getElem_toArray, List.getElem_cons_zero, List.getElem_cons_succ] at f0 f1 f2 f3 f4 f5
    refine bodyPost_ret (v := .agg #[.int .u8 1, .int .u8 1, .int .u8 1, .int .u8 1, .int .u8 1, .int .u8 1]) (by simp [results, Tryd.results45, go_sem, f0, f1, f2, f3, f4, f5]) rfl ⟨(by rw [HB6f.out 0, HB6f.out 1, HB6f.out 2, HB6f.out 3, HB6f.out 4, HB6f.out 5]), bf⟩
  · have h6' : ¬ (6 : Int) < (n : Int) := by omega
    go_wp2
    go_loopw [4, 5, 12] (fun _ _ i wr => ∃ j : Nat, j ≤ n ∧ i = .int .i64 j ∧ PlH wr gp (fun i => if i < j then bootAt zs i else 0) ∧ PlH wr gw (fun _ => 0) ∧ Below w.heap.size w wr) (fun _ _ i _ => n - (intOf i).toNat)
    case atStart => exact ⟨0, Nat.zero_le _, rfl, HGp.out, HGw.out, HB0.out⟩
    case round =>
      obtain ⟨j, hj, rfl, hp, hgw, hb⟩ := hrel
      have HP := Lib.hid hp
      have HG := Lib.hid hgw
      have HB := Lib.hid hb
      by_cases hlt' : j < n
      · obtain ⟨b, off, rfl, hlt, d0⟩ := ints_at H.out (j := j) (by rw [← HNL.out]; exact hlt')
        have d1 := (hb.cell (p := ⟨b, off + j, none⟩) hlt).trans d0
        have hx2 := HZ.out j (by rw [← HNL.out]; exact hlt')
        have hba : bootAt zs j = zs.getD j 0 + 3 := by rw [bootAt, if_neg (by rw [← HNL.out]; exact h6), if_pos (by rw [← HNL.out]; exact hlt')]
        obtain ⟨x, hx⟩ : ∃ x, x = zs.getD j 0 := ⟨_, rfl⟩
        rw [← hx] at d1 hx2 hba
        have wx : IntKind.i64.wrap (x + 3) = x + 3 := IntWalk.i64_in _ ⟨by omega, by omega⟩
        have ux : IntKind.u8.wrap (x + 3) = x + 3 := by rw [IntKind.wrap_u8]; omega
        obtain ⟨s0, z0⟩ := hp.cell (j := j) (by omega)
        have HP2 := Lib.hid (show PlH (wr.setCell ⟨gp, j, none⟩ (.int .u8 (x + 3))) gp (fun i => if i < j + 1 then bootAt zs i else 0) from (hp.set (j := j) (by omega) (x + 3)).congr (fun i _ => by
          by_cases hi : i = j
          · subst hi; simp [hba]
          · rw [if_neg hi]
            by_cases h2 : i < j
            · rw [if_pos h2, if_pos (by omega)]
            · rw [if_neg h2, if_neg (by omega)]))
        have HG2 := Lib.hid (show PlH (wr.setCell ⟨gp, j, none⟩ (.int .u8 (x + 3))) gw (fun _ => 0) from hgw.block (heap_setCell_other wr _ _ _ hne))
        have HB2 := Lib.hid (show Below w.heap.size w (wr.setCell ⟨gp, j, none⟩ (.int .u8 (x + 3))) from hb.setCell hwp _)
        have hj6 : (j : Int) < 6 := by omega
        clear hx d0 hp hgw hb hba hlt
        go_wp2
        go_roundw
        case rel => exact ⟨j + 1, by omega, by go_num, HP2.out, HG2.out, HB2.out⟩
        case measure => simp [intOf]; omega
      · obtain rfl : j = n := by omega
        have HPf := Lib.hid (show PlH wr gp (bootAt zs) from hp.congr (fun i hi => by
          by_cases h2 : i < j
          · rw [if_pos h2]
          · rw [if_neg h2, bootAt, if_neg (by rw [← HNL.out]; exact h6), if_neg (by rw [← HNL.out]; exact h2)]))
        obtain ⟨q0, hq0⟩ : ∃ x, x = bootAt zs 0 := ⟨_, rfl⟩
        obtain ⟨q1, hq1⟩ : ∃ x, x = bootAt zs 1 := ⟨_, rfl⟩
        obtain ⟨q2, hq2⟩ : ∃ x, x = bootAt zs 2 := ⟨_, rfl⟩
        obtain ⟨q3, hq3⟩ : ∃ x, x = bootAt zs 3 := ⟨_, rfl⟩
        obtain ⟨q4, hq4⟩ : ∃ x, x = bootAt zs 4 := ⟨_, rfl⟩
        obtain ⟨q5, hq5⟩ : ∃ x, x = bootAt zs 5 := ⟨_, rfl⟩
        have HQ0 := Lib.hid hq0
        have HQ1 := Lib.hid hq1
        have HQ2 := Lib.hid hq2
        have HQ3 := Lib.hid hq3
        have HQ4 := Lib.hid hq4
        have HQ5 := Lib.hid hq5
        clear hq0 hq1 hq2 hq3 hq4 hq5
        clear hp hgw hb
        have k0 : wr.cell? ⟨gp, 0, none⟩ = some (.int .u8 q0) := by rw [HQ0.out]; exact (HPf.out.cell (j := 0) (by omega)).1
        have k1 : wr.cell? ⟨gp, 1, none⟩ = some (.int .u8 q1) := by rw [HQ1.out]; exact (HPf.out.cell (j := 1) (by omega)).1
        have k2 : wr.cell? ⟨gp, 2, none⟩ = some (.int .u8 q2) := by rw [HQ2.out]; exact (HPf.out.cell (j := 2) (by omega)).1
        have k3 : wr.cell? ⟨gp, 3, none⟩ = some (.int .u8 q3) := by rw [HQ3.out]; exact (HPf.out.cell (j := 3) (by omega)).1
        have k4 : wr.cell? ⟨gp, 4, none⟩ = some (.int .u8 q4) := by rw [HQ4.out]; exact (HPf.out.cell (j := 4) (by omega)).1
        have k5 : wr.cell? ⟨gp, 5, none⟩ = some (.int .u8 q5) := by rw [HQ5.out]; exact (HPf.out.cell (j := 5) (by omega)).1
        obtain ⟨y0, z0⟩ := HG.out.cell (j := 0) (by omega)
        obtain ⟨y1, z1⟩ := HG.out.cell (j := 1) (by omega)
        obtain ⟨y2, z2⟩ := HG.out.cell (j := 2) (by omega)
        obtain ⟨y3, z3⟩ := HG.out.cell (j := 3) (by omega)
        obtain ⟨y4, z4⟩ := HG.out.cell (j := 4) (by omega)
        obtain ⟨y5, z5⟩ := HG.out.cell (j := 5) (by omega)
        go_wp2
        clear k0 k1 k2 k3 k4 k5 y0 z0 y1 z1 y2 z2 y3 z3 y4 z4 y5 z5
        obtain ⟨wf, hwf⟩ : ∃ x, x = putW (wr) (gw) 0 [.int .u8 q0, .int .u8 q1, .int .u8 q2, .int .u8 q3, .int .u8 q4, .int .u8 q5] := ⟨_, rfl⟩
        have kf := putW_all [.int .u8 q0, .int .u8 q1, .int .u8 q2, .int .u8 q3, .int .u8 q4, .int .u8 q5] HG.out rfl
        have bf := putW_below (b := gw) (by first | omega | simp) [.int .u8 q0, .int .u8 q1, .int .u8 q2, .int .u8 q3, .int .u8 q4, .int .u8 q5] 0 _ HB.out
        rw [← hwf] at kf bf
        have cf := hwf.symm
        simp only [putW, Nat.reduceAdd] at cf
        rw [cf]
        clear cf hwf
        have f0 := (cells_of_heap kf 0 (by simp)).1
        have f1 := (cells_of_heap kf 1 (by simp)).1
        have f2 := (cells_of_heap kf 2 (by simp)).1
        have f3 := (cells_of_heap kf 3 (by simp)).1
        have f4 := (cells_of_heap kf 4 (by simp)).1
        have f5 := (cells_of_heap kf 5 (by simp)).1
        simp only [List.getElem_toArray, List.getElem_cons_zero, List.getElem_cons_succ] at f0 f1 f2 f3 f4 f5
        refine bodyPost_ret (v := .agg #[.int .u8 q0, .int .u8 q1, .int .u8 q2, .int .u8 q3, .int .u8 q4, .int .u8 q5]) (by simp [results, Tryd.results45, go_sem, f0, f1, f2, f3, f4, f5]) rfl ⟨(by rw [HQ0.out, HQ1.out, HQ2.out, HQ3.out, HQ4.out, HQ5.out]), bf⟩
theorem placesOf_q (u : Value) (zs : List Int) (q0 q1 q2 q3 q4 q5 : Int) (hq : q0 = bootAt zs 0 ∧ q1 = bootAt zs 1 ∧ q2 = bootAt zs 2 ∧ q3 = bootAt zs 3 ∧ q4 = bootAt zs 4 ∧ q5 = bootAt zs 5) (w : World) (hl : zs.length ≤ maxLen) (hz : ∀ j, j < zs.length → 1 ≤ zs.getD j 0 ∧ zs.getD j 0 ≤ 56) (hc : CrH w 0) (h : Rd w u (zs.map (.int .i64))) :
    Calls Tryd.prog 45 #[u] w fun e w' => e = .returned (.agg #[.int .u8 q0, .int .u8 q1, .int .u8 q2, .int .u8 q3, .int .u8 q4, .int .u8 q5]) ∧ Below w.heap.size w w' := by
  obtain ⟨rfl, rfl, rfl, rfl, rfl, rfl⟩ := hq
  exact placesOf_any u zs w hl hz hc h

set_option maxRecDepth 100000 in
set_option maxHeartbeats 4000000 in
theorem keysAt_any (f : Nat → Int) (cs : Array Value) (hs : cs.size = 6) (hf : ∀ j, j < 6 → cs[j]? = some (.int .u8 (f j))) (hb8 : ∀ j, 0 ≤ f j ∧ f j < 256) (w : World) :
    Calls Tryd.prog 44 #[.agg cs] w fun e w' => ∃ a c, e = .returned (.slice a (ksN f 6).length c) ∧ w'.ownsRow w.heap.size 3 1 (.slice a (ksN f 6).length c) (ksN f 6).length ((ksN f 6).map (.int .i64)) ∧ Below w.heap.size w w' := by
  obtain ⟨i0, hi, hz0, hz1, hz2⟩ := info_parts info_int
  obtain ⟨W, hW⟩ : ∃ W, W = w.alloc (.cells cs 63) := ⟨_, rfl⟩
  obtain ⟨gs, hgs⟩ : ∃ x, x = w.heap.size := ⟨_, rfl⟩
  have hh : W.heap[gs]? = some (.cells cs 63 (0, 0)) := by rw [hW, hgs]; exact heap_alloc_new w _
  have HB0 := Lib.hid (show Below gs w W by rw [hW, hgs]; exact (Below.refl _ _).alloc (Nat.le_refl _) _)
  have hin : (Tryd.prog.info? 63).map (·.size) = some cs.size := by rw [hs]; exact iPl
  have HW := Lib.hid hW
  have HGS := Lib.hid hgs
  have HF := Lib.hid hf
  have H8 := Lib.hid hb8
  have HSz := Lib.hid (show gs ≤ W.heap.size by rw [hW, hgs]; simp)
  clear hW hs hf hb8 hgs
  go_enter Tryd.func44, Tryd.ntmps44
  go_upto_region 2 with (fail)
  rw [← HW.out, ← HGS.out]
  go_wp2_with (refine wpList_load_row rfl 63 _ rfl gs rfl 63 cs (0, 0) _ hh tyPl rfl hin ?_)
  clear hh hin
  go_loopw [3, 5, 7] (fun u _ i wr => ∃ (k : Nat) (a : Option Addr) (c : Nat), k ≤ 6 ∧ i = .int .i64 k ∧ u = .slice a (ksN f k).length c ∧ wr.ownsRow gs 3 1 (.slice a (ksN f k).length c) (ksN f k).length ((ksN f k).map (.int .i64)) ∧ Below gs w wr) (fun _ _ i _ => 6 - (intOf i).toNat)
  case atStart => exact ⟨0, none, 0, Nat.zero_le _, rfl, rfl, World.ownsRow_nil _ _ _ _, HB0.out⟩
  case round =>
    obtain ⟨k, a, c, hk, rfl, rfl, ho, hb⟩ := hrel
    have hlk := ksN_len f k
    have hnx : ksN f (k + 1) = if 3 < f k then ksN f k ++ [f k - 3] else ksN f k := rfl
    obtain ⟨X, hX⟩ : ∃ X, X = ksN f k := ⟨_, rfl⟩
    rw [← hX] at ho hlk hnx ⊢
    have HX := Lib.hid hX
    have HO := Lib.hid ho
    have HB := Lib.hid hb
    have hws : gs ≤ wr.heap.size := by have := hb.size; rw [HGS.out]; exact this
    clear hX ho hb
    by_cases hk6 : k < 6
    · have hat := HF.out k hk6
      have hb8 := H8.out k
      obtain ⟨Z, hZ⟩ : ∃ x, x = f k := ⟨_, rfl⟩
      rw [← hZ] at hat hb8 hnx
      have hix := run_index_pl (P := Tryd.prog) (j := k) tyPl hk6 Tryd.isAgg5 Tryd.sizeOf5 hat
      have HNX := Lib.hid hnx
      have hk6' : (k : Int) < 6 := by omega
      have hk0' : (0 : Int) ≤ (k : Int) := by omega
      have wZ : IntKind.i64.wrap Z = Z := IntWalk.i64_in _ ⟨by omega, by omega⟩
      clear hZ hat hnx
      by_cases h3 : 3 < Z
      · have hnx := HNX.out
        rw [if_pos h3] at hnx
        have HQ := Lib.hid hnx
        have wZ3 : IntKind.i64.wrap (Z - 3) = Z - 3 := IntWalk.i64_in _ ⟨by omega, by omega⟩
        have c63 : X.length + 1 ≤ maxLen := by unfold maxLen; omega
        have c47 : (X.length + 1) * 8 ≤ 140737488355328 := by omega
        clear hnx
        go_wp2_with (at_builtin; refine wpList_append_own _ rfl _ _ 24 rfl gs 3 i0 (.int .i64 0) 1 8 Tryd.underlying24 hi hz0 hz1 hz2 rfl (by decide) _ _ _ rfl (HO.out.alloc _) ⟨wr.heap.size, 0, none⟩ 1 1 [.int .i64 (Z - 3)] rfl rfl ?c1 ?c2 c63 c47 ?c5 ?_)
        case c1 => exact World.news_of_block (cs := #[.int .i64 (Z - 3)]) (t := 3) (fr := (0, 0)) (heap_alloc_new wr _)
        case c2 => intro u hu; simp at hu; subst hu; rfl
        case c5 => simp; omega
        · intro v' w6 hown1 hgrow _
          obtain ⟨a', c', rfl⟩ := owns_shape hown1
          have HB6 := Lib.hid ((HB.out.alloc hws (.cells #[.int .i64 (Z - 3)] 3)).grown hgrow (by simp; omega) (fun q hq => (HO.out.lt q hq).1))
          have HO6 := Lib.hid hown1
          have hlen : (X ++ [Z - 3]).length = X.length + 1 := by simp
          have HLen := Lib.hid hlen
          clear hown1 hgrow hlen
          go_wp2
          go_roundw
          case rel => exact ⟨k + 1, a', c', by omega, by go_num, by rw [HQ.out, HLen.out], by rw [HQ.out, HLen.out]; simpa using HO6.out, HB6.out⟩
          case measure => simp [intOf]; omega
      · have hnx := HNX.out
        rw [if_neg h3] at hnx
        have HQ := Lib.hid hnx
        clear hnx
        go_wp2
        go_roundw
        case rel => exact ⟨k + 1, a, c, by omega, by go_num, by rw [HQ.out], by rw [HQ.out]; exact HO.out, HB.out⟩
        case measure => simp [intOf]; omega
    · obtain rfl : k = 6 := by omega
      go_wp2
      go_ret
      exact ⟨a, c, by rw [← HX.out]; rfl, by rw [← HX.out, ← HGS.out]; exact HO.out, by rw [← HGS.out]; exact HB.out⟩

set_option maxRecDepth 100000 in
set_option maxHeartbeats 4000000 in
theorem clone_any (u : Value) (zs : List Int) (w : World) (hl : zs.length ≤ 1048576) (h : Rd w u (zs.map (.int .i64))) :
    Calls Tryd.prog 43 #[u] w fun e w' => ∃ a c, e = .returned (.slice a zs.length c) ∧ w'.ownsRow w.heap.size 3 1 (.slice a zs.length c) zs.length (zs.map (.int .i64)) ∧ Below w.heap.size w w' := by
  obtain ⟨i0, hi, hz0, hz1, hz2⟩ := info_parts info_int
  obtain ⟨a, cap, rfl⟩ := ints_shape h
  obtain ⟨n, hnl⟩ : ∃ n, n = zs.length := ⟨_, rfl⟩
  have HNL := Lib.hid hnl
  have H := Lib.hid h
  rw [← hnl] at hl ⊢
  clear h hnl
  rcases a with _ | ⟨⟨b, off, hd⟩⟩
  · obtain rfl : n = 0 := by
      rcases rd_ints H.out with ⟨hz, _⟩ | ⟨b, off, cap', _, hs, _, _⟩
      · rw [HNL.out, hz]; rfl
      · simp at hs
    have HZ := Lib.hid (show zs = [] from List.eq_nil_of_length_eq_zero HNL.out.symm)
    have hnil := fun w => Lib.run_eql_slice_nil (P := Tryd.prog) w 24 3 none 0 cap 0 0 Tryd.underlying24
    go_enter Tryd.func43, Tryd.ntmps43
    go_wp2
    go_ret
    exact ⟨none, 0, rfl, by rw [HZ.out]; exact World.ownsRow_nil _ _ _ _, Below.refl _ _⟩
  · have hlz : (zs.map (Value.int .i64)).length = n * 1 := by rw [List.length_map, HNL.out]; omega
    have HLZ := Lib.hid hlz
    have hsrc : ∀ j v, (zs.map (Value.int .i64))[j]? = some v → w.cell? ((⟨b, off, hd⟩ : Addr).add j) = some v := by
      intro j v hv
      have hj : j < zs.length := by
        have := (List.getElem?_eq_some_iff.1 hv).1
        simpa using this
      obtain ⟨b2, off2, ha, _, hcell⟩ := ints_at H.out hj
      have ha2 : (⟨b, off, hd⟩ : Addr) = ⟨b2, off2, none⟩ := Option.some.inj ha
      rw [ha2]
      have hadd : (⟨b2, off2, none⟩ : Addr).add j = ⟨b2, off2 + j, none⟩ := by unfold Addr.add; split <;> simp_all
      rw [hadd, hcell, ← hv, List.getElem?_map, List.getElem?_eq_getElem hj, List.getD_eq_getElem?_getD, List.getElem?_eq_getElem hj]
      rfl
    have HSrc := Lib.hid hsrc
    have hblt : ∀ j v, (zs.map (Value.int .i64))[j]? = some v → b < w.heap.size := fun j v hv => block_lt_of_cell7 (hsrc j v hv)
    have HBlt := Lib.hid hblt
    have c63 : 0 + n ≤ maxLen := by unfold maxLen; omega
    have c47 : (0 + n) * 8 ≤ 140737488355328 := by omega
    clear hlz hsrc hblt
    have hnil := fun w => Lib.run_eql_slice_nil (P := Tryd.prog) w 24 3 (some ⟨b, off, hd⟩) n cap 0 0 Tryd.underlying24
    go_enter Tryd.func43, Tryd.ntmps43
    go_wp2_with (at_builtin; refine wpList_append_own _ rfl _ _ 24 rfl w.heap.size 3 i0 (.int .i64 0) 1 8 Tryd.underlying24 hi hz0 hz1 hz2 rfl (by decide) _ _ _ rfl (World.ownsRow_lit (e := 3) (size := 1) w #[] 0 (Nat.le_refl _) (by simp [maxLen]) rfl) ⟨b, off, hd⟩ n cap (zs.map (.int .i64)) rfl HLZ.out ?c1 ?c2 c63 c47 ?c5 ?_)
    case c1 => exact fun j v hv => (World.cell?_of_block (a := (⟨b, off, hd⟩ : Addr).add j) (by rw [add_block7]; exact heap_alloc_old w _ (HBlt.out j v hv))).trans (HSrc.out j v hv)
    case c2 => intro u hu; obtain ⟨z, _, rfl⟩ := List.mem_map.1 hu; rfl
    case c5 => simp
    · intro v' w6 hown1 hgrow _
      obtain ⟨a', c', rfl⟩ := owns_shape hown1
      have HB6 := Lib.hid (((Below.refl w.heap.size w).alloc (Nat.le_refl _) (.cells #[] 3)).grown hgrow (by simp) (fun q hq => by simp [Value.ownBlock] at hq; omega))
      have HO6 := Lib.hid (show w6.ownsRow w.heap.size 3 1 (.slice a' n c') n (zs.map (.int .i64)) by simpa using hown1)
      clear hown1 hgrow
      go_wp2
      go_ret
      exact ⟨a', c', rfl, HO6.out, HB6.out⟩
end Go.Proofs.YtghijkpcmamebaaDoor

namespace Go.Proofs.YtghijkpcmamebaaDoor
open Go.RowKit

set_option maxRecDepth 100000 in
set_option maxHeartbeats 8000000 in
theorem implBootBytes_any (r : Int) (u : Value) (zs : List Int) (w : World) (hc : CrH w 0) (hl : zs.length ≤ maxLen) (h : Rd w u (zs.map (.int .i64))) :
    Calls Tryd.prog 15 #[rpv r u] w fun e w' => ∃ x, e = .returned x ∧ w'.ownsRow w.heap.size 5 1 x (bbV r zs).length ((bbV r zs).map (.int .u8)) ∧ Below w.heap.size w w' := by
  obtain ⟨i8, hi, hz0, hz1, hz2⟩ := info_parts info_u8
  obtain ⟨R, hR⟩ : ∃ R, R = okRp r zs := ⟨_, rfl⟩
  obtain ⟨X, hX⟩ : ∃ X, X = bbV r zs := ⟨_, rfl⟩
  rw [← hX]
  obtain ⟨a, cap, rfl⟩ := ints_shape h
  obtain ⟨n, hnl⟩ : ∃ n, n = zs.length := ⟨_, rfl⟩
  have HNL := Lib.hid hnl
  have HR := Lib.hid hR
  have HX := Lib.hid hX
  have HL := Lib.hid hl
  have H := Lib.hid h
  have HC := Lib.hid hc
  have hnm : n ≤ maxLen := by rw [hnl]; exact hl
  unfold maxLen at hnm
  rw [← hnl]
  clear hR hX hl h hnl hc
  obtain ⟨W, hW⟩ : ∃ W, W = w.alloc (.cells #[.int .i64 r, .slice a n cap] 26) := ⟨_, rfl⟩
  have HX0 := Lib.hid (show Bxd W w.heap.size [.int .i64 r, .slice a n cap] by rw [hW]; exact Bxd.new _ _ _)
  have HB0 := Lib.hid (show Below w.heap.size w W by rw [hW]; exact (Below.refl _ _).alloc (Nat.le_refl _) _)
  have HS0 := Lib.hid (show w.heap.size < W.heap.size by rw [hW]; simp)
  have HW := Lib.hid hW
  clear hW
  go_enter Tryd.func15, Tryd.ntmps15
  go_wp2_with fail
  rw [← HW.out]
  have c0 := HX0.out.at 0 _ rfl
  have c1 := HX0.out.at 1 _ rfl
  refine (implIsReport_q r _ zs R HR.out _ HL.out (by rw [HNL.out]; have := H.out.below HB0.out; rw [← HNL.out] at this ⊢; exact this)).mono ?_
  rintro e w1 ⟨rfl, hb⟩
  have HB1 := Lib.hid (show Below W.heap.size W w1 from hb)
  clear hb c0 c1
  cases R
  · obtain rfl : X = [] := by rw [HX.out, bbV, if_neg (by rw [← HR.out]; decide)]
    go_wp2
    go_ret
    exact ⟨_, rfl, World.ownsRow_nil _ _ _ _, HB0.out.trans (HB1.out.mono HB0.out.size)⟩
  · obtain ⟨⟨r0, r15⟩, hz⟩ := okRp_at HR.out.symm
    have HZ := Lib.hid hz
    have u0 : IntKind.u8.wrap r = r := by rw [IntKind.wrap_u8]; omega
    obtain ⟨q0, hq0⟩ : ∃ x, x = bootAt zs 0 := ⟨_, rfl⟩
    obtain ⟨q1, hq1⟩ : ∃ x, x = bootAt zs 1 := ⟨_, rfl⟩
    obtain ⟨q2, hq2⟩ : ∃ x, x = bootAt zs 2 := ⟨_, rfl⟩
    obtain ⟨q3, hq3⟩ : ∃ x, x = bootAt zs 3 := ⟨_, rfl⟩
    obtain ⟨q4, hq4⟩ : ∃ x, x = bootAt zs 4 := ⟨_, rfl⟩
    obtain ⟨q5, hq5⟩ : ∃ x, x = bootAt zs 5 := ⟨_, rfl⟩
    have HXX := Lib.hid (show [r, 0, q0, q1, q2, q3, q4, q5] = X by rw [HX.out, bbV, if_pos HR.out.symm, hq0, hq1, hq2, hq3, hq4, hq5]; rfl)
    have HQ := Lib.hid (show q0 = bootAt zs 0 ∧ q1 = bootAt zs 1 ∧ q2 = bootAt zs 2 ∧ q3 = bootAt zs 3 ∧ q4 = bootAt zs 4 ∧ q5 = bootAt zs 5 from ⟨hq0, hq1, hq2, hq3, hq4, hq5⟩)
    clear hz hq0 hq1 hq2 hq3 hq4 hq5
    have c1 := (HX0.out.below HB1.out HS0.out).at 1 _ rfl
    have HB1w := Lib.hid (HB0.out.trans (HB1.out.mono HB0.out.size))
    go_wp2_with fail
    refine (placesOf_q _ zs q0 q1 q2 q3 q4 q5 HQ.out _ HL.out HZ.out (HC.out.below HB1w.out HC.out.lt) (by rw [HNL.out]; have := H.out.below HB1w.out; rw [← HNL.out] at this ⊢; exact this)).mono ?_
    rintro e w2 ⟨rfl, hb⟩
    have HB2 := Lib.hid (HB1.out.trans (hb.mono HB1.out.size))
    clear hb c1
    go_upto_region 4 with (fail)
    obtain ⟨gp, hgp⟩ : ∃ g, g = w2.heap.size := ⟨_, rfl⟩
    obtain ⟨U, hU⟩ : ∃ U, U = w2.alloc (.cells #[.int .u8 q0, .int .u8 q1, .int .u8 q2, .int .u8 q3, .int .u8 q4, .int .u8 q5] 63) := ⟨_, rfl⟩
    have HP := Lib.hid (show U.heap[gp]? = some (.cells #[.int .u8 q0, .int .u8 q1, .int .u8 q2, .int .u8 q3, .int .u8 q4, .int .u8 q5] 63 (0, 0)) by rw [hU, hgp]; exact heap_alloc_new w2 _)
    have HBU := Lib.hid (show Below W.heap.size W U by rw [hU]; exact HB2.out.alloc HB2.out.size _)
    have hgpU : gp < U.heap.size := by rw [hU, hgp]; simp
    have hBU : W.heap.size ≤ U.heap.size := HBU.out.size
    rw [← hU, ← hgp]
    clear hU hgp
    have c0 := (HX0.out.below HBU.out HS0.out).at 0 _ rfl
    have hnews : ∀ j v, ([.int .u8 q0, .int .u8 q1, .int .u8 q2, .int .u8 q3, .int .u8 q4, .int .u8 q5] : List Value)[j]? = some v → (U.alloc (.cells #[.int .u8 r, .int .u8 0] 5)).cell? ((⟨gp, 0, none⟩ : Addr).add j) = some v := World.news_of_block (cs := #[.int .u8 q0, .int .u8 q1, .int .u8 q2, .int .u8 q3, .int .u8 q4, .int .u8 q5]) (t := 63) (fr := (0, 0)) ((heap_alloc_old U _ hgpU).trans HP.out)
    have HNews := Lib.hid hnews
    have hone : ∀ v ∈ ([.int .u8 q0, .int .u8 q1, .int .u8 q2, .int .u8 q3, .int .u8 q4, .int .u8 q5] : List Value), v.oneCell' = true := by intro v hv; simp at hv; rcases hv with rfl | rfl | rfl | rfl | rfl | rfl <;> rfl
    have HOne := Lib.hid hone
    clear hnews hone hgpU
    go_region_law (first
      | (refine step_append_lies _ (by rfl) (.tmp 13) (.tmp 14) 22 (by rfl) W.heap.size 5 i8 (.int .u8 0) 1 1 Tryd.underlying22 hi hz0 hz1 hz2 rfl (by decide) (.slice (some ⟨U.heap.size, 0, none⟩) 2 2) 2 [.int .u8 r, .int .u8 0] (by rfl) (World.ownsRow_lit (e := 5) (size := 1) U #[.int .u8 r, .int .u8 0] 2 hBU (by simp [maxLen]) rfl).drew ⟨gp, 0, none⟩ 6 6 [.int .u8 q0, .int .u8 q1, .int .u8 q2, .int .u8 q3, .int .u8 q4, .int .u8 q5] (by rfl) (by rfl) (fun j v hv => HNews.out j v hv) HOne.out (by decide) (by simp [maxLen]) (by decide) (by simp; omega) (U.heap.size + 1) (by simp) ?_; intro g2 cap2 w4 hown2 hgrow2 hat2 hlt4; have HO4 := Lib.hid hown2; have HB4 := Lib.hid (((HBU.out.alloc hBU (.cells #[.int .u8 r, .int .u8 0] 5)).drew).grown hgrow2 (by simp; omega) (fun q hq => by have h1 : some U.heap.size = some q := hq; have h2 := Option.some.inj h1; omega)); clear hown2 hgrow2 hat2 hlt4))
    all_goals
      have HLen := Lib.hid (show X.length = 8 by rw [← HXX.out]; rfl)
      clear c0 u0
      go_wp2
      go_ret
      exact ⟨_, rfl, by rw [HLen.out, ← HXX.out]; exact owns_base HO4.out HB0.out.size, HB0.out.trans (HB4.out.mono HB0.out.size)⟩
end Go.Proofs.YtghijkpcmamebaaDoor

namespace Go.Proofs.YtghijkpcmamebaaDoor
open Go.RowKit

def u87 (p : Int) : UInt8 := UInt8.ofNat p.toNat
theorem u87_toNat {p : Int} (h : 0 ≤ p ∧ p < 256) : ((u87 p).toNat : Int) = p := by
  unfold u87
  rw [UInt8.toNat_ofNat']
  omega
theorem cell_u87 {p : Int} (h : 0 ≤ p ∧ p < 256) : Extern.Stop.cell (u87 p) = .int .u8 p := by
  show Value.int .u8 ((u87 p).toNat : Int) = _
  rw [u87_toNat h]
theorem u87_inj {p q : Int} (hp : 0 ≤ p ∧ p < 256) (hq : 0 ≤ q ∧ q < 256) : u87 p = u87 q ↔ p = q := by
  constructor
  · intro h
    rw [← u87_toNat hp, ← u87_toNat hq, h]
  · intro h; rw [h]
theorem iU8 : (Tryd.prog.info? 5).map (·.size) = some 1 := by kernel_rfl
theorem eqPl_in (p0 p1 p2 p3 p4 p5 q0 q1 q2 q3 q4 q5 : Int) (hp : (0 ≤ p0 ∧ p0 < 256) ∧ (0 ≤ p1 ∧ p1 < 256) ∧ (0 ≤ p2 ∧ p2 < 256) ∧ (0 ≤ p3 ∧ p3 < 256) ∧ (0 ≤ p4 ∧ p4 < 256) ∧ (0 ≤ p5 ∧ p5 < 256)) (hq : (0 ≤ q0 ∧ q0 < 256) ∧ (0 ≤ q1 ∧ q1 < 256) ∧ (0 ≤ q2 ∧ q2 < 256) ∧ (0 ≤ q3 ∧ q3 < 256) ∧ (0 ≤ q4 ∧ q4 < 256) ∧ (0 ≤ q5 ∧ q5 < 256)) (E : Bool) (hE : E = decide (p0 = q0 ∧ p1 = q1 ∧ p2 = q2 ∧ p3 = q3 ∧ p4 = q4 ∧ p5 = q5)) (w : World) (d : Nat) :
    (Op.equalIn (d + 2) 63 (.agg #[.int .u8 p0, .int .u8 p1, .int .u8 p2, .int .u8 p3, .int .u8 p4, .int .u8 p5]) (.agg #[.int .u8 q0, .int .u8 q1, .int .u8 q2, .int .u8 q3, .int .u8 q4, .int .u8 q5])).run Tryd.prog w = .ok E w := by
  obtain ⟨a0, a1, a2, a3, a4, a5⟩ := hp
  obtain ⟨b0, b1, b2, b3, b4, b5⟩ := hq
  have h := run_equalIn_bytes (P := Tryd.prog) w d 63 5 6 tyPl Tryd.underlying5 Tryd.sizeOf5 [u87 p0, u87 p1, u87 p2, u87 p3, u87 p4, u87 p5] [u87 q0, u87 q1, u87 q2, u87 q3, u87 q4, u87 q5] rfl rfl
  have e1 : ([u87 p0, u87 p1, u87 p2, u87 p3, u87 p4, u87 p5].map Extern.Stop.cell).toArray = #[.int .u8 p0, .int .u8 p1, .int .u8 p2, .int .u8 p3, .int .u8 p4, .int .u8 p5] := by
    simp only [List.map_cons, List.map_nil, cell_u87 a0, cell_u87 a1, cell_u87 a2, cell_u87 a3, cell_u87 a4, cell_u87 a5]
  have e2 : ([u87 q0, u87 q1, u87 q2, u87 q3, u87 q4, u87 q5].map Extern.Stop.cell).toArray = #[.int .u8 q0, .int .u8 q1, .int .u8 q2, .int .u8 q3, .int .u8 q4, .int .u8 q5] := by
    simp only [List.map_cons, List.map_nil, cell_u87 b0, cell_u87 b1, cell_u87 b2, cell_u87 b3, cell_u87 b4, cell_u87 b5]
  rw [e1, e2] at h
  rw [h, hE]
  congr 1
  rw [Bool.eq_iff_iff, decide_eq_true_iff, beq_iff_eq]
  simp only [List.cons.injEq, and_true, u87_inj a0 b0, u87_inj a1 b1, u87_inj a2 b2, u87_inj a3 b3, u87_inj a4 b4, u87_inj a5 b5]
theorem eqPl_run (p0 p1 p2 p3 p4 p5 q0 q1 q2 q3 q4 q5 : Int) (hp : (0 ≤ p0 ∧ p0 < 256) ∧ (0 ≤ p1 ∧ p1 < 256) ∧ (0 ≤ p2 ∧ p2 < 256) ∧ (0 ≤ p3 ∧ p3 < 256) ∧ (0 ≤ p4 ∧ p4 < 256) ∧ (0 ≤ p5 ∧ p5 < 256)) (hq : (0 ≤ q0 ∧ q0 < 256) ∧ (0 ≤ q1 ∧ q1 < 256) ∧ (0 ≤ q2 ∧ q2 < 256) ∧ (0 ≤ q3 ∧ q3 < 256) ∧ (0 ≤ q4 ∧ q4 < 256) ∧ (0 ≤ q5 ∧ q5 < 256)) (E : Bool) (hE : E = decide (p0 = q0 ∧ p1 = q1 ∧ p2 = q2 ∧ p3 = q3 ∧ p4 = q4 ∧ p5 = q5)) (w : World) :
    (Go.binOp .eql 63 (.agg #[.int .u8 p0, .int .u8 p1, .int .u8 p2, .int .u8 p3, .int .u8 p4, .int .u8 p5]) (.agg #[.int .u8 q0, .int .u8 q1, .int .u8 q2, .int .u8 q3, .int .u8 q4, .int .u8 q5])).run Tryd.prog w = .ok (.bool E) w := by
  rw [run_eql_struct, eqPl_in p0 p1 p2 p3 p4 p5 q0 q1 q2 q3 q4 q5 hp hq E hE w 9998]
  rfl
theorem nePl_run (p0 p1 p2 p3 p4 p5 q0 q1 q2 q3 q4 q5 : Int) (hp : (0 ≤ p0 ∧ p0 < 256) ∧ (0 ≤ p1 ∧ p1 < 256) ∧ (0 ≤ p2 ∧ p2 < 256) ∧ (0 ≤ p3 ∧ p3 < 256) ∧ (0 ≤ p4 ∧ p4 < 256) ∧ (0 ≤ p5 ∧ p5 < 256)) (hq : (0 ≤ q0 ∧ q0 < 256) ∧ (0 ≤ q1 ∧ q1 < 256) ∧ (0 ≤ q2 ∧ q2 < 256) ∧ (0 ≤ q3 ∧ q3 < 256) ∧ (0 ≤ q4 ∧ q4 < 256) ∧ (0 ≤ q5 ∧ q5 < 256)) (E : Bool) (hE : E = decide (p0 = q0 ∧ p1 = q1 ∧ p2 = q2 ∧ p3 = q3 ∧ p4 = q4 ∧ p5 = q5)) (w : World) :
    (Go.binOp .neq 63 (.agg #[.int .u8 p0, .int .u8 p1, .int .u8 p2, .int .u8 p3, .int .u8 p4, .int .u8 p5]) (.agg #[.int .u8 q0, .int .u8 q1, .int .u8 q2, .int .u8 q3, .int .u8 q4, .int .u8 q5])).run Tryd.prog w = .ok (.bool (!E)) w := by
  rw [run_neq_struct, eqPl_in p0 p1 p2 p3 p4 p5 q0 q1 q2 q3 q4 q5 hp hq E hE w 9998]
  rfl

theorem plF_byte {bs : List Int} (hz : ∀ z ∈ bs, 0 ≤ z ∧ z < 256) (j : Nat) : 0 ≤ plF bs j ∧ plF bs j < 256 := by
  unfold plF
  by_cases h : j + 2 < bs.length
  · exact byte_of hz h
  · rw [List.getD_eq_getElem?_getD, List.getElem?_eq_none (by omega)]; decide
theorem bootAt_in7 {zs : List Int} (hz : ∀ j, j < zs.length → 1 ≤ zs.getD j 0 ∧ zs.getD j 0 ≤ 56) (i : Nat) : 0 ≤ bootAt zs i ∧ bootAt zs i < 256 := by
  rw [bootAt]
  split
  · decide
  · split
    · rename_i h; have := hz i h; omega
    · decide

set_option maxRecDepth 100000 in
set_option maxHeartbeats 16000000 in
theorem implReadBoot_any (v : Value) (bs : List Int) (rl : Int) (u : Value) (zl : List Int) (w : World) (hc : CrH w 0) (hl : bs.length ≤ maxLen) (hcap : CapOk v) (hz : ∀ z ∈ bs, 0 ≤ z ∧ z < 256) (h : Rd w v (bs.map (.int .u8))) (hzl : zl.length ≤ 1048576) (hu : Rd w u (zl.map (.int .i64))) :
    Calls Tryd.prog 14 #[v, rpv rl u] w (RpTB (rbV bs rl zl) w) := by
  rw [← pbV_eq rl zl]
  obtain ⟨r, hr⟩ : ∃ r, r = pbV bs rl zl := ⟨_, rfl⟩
  rw [← hr]
  obtain ⟨xa, xc, hv⟩ : ∃ a cap, v = .slice a bs.length cap := by
    obtain ⟨a, cap, hu, _⟩ := h
    exact ⟨a, cap, by simpa using hu⟩
  subst hv
  have hcap2 : bs.length ≤ xc := hcap _ _ _ rfl
  obtain ⟨ua, uc, rfl⟩ := ints_shape hu
  obtain ⟨n, hnl⟩ : ∃ n, n = bs.length := ⟨_, rfl⟩
  obtain ⟨nu, hnu⟩ : ∃ n, n = zl.length := ⟨_, rfl⟩
  have HNL := Lib.hid hnl
  have HNU := Lib.hid hnu
  have HR := Lib.hid hr
  have H := Lib.hid h
  have HU0 := Lib.hid hu
  have HZ := Lib.hid hz
  have HZL := Lib.hid hzl
  have HC := Lib.hid hc
  have hnr : n ≤ maxLen := by rw [hnl]; exact hl
  have hnur : nu ≤ 1048576 := by rw [hnu]; exact hzl
  unfold maxLen at hnr
  rw [← hnl] at hcap2
  rw [← hnl, ← hnu]
  clear hr h hl hz hnl hu hzl hnu hc hcap
  obtain ⟨gw, hgw⟩ : ∃ g, g = w.heap.size + 1 := ⟨_, rfl⟩
  obtain ⟨V, hV⟩ : ∃ V, V = (w.alloc (.cells #[.int .i64 rl, .slice ua nu uc] 26)).alloc (.cells #[.int .i64 0, .slice none 0 0] 26) := ⟨_, rfl⟩
  have HG0 := Lib.hid (show V.heap[gw]? = some (.cells #[.int .i64 0, .slice none 0 0] 26 (0, 0)) by rw [hV, hgw]; simpa using heap_alloc_new (w.alloc (.cells #[.int .i64 rl, .slice ua nu uc] 26)) _)
  have HK0 := Lib.hid (show V.heap[w.heap.size]? = some (.cells #[.int .i64 rl, .slice ua nu uc] 26 (0, 0)) by rw [hV, Below.heap_alloc _ _ _ (by simp)]; exact heap_alloc_new w _)
  have HB0 := Lib.hid (show Below w.heap.size w V by rw [hV]; exact ((Below.refl _ _).alloc (Nat.le_refl _) _).alloc (by simp) _)
  have HS0 := Lib.hid (show V.heap.size = gw + 1 by rw [hV, hgw]; simp)
  have HV := Lib.hid hV
  have HGW := Lib.hid hgw
  have hle : w.heap.size ≤ gw := by rw [hgw]; exact Nat.le_succ _
  have hle1 : w.heap.size < gw := by rw [hgw]; exact Nat.lt_succ_self _
  have HNil := Lib.hid (show ∀ wx, Below w.heap.size w wx → r = ⟨0, [], false⟩ → RpTB r w (.returned (.tuple #[rpv 0 (.slice none 0 0), .bool false])) (putW wx gw 0 [.int .i64 0, .slice none 0 0]) from fun wx hx h => by
    rw [h]
    exact ⟨_, rfl, World.ownsRow_nil _ _ _ _, putW_below hle _ _ _ hx⟩)
  have hgw1 : w.heap.size + 1 = gw := hgw.symm
  clear hV hgw
  by_cases h8 : n = 8
  · subst h8
    obtain ⟨b, off, rfl, hlt, hcc⟩ := bytes_at H.out (j := 0) (by rw [← HNL.out]; omega)
    have HCc := Lib.hid hcc
    have HLT := Lib.hid hlt
    have d0 := (HB0.out.cell (p := ⟨b, off, none⟩) hlt).trans (hcc 0 (by rw [← HNL.out]; omega))
    have d1 := (HB0.out.cell (p := ⟨b, off + 1, none⟩) hlt).trans (hcc 1 (by rw [← HNL.out]; omega))
    have hb0 := byte_of HZ.out (j := 0) (by rw [← HNL.out]; omega)
    have hb1 := byte_of HZ.out (j := 1) (by rw [← HNL.out]; omega)
    obtain ⟨B, hB⟩ : ∃ x, x = bs.getD 0 0 := ⟨_, rfl⟩
    obtain ⟨B1, hB1⟩ : ∃ x, x = bs.getD 1 0 := ⟨_, rfl⟩
    rw [← hB] at d0 hb0
    rw [← hB1] at d1 hb1
    have wB : IntKind.i64.wrap B = B := IntWalk.i64_in _ ⟨by omega, by omega⟩
    obtain ⟨L, hL⟩ : ∃ x, x = okRp rl zl := ⟨_, rfl⟩
    have hr2 : r = if B ≤ 15 ∧ B1 = 0 ∧ L = true then (if allOne bs = true then ⟨B, zl, true⟩ else if okRp B (ksN (plF bs) 6) = true ∧ sameAt (ksN (plF bs) 6) bs = true then ⟨B, ksN (plF bs) 6, true⟩ else ⟨0, [], false⟩) else ⟨0, [], false⟩ := by
      rw [HR.out, pbV, ← hB, ← hB1, ← hL]
      by_cases hx : B ≤ 15 ∧ B1 = 0 ∧ L = true
      · rw [if_pos ⟨HNL.out.symm, hx⟩, if_pos hx]
      · rw [if_neg (fun e => hx e.2), if_neg hx]
    have HR2 := Lib.hid hr2
    have HLv := Lib.hid hL
    have HBv := Lib.hid hB
    clear hcc hB hB1 hL hr2 hlt
    go_enter Tryd.func14, Tryd.ntmps14
    go_upto_region 1 with (fail)
    rw [← HV.out]
    obtain ⟨y0, q0⟩ := cells_of_heap HG0.out 0 (by simp)
    obtain ⟨y1, q1⟩ := cells_of_heap HG0.out 1 (by simp)
    have c0 := (cells_of_heap HK0.out 0 (by simp)).1
    have c1 := (cells_of_heap HK0.out 1 (by simp)).1
    simp only [List.getElem_toArray, List.getElem_cons_zero, List.getElem_cons_succ] at c0 c1
    by_cases h15 : B ≤ 15
    · have h15' : ¬ (15 : Int) < B := by omega
      by_cases h10 : B1 = 0
      · subst h10
        go_wp2_with fail
        refine (implIsReport_q rl _ zl L HLv.out _ (by have := HZL.out; unfold maxLen; omega) (by rw [HNU.out]; have := HU0.out.below HB0.out; rw [← HNU.out] at this ⊢; exact this)).mono ?_
        rintro e w1 ⟨rfl, hb⟩
        have HB1 := Lib.hid (HB0.out.trans (hb.mono HB0.out.size))
        have HG1 := Lib.hid ((hb.block gw (by rw [HS0.out]; omega)).trans HG0.out)
        have HK1 := Lib.hid ((hb.block w.heap.size (by rw [HS0.out]; omega)).trans HK0.out)
        have HS1 := Lib.hid (show gw < w1.heap.size by have := hb.size; have := HS0.out; omega)
        clear hb y0 q0 y1 q1 c0 c1 d0 d1
        cases L
        · have HRn := Lib.hid (show r = ⟨0, [], false⟩ by rw [HR2.out, if_neg (fun e => by have := e.2.2; exact absurd this (by decide))])
          obtain ⟨y0, q0⟩ := cells_of_heap HG1.out 0 (by simp)
          obtain ⟨y1, q1⟩ := cells_of_heap HG1.out 1 (by simp)
          go_wp2
          clear y0 q0 y1 q1
          obtain ⟨wf, hwf⟩ : ∃ x, x = putW (w1) (gw) 0 [.int .i64 0, .slice none 0 0] := ⟨_, rfl⟩
          have kf := putW_all [.int .i64 0, .slice none 0 0] HG1.out rfl
          have bf := putW_below (b := gw) (by first | omega | simp) [.int .i64 0, .slice none 0 0] 0 _ HB1.out
          have of := HNil.out _ HB1.out HRn.out
          rw [← hwf] at kf bf of
          have cf := hwf.symm
          simp only [putW, Nat.reduceAdd] at cf
          rw [cf]
          clear cf hwf
          have f0 := (cells_of_heap kf 0 (by simp)).1
          have f1 := (cells_of_heap kf 1 (by simp)).1
          simp only [List.getElem_toArray, List.getElem_cons_zero, List.getElem_cons_succ] at f0 f1
          refine bodyPost_ret (v := .tuple #[rpv 0 (.slice none 0 0), .bool false]) (by simp [results, Tryd.results14, go_sem, f0, f1]) rfl of
        · have HR3 := Lib.hid (show r = if allOne bs = true then ⟨B, zl, true⟩ else if okRp B (ksN (plF bs) 6) = true ∧ sameAt (ksN (plF bs) 6) bs = true then ⟨B, ksN (plF bs) 6, true⟩ else ⟨0, [], false⟩ by rw [HR2.out, if_pos (by first | exact ⟨h15, rfl, rfl⟩ | exact ⟨h15, trivial, rfl⟩ | simp [h15])])
          obtain ⟨p0, hp0⟩ : ∃ x, x = bs.getD 2 0 := ⟨_, rfl⟩
          obtain ⟨p1, hp1⟩ : ∃ x, x = bs.getD 3 0 := ⟨_, rfl⟩
          obtain ⟨p2, hp2⟩ : ∃ x, x = bs.getD 4 0 := ⟨_, rfl⟩
          obtain ⟨p3, hp3⟩ : ∃ x, x = bs.getD 5 0 := ⟨_, rfl⟩
          obtain ⟨p4, hp4⟩ : ∃ x, x = bs.getD 6 0 := ⟨_, rfl⟩
          obtain ⟨p5, hp5⟩ : ∃ x, x = bs.getD 7 0 := ⟨_, rfl⟩
          have HP_0 := Lib.hid (show bs.getD (2 + 0) 0 = p0 from hp0.symm)
          have HP_1 := Lib.hid (show bs.getD (2 + 1) 0 = p1 from hp1.symm)
          have HP_2 := Lib.hid (show bs.getD (2 + 2) 0 = p2 from hp2.symm)
          have HP_3 := Lib.hid (show bs.getD (2 + 3) 0 = p3 from hp3.symm)
          have HP_4 := Lib.hid (show bs.getD (2 + 4) 0 = p4 from hp4.symm)
          have HP_5 := Lib.hid (show bs.getD (2 + 5) 0 = p5 from hp5.symm)
          have b_0 : 0 ≤ p0 ∧ p0 < 256 := by rw [hp0]; exact byte_of HZ.out (j := 2) (by rw [← HNL.out]; omega)
          have b_1 : 0 ≤ p1 ∧ p1 < 256 := by rw [hp1]; exact byte_of HZ.out (j := 3) (by rw [← HNL.out]; omega)
          have b_2 : 0 ≤ p2 ∧ p2 < 256 := by rw [hp2]; exact byte_of HZ.out (j := 4) (by rw [← HNL.out]; omega)
          have b_3 : 0 ≤ p3 ∧ p3 < 256 := by rw [hp3]; exact byte_of HZ.out (j := 5) (by rw [← HNL.out]; omega)
          have b_4 : 0 ≤ p4 ∧ p4 < 256 := by rw [hp4]; exact byte_of HZ.out (j := 6) (by rw [← HNL.out]; omega)
          have b_5 : 0 ≤ p5 ∧ p5 < 256 := by rw [hp5]; exact byte_of HZ.out (j := 7) (by rw [← HNL.out]; omega)
          have HBb := Lib.hid (show (0 ≤ p0 ∧ p0 < 256) ∧ (0 ≤ p1 ∧ p1 < 256) ∧ (0 ≤ p2 ∧ p2 < 256) ∧ (0 ≤ p3 ∧ p3 < 256) ∧ (0 ≤ p4 ∧ p4 < 256) ∧ (0 ≤ p5 ∧ p5 < 256) from ⟨b_0, b_1, b_2, b_3, b_4, b_5⟩)
          clear hp0 b_0 hp1 b_1 hp2 b_2 hp3 b_3 hp4 b_4 hp5 b_5
          go_upto_region 4 with (fail)
          obtain ⟨g6, hg6⟩ : ∃ x, x = w1.heap.size := ⟨_, rfl⟩
          obtain ⟨U, hU⟩ : ∃ U, U = w1.alloc (.cells #[.int .u8 0, .int .u8 0, .int .u8 0, .int .u8 0, .int .u8 0, .int .u8 0] 63) := ⟨_, rfl⟩
          have HP0 := Lib.hid (show U.heap[g6]? = some (.cells #[.int .u8 0, .int .u8 0, .int .u8 0, .int .u8 0, .int .u8 0, .int .u8 0] 63 (0, 0)) by rw [hU, hg6]; exact heap_alloc_new w1 _)
          have HGU := Lib.hid (show U.heap[gw]? = some (.cells #[.int .i64 0, .slice none 0 0] 26 (0, 0)) by rw [hU, heap_alloc_old w1 _ HS1.out]; exact HG1.out)
          have HKU := Lib.hid (show U.heap[w.heap.size]? = some (.cells #[.int .i64 rl, .slice ua nu uc] 26 (0, 0)) by rw [hU, heap_alloc_old w1 _ (by have := HS1.out; omega)]; exact HK1.out)
          have HBU := Lib.hid (show Below w.heap.size w U by rw [hU]; exact HB1.out.alloc HB1.out.size _)
          have hg6U : g6 < U.heap.size := by rw [hU, hg6]; simp
          have hg6w : gw < g6 := by rw [hg6]; exact HS1.out
          rw [← hU, ← hg6]
          have hsrc : ∀ j v, ([.int .u8 p0, .int .u8 p1, .int .u8 p2, .int .u8 p3, .int .u8 p4, .int .u8 p5] : List Value)[j]? = some v → U.cell? ((⟨b, off + 2, none⟩ : Addr).add j) = some v := by
            intro j v hv
            have hj : j < 6 := by have := (List.getElem?_eq_some_iff.1 hv).1; simpa using this
            have hadd : (⟨b, off + 2, none⟩ : Addr).add j = ⟨b, off + (2 + j), none⟩ := by unfold Addr.add; split <;> simp_all [Nat.add_assoc]
            rw [hadd, (HBU.out.cell (p := ⟨b, off + (2 + j), none⟩) HLT.out).trans (HCc.out (2 + j) (by rw [← HNL.out]; omega)), ← hv]
            have : j = 0 ∨ j = 1 ∨ j = 2 ∨ j = 3 ∨ j = 4 ∨ j = 5 := by omega
            rcases this with rfl | rfl | rfl | rfl | rfl | rfl
            · rw [HP_0.out]; rfl
            · rw [HP_1.out]; rfl
            · rw [HP_2.out]; rfl
            · rw [HP_3.out]; rfl
            · rw [HP_4.out]; rfl
            · rw [HP_5.out]; rfl
          have HSrc := Lib.hid hsrc
          have hone : ∀ v ∈ ([.int .u8 p0, .int .u8 p1, .int .u8 p2, .int .u8 p3, .int .u8 p4, .int .u8 p5] : List Value), v.oneCell' = true := by intro v hv; simp at hv; rcases hv with rfl | rfl | rfl | rfl | rfl | rfl <;> rfl
          have HOne := Lib.hid hone
          have hxc2 : ¬ xc = 2 := by omega
          clear hU hg6 hsrc hone
          go_region_law (first
            | (refine step_copy_splice (by rfl) (.tmp 30) (.tmp 32) 22 22 (by rfl) 5 Tryd.underlying22 iU8 (some ⟨g6, 0, none⟩) (some ⟨b, off + 2, none⟩) 6 6 6 (xc - 2) (by rfl) (by rfl) g6 0 [.int .u8 0, .int .u8 0, .int .u8 0, .int .u8 0, .int .u8 0, .int .u8 0] 63 (by exact HP0.out) [.int .u8 p0, .int .u8 p1, .int .u8 p2, .int .u8 p3, .int .u8 p4, .int .u8 p5] (by rfl) (fun _ => ⟨rfl, _, rfl, fun j v hv => HSrc.out j v hv⟩) (by simp) HOne.out g6 U (by exact (Below.refl g6 U).drew) (Nat.le_refl _) ?_; intro w4 hp4 hb4; have HP4 := Lib.hid (show w4.heap[g6]? = some (.cells #[.int .u8 p0, .int .u8 p1, .int .u8 p2, .int .u8 p3, .int .u8 p4, .int .u8 p5] 63 (0, 0)) from hp4.out); have HB4 := Lib.hid hb4; clear hp4 hb4))
          all_goals
            have HB4w := Lib.hid (show Below w.heap.size w w4 from HBU.out.trans (HB4.out.mono (by omega)))
            have HG4 := Lib.hid ((HB4.out.block gw hg6w).trans HGU.out)
            have HK4 := Lib.hid ((HB4.out.block w.heap.size (by omega)).trans HKU.out)
            have hg6s : g6 < w4.heap.size := (Array.getElem?_eq_some_iff.mp HP4.out).1
            have d0 := (HB4w.out.cell (p := ⟨b, off, none⟩) HLT.out).trans (HCc.out 0 (by rw [← HNL.out]; omega))
            rw [← HBv.out] at d0
            go_upto_region 6 with (fail)
            obtain ⟨g7, hg7⟩ : ∃ x, x = w4.heap.size := ⟨_, rfl⟩
            obtain ⟨W5, hW5⟩ : ∃ x, x = w4.alloc (.cells #[.int .i64 B, .slice none 0 0] 26) := ⟨_, rfl⟩
            have HM5 := Lib.hid (show W5.heap[g7]? = some (.cells #[.int .i64 B, .slice none 0 0] 26 (0, 0)) by rw [hW5, hg7]; exact heap_alloc_new w4 _)
            have HB5 := Lib.hid (show Below w.heap.size w W5 by rw [hW5]; exact HB4w.out.alloc HB4w.out.size _)
            have HG5 := Lib.hid (show W5.heap[gw]? = some (.cells #[.int .i64 0, .slice none 0 0] 26 (0, 0)) by rw [hW5, heap_alloc_old w4 _ (by omega)]; exact HG4.out)
            have HK5 := Lib.hid (show W5.heap[w.heap.size]? = some (.cells #[.int .i64 rl, .slice ua nu uc] 26 (0, 0)) by rw [hW5, heap_alloc_old w4 _ (by omega)]; exact HK4.out)
            have HP5 := Lib.hid (show W5.heap[g6]? = some (.cells #[.int .u8 p0, .int .u8 p1, .int .u8 p2, .int .u8 p3, .int .u8 p4, .int .u8 p5] 63 (0, 0)) by rw [hW5, heap_alloc_old w4 _ hg6s]; exact HP4.out)
            have hg67 : g6 < g7 := by rw [hg7]; exact hg6s
            have HS5 := Lib.hid (show W5.heap.size = g7 + 1 by rw [hW5, hg7]; simp)
            rw [← hg7, ← hW5]
            have HC5 := Lib.hid (HC.out.below HB5.out HC.out.lt)
            obtain ⟨E, hE⟩ : ∃ E, E = allOne bs := ⟨_, rfl⟩
            have hE2 : E = decide (p0 = 1 ∧ p1 = 1 ∧ p2 = 1 ∧ p3 = 1 ∧ p4 = 1 ∧ p5 = 1) := by
              rw [hE]
              show decide (bs.getD (2 + 0) 0 = 1 ∧ bs.getD (2 + 1) 0 = 1 ∧ bs.getD (2 + 2) 0 = 1 ∧ bs.getD (2 + 3) 0 = 1 ∧ bs.getD (2 + 4) 0 = 1 ∧ bs.getD (2 + 5) 0 = 1) = _
              rw [HP_0.out, HP_1.out, HP_2.out, HP_3.out, HP_4.out, HP_5.out]
            have heq := eqPl_run p0 p1 p2 p3 p4 p5 1 1 1 1 1 1 HBb.out (by decide) E hE2
            have HE := Lib.hid hE
            have k0 : W5.cell? ⟨g6, 0, none⟩ = some (.int .u8 p0) := (cells_of_heap HP5.out 0 (by simp)).1
            have k1 : W5.cell? ⟨g6, 1, none⟩ = some (.int .u8 p1) := (cells_of_heap HP5.out 1 (by simp)).1
            have k2 : W5.cell? ⟨g6, 2, none⟩ = some (.int .u8 p2) := (cells_of_heap HP5.out 2 (by simp)).1
            have k3 : W5.cell? ⟨g6, 3, none⟩ = some (.int .u8 p3) := (cells_of_heap HP5.out 3 (by simp)).1
            have k4 : W5.cell? ⟨g6, 4, none⟩ = some (.int .u8 p4) := (cells_of_heap HP5.out 4 (by simp)).1
            have k5 : W5.cell? ⟨g6, 5, none⟩ = some (.int .u8 p5) := (cells_of_heap HP5.out 5 (by simp)).1
            have o0 := HC5.out.cell (j := 0) (by omega)
            have o1 := HC5.out.cell (j := 1) (by omega)
            have o2 := HC5.out.cell (j := 2) (by omega)
            have o3 := HC5.out.cell (j := 3) (by omega)
            have o4 := HC5.out.cell (j := 4) (by omega)
            have o5 := HC5.out.cell (j := 5) (by omega)
            clear hW5 hg7 d0 hE hE2
            go_upto_if 41 with (fail)
            cases E
            · have HR4 := Lib.hid (show r = if okRp B (ksN (plF bs) 6) = true ∧ sameAt (ksN (plF bs) 6) bs = true then ⟨B, ksN (plF bs) 6, true⟩ else ⟨0, [], false⟩ by rw [HR3.out, if_neg (by rw [← HE.out]; decide)])
              have hkl := ksN_len (plF bs) 6
              obtain ⟨X, hX⟩ : ∃ X, X = ksN (plF bs) 6 := ⟨_, rfl⟩
              have HKA := Lib.hid (show ∀ w' : World, Calls Tryd.prog 44 #[.agg #[.int .u8 p0, .int .u8 p1, .int .u8 p2, .int .u8 p3, .int .u8 p4, .int .u8 p5]] w' fun e w'' => ∃ a c, e = .returned (.slice a X.length c) ∧ w''.ownsRow w'.heap.size 3 1 (.slice a X.length c) X.length (X.map (.int .i64)) ∧ Below w'.heap.size w' w'' from fun w' => by
                rw [hX]
                refine keysAt_any (plF bs) #[.int .u8 p0, .int .u8 p1, .int .u8 p2, .int .u8 p3, .int .u8 p4, .int .u8 p5] rfl (fun j hj => ?_) (plF_byte HZ.out) w'
                have : j = 0 ∨ j = 1 ∨ j = 2 ∨ j = 3 ∨ j = 4 ∨ j = 5 := by omega
                rcases this with rfl | rfl | rfl | rfl | rfl | rfl
                · rw [← HP_0.out]; rfl
                · rw [← HP_1.out]; rfl
                · rw [← HP_2.out]; rfl
                · rw [← HP_3.out]; rfl
                · rw [← HP_4.out]; rfl
                · rw [← HP_5.out]; rfl)
              rw [← hX] at hkl HR4
              have HX := Lib.hid hX
              obtain ⟨N, hN⟩ : ∃ N, N = X.length := ⟨_, rfl⟩
              have HN := Lib.hid hN
              have hN6 : N ≤ 6 := by omega
              clear hX hkl hN heq o0 o1 o2 o3 o4 o5
              go_wp2_with fail
              refine (HKA.out _).mono ?_
              rintro e w6 ⟨a, c, rfl, ho, hb⟩
              have HB6 := Lib.hid (HB5.out.trans (hb.mono HB5.out.size))
              have HM6 := Lib.hid ((hb.block g7 (by rw [HS5.out]; omega)).trans HM5.out)
              have HG6 := Lib.hid ((hb.block gw (by rw [HS5.out]; omega)).trans HG5.out)
              have HP6 := Lib.hid ((hb.block g6 (by rw [HS5.out]; omega)).trans HP5.out)
              have HC6 := Lib.hid (HC.out.below HB6.out HC.out.lt)
              have HO6 := Lib.hid ho
              obtain ⟨m0, r0⟩ := cells_of_heap HM6.out 0 (by simp)
              obtain ⟨m1, r1⟩ := cells_of_heap HM6.out 1 (by simp)
              clear hb ho k0 k1 k2 k3 k4 k5
              rw [← HN.out] at HO6 ⊢
              go_upto_region 10 with (fail)
              obtain ⟨W7, hW7⟩ : ∃ x, x = w6.setCell ⟨g7, 1, none⟩ (.slice a N c) := ⟨_, rfl⟩
              have hM7 : W7.heap[g7]? = some (.cells #[.int .i64 B, .slice a N c] 26 (0, 0)) := by rw [hW7]; exact heap_setCell_same w6 g7 1 _ _ _ HM6.out
              have hG7 : W7.heap[gw]? = some (.cells #[.int .i64 0, .slice none 0 0] 26 (0, 0)) := by rw [hW7, heap_setCell_other w6 _ _ _ (show ¬ gw = g7 by omega)]; exact HG6.out
              have hP7 : W7.heap[g6]? = some (.cells #[.int .u8 p0, .int .u8 p1, .int .u8 p2, .int .u8 p3, .int .u8 p4, .int .u8 p5] 63 (0, 0)) := by rw [hW7, heap_setCell_other w6 _ _ _ (show ¬ g6 = g7 by omega)]; exact HP6.out
              have HB7 := Lib.hid (show Below w.heap.size w W7 by rw [hW7]; exact HB6.out.setCell (by show w.heap.size ≤ g7; omega) _)
              have HO7 := Lib.hid (show W7.ownsRow W5.heap.size 3 1 (.slice a N c) N (X.map (.int .i64)) by
                rw [hW7]
                exact owns_keep HO6.out (fun q hq => heap_setCell_other w6 _ _ _ (by have h1 := (HO6.out.lt q hq).1; have h2 := HS5.out; show ¬ q = g7; omega)))
              rw [← hW7]
              have HM7 := Lib.hid hM7
              have HG7 := Lib.hid hG7
              have HC7 := Lib.hid (HC.out.below HB7.out HC.out.lt)
              have HCl := Lib.hid HC7.out.lt
              have hg7s : g7 < W7.heap.size := (Array.getElem?_eq_some_iff.mp hM7).1
              have hg6s7 : g6 < W7.heap.size := (Array.getElem?_eq_some_iff.mp hP7).1
              have hgws7 : gw < W7.heap.size := (Array.getElem?_eq_some_iff.mp hG7).1
              have HRd7 := Lib.hid (Rd.of_owns HO7.out)
              obtain ⟨ok, hok⟩ : ∃ o, o = okRp B X := ⟨_, rfl⟩
              have HOk := Lib.hid hok
              have e0 : W7.cell? ⟨g7, 0, none⟩ = some (.int .i64 B) := (cells_of_heap hM7 0 (by simp)).1
              have e1 : W7.cell? ⟨g7, 1, none⟩ = some (.slice a N c) := (cells_of_heap hM7 1 (by simp)).1
              have x0 := Far.cell hg7s e0
              have x1 := Far.cell hg7s e1
              have z0 := Far.cell hg6s7 (show W7.cell? ⟨g6, 0, none⟩ = some (.int .u8 p0) from (cells_of_heap hP7 0 (by simp)).1)
              have z1 := Far.cell hg6s7 (show W7.cell? ⟨g6, 1, none⟩ = some (.int .u8 p1) from (cells_of_heap hP7 1 (by simp)).1)
              have z2 := Far.cell hg6s7 (show W7.cell? ⟨g6, 2, none⟩ = some (.int .u8 p2) from (cells_of_heap hP7 2 (by simp)).1)
              have z3 := Far.cell hg6s7 (show W7.cell? ⟨g6, 3, none⟩ = some (.int .u8 p3) from (cells_of_heap hP7 3 (by simp)).1)
              have z4 := Far.cell hg6s7 (show W7.cell? ⟨g6, 4, none⟩ = some (.int .u8 p4) from (cells_of_heap hP7 4 (by simp)).1)
              have z5 := Far.cell hg6s7 (show W7.cell? ⟨g6, 5, none⟩ = some (.int .u8 p5) from (cells_of_heap hP7 5 (by simp)).1)
              have HXm := Lib.hid (show X.length ≤ maxLen by rw [← HN.out]; unfold maxLen; omega)
              clear hW7 hM7 hG7 hP7 hok m0 r0 m1 r1 e0 e1
              cases ok
              · have HRn := Lib.hid (show r = ⟨0, [], false⟩ by rw [HR4.out, if_neg (fun e => by have h1 := e.1; rw [← HOk.out] at h1; exact absurd h1 (by decide))])
                refine wp_region_far (by kernel_rfl) (by kernel_rfl) ?_
                repeat (go_big_quiet_step ((go_at_call 36; exact Far.call (implIsReport_q B _ X false HOk.out _ HXm.out (HRd7.out.below (Far.low _))))))
                refine wpQuiet_nil ?_
                intro _ hw'
                obtain ⟨xw, rfl⟩ := hw'
                have HBx := Lib.hid (HB7.out.trans (xw.low.mono HB7.out.size))
                have HGx := Lib.hid ((xw.low.block gw hgws7).trans HG7.out)
                obtain ⟨y0, q0⟩ := cells_of_heap HGx.out 0 (by simp)
                obtain ⟨y1, q1⟩ := cells_of_heap HGx.out 1 (by simp)
                clear x0 x1 z0 z1 z2 z3 z4 z5
                go_wp2
                clear y0 q0 y1 q1
                obtain ⟨wf, hwf⟩ : ∃ x, x = putW (xw.val) (gw) 0 [.int .i64 0, .slice none 0 0] := ⟨_, rfl⟩
                have kf := putW_all [.int .i64 0, .slice none 0 0] HGx.out rfl
                have bf := putW_below (b := gw) (by first | omega | simp) [.int .i64 0, .slice none 0 0] 0 _ HBx.out
                have of := HNil.out _ HBx.out HRn.out
                rw [← hwf] at kf bf of
                have cf := hwf.symm
                simp only [putW, Nat.reduceAdd] at cf
                rw [cf]
                clear cf hwf
                have f0 := (cells_of_heap kf 0 (by simp)).1
                have f1 := (cells_of_heap kf 1 (by simp)).1
                simp only [List.getElem_toArray, List.getElem_cons_zero, List.getElem_cons_succ] at f0 f1
                refine bodyPost_ret (v := .tuple #[rpv 0 (.slice none 0 0), .bool false]) (by simp [results, Tryd.results14, go_sem, f0, f1]) rfl of
              · have hz := (okRp_at HOk.out.symm).2
                have HZx := Lib.hid hz
                obtain ⟨S, hS⟩ : ∃ S, S = sameAt X bs := ⟨_, rfl⟩
                obtain ⟨q0, hq0⟩ : ∃ x, x = bootAt X 0 := ⟨_, rfl⟩
                obtain ⟨q1, hq1⟩ : ∃ x, x = bootAt X 1 := ⟨_, rfl⟩
                obtain ⟨q2, hq2⟩ : ∃ x, x = bootAt X 2 := ⟨_, rfl⟩
                obtain ⟨q3, hq3⟩ : ∃ x, x = bootAt X 3 := ⟨_, rfl⟩
                obtain ⟨q4, hq4⟩ : ∃ x, x = bootAt X 4 := ⟨_, rfl⟩
                obtain ⟨q5, hq5⟩ : ∃ x, x = bootAt X 5 := ⟨_, rfl⟩
                have hS2 : S = decide (q0 = p0 ∧ q1 = p1 ∧ q2 = p2 ∧ q3 = p3 ∧ q4 = p4 ∧ q5 = p5) := by
                  rw [hS, hq0, hq1, hq2, hq3, hq4, hq5]
                  show decide (bootAt X 0 = bs.getD (2 + 0) 0 ∧ bootAt X 1 = bs.getD (2 + 1) 0 ∧ bootAt X 2 = bs.getD (2 + 2) 0 ∧ bootAt X 3 = bs.getD (2 + 3) 0 ∧ bootAt X 4 = bs.getD (2 + 4) 0 ∧ bootAt X 5 = bs.getD (2 + 5) 0) = _
                  rw [HP_0.out, HP_1.out, HP_2.out, HP_3.out, HP_4.out, HP_5.out]
                have hneq := nePl_run q0 q1 q2 q3 q4 q5 p0 p1 p2 p3 p4 p5 (by rw [hq0, hq1, hq2, hq3, hq4, hq5]; exact ⟨bootAt_in7 hz 0, bootAt_in7 hz 1, bootAt_in7 hz 2, bootAt_in7 hz 3, bootAt_in7 hz 4, bootAt_in7 hz 5⟩) HBb.out S hS2
                have HQ := Lib.hid (show q0 = bootAt X 0 ∧ q1 = bootAt X 1 ∧ q2 = bootAt X 2 ∧ q3 = bootAt X 3 ∧ q4 = bootAt X 4 ∧ q5 = bootAt X 5 from ⟨hq0, hq1, hq2, hq3, hq4, hq5⟩)
                have HSm := Lib.hid hS
                clear hz hS hS2 hq0 hq1 hq2 hq3 hq4 hq5
                cases S
                all_goals
                  refine wp_region_far (by kernel_rfl) (by kernel_rfl) ?_
                  repeat (go_big_quiet_step ((first | (go_at_call 36; exact Far.call (implIsReport_q B _ X true HOk.out _ HXm.out (HRd7.out.below (Far.low _)))) | (go_at_call 45; exact Far.call (placesOf_q _ X q0 q1 q2 q3 q4 q5 HQ.out _ HXm.out HZx.out (HC7.out.below (Far.low _) HCl.out) (HRd7.out.below (Far.low _)))))))
                  refine wpQuiet_nil ?_
                  intro _ hw'
                  obtain ⟨xw, rfl⟩ := hw'
                  have HBx := Lib.hid (HB7.out.trans (xw.low.mono HB7.out.size))
                  have HGx := Lib.hid ((xw.low.block gw hgws7).trans HG7.out)
                  obtain ⟨y0, q0⟩ := cells_of_heap HGx.out 0 (by simp)
                  obtain ⟨y1, q1⟩ := cells_of_heap HGx.out 1 (by simp)
                  have m0 := x0 xw
                  have m1 := x1 xw
                  have HOx := Lib.hid (owns_below HO7.out xw.low)
                  clear x0 x1 z0 z1 z2 z3 z4 z5 hneq
                · have HRn := Lib.hid (show r = ⟨0, [], false⟩ by rw [HR4.out, if_neg (fun e => by have h1 := e.2; rw [← HSm.out] at h1; exact absurd h1 (by decide))])
                  go_wp2
                  clear y0 q0 y1 q1 m0 m1
                  obtain ⟨wf, hwf⟩ : ∃ x, x = putW (xw.val) (gw) 0 [.int .i64 0, .slice none 0 0] := ⟨_, rfl⟩
                  have kf := putW_all [.int .i64 0, .slice none 0 0] HGx.out rfl
                  have bf := putW_below (b := gw) (by first | omega | simp) [.int .i64 0, .slice none 0 0] 0 _ HBx.out
                  have of := HNil.out _ HBx.out HRn.out
                  rw [← hwf] at kf bf of
                  have cf := hwf.symm
                  simp only [putW, Nat.reduceAdd] at cf
                  rw [cf]
                  clear cf hwf
                  have f0 := (cells_of_heap kf 0 (by simp)).1
                  have f1 := (cells_of_heap kf 1 (by simp)).1
                  simp only [List.getElem_toArray, List.getElem_cons_zero, List.getElem_cons_succ] at f0 f1
                  refine bodyPost_ret (v := .tuple #[rpv 0 (.slice none 0 0), .bool false]) (by simp [results, Tryd.results14, go_sem, f0, f1]) rfl of
                · have HRn := Lib.hid (show r = ⟨B, X, true⟩ by rw [HR4.out, if_pos ⟨HOk.out.symm, HSm.out.symm⟩])
                  go_wp2
                  clear y0 q0 y1 q1 m0 m1
                  obtain ⟨wf, hwf⟩ : ∃ x, x = putW (xw.val) (gw) 0 [.int .i64 B, .slice a N c] := ⟨_, rfl⟩
                  have kf := putW_all [.int .i64 B, .slice a N c] HGx.out rfl
                  have bf := putW_below (b := gw) (by first | omega | simp) [.int .i64 B, .slice a N c] 0 _ HBx.out
                  have of := owns_putAt HOx.out (y := gw) (fun q hq => by have h1 := (HO7.out.lt q hq).1; have h2 := HS5.out; omega) 0 [.int .i64 B, .slice a N c]
                  rw [← hwf] at kf bf of
                  have cf := hwf.symm
                  simp only [putW, Nat.reduceAdd] at cf
                  rw [cf]
                  clear cf hwf
                  have f0 := (cells_of_heap kf 0 (by simp)).1
                  have f1 := (cells_of_heap kf 1 (by simp)).1
                  simp only [List.getElem_toArray, List.getElem_cons_zero, List.getElem_cons_succ] at f0 f1
                  refine bodyPost_ret (v := .tuple #[rpv B (.slice a N c), .bool true]) (by simp [results, Tryd.results14, go_sem, f0, f1]) rfl (by rw [HRn.out]; exact ⟨_, rfl, by rw [← HN.out]; exact owns_base of HB5.out.size, bf⟩)
            · have HRn := Lib.hid (show r = ⟨B, zl, true⟩ by rw [HR3.out, if_pos HE.out.symm])
              have c1 : W5.cell? ⟨w.heap.size, 1, none⟩ = some (.slice ua nu uc) := (cells_of_heap HK5.out 1 (by simp)).1
              clear heq k0 k1 k2 k3 k4 k5 o0 o1 o2 o3 o4 o5
              go_wp2_with fail
              refine (clone_any _ zl _ HZL.out (by rw [HNU.out]; have := HU0.out.below HB5.out; rw [← HNU.out] at this ⊢; exact this)).mono ?_
              rintro e w6 ⟨a, c, rfl, ho, hb⟩
              rw [← HNU.out] at ho ⊢
              have HB6 := Lib.hid (HB5.out.trans (hb.mono HB5.out.size))
              have HM6 := Lib.hid ((hb.block g7 (by rw [HS5.out]; omega)).trans HM5.out)
              have HG6 := Lib.hid ((hb.block gw (by rw [HS5.out]; omega)).trans HG5.out)
              have HO6 := Lib.hid ho
              obtain ⟨m0, r0⟩ := cells_of_heap HM6.out 0 (by simp)
              obtain ⟨m1, r1⟩ := cells_of_heap HM6.out 1 (by simp)
              clear hb ho c1
              go_upto_region 8 with (fail)
              obtain ⟨W7, hW7⟩ : ∃ x, x = w6.setCell ⟨g7, 1, none⟩ (.slice a nu c) := ⟨_, rfl⟩
              have hM7 : W7.heap[g7]? = some (.cells #[.int .i64 B, .slice a nu c] 26 (0, 0)) := by rw [hW7]; exact heap_setCell_same w6 g7 1 _ _ _ HM6.out
              have HG7 := Lib.hid (show W7.heap[gw]? = some (.cells #[.int .i64 0, .slice none 0 0] 26 (0, 0)) by rw [hW7, heap_setCell_other w6 _ _ _ (show ¬ gw = g7 by omega)]; exact HG6.out)
              have HB7 := Lib.hid (show Below w.heap.size w W7 by rw [hW7]; exact HB6.out.setCell (by show w.heap.size ≤ g7; omega) _)
              have HO7 := Lib.hid (show W7.ownsRow W5.heap.size 3 1 (.slice a nu c) nu (zl.map (.int .i64)) by
                rw [hW7]
                exact owns_keep HO6.out (fun q hq => heap_setCell_other w6 _ _ _ (by have h1 := (HO6.out.lt q hq).1; have h2 := HS5.out; show ¬ q = g7; omega)))
              rw [← hW7]
              have e0 : W7.cell? ⟨g7, 0, none⟩ = some (.int .i64 B) := (cells_of_heap hM7 0 (by simp)).1
              have e1 : W7.cell? ⟨g7, 1, none⟩ = some (.slice a nu c) := (cells_of_heap hM7 1 (by simp)).1
              obtain ⟨y0, q0⟩ := cells_of_heap HG7.out 0 (by simp)
              obtain ⟨y1, q1⟩ := cells_of_heap HG7.out 1 (by simp)
              clear hW7 hM7 m0 r0 m1 r1
              go_wp2
              clear y0 q0 y1 q1 e0 e1
              obtain ⟨wf, hwf⟩ : ∃ x, x = putW (W7) (gw) 0 [.int .i64 B, .slice a nu c] := ⟨_, rfl⟩
              have kf := putW_all [.int .i64 B, .slice a nu c] HG7.out rfl
              have bf := putW_below (b := gw) (by first | omega | simp) [.int .i64 B, .slice a nu c] 0 _ HB7.out
              have of := owns_putAt HO7.out (y := gw) (fun q hq => by have h1 := (HO7.out.lt q hq).1; have h2 := HS5.out; omega) 0 [.int .i64 B, .slice a nu c]
              rw [← hwf] at kf bf of
              have cf := hwf.symm
              simp only [putW, Nat.reduceAdd] at cf
              rw [cf]
              clear cf hwf
              have f0 := (cells_of_heap kf 0 (by simp)).1
              have f1 := (cells_of_heap kf 1 (by simp)).1
              simp only [List.getElem_toArray, List.getElem_cons_zero, List.getElem_cons_succ] at f0 f1
              refine bodyPost_ret (v := .tuple #[rpv B (.slice a nu c), .bool true]) (by simp [results, Tryd.results14, go_sem, f0, f1]) rfl (by rw [HRn.out]; exact ⟨_, rfl, by rw [← HNU.out]; exact owns_base of HB5.out.size, bf⟩)
      · have h10' : (B1 == 0) = false := by simp [h10]
        have HRn := Lib.hid (show r = ⟨0, [], false⟩ by rw [HR2.out, if_neg (fun e => h10 e.2.1)])
        go_wp2
        clear y0 q0 y1 q1
        obtain ⟨wf, hwf⟩ : ∃ x, x = putW (V) (gw) 0 [.int .i64 0, .slice none 0 0] := ⟨_, rfl⟩
        have kf := putW_all [.int .i64 0, .slice none 0 0] HG0.out rfl
        have bf := putW_below (b := gw) (by first | omega | simp) [.int .i64 0, .slice none 0 0] 0 _ HB0.out
        have of := HNil.out _ HB0.out HRn.out
        rw [← hwf] at kf bf of
        have cf := hwf.symm
        simp only [putW, Nat.reduceAdd] at cf
        rw [cf]
        clear cf hwf
        have f0 := (cells_of_heap kf 0 (by simp)).1
        have f1 := (cells_of_heap kf 1 (by simp)).1
        simp only [List.getElem_toArray, List.getElem_cons_zero, List.getElem_cons_succ] at f0 f1
        refine bodyPost_ret (v := .tuple #[rpv 0 (.slice none 0 0), .bool false]) (by simp [results, Tryd.results14, go_sem, f0, f1]) rfl of
    · have h15' : (15 : Int) < B := by omega
      have HRn := Lib.hid (show r = ⟨0, [], false⟩ by rw [HR2.out, if_neg (fun e => h15 e.1)])
      go_wp2
      clear y0 q0 y1 q1
      obtain ⟨wf, hwf⟩ : ∃ x, x = putW (V) (gw) 0 [.int .i64 0, .slice none 0 0] := ⟨_, rfl⟩
      have kf := putW_all [.int .i64 0, .slice none 0 0] HG0.out rfl
      have bf := putW_below (b := gw) (by first | omega | simp) [.int .i64 0, .slice none 0 0] 0 _ HB0.out
      have of := HNil.out _ HB0.out HRn.out
      rw [← hwf] at kf bf of
      have cf := hwf.symm
      simp only [putW, Nat.reduceAdd] at cf
      rw [cf]
      clear cf hwf
      have f0 := (cells_of_heap kf 0 (by simp)).1
      have f1 := (cells_of_heap kf 1 (by simp)).1
      simp only [List.getElem_toArray, List.getElem_cons_zero, List.getElem_cons_succ] at f0 f1
      refine bodyPost_ret (v := .tuple #[rpv 0 (.slice none 0 0), .bool false]) (by simp [results, Tryd.results14, go_sem, f0, f1]) rfl of
  · have HRr := Lib.hid (show r = ⟨0, [], false⟩ by rw [HR.out, pbV, if_neg (fun e => h8 (by rw [HNL.out]; exact e.1))])
    have h8' : ¬ (n : Int) = 8 := by omega
    obtain ⟨y0, q0⟩ := cells_of_heap HG0.out 0 (by simp)
    obtain ⟨y1, q1⟩ := cells_of_heap HG0.out 1 (by simp)
    go_enter Tryd.func14, Tryd.ntmps14
    go_upto_region 1 with (fail)
    rw [← HV.out]
    go_wp2
    clear y0 q0 y1 q1
    obtain ⟨wf, hwf⟩ : ∃ x, x = putW (V) (gw) 0 [.int .i64 0, .slice none 0 0] := ⟨_, rfl⟩
    have kf := putW_all [.int .i64 0, .slice none 0 0] HG0.out rfl
    have bf := putW_below (b := gw) (by first | omega | simp) [.int .i64 0, .slice none 0 0] 0 _ HB0.out
    have of := HNil.out _ HB0.out HRr.out
    rw [← hwf] at kf bf of
    have cf := hwf.symm
    simp only [putW, Nat.reduceAdd] at cf
    rw [cf]
    clear cf hwf
    have f0 := (cells_of_heap kf 0 (by simp)).1
    have f1 := (cells_of_heap kf 1 (by simp)).1
    simp only [List.getElem_toArray, List.getElem_cons_zero, List.getElem_cons_succ] at f0 f1
    refine bodyPost_ret (v := .tuple #[rpv 0 (.slice none 0 0), .bool false]) (by simp [results, Tryd.results14, go_sem, f0, f1]) rfl of

end Go.Proofs.YtghijkpcmamebaaDoor
