/- DERIVED. Chapter 7's reports: valid ones and alike ones as plain functions; the reference's IsReport and SameReport. · Chapter 7's words on reports as plain functions: the report of held keys, boot bytes, bits. No condition. · The reference's SameReport: two reports are alike. · The reference's BootBytes: a report's boot bytes. -/
import Derived.Test.YteljmfdlegohbaaRp
import Derived.Test.YteljmfdlegohbaaDeb
import Derived.Test.YteljmfdlegohbaaSeqSpec
import Derived.Test.YteljmfdlegohbaaHd
import Derived.Deep.DeepCutAuto
import Derived.Test.YteljmfdlegohbaaText
import Derived.Deep.AppendLies
namespace Go.Proofs.Yteljmfdlegohbaa
open Go.RowKit

def rpAt (zs : List Int) (j : Nat) : Bool := inB (zs.getD j 0) 1 56 && (decide (j = 0) || decide (zs.getD (j - 1) 0 < zs.getD j 0))
def rpN (zs : List Int) : Nat → Bool
  | 0 => true
  | j + 1 => rpN zs j && rpAt zs j
def okRp (r : Int) (zs : List Int) : Bool := rpN zs zs.length && inB r 0 15
theorem rpN_no {zs : List Int} {j : Nat} (h : rpAt zs j = false) : ∀ m, j < m → rpN zs m = false
  | 0, hm => absurd hm (Nat.not_lt_zero _)
  | m + 1, hm => by
    rcases Nat.lt_or_ge j m with h2 | h2
    · rw [rpN, rpN_no h m h2, Bool.false_and]
    · obtain rfl : j = m := by omega
      rw [rpN, h, Bool.and_false]
theorem rpN_at {zs : List Int} : ∀ {m : Nat}, rpN zs m = true → ∀ j, j < m → rpAt zs j = true
  | 0, _, j, hj => absurd hj (Nat.not_lt_zero _)
  | m + 1, h, j, hj => by
    rw [rpN, Bool.and_eq_true] at h
    rcases Nat.lt_or_ge j m with h2 | h2
    · exact rpN_at h.1 j h2
    · obtain rfl : j = m := by omega
      exact h.2

set_option maxRecDepth 100000 in
set_option maxHeartbeats 4000000 in
theorem specIsReport_any (r : Int) (u : Value) (zs : List Int) (w : World) (hl : zs.length ≤ maxLen) (h : Rd w u (zs.map (.int .i64))) :
    Calls Try.prog 142 #[rpv r u] w fun e w' => e = .returned (.bool (okRp r zs)) ∧ Below w.heap.size w w' := by
  unfold maxLen at hl
  obtain ⟨v, hv⟩ : ∃ v, v = okRp r zs := ⟨_, rfl⟩
  rw [← hv]
  obtain ⟨V, hV⟩ : ∃ V, V = inB r 0 15 := ⟨_, rfl⟩
  have hv2 : v = (rpN zs zs.length && V) := by rw [hv, hV]; rfl
  have HV := Lib.hid hV
  have HVV := Lib.hid hv2
  clear hv hV hv2
  rcases rd_ints h with ⟨rfl, a, cap, rfl⟩ | ⟨b, off, cap, hpos, rfl, hlt, hc⟩
  · clear h
    obtain rfl : v = V := HVV.out
    obtain ⟨W, hW⟩ : ∃ W, W = w.alloc (.cells #[.int .i64 r, .slice a 0 cap] 62) := ⟨_, rfl⟩
    have HX0 := Lib.hid (show Bxd W w.heap.size [.int .i64 r, .slice a 0 cap] by rw [hW]; exact Bxd.new _ _ _)
    have HB0 := Lib.hid (show Below w.heap.size w W by rw [hW]; exact (Below.refl _ _).alloc (Nat.le_refl _) _)
    have HS0 := Lib.hid (show w.heap.size < W.heap.size by rw [hW]; simp)
    have HW := Lib.hid hW
    clear hW
    go_enter Try.func142, Try.ntmps142
    go_wp2
    rw [← HW.out]
    have c0 := HX0.out.at 0 _ rfl
    have c1 := HX0.out.at 1 _ rfl
    refine wp_loop_rounds 1 ?_
    rw [rounds_succ]
    go_wp2_with fail
    refine (inB_any r 0 15 _).mono ?_
    rw [← HV.out]
    rintro e w0 ⟨rfl, rfl⟩
    go_wp2
    go_ret
    exact ⟨rfl, HB0.out⟩
  · have HC := Lib.hid hc
    obtain ⟨N, hN⟩ : ∃ N, N = zs.length := ⟨_, rfl⟩
    rw [← hN] at hl hpos ⊢
    have HNN := Lib.hid hN
    clear h hc hN
    obtain ⟨W, hW⟩ : ∃ W, W = w.alloc (.cells #[.int .i64 r, .slice (some ⟨b, off, none⟩) N cap] 62) := ⟨_, rfl⟩
    have HX0 := Lib.hid (show Bxd W w.heap.size [.int .i64 r, .slice (some ⟨b, off, none⟩) N cap] by rw [hW]; exact Bxd.new _ _ _)
    have HB0 := Lib.hid (show Below w.heap.size w W by rw [hW]; exact (Below.refl _ _).alloc (Nat.le_refl _) _)
    have HS0 := Lib.hid (show w.heap.size < W.heap.size by rw [hW]; simp)
    have HW := Lib.hid hW
    clear hW
    go_enter Try.func142, Try.ntmps142
    go_wp2
    rw [← HW.out]
    go_loopw [3] (fun i wr => ∃ (j : Nat), j ≤ N ∧ i = .int .i64 j ∧ rpN zs j = true ∧ Below W.heap.size W wr) (fun i _ => N - (intOf i).toNat)
    case atStart => exact ⟨0, Nat.zero_le _, rfl, rfl, Below.refl _ _⟩
    case round =>
      obtain ⟨j, hj, rfl, hp, hb⟩ := hrel
      have c0 := (HX0.out.below hb HS0.out).at 0 _ rfl
      have c1 := (HX0.out.below hb HS0.out).at 1 _ rfl
      by_cases hlt' : j < N
      · have rd : ∀ q, q < N → wr.cell? ⟨b, off + q, none⟩ = some (.int .i64 (zs.getD q 0)) := fun q hq =>
          (hb.cell (p := ⟨b, off + q, none⟩) (Nat.lt_of_lt_of_le hlt HB0.out.size)).trans ((HB0.out.cell (p := ⟨b, off + q, none⟩) hlt).trans (HC.out q (by rw [← HNN.out]; exact hq)))
        have d1 := rd j hlt'
        have hbad : rpAt zs j = false → v = false := fun h0 => by rw [HVV.out, rpN_no h0 _ (by rw [← HNN.out]; exact hlt'), Bool.false_and]
        have hnx : rpAt zs j = true → rpN zs (j + 1) = true := fun h0 => by rw [rpN, hp, h0]; rfl
        obtain ⟨z, hz⟩ : ∃ z, z = zs.getD j 0 := ⟨_, rfl⟩
        obtain ⟨q, hq⟩ : ∃ q, q = inB z 1 56 := ⟨_, rfl⟩
        have hat : rpAt zs j = (q && (decide (j = 0) || decide (zs.getD (j - 1) 0 < z))) := by rw [hq, hz]; rfl
        rw [hat] at hbad hnx
        rw [← hz] at d1
        have HBad := Lib.hid hbad
        have HNX := Lib.hid hnx
        have HQ := Lib.hid hq
        have HB := Lib.hid hb
        have HRD := Lib.hid rd
        clear hbad hnx hat hq hz hb hp rd
        cases q
        · obtain rfl : v = false := HBad.out rfl
          go_wp2
          go_quiet ((go_at_call 126; exact Calls.quiet_of_same (inB_q z 1 56 false HQ.out _)))
          go_wp2
          go_ret
          exact ⟨rfl, HB0.out.trans (below_drewN HB.out _ |>.mono HB0.out.size)⟩
        · by_cases hj0 : j = 0
          · have HT := Lib.hid (HNX.out (by rw [decide_eq_true hj0]; rfl))
            subst hj0
            have d2 : wr.cell? ⟨b, off, none⟩ = some (.int .i64 z) := d1
            go_wp2
            go_quiet ((go_at_call 126; exact Calls.quiet_of_same (inB_q z 1 56 true HQ.out _)))
            go_wp2
            go_roundw
            case rel => exact ⟨1, by omega, by go_num, HT.out, below_drewN HB.out _⟩
            case measure => simp [intOf]; omega
          · obtain ⟨k, rfl⟩ : ∃ k, j = k + 1 := ⟨j - 1, by omega⟩
            have d0 := HRD.out k (by omega)
            obtain ⟨y, hy⟩ : ∃ y, y = zs.getD k 0 := ⟨_, rfl⟩
            rw [← hy] at d0
            have hy2 : zs.getD (k + 1 - 1) 0 = y := by rw [hy]; rfl
            have hw1 : IntKind.i64.wrap (((k + 1 : Nat) : Int) - 1) = (k : Int) := by rw [IntWalk.i64_in _ ⟨by omega, by omega⟩]; omega
            have hgt : ((0 : Int) < ((k + 1 : Nat) : Int)) := by omega
            by_cases hyz : y < z
            · have HT := Lib.hid (HNX.out (by rw [hy2, decide_eq_true hyz]; simp))
              have hge : ¬ z ≤ y := by omega
              clear hy
              go_wp2
              go_quiet ((go_at_call 126; exact Calls.quiet_of_same (inB_q z 1 56 true HQ.out _)))
              go_wp2
              go_roundw
              case rel => exact ⟨k + 2, by omega, by go_num, HT.out, below_drewN HB.out _⟩
              case measure => simp [intOf]; omega
            · obtain rfl : v = false := HBad.out (by rw [hy2, decide_eq_false hyz]; simp)
              have hge : z ≤ y := by omega
              clear hy
              go_wp2
              go_quiet ((go_at_call 126; exact Calls.quiet_of_same (inB_q z 1 56 true HQ.out _)))
              go_wp2
              go_ret
              exact ⟨rfl, HB0.out.trans (below_drewN HB.out _ |>.mono HB0.out.size)⟩
      · obtain rfl : j = N := by omega
        obtain rfl : v = V := by rw [HVV.out, ← HNN.out, hp, Bool.true_and]
        have HB := Lib.hid hb
        clear hb
        go_wp2_with fail
        refine (inB_any r 0 15 _).mono ?_
        rw [← HV.out]
        rintro e w0 ⟨rfl, rfl⟩
        go_wp2
        go_ret
        exact ⟨rfl, HB0.out.trans (HB.out.mono HB0.out.size)⟩
end Go.Proofs.Yteljmfdlegohbaa

namespace Go.Proofs.Yteljmfdlegohbaa
open Go.RowKit

/-- The modifiers of the first j held keys. -/
def mdOf (l : List Hd) : Nat → Nat
  | 0 => 0
  | j + 1 => if (hdD l j).k = 2 ∨ (hdD l j).k = 8 then mdOf l j ||| (hdD l j).m.toNat else mdOf l j
/-- One of the first j held keys has the code c. -/
def hasC (l : List Hd) (c : Int) : Nat → Bool
  | 0 => false
  | j + 1 => hasC l c j || decide ((hdD l j).c = c)
/-- The codes up to k that held keys have. -/
def codesN (l : List Hd) : Nat → List Int
  | 0 => []
  | k + 1 => if hasC l ((k + 1 : Nat) : Int) l.length = true then codesN l k ++ [((k + 1 : Nat) : Int)] else codesN l k
def rofM (l : List Hd) : Nat := if okHd l = true then mdOf l l.length else 0
def rofK (l : List Hd) : List Int := if okHd l = true then codesN l 56 else []
theorem hasC_yes {l : List Hd} {c : Int} {j : Nat} (h : (hdD l j).c = c) : ∀ m, j < m → hasC l c m = true
  | 0, hm => absurd hm (Nat.not_lt_zero _)
  | m + 1, hm => by
    rcases Nat.lt_or_ge j m with h2 | h2
    · rw [hasC, hasC_yes h m h2, Bool.true_or]
    · obtain rfl : j = m := by omega
      rw [hasC, decide_eq_true h, Bool.or_true]
theorem codesN_len (l : List Hd) : ∀ k, (codesN l k).length ≤ k
  | 0 => Nat.le_refl _
  | k + 1 => by
    have := codesN_len l k
    rw [codesN]; split
    · simp; omega
    · omega
theorem codesN_mem (l : List Hd) : ∀ k, ∀ z ∈ codesN l k, 1 ≤ z ∧ z ≤ (k : Int)
  | 0, z, h => by simp [codesN] at h
  | k + 1, z, h => by
    rw [codesN] at h
    split at h
    · rcases List.mem_append.1 h with h1 | h1
      · have := codesN_mem l k z h1; omega
      · rw [List.mem_singleton.1 h1]; omega
    · have := codesN_mem l k z h; omega
theorem okOne_mods {e : Hd} (h : okOne e = true) : 0 ≤ e.m ∧ e.m ≤ 15 := by
  have h1 := (okOne_at h).2.1
  unfold okAc inB at h1
  split at h1
  · simp only [Bool.and_eq_true, decide_eq_true_eq] at h1; omega
  split at h1
  · simp only [Bool.and_eq_true, Bool.or_eq_true, decide_eq_true_eq] at h1; omega
  split at h1
  · simp only [Bool.and_eq_true, decide_eq_true_eq] at h1; omega
  split at h1
  · simp only [Bool.and_eq_true, decide_eq_true_eq] at h1; omega
  split at h1
  · simp only [Bool.and_eq_true, decide_eq_true_eq] at h1; omega
  split at h1
  · simp only [Bool.and_eq_true, decide_eq_true_eq] at h1; omega
  split at h1
  · simp only [Bool.and_eq_true, decide_eq_true_eq] at h1; omega
  · exact absurd h1 (by decide)
theorem mdOf_lt {l : List Hd} (h : okHd l = true) : ∀ j, j ≤ l.length → mdOf l j < 2 ^ 4
  | 0, _ => by simp [mdOf]
  | j + 1, hj => by
    have ih := mdOf_lt h j (by omega)
    have hm := okOne_mods (hdN_at h j (by omega)).1
    rw [mdOf]
    split
    · exact Nat.or_lt_two_pow ih (by omega)
    · exact ih

/-- A report's boot bytes. -/
def bootAt (zs : List Int) (i : Nat) : Int := if 6 < zs.length then 1 else if i < zs.length then zs.getD i 0 + 3 else 0
def bbV (r : Int) (zs : List Int) : List Int := if okRp r zs = true then [r, 0] ++ (List.range 6).map (bootAt zs) else []

/-- What is read of boot bytes up to place i (from 2 on): how many ones, the codes, no hole. -/
def bOnes (b : List Int) : Nat → Nat
  | 0 => 0
  | i + 1 => if b.getD (i + 2) 0 = 1 then bOnes b i + 1 else bOnes b i
def bKeys (b : List Int) : Nat → List Int
  | 0 => []
  | i + 1 => if b.getD (i + 2) 0 ≠ 0 then bKeys b i ++ [b.getD (i + 2) 0 - 3] else bKeys b i
def bHole (b : List Int) (i : Nat) : Bool := decide (b.getD (i + 2) 0 ≠ 0) && (decide (b.getD (i + 1) 0 = 0) && decide (0 < i))
def bFine (b : List Int) : Nat → Bool
  | 0 => true
  | i + 1 => bFine b i && !bHole b i
structure Rpr where
  r : Int
  z : List Int
  b : Bool
def rbEnd (b : List Int) (zl : List Int) : Rpr := if bOnes b 6 = 6 then ⟨b.getD 0 0, zl, true⟩ else if okRp (b.getD 0 0) (bKeys b 6) = true then ⟨b.getD 0 0, bKeys b 6, true⟩ else ⟨0, [], false⟩
def rbV (b : List Int) (rl : Int) (zl : List Int) : Rpr := if b.length = 8 ∧ b.getD 0 0 ≤ 15 ∧ b.getD 1 0 = 0 ∧ okRp rl zl = true ∧ bFine b 6 = true then rbEnd b zl else ⟨0, [], false⟩
/-- The codes whose bits are set in bytes. -/
def bitC (b : List Int) (k : Nat) : Bool := (b.getD (1 + k / 8) 0).toNat.testBit (k % 8)
def bitK (b : List Int) : Nat → List Int
  | 0 => []
  | k + 1 => if bitC b k = true then bitK b k ++ [((k + 1 : Nat) : Int)] else bitK b k
def rdV (b : List Int) : Rpr := if b.length = 8 ∧ b.getD 0 0 ≤ 15 then ⟨b.getD 0 0, bitK b 56, true⟩ else ⟨0, [], false⟩
/-- A report's bits: the bytes with the first j codes laid. -/
def biN (r : Int) (zs : List Int) : Nat → List Int
  | 0 => [r, 0, 0, 0, 0, 0, 0, 0]
  | j + 1 =>
    let k := (zs.getD j 0).toNat - 1
    (biN r zs j).set (1 + k / 8) ((((biN r zs j).getD (1 + k / 8) 0).toNat ||| 2 ^ (k % 8) : Nat) : Int)
def biV (r : Int) (zs : List Int) : List Int := if okRp r zs = true then biN r zs zs.length else []
end Go.Proofs.Yteljmfdlegohbaa

namespace Go.Proofs.Yteljmfdlegohbaa
open Go.RowKit

def sameRp (r1 : Int) (z1 : List Int) (r2 : Int) (z2 : List Int) : Bool := decide (r1 = r2 ∧ z1 = z2)

set_option maxRecDepth 100000 in
set_option maxHeartbeats 4000000 in
theorem specSameReport_any (r1 : Int) (u1 : Value) (z1 : List Int) (r2 : Int) (u2 : Value) (z2 : List Int) (w : World) (hl1 : z1.length ≤ maxLen) (h1 : Rd w u1 (z1.map (.int .i64))) (h2 : Rd w u2 (z2.map (.int .i64))) :
    Calls Try.prog 117 #[rpv r1 u1, rpv r2 u2] w fun e w' => e = .returned (.bool (sameRp r1 z1 r2 z2)) ∧ Below w.heap.size w w' := by
  unfold maxLen at hl1
  obtain ⟨v, hv⟩ : ∃ v, v = sameRp r1 z1 r2 z2 := ⟨_, rfl⟩
  rw [← hv]
  have HV := Lib.hid hv
  clear hv
  obtain ⟨a1, c1, hu1⟩ : ∃ a cap, u1 = .slice a z1.length cap := by obtain ⟨a, cap, hu, _⟩ := h1; exact ⟨a, cap, by simpa using hu⟩
  obtain ⟨a2, c2, hu2⟩ : ∃ a cap, u2 = .slice a z2.length cap := by obtain ⟨a, cap, hu, _⟩ := h2; exact ⟨a, cap, by simpa using hu⟩
  subst hu1 hu2
  obtain ⟨W, hW⟩ : ∃ W, W = (w.alloc (.cells #[.int .i64 r1, .slice a1 z1.length c1] 62)).alloc (.cells #[.int .i64 r2, .slice a2 z2.length c2] 62) := ⟨_, rfl⟩
  have hB0 : Below w.heap.size w W := by rw [hW]; exact ((Below.refl _ _).alloc (Nat.le_refl _) _).alloc (by simp) _
  have k1 : W.heap[w.heap.size]? = some (.cells #[.int .i64 r1, .slice a1 z1.length c1] 62 (0, 0)) := by
    rw [hW, Below.heap_alloc _ _ _ (by simp)]; exact heap_alloc_new w _
  have k2 : W.heap[w.heap.size + 1]? = some (.cells #[.int .i64 r2, .slice a2 z2.length c2] 62 (0, 0)) := by
    rw [hW]; simpa using heap_alloc_new (w.alloc (.cells #[.int .i64 r1, .slice a1 z1.length c1] 62)) _
  have K1 := Lib.hid k1
  have K2 := Lib.hid k2
  have H1 := Lib.hid (h1.below hB0)
  have H2 := Lib.hid (h2.below hB0)
  have HB0 := Lib.hid hB0
  have HW := Lib.hid hW
  clear hW hB0 k1 k2 h1 h2
  go_enter Try.func117, Try.ntmps117
  go_upto_region 1 with (fail)
  rw [← HW.out]
  have x0 := (cells_of_heap K1.out 0 (by simp)).1
  have x1 := (cells_of_heap K1.out 1 (by simp)).1
  have y0 := (cells_of_heap K2.out 0 (by simp)).1
  have y1 := (cells_of_heap K2.out 1 (by simp)).1
  simp only [List.getElem_toArray, List.getElem_cons_zero, List.getElem_cons_succ] at x0 x1 y0 y1
  by_cases hr : r1 = r2
  · by_cases hn : z1.length = z2.length
    · subst hr
      obtain ⟨N, hN⟩ : ∃ N, N = z1.length := ⟨_, rfl⟩
      have HNN := Lib.hid hN
      have HN2 := Lib.hid hn
      rw [← hn, ← hN] at y1
      rw [← hN] at x1 hl1
      clear hN
      rcases rd_ints H1.out with ⟨hz, a, cap, hs⟩ | ⟨b, off, cap, hpos, hs, hlt, hc⟩
      · have hN0 : N = 0 := by rw [HNN.out, hz]; rfl
        have hz2 : z2 = [] := List.eq_nil_of_length_eq_zero (by rw [← hn, ← HNN.out, hN0])
        obtain rfl : v = true := by rw [HV.out]; exact decide_eq_true ⟨rfl, by rw [hz, hz2]⟩
        subst hN0
        clear hs
        go_wp2
        refine wp_loop_rounds 1 ?_
        rw [rounds_succ]
        go_wp2
        go_ret
        exact ⟨rfl, HB0.out⟩
      · rcases rd_ints H2.out with ⟨hz, _⟩ | ⟨b2, off2, cap2, _, hs2, hlt2, hc2⟩
        · exfalso; rw [hn, hz] at hpos; simp at hpos
        · have e1 : a1 = some ⟨b, off, none⟩ := by simp only [Value.slice.injEq] at hs; exact hs.1
          have e2 : a2 = some ⟨b2, off2, none⟩ := by simp only [Value.slice.injEq] at hs2; exact hs2.1
          rw [e1] at x1
          rw [e2] at y1
          have X0 := Lib.hid x0
          have X1 := Lib.hid x1
          have Y0 := Lib.hid y0
          have Y1 := Lib.hid y1
          have HC := Lib.hid hc
          have HC2 := Lib.hid hc2
          have S1 := Lib.hid (Array.getElem?_eq_some_iff.mp K1.out).1
          have S2 := Lib.hid (Array.getElem?_eq_some_iff.mp K2.out).1
          go_wp2
          clear x0 x1 y0 y1 hc hc2
          go_loopw [5] (fun i wr => ∃ (k : Nat), k ≤ N ∧ i = .int .i64 k ∧ (∀ q, q < k → z1.getD q 0 = z2.getD q 0) ∧ Below W.heap.size W wr) (fun i _ => N - (intOf i).toNat)
          case atStart => exact ⟨0, Nat.zero_le _, rfl, fun q hq => absurd hq (Nat.not_lt_zero _), Below.refl _ _⟩
          case round =>
            obtain ⟨k, hk, rfl, hp, hb⟩ := hrel
            have x1 := (hb.cell (p := ⟨w.heap.size, 1, none⟩) S1.out).trans X1.out
            have y1 := (hb.cell (p := ⟨w.heap.size + 1, 1, none⟩) S2.out).trans Y1.out
            by_cases hlt' : k < N
            · have d1 := (hb.cell (p := ⟨b, off + k, none⟩) hlt).trans (HC.out k (by rw [← HNN.out]; exact hlt'))
              have d2 := (hb.cell (p := ⟨b2, off2 + k, none⟩) hlt2).trans (HC2.out k (by rw [← HN2.out, ← HNN.out]; exact hlt'))
              have hbad : z1.getD k 0 ≠ z2.getD k 0 → v = false := fun h0 => by rw [HV.out]; exact decide_eq_false (fun h => h0 (by rw [h.2]))
              have hnx : z1.getD k 0 = z2.getD k 0 → ∀ q, q < k + 1 → z1.getD q 0 = z2.getD q 0 := fun h0 q hq => by
                rcases Nat.lt_or_ge q k with h3 | h3
                · exact hp q h3
                · obtain rfl : q = k := by omega
                  exact h0
              have HBad := Lib.hid hbad
              have HNX := Lib.hid hnx
              have HB := Lib.hid hb
              clear hbad hnx hb hp
              obtain ⟨p1, hp1⟩ : ∃ x, x = z1.getD k 0 := ⟨_, rfl⟩
              obtain ⟨p2, hp2⟩ : ∃ x, x = z2.getD k 0 := ⟨_, rfl⟩
              rw [← hp1] at d1 HBad HNX
              rw [← hp2] at d2 HBad HNX
              clear hp1 hp2
              by_cases he : p1 = p2
              · have HT := Lib.hid (HNX.out he)
                subst he
                go_wp2
                go_quiet (fail)
                go_wp2
                go_roundw
                case rel => exact ⟨k + 1, by omega, by go_num, HT.out, below_drewN HB.out _⟩
                case measure => simp [intOf]; omega
              · obtain rfl : v = false := HBad.out he
                go_wp2
                go_quiet (fail)
                go_wp2
                go_ret
                exact ⟨rfl, HB0.out.trans (below_drewN HB.out _ |>.mono HB0.out.size)⟩
            · obtain rfl : k = N := by omega
              obtain rfl : v = true := by
                rw [HV.out]
                exact decide_eq_true ⟨rfl, take_sameI HN2.out (fun q hq => hp q (by rw [HNN.out]; exact hq))⟩
              go_wp2
              go_ret
              exact ⟨rfl, HB0.out.trans (hb.mono HB0.out.size)⟩
    · obtain rfl : v = false := by rw [HV.out]; exact decide_eq_false (fun h => hn (by rw [h.2]))
      have hne : ¬ ((z1.length : Int) = (z2.length : Int)) := by omega
      subst hr
      go_wp2
      go_ret
      exact ⟨rfl, HB0.out⟩
  · obtain rfl : v = false := by rw [HV.out]; exact decide_eq_false (fun h => hr h.1)
    go_wp2
    go_ret
    exact ⟨rfl, HB0.out⟩
end Go.Proofs.Yteljmfdlegohbaa

namespace Go.Proofs.Yteljmfdlegohbaa
open Go.RowKit

theorem specIsReport_q (r : Int) (u : Value) (zs : List Int) (o : Bool) (ho : o = okRp r zs) (w : World) (hl : zs.length ≤ maxLen) (h : Rd w u (zs.map (.int .i64))) :
    Calls Try.prog 142 #[rpv r u] w fun e w' => e = .returned (.bool o) ∧ Below w.heap.size w w' := by
  rw [ho]; exact specIsReport_any r u zs w hl h
theorem okRp_at {r : Int} {zs : List Int} (h : okRp r zs = true) : (0 ≤ r ∧ r ≤ 15) ∧ ∀ j, j < zs.length → 1 ≤ zs.getD j 0 ∧ zs.getD j 0 ≤ 56 := by
  rw [okRp, Bool.and_eq_true] at h
  refine ⟨of_decide_eq_true h.2, fun j hj => ?_⟩
  have h1 := rpN_at h.1 j hj
  rw [rpAt, Bool.and_eq_true] at h1
  exact of_decide_eq_true h1.1
/-- The shape of a slice of ints, and its numbers. -/
theorem ints_shape {w : World} {u : Value} {zs : List Int} (h : Rd w u (zs.map (.int .i64))) : ∃ a cap, u = .slice a zs.length cap := by
  obtain ⟨a, cap, hu, _⟩ := h
  exact ⟨a, cap, by simpa using hu⟩
theorem ints_at {w : World} {a : Option Addr} {n cap : Nat} {zs : List Int} (h : Rd w (.slice a n cap) (zs.map (.int .i64))) {j : Nat} (hj : j < zs.length) : ∃ b off, a = some ⟨b, off, none⟩ ∧ b < w.heap.size ∧ w.cell? ⟨b, off + j, none⟩ = some (.int .i64 (zs.getD j 0)) := by
  rcases rd_ints h with ⟨rfl, _⟩ | ⟨b, off, cap', _, hs, hlt, hc⟩
  · simp at hj
  · obtain ⟨rfl, _, _⟩ := by simpa using hs
    exact ⟨b, off, rfl, hlt, hc j hj⟩
/-- The boot bytes with the first j codes laid. -/
def bbN (r : Int) (zs : List Int) (j : Nat) : List Int := [r, 0] ++ (List.range j).map (bootAt zs) ++ List.replicate (6 - j) 0
theorem bbN_len (r : Int) (zs : List Int) {j : Nat} (h : j ≤ 6) : (bbN r zs j).length = 8 := by simp [bbN]; omega
theorem bbN_set (r : Int) (zs : List Int) {j : Nat} (h : j < 6) : (bbN r zs j).set (2 + j) (bootAt zs j) = bbN r zs (j + 1) := by
  have : j = 0 ∨ j = 1 ∨ j = 2 ∨ j = 3 ∨ j = 4 ∨ j = 5 := by omega
  rcases this with rfl | rfl | rfl | rfl | rfl | rfl <;> rfl
theorem bbN_same (r : Int) (zs : List Int) {j : Nat} (h : j < 6) (h0 : bootAt zs j = 0) : bbN r zs (j + 1) = bbN r zs j := by
  rw [← bbN_set r zs h, h0]
  have : j = 0 ∨ j = 1 ∨ j = 2 ∨ j = 3 ∨ j = 4 ∨ j = 5 := by omega
  rcases this with rfl | rfl | rfl | rfl | rfl | rfl <;> rfl
theorem bbN_all (r : Int) (zs : List Int) (h : okRp r zs = true) : bbN r zs 6 = bbV r zs := by rw [bbV, if_pos h]; rfl

end Go.Proofs.Yteljmfdlegohbaa
