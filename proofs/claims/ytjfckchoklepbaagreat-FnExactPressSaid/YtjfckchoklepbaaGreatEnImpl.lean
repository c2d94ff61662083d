/- DERIVED. The program's IsWordCode and HeldAt, with slices.IndexFunc at held keys. Called with any arguments (at most so many held keys as a slice can have), each returns what a plain function says. · The program's IsEngine, with areMacros and fitKeymap: each returns what a plain function says. Called with any engine of at most 1048576 layers, macros, steps of a macro and held keys. -/
import Derived.Test.YtjfckchoklepbaaGreatEnDef
import Derived.Test.YtjfckchoklepbaaGreatAcOk
import Derived.Test.YtjfckchoklepbaaGreatRpSpec5
import Derived.Test.YtjfckchoklepbaaGreatEnMath
import Derived.Test.YtjfckchoklepbaaGreatKmImpl3
import Derived.Test.YtjfckchoklepbaaGreatDebImpl
import Derived.Test.YtjfckchoklepbaaGreatRpImpl
import Derived.Test.YtjfckchoklepbaaGreatMcImpl
import Derived.Test.YtjfckchoklepbaaGreatEnFn
namespace Go.Proofs.YtjfckchoklepbaaGreat
open Go.RowKit

theorem isBetween_q (c a b : Int) (o : Bool) (ho : o = inB c a b) (w : World) : Calls Tryz.prog 92 #[.int .i64 c, .int .i64 a, .int .i64 b] w fun e w' => e = .returned (.bool o) ∧ w = w' := by
  rw [ho]; exact isBetween_any c a b w
set_option maxRecDepth 100000 in
theorem implIsWordCode_q (c : Int) (o : Bool) (ho : o = wordC c) (w : World) : Calls Tryz.prog 30 #[.int .i64 c] w fun e w' => e = .returned (.bool o) ∧ w = w' := by
  obtain ⟨q, hq⟩ : ∃ q, q = inB c 1 36 := ⟨_, rfl⟩
  rw [wordC, ← hq] at ho
  have HQ := Lib.hid hq
  have HO := Lib.hid ho
  clear hq ho
  go_enter Tryz.func30, Tryz.ntmps30
  go_wp2_with fail
  refine (isBetween_q c 1 36 q HQ.out _).mono ?_
  rintro e w0 ⟨rfl, rfl⟩
  cases q
  · by_cases h39 : c = 39
    · obtain rfl : o = true := by rw [HO.out]; simp [h39]
      go_wp2
      go_ret
      exact ⟨rfl, rfl⟩
    · by_cases h42 : c = 42
      · obtain rfl : o = true := by rw [HO.out]; simp [h42]
        go_wp2
        go_ret
        exact ⟨rfl, rfl⟩
      · obtain rfl : o = false := by rw [HO.out]; simp [h39, h42]
        go_wp2
        go_ret
        exact ⟨by simp [h39, h42], rfl⟩
  · obtain rfl : o = true := by rw [HO.out]; rfl
    go_wp2
    go_ret
    exact ⟨rfl, rfl⟩

set_option maxRecDepth 100000 in
/-- What HeldAt looks for. -/
theorem heldLit_any (h k c m n : Int) (y : Nat) (key : Int) (o : Bool) (ho : o = (h == key)) (w : World) (hy : w.heap[y]? = some (.cells #[.int .i64 key] 3 (0, 0))) :
    Calls Tryz.prog 82 #[hdv h k c m n, .pointer (some ⟨y, 0, none⟩)] w fun e w' => e = .returned (.bool o) ∧ Below w.heap.size w w' := by
  have HY := Lib.hid hy
  have HO := Lib.hid ho
  have hlt : y < w.heap.size := (Array.getElem?_eq_some_iff.mp hy).1
  clear hy ho
  obtain ⟨W, hW⟩ : ∃ W, W = w.alloc (.cells #[.int .i64 h, .int .i64 k, .int .i64 c, .int .i64 m, .int .i64 n] 43) := ⟨_, rfl⟩
  have HX0 := Lib.hid (show Bxd W w.heap.size [.int .i64 h, .int .i64 k, .int .i64 c, .int .i64 m, .int .i64 n] by rw [hW]; exact Bxd.new _ _ _)
  have HB0 := Lib.hid (show Below w.heap.size w W by rw [hW]; exact (Below.refl _ _).alloc (Nat.le_refl _) _)
  have HS0 := Lib.hid (show w.heap.size < W.heap.size by rw [hW]; simp)
  have HW := Lib.hid hW
  clear hW
  go_enter Tryz.func82, Tryz.ntmps82
  go_upto_region 1 with (fail)
  rw [← HW.out]
  have c0 := HX0.out.at 0 _ rfl
  have c1 := HX0.out.at 1 _ rfl
  have c2 := HX0.out.at 2 _ rfl
  have c3 := HX0.out.at 3 _ rfl
  have c4 := HX0.out.at 4 _ rfl
  obtain ⟨y0, -⟩ := cells_of_heap (blk_below HY.out HB0.out) 0 (by simp)
  simp only [List.getElem_toArray, List.getElem_cons_zero] at y0
  go_wp2
  go_ret
  exact ⟨by rw [HO.out]; rfl, HB0.out⟩

set_option maxRecDepth 100000 in
set_option maxHeartbeats 4000000 in
theorem ixHeld_any (u3 : Value) (H : List Hd) (y : Nat) (key : Int) (w : World) (hn : H.length ≤ maxLen) (h : RdN w u3 H.length (flatHd H)) (hy : w.heap[y]? = some (.cells #[.int .i64 key] 3 (0, 0))) :
    Calls Tryz.prog 81 #[u3, .func (.func 82) #[] #[.pointer (some ⟨y, 0, none⟩)]] w fun e w' => e = .returned (.int .i64 (haI H key)) ∧ Below w.heap.size w w' := by
  obtain ⟨a, cap, rfl⟩ := RdN.shape h
  obtain ⟨r, hr⟩ : ∃ r, r = haI H key := ⟨_, rfl⟩
  rw [← hr]
  have HR := Lib.hid hr
  obtain ⟨n, hnl⟩ : ∃ n, n = H.length := ⟨_, rfl⟩
  have HNL := Lib.hid hnl
  have HH := Lib.hid (show RdN w (.slice a n cap) H.length (flatHd H) from by rw [hnl]; exact h)
  have hnm : n ≤ maxLen := by rw [hnl]; exact hn
  unfold maxLen at hnm
  have HY := Lib.hid hy
  rw [← hnl]
  clear hr hn h hnl hy
  go_enter Tryz.func81, Tryz.ntmps81
  go_wp2
  go_loopw [5, 8] (fun _ i wr => ∃ j : Nat, j ≤ n ∧ i = .int .i64 j ∧ (∀ q, q < j → (hdD H q).h ≠ key) ∧ Below w.heap.size w wr) (fun _ i _ => n - (intOf i).toNat)
  case atStart => exact ⟨0, Nat.zero_le _, rfl, fun q hq => absurd hq (Nat.not_lt_zero _), Below.refl _ _⟩
  case round =>
    obtain ⟨j, hj, rfl, hno, hb⟩ := hrel
    have HNo := Lib.hid hno
    have HB := Lib.hid hb
    by_cases hlt' : j < n
    · have hjz : j < H.length := by rw [← HNL.out]; exact hlt'
      obtain ⟨b, off, rfl, hlt, c0, c1, c2, c3, c4⟩ := hd_at HH.out hjz
      have e0 := (hb.cell (p := ⟨b, off + j * 5, none⟩) hlt).trans c0
      have e1 := (hb.cell (p := ⟨b, off + j * 5 + 1, none⟩) hlt).trans c1
      have e2 := (hb.cell (p := ⟨b, off + j * 5 + 2, none⟩) hlt).trans c2
      have e3 := (hb.cell (p := ⟨b, off + j * 5 + 3, none⟩) hlt).trans c3
      have e4 := (hb.cell (p := ⟨b, off + j * 5 + 4, none⟩) hlt).trans c4
      have hat : (hdD H j).h = key → r = (j : Int) := fun hm => by rw [HR.out]; exact haI_at hjz HNo.out hm
      have hnx : (hdD H j).h ≠ key → ∀ q, q < j + 1 → (hdD H q).h ≠ key := fun hm q hq => by
        rcases Nat.lt_or_ge q j with h3 | h3
        · exact HNo.out q h3
        · obtain rfl : q = j := by omega
          exact hm
      obtain ⟨z, hz⟩ : ∃ z, z = hdD H j := ⟨_, rfl⟩
      rw [← hz] at e0 e1 e2 e3 e4 hat hnx
      obtain ⟨zh, zk, zc, zm, zn⟩ := z
      simp only at e0 e1 e2 e3 e4 hat hnx
      have HAt := Lib.hid hat
      have HNx := Lib.hid hnx
      clear c0 c1 c2 c3 c4 hat hnx hz hb hno
      obtain ⟨o, ho⟩ : ∃ o, o = (zh == key) := ⟨_, rfl⟩
      have HO := Lib.hid ho
      clear ho
      go_wp2_with fail
      refine (heldLit_any zh zk zc zm zn y key o HO.out _ (blk_below HY.out HB.out)).mono ?_
      rintro e w1 ⟨rfl, hb1⟩
      have HB1 := Lib.hid (HB.out.trans (hb1.mono HB.out.size))
      clear hb1 e0 e1 e2 e3 e4
      cases o
      · have hq := Lib.hid (HNx.out (by have := HO.out; simpa using this.symm))
        go_wp2
        go_roundw
        case rel => exact ⟨j + 1, by omega, by go_num, hq.out, HB1.out⟩
        case measure => simp [intOf]; omega
      · have hr := HAt.out (by have := HO.out; simpa using this.symm)
        go_wp2
        go_ret
        exact ⟨by first | rfl | exact ret_int hr.symm, HB1.out⟩
    · obtain rfl : j = n := by omega
      have hr : r = -1 := by rw [HR.out]; exact haI_no (fun q hq => HNo.out q (by rw [HNL.out]; exact hq))
      clear hno hb
      go_wp2
      go_ret
      exact ⟨by first | rfl | exact ret_int hr.symm, HB.out⟩

set_option maxRecDepth 100000 in
set_option maxHeartbeats 4000000 in
theorem implHeldAt_any (k : Int) (u1 u2 : Value) (x : Int) (u3 : Value) (o : Int) (p : Bool) (H : List Hd) (key : Int) (w : World) (hn : H.length ≤ maxLen) (h : RdN w u3 H.length (flatHd H)) :
    Calls Tryz.prog 19 #[env k u1 u2 x u3 o p, .int .i64 key] w fun e w' => e = .returned (.int .i64 (haI H key)) ∧ Below w.heap.size w w' := by
  have hmf : ∀ (fn : Fn) (first cap : Array Value) (w : World), (Instr.makeFunc fn first cap).run Tryz.prog w = .ok (.func fn first cap) w := fun _ _ _ _ => rfl
  obtain ⟨r, hr⟩ : ∃ r, r = haI H key := ⟨_, rfl⟩
  rw [← hr]
  have HR := Lib.hid hr
  obtain ⟨W, hW⟩ : ∃ W, W = (w.alloc (.cells #[.int .i64 k, u1, u2, .int .i64 x, u3, .int .i64 o, .bool p] 30)).alloc (.cells #[.int .i64 key] 3) := ⟨_, rfl⟩
  have HB0 := Lib.hid (show Below w.heap.size w W by rw [hW]; exact ((Below.refl _ _).alloc (Nat.le_refl _) _).alloc (by simp) _)
  have HX0 := Lib.hid (show W.heap[w.heap.size]? = some (.cells #[.int .i64 k, u1, u2, .int .i64 x, u3, .int .i64 o, .bool p] 30 (0, 0)) by rw [hW, Below.heap_alloc _ _ _ (by simp)]; exact heap_alloc_new w _)
  have HY0 := Lib.hid (show W.heap[w.heap.size + 1]? = some (.cells #[.int .i64 key] 3 (0, 0)) by rw [hW]; simpa using heap_alloc_new (w.alloc (.cells #[.int .i64 k, u1, u2, .int .i64 x, u3, .int .i64 o, .bool p] 30)) _)
  have HW := Lib.hid hW
  have HRd := Lib.hid h
  have HN := Lib.hid hn
  clear hW hr h hn
  go_enter Tryz.func19, Tryz.ntmps19
  go_upto_region 1 with (fail)
  rw [← HW.out]
  obtain ⟨x4, -⟩ := cells_of_heap HX0.out 4 (by simp)
  simp only [List.getElem_toArray, List.getElem_cons_zero, List.getElem_cons_succ] at x4
  go_wp2_with fail
  refine (ixHeld_any u3 H (w.heap.size + 1) key _ HN.out (HRd.out.below HB0.out) HY0.out).mono ?_
  rw [← HR.out]
  rintro e w1 ⟨rfl, hb1⟩
  have HB1 := Lib.hid (HB0.out.trans (hb1.mono HB0.out.size))
  clear hb1 x4
  go_wp2
  go_ret
  exact ⟨rfl, HB1.out⟩
end Go.Proofs.YtjfckchoklepbaaGreat

namespace Go.Proofs.YtjfckchoklepbaaGreat
open Go.RowKit

def areM (F : List (List St)) : Bool := decide (F.length ≤ 4) && mcsN F F.length
def fitK (keys : Int) (n : Nat) (h : Hd) : Bool := !decide (keys ≤ h.h) && okA n 0 ⟨h.k, h.c, h.m, h.n⟩
def fkN (keys : Int) (n : Nat) (H : List Hd) : Nat → Bool
  | 0 => true
  | j + 1 => fkN keys n H j && fitK keys n (hdD H j)
theorem fkN_no {keys : Int} {n : Nat} {H : List Hd} {j : Nat} (h : fitK keys n (hdD H j) = false) : ∀ m, j < m → fkN keys n H m = false
  | 0, hm => absurd hm (Nat.not_lt_zero _)
  | m + 1, hm => by
    rcases Nat.lt_or_ge j m with h2 | h2
    · rw [fkN, fkN_no h m h2, Bool.false_and]
    · obtain rfl : j = m := by omega
      rw [fkN, h, Bool.and_false]
theorem fitK_eq {keys : Int} {n : Nat} {h : Hd} (ho : okOne h = true) : fitK keys n h = hfit keys n h := by
  unfold okOne at ho
  simp only [Bool.and_eq_true, Bool.not_eq_true', decide_eq_false_iff_not] at ho
  obtain ⟨-, h1, h2, -⟩ := ho
  have e2 : decide (h.k = 1) = false := decide_eq_false h2
  unfold fitK hfit okA
  simp only [h1, e2, Bool.true_and, Bool.false_and, Bool.not_false]
  cases decide (keys ≤ h.h) <;> cases decide (h.k = 9) <;> simp
theorem fkN_eq {keys : Int} {n : Nat} {H : List Hd} (ho : okHd H = true) : ∀ m, m ≤ H.length → fkN keys n H m = hfN keys n H m
  | 0, _ => rfl
  | m + 1, hm => by rw [fkN, hfN, fkN_eq ho m (by omega), fitK_eq ((okHd_iff.1 ho).1 m (by omega))]
theorem bitOn0 {X : Nat} (h : X < 2 ^ 62) : bitOn (X : Int) 0 = decide (X % 2 = 1) := by
  unfold bitOn
  have e : ((X : Int) / 2 ^ 0) = (X : Int) := by simp
  rw [e, show (1 : Int) = ((1 : Nat) : Int) from rfl, and_nat X 1 h (by decide), Nat.and_one_is_mod]
  by_cases h1 : X % 2 = 1
  · rw [h1]; rfl
  · have h0 : X % 2 = 0 := by omega
    rw [h0]; rfl

set_option maxRecDepth 100000 in
set_option maxHeartbeats 4000000 in
theorem areMacros_q (v : Value) (F : List (List St)) (o : Bool) (ho : o = areM F) (w : World) (hn : F.length ≤ 1048576) (hr : ∀ l ∈ F, l.length ≤ 1048576) (h : LdT w v F) :
    Calls Tryz.prog 87 #[v] w fun e w' => e = .returned (.bool o) ∧ Below w.heap.size w w' := by
  obtain ⟨a, cap, rfl⟩ := RdSt.shape h
  obtain ⟨n, hnl⟩ : ∃ n, n = F.length := ⟨_, rfl⟩
  have HN := Lib.hid hnl
  have HO := Lib.hid ho
  have H := Lib.hid h
  have HR := Lib.hid hr
  rw [← hnl] at hn ⊢
  clear hnl ho h hr
  go_enter Tryz.func87, Tryz.ntmps87
  by_cases h4 : n ≤ 4
  · have h4' : ¬ (4 : Int) < (n : Int) := by omega
    have HO2 := Lib.hid (show o = mcsN F F.length by rw [HO.out, areM, ← HN.out, decide_eq_true h4]; rfl)
    go_wp2
    go_loopw [4, 10, 12, 13] (fun _ i _ _ wr => ∃ j : Nat, j ≤ n ∧ i = .int .i64 j ∧ mcsN F j = true ∧ Below w.heap.size w wr) (fun _ i _ _ _ => n - (intOf i).toNat)
    case atStart => exact ⟨0, Nat.zero_le _, rfl, rfl, Below.refl _ _⟩
    case round =>
      obtain ⟨j, hj, rfl, hm, hb⟩ := hrel
      by_cases hlt : j < n
      · have hjF : j < F.length := by rw [← HN.out]; exact hlt
        have hno : okMc (lD F j) = false → o = false := fun h0 => by rw [HO2.out, mcsN_no h0 _ hjF]
        have hnx : mcsN F (j + 1) = okMc (lD F j) := by rw [mcsN, hm, Bool.true_and]
        rcases RdS.cases (show LdT wr (.slice a n cap) F from by rw [HN.out]; exact H.out.below hb) with ⟨hnil, _⟩ | ⟨b, off, c, us, _, hv, hblt, hc⟩
        · exfalso; rw [hnil] at hjF; simp at hjF
        · obtain ⟨rfl, -, -⟩ := by simpa using hv
          obtain ⟨d0, hrow⟩ := hc j hjF
          have hrl : (lD F j).length ≤ 1048576 := lT_le HR.out j
          obtain ⟨vr, hvr⟩ : ∃ v, v = uD us j := ⟨_, rfl⟩
          rw [← hvr] at d0 hrow
          obtain ⟨ra, rc, rfl⟩ := RdN.shape hrow
          obtain ⟨nr, hnr⟩ : ∃ n, n = (lD F j).length := ⟨_, rfl⟩
          rw [← hnr] at d0
          obtain ⟨mb, hmb⟩ : ∃ b, b = okMc (lD F j) := ⟨_, rfl⟩
          rw [← hmb] at hno hnx
          have HRow := Lib.hid hrow
          have HRl := Lib.hid hrl
          have HNr := Lib.hid hnr
          have HMb := Lib.hid hmb
          have HNo := Lib.hid hno
          have HNx := Lib.hid hnx
          have HB := Lib.hid hb
          clear hc hrow hrl hnr hmb hno hnx hb hm hvr hv
          go_wp2_with fail
          refine (implIsMacro_q _ (lD F j) mb HMb.out _ (by have := HRl.out; unfold maxLen; omega) (by rw [HNr.out]; exact HRow.out)).mono ?_
          rintro r w4 ⟨rfl, hb4⟩
          have HB4 := Lib.hid (HB.out.trans (hb4.mono HB.out.size))
          clear hb4 d0
          cases mb
          · obtain rfl : o = false := HNo.out rfl
            go_wp2
            go_ret
            exact ⟨rfl, HB4.out⟩
          · go_wp2
            go_roundw
            case rel => exact ⟨j + 1, by omega, by go_num, HNx.out, HB4.out⟩
            case measure => simp [intOf]; omega
      · obtain rfl : j = n := by omega
        have HM := Lib.hid (show o = true by rw [HO2.out, ← HN.out]; exact hm)
        have HB := Lib.hid hb
        clear hm hb
        go_wp2
        go_ret
        exact ⟨by rw [HM.out]; rfl, HB.out⟩
  · have h4' : (4 : Int) < (n : Int) := by omega
    obtain rfl : o = false := by rw [HO.out, areM, ← HN.out, decide_eq_false h4]; rfl
    go_wp2
    go_ret
    exact ⟨rfl, Below.refl _ _⟩

set_option maxRecDepth 100000 in
set_option maxHeartbeats 4000000 in
theorem fitKeymap_q (v : Value) (H : List Hd) (keys : Int) (u : Value) (L : List (List Ac)) (o : Bool) (ho : o = fkN keys L.length H H.length) (w : World) (hn : H.length ≤ 1048576) (h : RdN w v H.length (flatHd H)) (hm : LdS w u L) :
    Calls Tryz.prog 89 #[v, kmv keys u] w fun e w' => e = .returned (.bool o) ∧ Below w.heap.size w w' := by
  obtain ⟨a, cap, rfl⟩ := RdN.shape h
  obtain ⟨la, lc, rfl⟩ := RdS.shape hm
  obtain ⟨n, hnl⟩ : ∃ n, n = H.length := ⟨_, rfl⟩
  obtain ⟨N, hNl⟩ : ∃ n, n = L.length := ⟨_, rfl⟩
  have HN := Lib.hid hnl
  have HO := Lib.hid (show o = fkN keys N H n by rw [ho, hNl, hnl])
  have HH := Lib.hid (show RdN w (.slice a n cap) H.length (flatHd H) by rw [hnl]; exact h)
  rw [← hnl] at hn ⊢
  rw [← hNl]
  clear hnl hNl ho h hm
  obtain ⟨W, hW⟩ : ∃ W, W = w.alloc (.cells #[.int .i64 keys, .slice la N lc] 26) := ⟨_, rfl⟩
  have HX0 := Lib.hid (show Bxd W w.heap.size [.int .i64 keys, .slice la N lc] by rw [hW]; exact Bxd.new _ _ _)
  have HB0 := Lib.hid (show Below w.heap.size w W by rw [hW]; exact (Below.refl _ _).alloc (Nat.le_refl _) _)
  have HS0 := Lib.hid (show w.heap.size < W.heap.size by rw [hW]; simp)
  have HW := Lib.hid hW
  clear hW
  go_enter Tryz.func89, Tryz.ntmps89
  go_wp2
  rw [← HW.out]
  go_loopw [6, 9] (fun _ i wr => ∃ j : Nat, j ≤ n ∧ i = .int .i64 j ∧ fkN keys N H j = true ∧ Below W.heap.size W wr) (fun _ i _ => n - (intOf i).toNat)
  case atStart => exact ⟨0, Nat.zero_le _, rfl, rfl, Below.refl _ _⟩
  case round =>
    obtain ⟨j, hj, rfl, hfk, hb⟩ := hrel
    by_cases hlt : j < n
    · have hjH : j < H.length := by rw [← HN.out]; exact hlt
      have hno : fitK keys N (hdD H j) = false → o = false := fun h0 => by rw [HO.out]; exact fkN_no h0 _ hlt
      have hnx : fkN keys N H (j + 1) = fitK keys N (hdD H j) := by rw [fkN, hfk, Bool.true_and]
      obtain ⟨b, off, rfl, hlt2, c0, c1, c2, c3, c4⟩ := hd_at HH.out hjH
      have hbw := HB0.out.trans (hb.mono HB0.out.size)
      have e0 := (hbw.cell (p := ⟨b, off + j * 5, none⟩) hlt2).trans c0
      have e1 := (hbw.cell (p := ⟨b, off + j * 5 + 1, none⟩) hlt2).trans c1
      have e2 := (hbw.cell (p := ⟨b, off + j * 5 + 2, none⟩) hlt2).trans c2
      have e3 := (hbw.cell (p := ⟨b, off + j * 5 + 3, none⟩) hlt2).trans c3
      have e4 := (hbw.cell (p := ⟨b, off + j * 5 + 4, none⟩) hlt2).trans c4
      obtain ⟨z, hz⟩ : ∃ z, z = hdD H j := ⟨_, rfl⟩
      rw [← hz] at e0 e1 e2 e3 e4 hno hnx
      obtain ⟨zh, zk, zc, zm, zn⟩ := z
      simp only at e0 e1 e2 e3 e4
      obtain ⟨q, hq⟩ : ∃ q, q = okA N 0 ⟨zk, zc, zm, zn⟩ := ⟨_, rfl⟩
      have hft : fitK keys N ⟨zh, zk, zc, zm, zn⟩ = (!decide (keys ≤ zh) && q) := by rw [fitK, hq]
      rw [hft] at hno hnx
      have HQ := Lib.hid hq
      have HNo := Lib.hid hno
      have HNx := Lib.hid hnx
      have HB := Lib.hid hb
      clear c0 c1 c2 c3 c4 hz hno hnx hq hft hb hfk hbw
      go_upto_region 4 with (fail)
      obtain ⟨g, hg⟩ : ∃ g, g = wr.heap.size := ⟨_, rfl⟩
      obtain ⟨W2, hW2⟩ : ∃ W, W = wr.alloc (.cells #[.int .i64 zh, .int .i64 zk, .int .i64 zc, .int .i64 zm, .int .i64 zn] 43) := ⟨_, rfl⟩
      rw [← hW2]
      have hX := Bxd.new wr [.int .i64 zh, .int .i64 zk, .int .i64 zc, .int .i64 zm, .int .i64 zn] 43
      have hB2 : Below wr.heap.size wr W2 := by rw [hW2]; exact below_alloc1 _ _
      have HB2 := Lib.hid (HB.out.trans (hB2.mono HB.out.size))
      rw [show (wr.alloc (.cells ([.int .i64 zh, .int .i64 zk, .int .i64 zc, .int .i64 zm, .int .i64 zn] : List Value).toArray 43)) = W2 from hW2.symm] at hX
      have HX := Lib.hid hX
      have k0 := HX.out.at 0 _ rfl
      have k1 := HX.out.at 1 _ rfl
      have k2 := HX.out.at 2 _ rfl
      have k3 := HX.out.at 3 _ rfl
      have k4 := HX.out.at 4 _ rfl
      have m0 := (HX0.out.below HB2.out HS0.out).at 0 _ rfl
      have m1 := (HX0.out.below HB2.out HS0.out).at 1 _ rfl
      clear hW2 hX hB2 e0 e1 e2 e3 e4
      by_cases h1 : keys ≤ zh
      · obtain rfl : o = false := HNo.out (by rw [decide_eq_true h1]; rfl)
        go_wp2
        go_ret
        exact ⟨rfl, HB0.out.trans (HB2.out.mono HB0.out.size)⟩
      · have HNo2 := Lib.hid (show q = false → o = false from fun h0 => HNo.out (by rw [h0, Bool.and_false]))
        have HNx2 := Lib.hid (show fkN keys N H (j + 1) = q by rw [HNx.out, decide_eq_false h1]; rfl)
        clear HNo HNx
        go_wp2_with fail
        refine (implFits_q zk zc zm zn 0 N q HQ.out _).mono ?_
        rintro r w4 ⟨rfl, hb4⟩
        have HB4 := Lib.hid (HB2.out.trans (hb4.mono HB2.out.size))
        clear hb4 k0 k1 k2 k3 k4 m0 m1
        cases q
        · obtain rfl : o = false := HNo2.out rfl
          go_wp2
          go_ret
          exact ⟨rfl, HB0.out.trans (HB4.out.mono HB0.out.size)⟩
        · go_wp2
          go_roundw
          case rel => exact ⟨j + 1, by omega, by go_num, HNx2.out, HB4.out⟩
          case measure => simp [intOf]; omega
    · obtain rfl : j = n := by omega
      have HM := Lib.hid (show o = true by rw [HO.out]; exact hfk)
      have HB := Lib.hid hb
      clear hfk hb
      go_wp2
      go_ret
      exact ⟨by rw [HM.out]; rfl, HB0.out.trans (HB.out.mono HB0.out.size)⟩
set_option maxRecDepth 100000 in
set_option maxHeartbeats 8000000 in
theorem implIsEngine_any (e : En) (u1 u2 u3 : Value) (w : World) (hs : EnSz e) (h : RdE w e u1 u2 u3) :
    Calls Tryz.prog 21 #[env e.k u1 u2 e.x u3 e.o e.p] w fun r w' => r = .returned (.bool (okEn e)) ∧ Below w.heap.size w w' := by
  obtain ⟨R, hR⟩ : ∃ R, R = okEn e := ⟨_, rfl⟩
  rw [← hR]
  rw [okEn] at hR
  obtain ⟨h1, h2, h3⟩ := h
  obtain ⟨k, L, F, x, Hs, o, p⟩ := e
  obtain ⟨sL, sLr, _, sF, sFr, _, sH⟩ := hs
  simp only at hR h1 h2 h3 sL sLr sF sFr sH ⊢
  obtain ⟨a2, c2, rfl⟩ := RdSt.shape h2
  obtain ⟨a3, c3, rfl⟩ := RdN.shape h3
  obtain ⟨a1, c1, rfl⟩ := RdS.shape h1
  obtain ⟨nF, hnF⟩ : ∃ n, n = F.length := ⟨_, rfl⟩
  obtain ⟨nH, hnH⟩ : ∃ n, n = Hs.length := ⟨_, rfl⟩
  obtain ⟨nL, hnL⟩ : ∃ n, n = L.length := ⟨_, rfl⟩
  obtain ⟨b1, hb1⟩ : ∃ b, b = okKm k L := ⟨_, rfl⟩
  obtain ⟨b2, hb2⟩ : ∃ b, b = areM F := ⟨_, rfl⟩
  obtain ⟨b3, hb3⟩ : ∃ b, b = okHd Hs := ⟨_, rfl⟩
  obtain ⟨b4, hb4⟩ : ∃ b, b = fkN k L.length Hs Hs.length := ⟨_, rfl⟩
  obtain ⟨b5, hb5⟩ : ∃ b, b = inB x 0 (2 ^ nL - 1) := ⟨_, rfl⟩
  obtain ⟨b7, hb7⟩ : ∃ b, b = inB o 0 15 := ⟨_, rfl⟩
  have hRR : R = (b1 && (b2 && (b3 && (b4 && (b5 && (decide (x % 2 = 0) && b7)))))) := by
    have e4 : b3 = true → b4 = hfN k L.length Hs Hs.length := fun h0 => by rw [hb4]; exact fkN_eq (by rw [← hb3]; exact h0) _ (Nat.le_refl _)
    rw [hR, ← hb1, ← hb3, ← hb7, ← hnL, ← hb5, hb2, areM]
    cases b3
    · simp
    · rw [hnL, ← e4 rfl]
      cases b1 <;> cases decide (F.length ≤ 4) <;> cases mcsN F F.length <;> cases b4 <;> cases b5 <;> simp
  have HR := Lib.hid hRR
  have HB1' := Lib.hid hb1
  have HB2' := Lib.hid hb2
  have HB3' := Lib.hid hb3
  have HB4' := Lib.hid hb4
  have HB5' := Lib.hid hb5
  have HB7' := Lib.hid hb7
  have HNF := Lib.hid hnF
  have HNH := Lib.hid hnH
  have HNL := Lib.hid hnL
  have H1 := Lib.hid h1
  have H2 := Lib.hid h2
  have H3 := Lib.hid h3
  have SL := Lib.hid sL
  have SLr := Lib.hid sLr
  have SF := Lib.hid sF
  have SFr := Lib.hid sFr
  have SH := Lib.hid sH
  rw [← hnF, ← hnH, ← hnL]
  clear hR hRR hb1 hb2 hb3 hb4 hb5 hb7 hnF hnH hnL h1 h2 h3 sL sF sH sLr sFr
  obtain ⟨W, hW⟩ : ∃ W, W = w.alloc (.cells #[.int .i64 k, .slice a1 nL c1, .slice a2 nF c2, .int .i64 x, .slice a3 nH c3, .int .i64 o, .bool p] 30) := ⟨_, rfl⟩
  have HX0 := Lib.hid (show Bxd W w.heap.size [.int .i64 k, .slice a1 nL c1, .slice a2 nF c2, .int .i64 x, .slice a3 nH c3, .int .i64 o, .bool p] by rw [hW]; exact Bxd.new _ _ _)
  have HB0 := Lib.hid (show Below w.heap.size w W by rw [hW]; exact (Below.refl _ _).alloc (Nat.le_refl _) _)
  have HS0 := Lib.hid (show w.heap.size < W.heap.size by rw [hW]; simp)
  have HW := Lib.hid hW
  clear hW
  go_enter Tryz.func21, Tryz.ntmps21
  go_upto_region 1 with (fail)
  rw [← HW.out]
  have c0 := HX0.out.at 0 _ rfl
  have c1 := HX0.out.at 1 _ rfl
  have c2 := HX0.out.at 2 _ rfl
  have c3 := HX0.out.at 3 _ rfl
  have c4 := HX0.out.at 4 _ rfl
  have c5 := HX0.out.at 5 _ rfl
  have c6 := HX0.out.at 6 _ rfl
  go_wp2_with fail
  refine (implIsKeymap_any k _ L _ (by have := SL.out; unfold maxLen; omega) (fun l hl => by have := SLr.out l hl; unfold maxLen; omega) (by rw [HNL.out]; exact H1.out.below HB0.out)).mono ?_
  rw [← HB1'.out]
  rintro r w1 ⟨rfl, hb⟩
  have HB1 := Lib.hid (HB0.out.trans (hb.mono HB0.out.size))
  have HX1 := Lib.hid (HX0.out.below hb HS0.out)
  have HS1 := Lib.hid (Nat.lt_of_lt_of_le HS0.out hb.size)
  clear hb c0 c1 c2 c3 c4 c5 c6
  have c0 := HX1.out.at 0 _ rfl
  have c1 := HX1.out.at 1 _ rfl
  have c2 := HX1.out.at 2 _ rfl
  have c3 := HX1.out.at 3 _ rfl
  have c4 := HX1.out.at 4 _ rfl
  have c5 := HX1.out.at 5 _ rfl
  cases b1
  · obtain rfl : R = false := by rw [HR.out]; simp
    go_wp2
    go_ret
    exact ⟨rfl, HB1.out⟩
  · skip
    go_wp2_with fail
    refine (areMacros_q _ F b2 HB2'.out _ SF.out SFr.out (by rw [HNF.out]; exact H2.out.below HB1.out)).mono ?_
    rintro r w2 ⟨rfl, hb⟩
    have HB2 := Lib.hid (HB1.out.trans (hb.mono HB1.out.size))
    have HX2 := Lib.hid (HX1.out.below hb HS1.out)
    have HS2 := Lib.hid (Nat.lt_of_lt_of_le HS1.out hb.size)
    clear hb c0 c1 c2 c3 c4 c5
    have c0 := HX2.out.at 0 _ rfl
    have c1 := HX2.out.at 1 _ rfl
    have c2 := HX2.out.at 2 _ rfl
    have c3 := HX2.out.at 3 _ rfl
    have c4 := HX2.out.at 4 _ rfl
    have c5 := HX2.out.at 5 _ rfl
    cases b2
    · obtain rfl : R = false := by rw [HR.out]; simp
      go_wp2
      go_ret
      exact ⟨rfl, HB2.out⟩
    · skip
      go_wp2_with fail
      refine (implIsHeld_q _ Hs b3 HB3'.out _ (by have := SH.out; unfold maxLen; omega) (by rw [HNH.out]; exact H3.out.below HB2.out)).mono ?_
      rintro r w3 ⟨rfl, hb⟩
      have HB3 := Lib.hid (HB2.out.trans (hb.mono HB2.out.size))
      have HX3 := Lib.hid (HX2.out.below hb HS2.out)
      have HS3 := Lib.hid (Nat.lt_of_lt_of_le HS2.out hb.size)
      clear hb c0 c1 c2 c3 c4 c5
      have c0 := HX3.out.at 0 _ rfl
      have c1 := HX3.out.at 1 _ rfl
      have c2 := HX3.out.at 2 _ rfl
      have c3 := HX3.out.at 3 _ rfl
      have c4 := HX3.out.at 4 _ rfl
      have c5 := HX3.out.at 5 _ rfl
      cases b3
      · obtain rfl : R = false := by rw [HR.out]; simp
        go_wp2
        go_ret
        exact ⟨rfl, HB3.out⟩
      · skip
        go_wp2_with fail
        refine (fitKeymap_q _ Hs k _ L b4 HB4'.out _ SH.out (by rw [HNH.out]; exact H3.out.below HB3.out) (by rw [HNL.out]; exact H1.out.below HB3.out)).mono ?_
        rintro r w4 ⟨rfl, hb⟩
        have HB4 := Lib.hid (HB3.out.trans (hb.mono HB3.out.size))
        have HX4 := Lib.hid (HX3.out.below hb HS3.out)
        have HS4 := Lib.hid (Nat.lt_of_lt_of_le HS3.out hb.size)
        clear hb c0 c1 c2 c3 c4 c5
        have c0 := HX4.out.at 0 _ rfl
        have c1 := HX4.out.at 1 _ rfl
        have c2 := HX4.out.at 2 _ rfl
        have c3 := HX4.out.at 3 _ rfl
        have c4 := HX4.out.at 4 _ rfl
        have c5 := HX4.out.at 5 _ rfl
        cases b4
        · obtain rfl : R = false := by rw [HR.out]; simp
          go_wp2
          go_ret
          exact ⟨rfl, HB4.out⟩
        · skip
          have hl14 := (okKm_at HB1'.out.symm).2.1
          rw [← HNL.out] at hl14
          go_wp2_with fail
          refine (isMaskOf_any nL x _ (by omega)).mono ?_
          rw [← HB5'.out]
          rintro r w0 ⟨rfl, rfl⟩
          cases b5
          · obtain rfl : R = false := by rw [HR.out]; simp
            go_wp2
            go_ret
            exact ⟨rfl, HB4.out⟩
          · skip
            have hx0 : 0 ≤ x ∧ x ≤ 2 ^ nL - 1 := of_decide_eq_true HB5'.out.symm
            have h16 : ((2 : Int) ^ nL - 1) ≤ 15 := by rcases (show nL = 1 ∨ nL = 2 ∨ nL = 3 ∨ nL = 4 by omega) with h | h | h | h <;> rw [h] <;> decide
            obtain ⟨X, hX⟩ : ∃ X : Nat, x = X := ⟨x.toNat, by omega⟩
            obtain ⟨b6, hb6⟩ : ∃ b, b = bitOn x 0 := ⟨_, rfl⟩
            have hb6' : b6 = !decide (x % 2 = 0) := by
              rw [hb6, hX, bitOn0 (by omega)]
              by_cases h1 : X % 2 = 1
              · have h2 : ¬ ((X : Int) % 2 = 0) := by omega
                rw [decide_eq_true h1, decide_eq_false h2]; rfl
              · have h2 : ((X : Int) % 2 = 0) := by omega
                rw [decide_eq_false h1, decide_eq_true h2]; rfl
            have HB6 := Lib.hid hb6
            have HR6 := Lib.hid (show R = (!b6 && b7) by rw [HR.out, hb6', Bool.not_not]; rfl)
            clear hb6 hb6' hX hx0 h16 hl14
            go_wp2_with fail
            refine (hasKey_on x 0 b6 HB6.out _ (by decide)).mono ?_
            rintro r w0 ⟨rfl, rfl⟩
            cases b6
            · have HR7 := Lib.hid (show R = b7 from HR6.out)
              go_wp2_with fail
              refine (isBetween_q o 0 15 b7 HB7'.out _).mono ?_
              rintro r w0 ⟨rfl, rfl⟩
              go_wp2
              go_ret
              exact ⟨by rw [HR7.out]; first | rfl | (cases b7 <;> rfl), HB4.out⟩
            · obtain rfl : R = false := HR6.out
              go_wp2
              go_ret
              exact ⟨rfl, HB4.out⟩

end Go.Proofs.YtjfckchoklepbaaGreat
