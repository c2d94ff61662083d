/- DERIVED. The reference's IsWordCode tells what a plain function says. Called with any code. · The reference's HeldAt and IsWordCode. -/
import Derived.Test.YtjfckchoklepbaaGreatEnFn
import Derived.Test.YtjfckchoklepbaaGreatKmSpec
import Derived.Test.YtjfckchoklepbaaGreatEnDef
import Derived.Test.YtjfckchoklepbaaGreatRpSpec5
namespace Go.Proofs.YtjfckchoklepbaaGreat
open Go.RowKit

set_option maxRecDepth 100000 in
theorem specIsWordCode_q (c : Int) (o : Bool) (ho : o = wordC c) (w : World) : Calls Tryz.prog 216 #[.int .i64 c] w fun e w' => e = .returned (.bool o) ∧ w = w' := by
  obtain ⟨q, hq⟩ : ∃ q, q = inB c 1 36 := ⟨_, rfl⟩
  rw [wordC, ← hq] at ho
  have HQ := Lib.hid hq
  have HO := Lib.hid ho
  clear hq ho
  go_enter Tryz.func216, Tryz.ntmps216
  go_wp2_with fail
  refine (inB_q c 1 36 q HQ.out _).mono ?_
  rintro e w0 ⟨rfl, rfl⟩
  cases q
  · by_cases h39 : c = 39
    · obtain rfl : o = true := by rw [HO.out]; simp [h39]
      go_wp2
      go_ret
      exact ⟨rfl, rfl⟩
    · by_cases h42 : c = 42
      · obtain rfl : o = true := by rw [HO.out]; simp [h42]
        go_wp2
        go_ret
        exact ⟨rfl, rfl⟩
      · obtain rfl : o = false := by rw [HO.out]; simp [h39, h42]
        go_wp2
        go_ret
        exact ⟨by simp [h39, h42], rfl⟩
  · obtain rfl : o = true := by rw [HO.out]; rfl
    go_wp2
    go_ret
    exact ⟨rfl, rfl⟩
end Go.Proofs.YtjfckchoklepbaaGreat

namespace Go.Proofs.YtjfckchoklepbaaGreat
open Go.RowKit

set_option maxRecDepth 100000 in
set_option maxHeartbeats 4000000 in
theorem specHeldAt_any (k : Int) (u1 u2 : Value) (x : Int) (u3 : Value) (o : Int) (p : Bool) (H : List Hd) (key : Int) (w : World) (hn : H.length ≤ maxLen) (h : RdN w u3 H.length (flatHd H)) :
    Calls Tryz.prog 99 #[env k u1 u2 x u3 o p, .int .i64 key] w fun e w' => e = .returned (.int .i64 (haI H key)) ∧ Below w.heap.size w w' := by
  obtain ⟨a, cap, rfl⟩ := RdN.shape h
  obtain ⟨r, hr⟩ : ∃ r, r = haI H key := ⟨_, rfl⟩
  rw [← hr]
  have HR := Lib.hid hr
  obtain ⟨n, hnl⟩ : ∃ n, n = H.length := ⟨_, rfl⟩
  have HNL := Lib.hid hnl
  have HH := Lib.hid (show RdN w (.slice a n cap) H.length (flatHd H) from by rw [hnl]; exact h)
  have hnm : n ≤ maxLen := by rw [hnl]; exact hn
  unfold maxLen at hnm
  rw [← hnl]
  clear hr hn h hnl
  obtain ⟨W, hW⟩ : ∃ W, W = w.alloc (.cells #[.int .i64 k, u1, u2, .int .i64 x, .slice a n cap, .int .i64 o, .bool p] 30) := ⟨_, rfl⟩
  have HX0 := Lib.hid (show Bxd W w.heap.size [.int .i64 k, u1, u2, .int .i64 x, .slice a n cap, .int .i64 o, .bool p] by rw [hW]; exact Bxd.new _ _ _)
  have HB0 := Lib.hid (show Below w.heap.size w W by rw [hW]; exact (Below.refl _ _).alloc (Nat.le_refl _) _)
  have HS0 := Lib.hid (show w.heap.size < W.heap.size by rw [hW]; simp)
  have HW := Lib.hid hW
  clear hW
  go_enter Tryz.func99, Tryz.ntmps99
  go_upto_region 1 with (fail)
  rw [← HW.out]
  go_wp2
  go_loopw [5] (fun i wr => ∃ j : Nat, j ≤ n ∧ i = .int .i64 j ∧ (∀ q, q < j → (hdD H q).h ≠ key) ∧ Below W.heap.size W wr) (fun i _ => n - (intOf i).toNat)
  case atStart => exact ⟨0, Nat.zero_le _, rfl, fun q hq => absurd hq (Nat.not_lt_zero _), Below.refl _ _⟩
  case round =>
    obtain ⟨j, hj, rfl, hno, hb⟩ := hrel
    have HNo := Lib.hid hno
    have HB := Lib.hid hb
    have y3 := (HX0.out.below hb HS0.out).at 4 _ rfl
    by_cases hlt' : j < n
    · have hjz : j < H.length := by rw [← HNL.out]; exact hlt'
      obtain ⟨b, off, rfl, hlt, c0, c1, c2', c3, c4⟩ := hd_at HH.out hjz
      have hbw := HB0.out.trans (hb.mono HB0.out.size)
      have e0 := (hbw.cell (p := ⟨b, off + j * 5, none⟩) hlt).trans c0
      have hat : (hdD H j).h = key → r = (j : Int) := fun hm => by rw [HR.out]; exact haI_at hjz HNo.out hm
      have hnx : (hdD H j).h ≠ key → ∀ q, q < j + 1 → (hdD H q).h ≠ key := fun hm q hq => by
        rcases Nat.lt_or_ge q j with h3 | h3
        · exact HNo.out q h3
        · obtain rfl : q = j := by omega
          exact hm
      obtain ⟨z, hz⟩ : ∃ z, z = (hdD H j).h := ⟨_, rfl⟩
      rw [← hz] at e0 hat hnx
      have HAt := Lib.hid hat
      have HNx := Lib.hid hnx
      clear c0 c1 c2' c3 c4 hat hnx hz hbw hb hno
      by_cases h1 : z = key
      · have hr := HAt.out h1
        subst h1
        go_wp2
        go_ret
        exact ⟨by first | rfl | exact ret_int hr.symm, HB0.out.trans (HB.out.mono HB0.out.size)⟩
      · have b1 : (z == key) = false := by simp [h1]
        have hq := Lib.hid (HNx.out h1)
        go_wp2
        go_roundw
        case rel => exact ⟨j + 1, by omega, by go_num, hq.out, HB.out⟩
        case measure => simp [intOf]; omega
    · obtain rfl : j = n := by omega
      have hr : r = -1 := by rw [HR.out]; exact haI_no (fun q hq => HNo.out q (by rw [HNL.out]; exact hq))
      clear hno
      go_wp2
      go_ret
      exact ⟨by first | rfl | exact ret_int hr.symm, HB0.out.trans (HB.out.mono HB0.out.size)⟩

end Go.Proofs.YtjfckchoklepbaaGreat
