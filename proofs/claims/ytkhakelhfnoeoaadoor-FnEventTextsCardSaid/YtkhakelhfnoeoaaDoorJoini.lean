/- DERIVED. The program's JoinText over its own joinParts and a strings.Builder, called with at most 1048576 strings whose joined text takes at most 70368744177664 bytes. -/
import Derived.Test.YtkhakelhfnoeoaaDoorJoin
namespace Go.Proofs.YtkhakelhfnoeoaaDoor
open Go.RowKit

set_option maxHeartbeats 1000000 in
theorem joinParts_any (v : Value) (ss : List ByteArray) (sep : ByteArray) (w : World) (hl : ss.length ≤ 1048576) (hj : ∀ k, k ≤ ss.length → (jn ss sep k).length ≤ 70368744177664) (h : Rd w v (ss.map .string)) :
    Calls Tryd.prog 46 #[.string sep, v] w fun e w' => e = .returned (.string (joined ss sep)) ∧ Below w.heap.size w w' := by
  have hfr := Lib.hid (Lib.fresh_isBuilder 83 5 w)
  rcases h.cases with ⟨hx, a, cap, rfl⟩ | ⟨hx, b, off, cap, rfl, hlt, hc⟩
  · have hx' : ss = [] := by simpa using hx
    subst hx'
    clear h hx hj
    go_enter Tryd.func46, Tryd.ntmps46
    go_wp2
    refine wp_loop_rounds 1 ?_
    rw [rounds_succ]
    go_wp2_with fail
    refine (bString_any w.heap.size w.heap.size [] _ hfr.out (by simp)).mono ?_
    rintro e w1 ⟨rfl, hb⟩
    go_wp2
    go_ret
    exact ⟨rfl, ((Below.refl _ _).alloc (Nat.le_refl _) _).trans hb⟩
  · have hn : (ss.map Value.string).length = ss.length := by simp
    rw [hn]
    have hc' : ∀ j, j < ss.length → w.cell? ⟨b, off + j, none⟩ = some (.string (ss.getD j ByteArray.empty)) := fun j hj => by
      rw [hc j (by simpa using hj), getD_map_str]
    clear hc h hx hn
    have HJ := Lib.hid hj
    have HC := Lib.hid hc'
    clear hj hc'
    go_enter Tryd.func46, Tryd.ntmps46
    go_wp2
    go_loopw [10] (fun i wr => ∃ (k : Nat), k ≤ ss.length ∧ i = .int .i64 k ∧ Lib.IsBuilder 83 5 w.heap.size w.heap.size (Lib.byteCells (jn ss sep k)) wr ∧ Below w.heap.size w wr)
      (fun i _ => ss.length - (intOf i).toNat)
    case atStart => exact ⟨0, Nat.zero_le _, rfl, hfr.out, (Below.refl _ _).alloc (Nat.le_refl _) _⟩
    case round =>
      obtain ⟨k, hk, rfl, hI, hb⟩ := hrel
      have hbw : w.heap.size ≤ wr.heap.size := hb.size
      have hj0 := HJ.out k hk
      have HI := Lib.hid hI
      have HB := Lib.hid hb
      clear hI hb
      by_cases hlt' : k < ss.length
      · obtain ⟨x, hxd⟩ : ∃ x, x = ss.getD k ByteArray.empty := ⟨_, rfl⟩
        have hcell : wr.cell? ⟨b, off + k, none⟩ = some (.string x) := by rw [hxd]; exact (HB.out.cell (p := ⟨b, off + k, none⟩) hlt).trans (HC.out k hlt')
        have hj1 := HJ.out (k + 1) (by omega)
        have HX := Lib.hid hxd
        clear hxd
        by_cases hk0 : 0 < k
        · have hk1 : (0 : Int) < k := by omega
          have hj2 : (jn ss sep k).length + sep.size + x.size ≤ 70368744177664 := by
            rw [jn_later ss sep hk0, List.length_append, List.length_append, size_toList, size_toList, ← HX.out] at hj1
            exact hj1
          have HJ2 := Lib.hid hj2
          clear hj1 hj2 hj0
          go_wp2_with fail
          refine (bWrite_any w.heap.size w.heap.size _ sep _ HI.out (by rw [Lib.byteCells_length]; have := HJ2.out; omega) hbw).mono ?_
          rintro e w1 ⟨rfl, hI1, hb1⟩
          have HI1 := Lib.hid hI1
          have HB1 := Lib.hid (HB.out.trans hb1)
          clear hI1 hb1
          go_wp2_with fail
          refine (bWrite_any w.heap.size w.heap.size _ x _ HI1.out (by rw [List.length_append, Lib.byteCells_length, Lib.strCells_length]; have := HJ2.out; omega) HB1.out.size).mono ?_
          rintro e w2 ⟨rfl, hI2, hb2⟩
          have HI2 := Lib.hid hI2
          have HB2 := Lib.hid (HB1.out.trans hb2)
          clear hI2 hb2
          go_wp2
          go_roundw
          case rel =>
            refine ⟨k + 1, by omega, by go_num, ?_, HB2.out⟩
            rw [jn_later ss sep hk0, Lib.byteCells_append, Lib.byteCells_append, ← HX.out]
            exact HI2.out
          case measure => simp [intOf]; omega
        · obtain rfl : k = 0 := by omega
          rw [Nat.add_zero] at hcell
          have hj2 : x.size ≤ 70368744177664 := by
            rw [jn_first, size_toList, ← HX.out] at hj1
            exact hj1
          clear hj1 hj0
          go_wp2_with fail
          refine (bWrite_any w.heap.size w.heap.size [] x _ HI.out (by simp; omega) hbw).mono ?_
          rintro e w2 ⟨rfl, hI2, hb2⟩
          have HI2 := Lib.hid hI2
          have HB2 := Lib.hid (HB.out.trans hb2)
          clear hI2 hb2
          go_wp2
          go_roundw
          case rel =>
            refine ⟨1, by omega, by go_num, ?_, HB2.out⟩
            rw [jn_first, ← HX.out]
            exact HI2.out
          case measure => simp [intOf]; omega
      · obtain rfl : k = ss.length := by omega
        go_wp2_with fail
        refine (bString_any w.heap.size w.heap.size (jn ss sep ss.length) _ HI.out hbw).mono ?_
        rintro e w1 ⟨rfl, hb1⟩
        have HB1 := Lib.hid (HB.out.trans hb1)
        clear hb1
        go_wp2
        go_ret
        exact ⟨rfl, HB1.out⟩

theorem implJoin_any (v : Value) (ss : List ByteArray) (sep : ByteArray) (w : World) (hl : ss.length ≤ 1048576) (hj : ∀ k, k ≤ ss.length → (jn ss sep k).length ≤ 70368744177664) (h : Rd w v (ss.map .string)) :
    Calls Tryd.prog 29 #[v, .string sep] w fun e w' => e = .returned (.string (joined ss sep)) ∧ Below w.heap.size w w' := by
  have HJ := Lib.hid hj
  have HH := Lib.hid h
  clear hj h
  go_enter Tryd.func29, Tryd.ntmps29
  go_wp2_with fail
  refine (joinParts_any v ss sep _ hl HJ.out HH.out).mono ?_
  rintro e w1 ⟨rfl, hb1⟩
  go_wp2
  go_ret
  exact ⟨rfl, hb1⟩

end Go.Proofs.YtkhakelhfnoeoaaDoor
