/- DERIVED. JoinText, the program's and the reference's: the elements of a slice of strings with a text between each two. Called with at most 1048576 strings whose joined text takes at most 70368744177664 bytes. -/
import Derived.Test.YtkhakelhfnoeoaaDoorStrs
import Derived.Test.YtkhakelhfnoeoaaDoorBuilder
namespace Go.Proofs.YtkhakelhfnoeoaaDoor
open Go.RowKit

theorem strCells_eq (s : ByteArray) : Lib.strCells s = Lib.byteCells s.data.toList := rfl
def nums (l : List UInt8) : List Int := l.map fun c => (c.toNat : Int)
theorem byteCells_eq (l : List UInt8) : Lib.byteCells l = (nums l).map (.int .u8) := by simp [Lib.byteCells, nums]
theorem strOfNums_nums (l : List UInt8) : strOfNums (nums l) = ⟨l.toArray⟩ := by
  unfold strOfNums nums
  congr 2
  rw [List.map_map]
  conv => rhs; rw [← List.map_id l]
  apply List.map_congr_left
  intro c _
  simp

/-- The joined bytes of the first k elements. -/
def jn (ss : List ByteArray) (sep : ByteArray) : Nat → List UInt8
  | 0 => []
  | k + 1 => (if 0 < k then jn ss sep k ++ sep.data.toList else jn ss sep k) ++ (ss.getD k ByteArray.empty).data.toList
theorem jn_first (ss : List ByteArray) (sep : ByteArray) : jn ss sep 1 = (ss.getD 0 ByteArray.empty).data.toList := by simp [jn]
theorem jn_later (ss : List ByteArray) (sep : ByteArray) {k : Nat} (h : 0 < k) : jn ss sep (k + 1) = jn ss sep k ++ sep.data.toList ++ (ss.getD k ByteArray.empty).data.toList := by rw [jn, if_pos h]
def joined (ss : List ByteArray) (sep : ByteArray) : ByteArray := ⟨(jn ss sep ss.length).toArray⟩

theorem size_toList (s : ByteArray) : s.data.toList.length = s.size := by rw [Array.length_toList]; rfl

set_option maxHeartbeats 1000000 in
theorem specJoin_any (v : Value) (ss : List ByteArray) (sep : ByteArray) (w : World) (hl : ss.length ≤ 1048576) (hsep : sep.size ≤ 1048576) (hj : ∀ k, k ≤ ss.length → (jn ss sep k).length ≤ 70368744177664) (h : Rd w v (ss.map .string)) :
    Calls Tryd.prog 35 #[v, .string sep] w fun e w' => e = .returned (.string (joined ss sep)) ∧ Below w.heap.size w w' := by
  obtain ⟨i0, hi, hz0, hz1, hz2⟩ := info_parts info_u8
  rcases h.cases with ⟨hx, a, cap, rfl⟩ | ⟨hx, b, off, cap, rfl, hlt, hc⟩
  · have hx' : ss = [] := by simpa using hx
    subst hx'
    have hcv := conv_owned (P := Tryd.prog) (src := 22) (dst := 9) (w := w.alloc (.cells #[] 5)) (base := w.heap.size) (v := .slice (some ⟨w.heap.size, 0, none⟩) 0 0) (n := 0) (ns := []) Tryd.underlying22 Tryd.underlying5 Tryd.underlying9 (World.ownsRow_lit w #[] 0 (Nat.le_refl _) (by simp [maxLen]) rfl)
    clear h hx hj
    go_enter Tryd.func35, Tryd.ntmps35
    go_wp2
    refine wp_loop_rounds 1 ?_
    rw [rounds_succ]
    go_wp2
    go_ret
    exact ⟨rfl, (Below.refl _ _).alloc (Nat.le_refl _) _⟩
  · have hn : (ss.map Value.string).length = ss.length := by simp
    rw [hn]
    have hc' : ∀ j, j < ss.length → w.cell? ⟨b, off + j, none⟩ = some (.string (ss.getD j ByteArray.empty)) := fun j hj => by
      rw [hc j (by simpa using hj), getD_map_str]
    clear hc h hx hn
    have HJ := Lib.hid hj
    have HC := Lib.hid hc'
    clear hj hc'
    go_enter Tryd.func35, Tryd.ntmps35
    go_wp2
    go_loopw [5, 6] (fun u i wr => ∃ (k n : Nat), k ≤ ss.length ∧ i = .int .i64 k ∧ n = (jn ss sep k).length ∧ wr.ownsRow w.heap.size 5 1 u n (Lib.byteCells (jn ss sep k)) ∧ Below w.heap.size w wr)
      (fun _ i _ => ss.length - (intOf i).toNat)
    case atStart => exact ⟨0, 0, Nat.zero_le _, rfl, rfl, World.ownsRow_lit w #[] 0 (Nat.le_refl _) (by simp [maxLen]) rfl, (Below.refl _ _).alloc (Nat.le_refl _) _⟩
    case round =>
      obtain ⟨k, n, hk, rfl, hnl, hown, hb⟩ := hrel
      have hbw : w.heap.size ≤ wr.heap.size := hb.size
      have hj0 := HJ.out k hk
      rw [← hnl] at hj0
      by_cases hlt' : k < ss.length
      · obtain ⟨x, hxd⟩ : ∃ x, x = ss.getD k ByteArray.empty := ⟨_, rfl⟩
        have hcell : wr.cell? ⟨b, off + k, none⟩ = some (.string x) := by rw [hxd]; exact (hb.cell (p := ⟨b, off + k, none⟩) hlt).trans (HC.out k hlt')
        have hj1 := HJ.out (k + 1) (by omega)
        have HX := Lib.hid hxd
        have HO := Lib.hid hown
        have HB := Lib.hid hb
        have HN := Lib.hid hnl
        clear hxd hown hb hnl
        by_cases hk0 : 0 < k
        · have hk1 : (0 : Int) < k := by omega
          have hj2 : n + sep.size + x.size ≤ 70368744177664 := by
            rw [jn_later ss sep hk0, List.length_append, List.length_append, size_toList, size_toList, ← HN.out, ← HX.out] at hj1
            exact hj1
          clear hj1
          have a63 : n + sep.size ≤ maxLen := by unfold maxLen; omega
          have a47 : n + sep.size ≤ 140737488355328 := by omega
          have b63 : n + sep.size + x.size ≤ maxLen := by unfold maxLen; omega
          have b47 : n + sep.size + x.size ≤ 140737488355328 := by omega
          go_wp2_with (at_builtin; refine Lib.wpList_append_own_string _ rfl (.tmp 16) (.tmp 17) 22 9 rfl w.heap.size 5 i0 Tryd.underlying22 Tryd.underlying9 hi hz0 hz1 hz2 _ _ _ rfl HO.out sep rfl a63 a47 hbw ?_)
          intro u1 w1 ho1 hg1 _
          have hB1 := HB.out.grown hg1 hbw (fun j hj => (HO.out.lt j hj).1)
          have hcell1 : w1.cell? ⟨b, off + k, none⟩ = some (.string x) := by rw [hB1.cell (p := ⟨b, off + k, none⟩) hlt, ← HB.out.cell (p := ⟨b, off + k, none⟩) hlt]; exact hcell
          have hbw1 : w.heap.size ≤ w1.heap.size := hB1.size
          have HO1 := Lib.hid ho1
          have HB1 := Lib.hid hB1
          clear ho1 hB1 hg1 hcell
          go_wp2_with (at_builtin; refine Lib.wpList_append_own_string _ rfl (.tmp 19) (.tmp 23) 22 9 rfl w.heap.size 5 i0 Tryd.underlying22 Tryd.underlying9 hi hz0 hz1 hz2 _ _ _ rfl HO1.out x rfl b63 b47 hbw1 ?_)
          intro u2 w2 ho2 hg2 _
          have HB2 := Lib.hid (HB1.out.grown hg2 hbw1 (fun j hj => (HO1.out.lt j hj).1))
          have HO2 := Lib.hid ho2
          clear ho2 hg2
          go_wp2
          go_roundw
          case rel =>
            refine ⟨k + 1, n + sep.size + x.size, by omega, by go_num, ?_, ?_, HB2.out⟩
            · rw [jn_later ss sep hk0, List.length_append, List.length_append, size_toList, size_toList, ← HN.out, ← HX.out]
            · rw [jn_later ss sep hk0, Lib.byteCells_append, Lib.byteCells_append, ← HX.out, List.append_assoc]
              exact HO2.out
          case measure => simp [intOf]; omega
        · obtain rfl : k = 0 := by omega
          obtain rfl : n = 0 := HN.out
          rw [Nat.add_zero] at hcell
          have hj2 : x.size ≤ 70368744177664 := by
            rw [jn_first, size_toList, ← HX.out] at hj1
            exact hj1
          clear hj1
          have b63 : 0 + x.size ≤ maxLen := by unfold maxLen; omega
          have b47 : 0 + x.size ≤ 140737488355328 := by omega
          go_wp2_with (at_builtin; refine Lib.wpList_append_own_string _ rfl (.tmp 19) (.tmp 23) 22 9 rfl w.heap.size 5 i0 Tryd.underlying22 Tryd.underlying9 hi hz0 hz1 hz2 _ _ _ rfl HO.out x rfl b63 b47 hbw ?_)
          intro u2 w2 ho2 hg2 _
          have HB2 := Lib.hid (HB.out.grown hg2 hbw (fun j hj => (HO.out.lt j hj).1))
          have HO2 := Lib.hid ho2
          clear ho2 hg2
          go_wp2
          go_roundw
          case rel =>
            refine ⟨1, x.size, by omega, by go_num, ?_, ?_, HB2.out⟩
            · rw [jn_first, size_toList, ← HX.out]
            · rw [jn_first, ← HX.out]
              exact HO2.out
          case measure => simp [intOf]; omega
      · obtain rfl : k = ss.length := by omega
        have hcv := conv_owned (P := Tryd.prog) (src := 22) (dst := 9) Tryd.underlying22 Tryd.underlying5 Tryd.underlying9 (by rw [byteCells_eq] at hown; exact hown)
        rw [strOfNums_nums] at hcv
        have HB := Lib.hid hb
        clear hown hb hnl
        go_wp2
        go_ret
        exact ⟨rfl, HB.out⟩

end Go.Proofs.YtkhakelhfnoeoaaDoor
