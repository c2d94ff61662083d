/- DERIVED. The laws' own copy of a slice of strings, and their sum of its sizes. -/
import Derived.Test.YtbpmddjhmoflgaaStrs
namespace Go.Proofs.Ytbpmddjhmoflgaa
open Go.RowKit

theorem strs_done {zs : List ByteArray} {xs : List Value} (hl : xs.length = zs.length) (h : ∀ j, j < zs.length → xs[j]? = some (.string (zs.getD j ByteArray.empty))) : xs = zs.map .string := by
  apply List.ext_getElem?
  intro j
  by_cases hj : j < zs.length
  · rw [h j hj]; simp [List.getElem?_eq_getElem hj]
  · rw [List.getElem?_eq_none (by omega), List.getElem?_eq_none (by simp; omega)]
theorem made_bound16 {i0 : TypeInfo} {n : Nat} (h : i0.bytes = 16) (hn : n ≤ 1048577) : i0.bytes * n ≤ 281474976710656 := by rw [h]; omega

set_option maxHeartbeats 400000 in
theorem toStringS_any (v : Value) (zs : List ByteArray) (w : World) (hl : zs.length ≤ 1048577) (h : Rd w v (zs.map .string)) :
    Calls Try.prog 18 #[v] w fun e w' => ∃ u, e = .returned u ∧ w'.ownsRow w.heap.size 9 1 u zs.length (zs.map .string) ∧ Below w.heap.size w w' := by
  obtain ⟨i0, hi, hz0, hz1, hz2⟩ := info_parts info_str
  rcases h.cases with ⟨hx, a, cap, rfl⟩ | ⟨hx, b, off, cap, rfl, hlt, hc⟩
  · have hx' : zs = [] := by simpa using hx
    subst hx'
    clear h hx
    go_enter Try.func18, Try.ntmps18
    go_wp2_with (at_make; refine wpList_make_full w rfl _ _ 26 rfl w.heap.size 9 i0 (.string ByteArray.empty) 1 Try.underlying26 hi hz0 hz1 .i64 .i64 0 0 0 rfl rfl rfl rfl ?_ ?_ ?_ ?_)
    · simp
    · simp [maxLen]
    · exact Nat.le_refl _
    · intro w1 hown hg
      go_wp2
      refine wp_loop_rounds 1 ?_
      rw [rounds_succ]
      go_wp2
      go_ret
      exact ⟨_, rfl, by simpa [madeCells] using hown, (Below.refl _ _).grown hg (Nat.le_refl _) (fun k hk => by cases hk)⟩
  · have hn : (zs.map Value.string).length = zs.length := by simp
    rw [hn]
    have hc' : ∀ j, j < zs.length → w.cell? ⟨b, off + j, none⟩ = some (.string (zs.getD j ByteArray.empty)) := fun j hj => by
      rw [hc j (by simpa using hj), getD_map_str]
    clear hc h hx hn
    go_enter Try.func18, Try.ntmps18
    go_wp2_with (at_make; refine wpList_make_full w rfl _ _ 26 rfl w.heap.size 9 i0 (.string ByteArray.empty) 1 Try.underlying26 hi hz0 hz1 .i64 .i64 _ _ zs.length rfl rfl rfl rfl (made_bound16 hz2 hl) ?_ ?_ ?_)
    · simp [maxLen]; omega
    · exact Nat.le_refl _
    · intro w1 hown hg
      go_wp2
      go_loopw [4] (fun i wr => ∃ (k : Nat) (xs : List Value), k ≤ zs.length ∧ i = .int .i64 k ∧ wr.ownsRow w.heap.size 9 1 (.slice (some ⟨w.heap.size, 0, none⟩) zs.length zs.length) zs.length xs ∧ (∀ j, j < k → xs[j]? = some (.string (zs.getD j ByteArray.empty))) ∧ Below w.heap.size w wr)
        (fun i _ => zs.length - (intOf i).toNat)
      case atStart => exact ⟨0, _, Nat.zero_le _, rfl, hown, fun j hj => by omega, (Below.refl _ _).grown hg (Nat.le_refl _) (fun k hk => by cases hk)⟩
      case round =>
        obtain ⟨k, xs, hk, rfl, hown', hxs, hb⟩ := hrel
        have hlx : xs.length = zs.length := by simpa using hown'.1
        by_cases hlt' : k < zs.length
        · obtain ⟨x, hxd⟩ : ∃ x, x = zs.getD k ByteArray.empty := ⟨_, rfl⟩
          have hcell : wr.cell? ⟨b, off + k, none⟩ = some (.string x) := by rw [hxd]; exact (hb.cell (p := ⟨b, off + k, none⟩) hlt).trans (hc' k hlt')
          obtain ⟨y, hst⟩ : ∃ y, wr.cell? ⟨w.heap.size, k, none⟩ = some y := ⟨xs[k]'(by omega), by rw [hown'.cellAt k (by omega), List.getElem?_eq_getElem (show k < xs.length by omega)]⟩
          have hfr := hown'.frozenAt k
          have HD := Lib.hid hxd
          have HS := Lib.hid (hown'.stored k (.string x))
          have HX := Lib.hid hxs
          have HC := Lib.hid hc'
          have HL := Lib.hid hlx
          have HB := Lib.hid hb
          clear hxs hown' hc' hlx hb hown hg hxd
          go_wp2
          go_roundw
          case rel =>
            refine ⟨k + 1, _, by omega, by go_num, HS.out.1, fun j hj => ?_, HB.out.setCell (Nat.le_refl _) _⟩
            by_cases hjk : j = k
            · subst hjk
              rw [List.getElem?_set]; simp [HL.out, hlt', HD.out]
            · rw [List.getElem?_set, if_neg (by omega)]; exact HX.out j (by omega)
          case measure => simp [intOf]; omega
        · obtain rfl : k = zs.length := by omega
          have hdone := strs_done hlx hxs
          subst hdone
          have HO := Lib.hid hown'
          clear hxs hown' hc' hlx hown hg
          go_wp2
          go_ret
          exact ⟨_, rfl, HO.out, hb⟩

/-- The sum of the sizes of the first k. -/
def szSum (zs : List ByteArray) : Nat → Nat
  | 0 => 0
  | k + 1 => szSum zs k + (zs.getD k ByteArray.empty).size

set_option maxHeartbeats 400000 in
theorem szStringS_any (v : Value) (zs : List ByteArray) (left : Nat) (w : World) (hl : zs.length ≤ maxLen) (hs : ∀ z ∈ zs, z.size ≤ maxLen) (hleft : left ≤ 1048576) (h : Rd w v (zs.map .string)) :
    Calls Try.prog 16 #[v, .int .i64 left] w fun e w' => ∃ r : Int, e = .returned (.int .i64 r) ∧ (0 ≤ r → zs.length + szSum zs zs.length ≤ left) ∧ w = w' := by
  unfold maxLen at hl hs
  rcases h.cases with ⟨hx, a, cap, rfl⟩ | ⟨hx, b, off, cap, rfl, hlt, hc⟩
  · have hx' : zs = [] := by simpa using hx
    subst hx'
    clear h hx
    go_enter Try.func16, Try.ntmps16
    go_wp2
    refine wp_loop_rounds 1 ?_
    rw [rounds_succ]
    go_wp2
    go_ret
    exact ⟨_, rfl, fun _ => by simp [szSum], rfl⟩
  · have hn : (zs.map Value.string).length = zs.length := by simp
    rw [hn]
    have hc' : ∀ j, j < zs.length → w.cell? ⟨b, off + j, none⟩ = some (.string (zs.getD j ByteArray.empty)) := fun j hj => by
      rw [hc j (by simpa using hj), getD_map_str]
    clear hc h hx hn
    have HC := Lib.hid hc'
    have HS := Lib.hid hs
    clear hc' hs
    by_cases hneg : (left : Int) - zs.length < 0
    · go_enter Try.func16, Try.ntmps16
      go_wp2
      go_ret
      exact ⟨_, rfl, fun h => by omega, rfl⟩
    · go_enter Try.func16, Try.ntmps16
      go_wp2
      go_loop [1, 5] (fun r i => ∃ (k : Nat) (q : Int), k ≤ zs.length ∧ i = .int .i64 k ∧ r = .int .i64 q ∧ 0 ≤ q ∧ q ≤ left ∧ q = (left : Int) - zs.length - szSum zs k) (fun _ i => zs.length - (intOf i).toNat)
      case atStart => exact ⟨0, _, Nat.zero_le _, rfl, rfl, by omega, by omega, by simp [szSum]⟩
      case round =>
        obtain ⟨k, q, hk, rfl, rfl, q0, q1, hq⟩ := hrel
        have HQ := Lib.hid hq
        clear hq
        by_cases hlt' : k < zs.length
        · obtain ⟨x, hxd⟩ : ∃ x, x = zs.getD k ByteArray.empty := ⟨_, rfl⟩
          have hcell : w.cell? ⟨b, off + k, none⟩ = some (.string x) := by rw [hxd]; exact HC.out k hlt'
          have hxs : x.size ≤ 9223372036854775807 := HS.out x (by rw [hxd]; simp [List.getElem?_eq_getElem hlt'])
          have HX := Lib.hid hxd
          clear hxd
          by_cases hq' : q - x.size < 0
          · go_wp2
            go_ret
            exact ⟨_, rfl, fun h => by omega, rfl⟩
          · go_wp2
            go_round
            case rel => exact ⟨k + 1, q - x.size, by omega, by go_num, rfl, by omega, by omega, by rw [szSum, ← HX.out]; have := HQ.out; omega⟩
            case measure => simp [intOf]; omega
        · obtain rfl : k = zs.length := by omega
          go_wp2
          go_ret
          exact ⟨_, rfl, fun _ => by have := HQ.out; omega, rfl⟩
end Go.Proofs.Ytbpmddjhmoflgaa
