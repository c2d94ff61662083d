/- DERIVED. The laws' marks on slices of bytes: marking an owned slice writes the marks, and a slice that reads as its marks is told to hold them. -/
import Derived.Test.YtleheibpgngmiaaBytes
namespace Go.Proofs.Ytleheibpgngmiaa
open Go.RowKit

/-- The mark that a law writes into place j of a slice, counted from k on. -/
def mark8 (k : Int) (j : Nat) : Value := .int .u8 ((k + j) % 256)
def marks8 (k : Int) (n : Nat) : List Value := (List.range n).map (mark8 k)
theorem marks8_length (k : Int) (n : Nat) : (marks8 k n).length = n := by simp [marks8]
theorem marks8_get (k : Int) (n j : Nat) (h : j < n) : (marks8 k n)[j]? = some (mark8 k j) := by simp [marks8, h]
theorem marks8_done {k : Int} {n : Nat} {xs : List Value} (hl : xs.length = n) (h : ∀ j, j < n → xs[j]? = some (mark8 k j)) : xs = marks8 k n := by
  apply List.ext_getElem?
  intro j
  by_cases hj : j < n
  · rw [h j hj, marks8_get k n j hj]
  · rw [List.getElem?_eq_none (by omega), List.getElem?_eq_none (by rw [marks8_length]; omega)]

set_option maxHeartbeats 400000 in
theorem markByteS_any (base : Nat) (v : Value) (n : Nat) (xs : List Value) (k : Int) (w : World) (hn : n ≤ 1048576) (hk : 0 ≤ k) (hk' : k ≤ 1099511627776) (h : w.ownsRow base 5 1 v n xs) :
    Calls Try.prog 33 #[v, .int .i64 k] w fun e w' => e = .returned (.int .i64 (k + n)) ∧ w'.ownsRow base 5 1 v n (marks8 k n) ∧ Below base w w' := by
  rcases h.2 with ⟨rfl, hn0⟩ | ⟨g, cap, cur, rfl, hg, hh, hnc, hcm, hcs, ht⟩
  · subst hn0
    clear h
    go_enter Try.func33, Try.ntmps33
    go_wp2
    refine wp_loop_rounds 1 ?_
    rw [rounds_succ]
    go_wp2
    go_ret
    exact ⟨ret_int (by simp), World.ownsRow_nil _ _ _ _, Below.refl _ _⟩
  · have HH := Lib.hid h
    clear h hh hnc hcm hcs ht
    go_enter Try.func33, Try.ntmps33
    go_wp2
    go_loopw [1, 5] (fun c i wr => ∃ (j : Nat) (ys : List Value), j ≤ n ∧ i = .int .i64 j ∧ c = .int .i64 (k + j) ∧ wr.ownsRow base 5 1 (.slice (some ⟨g, 0, none⟩) n cap) n ys ∧ (∀ l, l < j → ys[l]? = some (mark8 k l)) ∧ Below base w wr)
      (fun _ i _ => n - (intOf i).toNat)
    case atStart => exact ⟨0, xs, Nat.zero_le _, rfl, by simp, HH.out, fun l hl => by omega, Below.refl _ _⟩
    case round =>
      obtain ⟨j, ys, hj, rfl, rfl, hown, hys, hb⟩ := hrel
      have hly : ys.length = n := by simpa using hown.1
      by_cases hlt : j < n
      · obtain ⟨y, hst⟩ : ∃ y, wr.cell? ⟨g, j, none⟩ = some y := ⟨ys[j]'(by omega), by rw [hown.cellAt j (by omega), List.getElem?_eq_getElem (show j < ys.length by omega)]⟩
        have hfr := hown.frozenAt j
        have HS := Lib.hid (hown.stored j (mark8 k j))
        have HY := Lib.hid hys
        have HB := Lib.hid hb
        have HL := Lib.hid hly
        have hwr : IntKind.u8.wrap (k + j) = (k + j) % 256 := IntKind.wrap_u8 _
        clear hown hys hb hly
        go_wp2
        go_roundw
        case rel =>
          refine ⟨j + 1, _, by omega, by go_num, by go_num, HS.out.1, fun l hl => ?_, HB.out.setCell hg _⟩
          by_cases hlj : l = j
          · subst hlj
            rw [List.getElem?_set]; simp [HL.out, hlt]
          · rw [List.getElem?_set, if_neg (by omega)]; exact HY.out l (by omega)
        case measure => simp [intOf]; omega
      · obtain rfl : j = n := by omega
        have HD := Lib.hid (marks8_done hly hys)
        have HO := Lib.hid hown
        have HB := Lib.hid hb
        clear hown hys hb hly
        go_wp2
        go_ret
        exact ⟨rfl, by rw [← HD.out]; exact HO.out, HB.out⟩

set_option maxHeartbeats 400000 in
theorem heldByteS_any (v : Value) (n : Nat) (k : Int) (w : World) (hn : n ≤ 1048576) (hk : 0 ≤ k) (hk' : k ≤ 1099511627776) (h : Rd w v (marks8 k n)) :
    Calls Try.prog 34 #[v, .int .i64 k] w fun e w' => e = .returned (.int .i64 (k + n)) ∧ w = w' := by
  rcases h.cases with ⟨hx, a, cap, rfl⟩ | ⟨hx, b, off, cap, rfl, hlt, hc⟩
  · have hx' : n = 0 := by have := congrArg List.length hx; simpa [marks8_length] using this
    subst hx'
    clear h hx
    go_enter Try.func34, Try.ntmps34
    go_wp2
    refine wp_loop_rounds 1 ?_
    rw [rounds_succ]
    go_wp2
    go_ret
    exact ⟨ret_int (by simp), rfl⟩
  · have hc' : ∀ j, j < n → w.cell? ⟨b, off + j, none⟩ = some (.int .u8 ((k + j) % 256)) := fun j hj => by
      have h1 : j < (marks8 k n).length := by rw [marks8_length]; exact hj
      rw [hc j h1]
      have := marks8_get k n j hj
      rw [List.getElem?_eq_getElem h1] at this
      exact this
    rw [marks8_length]
    clear h hx hc
    go_enter Try.func34, Try.ntmps34
    go_wp2
    go_loop [1, 5] (fun c i => ∃ (j : Nat), j ≤ n ∧ i = .int .i64 j ∧ c = .int .i64 (k + j)) (fun _ i => n - (intOf i).toNat)
    case atStart => exact ⟨0, Nat.zero_le _, rfl, by simp⟩
    case round =>
      obtain ⟨j, hj, rfl, rfl⟩ := hrel
      by_cases hlt' : j < n
      · have hcell := hc' j hlt'
        have HC := Lib.hid hc'
        have hwr : IntKind.u8.wrap (k + j) = (k + j) % 256 := IntKind.wrap_u8 _
        clear hc'
        go_wp2
        go_round
        case rel => exact ⟨j + 1, by omega, by go_num, by go_num⟩
        case measure => simp [intOf]; omega
      · obtain rfl : j = n := by omega
        clear hc'
        go_wp2
        go_ret
        exact ⟨rfl, rfl⟩

end Go.Proofs.Ytleheibpgngmiaa
