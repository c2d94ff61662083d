/- DERIVED. The reference's l1In: called with any numbers, it tells whether the first lies between the others. · The laws' own small functions on slices of ints, each called with a slice that reads as known numbers: a copy has these numbers, two slices are compared as their numbers are. -/
import Derived.Test.YteljmfdlegohbaaCore
import Derived.Test.YteljmfdlegohbaaProg
import Derived.WalkSmall
namespace Go.Proofs.Yteljmfdlegohbaa
open Go.RowKit

theorem l1In_any (x a b : Int) (w : World) : Calls Try.prog 126 #[.int .i64 x, .int .i64 a, .int .i64 b] w fun e w' => e = .returned (.bool (decide (a ≤ x ∧ x ≤ b))) ∧ w = w' := by
  by_cases h1 : a ≤ x
  · by_cases h2 : x ≤ b
    · rw [decide_eq_true ⟨h1, h2⟩]
      go_enter Try.func126, Try.ntmps126
      go_wp2
      go_ret
      exact ⟨rfl, rfl⟩
    · rw [decide_eq_false (fun h => h2 h.2)]
      go_enter Try.func126, Try.ntmps126
      go_wp2
      go_ret
      exact ⟨rfl, rfl⟩
  · rw [decide_eq_false (fun h => h1 h.1)]
    go_enter Try.func126, Try.ntmps126
    go_wp2
    go_ret
    exact ⟨rfl, rfl⟩

def inB (x a b : Int) : Bool := decide (a ≤ x ∧ x ≤ b)
theorem inB_q (x a b : Int) (v : Bool) (hv : v = inB x a b) (w : World) : Calls Try.prog 126 #[.int .i64 x, .int .i64 a, .int .i64 b] w fun e w' => e = .returned (.bool v) ∧ w' = w :=
  (l1In_any x a b w).mono fun _ _ ⟨he, hw⟩ => ⟨by rw [he, hv]; rfl, hw.symm⟩
theorem inB_any (x a b : Int) (w : World) : Calls Try.prog 126 #[.int .i64 x, .int .i64 a, .int .i64 b] w fun e w' => e = .returned (.bool (inB x a b)) ∧ w = w' := l1In_any x a b w
end Go.Proofs.Yteljmfdlegohbaa

namespace Go.Proofs.Yteljmfdlegohbaa
open Go.RowKit

theorem info_int : (Try.prog.info? 3).map (fun i => (i.zero, i.size, i.bytes)) = some (some (.int .i64 0), 1, 8) := by kernel_rfl

theorem ints_doneI {zs : List Int} {xs : List Value} {k : IntKind} (hl : xs.length = zs.length) (h : ∀ j, j < zs.length → xs[j]? = some (.int k (zs.getD j 0))) : xs = zs.map (.int k) := by
  apply List.ext_getElem?
  intro j
  by_cases hj : j < zs.length
  · rw [h j hj]; simp [List.getElem?_eq_getElem hj]
  · rw [List.getElem?_eq_none (by omega), List.getElem?_eq_none (by simp; omega)]

theorem made_boundI {i0 : TypeInfo} {n : Nat} (h : i0.bytes = 8) (hn : n ≤ 1048576) : i0.bytes * n ≤ 281474976710656 := by rw [h]; omega

set_option maxHeartbeats 400000 in
theorem toIntS_any (v : Value) (zs : List Int) (w : World) (hl : zs.length ≤ 1048576) (h : Rd w v (zs.map (.int .i64))) :
    Calls Try.prog 144 #[v] w fun e w' => ∃ u, e = .returned u ∧ w'.ownsRow w.heap.size 3 1 u zs.length (zs.map (.int .i64)) ∧ Below w.heap.size w w' := by
  obtain ⟨i0, hi, hz0, hz1, hz2⟩ := info_parts info_int
  rcases h.cases with ⟨hx, a, cap, rfl⟩ | ⟨hx, b, off, cap, rfl, hlt, hc⟩
  · have hx' : zs = [] := by simpa using hx
    subst hx'
    clear h hx
    go_enter Try.func144, Try.ntmps144
    go_wp2_with (at_make; refine wpList_make_full w rfl _ _ 60 rfl w.heap.size 3 i0 (.int .i64 0) 1 Try.underlying60 hi hz0 hz1 .i64 .i64 0 0 0 rfl rfl rfl rfl ?_ ?_ ?_ ?_)
    · simp
    · simp [maxLen]
    · exact Nat.le_refl _
    · intro w1 hown hg
      go_wp2
      refine wp_loop_rounds 1 ?_
      rw [rounds_succ]
      go_wp2
      go_ret
      exact ⟨_, rfl, by simpa [madeCells] using hown, (Below.refl _ _).grown hg (Nat.le_refl _) (fun k hk => by cases hk)⟩
  · have hn : (zs.map (Value.int .i64)).length = zs.length := by simp
    rw [hn]
    have hc' : ∀ j, j < zs.length → w.cell? ⟨b, off + j, none⟩ = some (.int .i64 (zs.getD j 0)) := fun j hj => by
      rw [hc j (by simpa using hj), getD_map_int]
    clear hc h hx hn
    go_enter Try.func144, Try.ntmps144
    go_wp2_with (at_make; refine wpList_make_full w rfl _ _ 60 rfl w.heap.size 3 i0 (.int .i64 0) 1 Try.underlying60 hi hz0 hz1 .i64 .i64 _ _ zs.length rfl rfl rfl rfl (made_boundI hz2 hl) ?_ ?_ ?_)
    · simp [maxLen]; omega
    · exact Nat.le_refl _
    · intro w1 hown hg
      go_wp2
      go_loopw [4] (fun i wr => ∃ (k : Nat) (xs : List Value), k ≤ zs.length ∧ i = .int .i64 k ∧ wr.ownsRow w.heap.size 3 1 (.slice (some ⟨w.heap.size, 0, none⟩) zs.length zs.length) zs.length xs ∧ (∀ j, j < k → xs[j]? = some (.int .i64 (zs.getD j 0))) ∧ Below w.heap.size w wr)
        (fun i _ => zs.length - (intOf i).toNat)
      case atStart => exact ⟨0, _, Nat.zero_le _, rfl, hown, fun j hj => by omega, (Below.refl _ _).grown hg (Nat.le_refl _) (fun k hk => by cases hk)⟩
      case round =>
        obtain ⟨k, xs, hk, rfl, hown', hxs, hb⟩ := hrel
        have hlx : xs.length = zs.length := by simpa using hown'.1
        by_cases hlt' : k < zs.length
        · have hcell : wr.cell? ⟨b, off + k, none⟩ = some (.int .i64 (zs.getD k 0)) := (hb.cell (p := ⟨b, off + k, none⟩) hlt).trans (hc' k hlt')
          obtain ⟨y, hst⟩ : ∃ y, wr.cell? ⟨w.heap.size, k, none⟩ = some y := ⟨xs[k]'(by omega), by rw [hown'.cellAt k (by omega), List.getElem?_eq_getElem (show k < xs.length by omega)]⟩
          have hfr := hown'.frozenAt k
          have hsto := hown'.stored k (.int .i64 zs[k])
          have HS := Lib.hid hsto
          have HX := Lib.hid hxs
          have HO := Lib.hid hown'
          have HC := Lib.hid hc'
          have HL := Lib.hid hlx
          have HB := Lib.hid hb
          clear hsto hxs hown' hc' hlx hb hown hg
          go_wp2
          go_roundw
          case rel =>
            refine ⟨k + 1, _, by omega, by go_num, HS.out.1, fun j hj => ?_, HB.out.setCell (Nat.le_refl _) _⟩
            by_cases hjk : j = k
            · subst hjk
              rw [List.getElem?_set]; simp [HL.out, hlt']
            · rw [List.getElem?_set, if_neg (by omega)]; exact HX.out j (by omega)
          case measure => simp [intOf]; omega
        · obtain rfl : k = zs.length := by omega
          have hdone := ints_doneI hlx hxs
          subst hdone
          have HX := Lib.hid hxs
          have HO := Lib.hid hown'
          clear hxs hown' hc' hlx hown hg
          go_wp2
          go_ret
          exact ⟨_, rfl, HO.out, hb⟩
theorem take_sameI {za zb : List Int} (hl : za.length = zb.length) (h : ∀ j, j < za.length → za.getD j 0 = zb.getD j 0) : za = zb := by
  apply List.ext_getElem hl
  intro j h1 h2
  have := h j h1
  simpa [List.getElem?_eq_getElem h1, List.getElem?_eq_getElem h2] using this

set_option maxHeartbeats 400000 in
theorem eqIntS_any (va vb : Value) (za zb : List Int) (w : World) (hl : za.length ≤ 1000000000000) (ha : Rd w va (za.map (.int .i64))) (hb : Rd w vb (zb.map (.int .i64))) :
    Calls Try.prog 67 #[va, vb] w fun e w' => e = .returned (.bool (decide (za = zb))) ∧ ∃ n, w' = w.drewN n := by
  by_cases hne : za.length = zb.length
  · rcases ha.cases with ⟨hx, a, cap, rfl⟩ | ⟨hx, b, off, cap, rfl, hlt, hc⟩
    · have hx' : za = [] := by simpa using hx
      subst hx'
      have hy : zb = [] := List.eq_nil_of_length_eq_zero (by simpa using hne.symm)
      subst hy
      obtain ⟨a2, cap2, rfl, _⟩ := hb
      clear ha hx hne
      go_enter Try.func67, Try.ntmps67
      go_wp2
      refine wp_loop_rounds 1 ?_
      rw [rounds_succ]
      go_wp2
      go_ret
      exact ⟨ret_bool (by simp), 0, rfl⟩
    · rcases hb.cases with ⟨hy, _⟩ | ⟨hy, b2, off2, cap2, rfl, hlt2, hc2⟩
      · have : zb = [] := by simpa using hy
        subst this
        exact absurd (List.eq_nil_of_length_eq_zero (by simpa using hne)) (by simpa using hx)
      · have hn : (za.map (Value.int .i64)).length = za.length := by simp
        have hn2 : (zb.map (Value.int .i64)).length = zb.length := by simp
        rw [hn, hn2]
        have hc' : ∀ j, j < za.length → w.cell? ⟨b, off + j, none⟩ = some (.int .i64 (za.getD j 0)) := fun j hj => by
          rw [hc j (by simpa using hj), getD_map_int]
        have hc2' : ∀ j, j < za.length → w.cell? ⟨b2, off2 + j, none⟩ = some (.int .i64 (zb.getD j 0)) := fun j hj => by
          rw [hc2 j (by simp; omega), getD_map_int]
        have HN := Lib.hid hne
        clear hc ha hb hx hy hn hn2 hc2 hne
        rw [← HN.out]
        go_enter Try.func67, Try.ntmps67
        go_wp2
        go_loopw [5] (fun i wr => ∃ (k m : Nat), k ≤ za.length ∧ i = .int .i64 k ∧ (∀ j, j < k → za.getD j 0 = zb.getD j 0) ∧ wr = w.drewN m)
          (fun i _ => za.length - (intOf i).toNat)
        case atStart => exact ⟨0, 0, Nat.zero_le _, rfl, fun j hj => by omega, rfl⟩
        case round =>
          obtain ⟨k, m, hk, rfl, hs, rfl⟩ := hrel
          by_cases hlt' : k < za.length
          · have hcell := hc' k hlt'
            have hcell2 := hc2' k hlt'
            have HS := Lib.hid hs
            have HC := Lib.hid hc'
            have HC2 := Lib.hid hc2'
            clear hs hc' hc2'
            obtain ⟨x, hxd⟩ : ∃ x, x = za.getD k 0 := ⟨_, rfl⟩
            obtain ⟨y, hyd⟩ : ∃ y, y = zb.getD k 0 := ⟨_, rfl⟩
            rw [← hxd] at hcell
            rw [← hyd] at hcell2
            have HX := Lib.hid hxd
            have HY := Lib.hid hyd
            clear hxd hyd
            go_wp2
            go_quiet (fail)
            by_cases hxy : x = y
            · subst hxy
              go_wp2
              go_roundw
              case rel =>
                refine ⟨k + 1, _, by omega, by go_num, fun j hj => ?_, rfl⟩
                by_cases hjk : j = k
                · subst hjk; rw [← HX.out, ← HY.out]
                · exact HS.out j (by omega)
              case measure => simp [intOf]; omega
            · go_wp2
              go_ret
              refine ⟨ret_bool ?_, m + nq, by rw [World.drewN_drewN]⟩
              have : za ≠ zb := fun h => hxy (by rw [HX.out, HY.out, h])
              simp [this]
          · obtain rfl : k = za.length := by omega
            have hdone := take_sameI HN.out hs
            subst hdone
            clear hs hc' hc2'
            go_wp2
            go_ret
            exact ⟨ret_bool (by simp), _, rfl⟩
  · have hav : ∃ a cap, va = .slice a za.length cap := by obtain ⟨a, cap, h, _⟩ := ha; exact ⟨a, cap, by simpa using h⟩
    have hbv : ∃ a cap, vb = .slice a zb.length cap := by obtain ⟨a, cap, h, _⟩ := hb; exact ⟨a, cap, by simpa using h⟩
    obtain ⟨a, cap, rfl⟩ := hav
    obtain ⟨a2, cap2, rfl⟩ := hbv
    clear ha hb
    go_enter Try.func67, Try.ntmps67
    go_wp2
    go_ret
    refine ⟨ret_bool ?_, 0, rfl⟩
    have : za ≠ zb := fun h => hne (by rw [h])
    simp [this]

/-- The mark that a law writes into place j of a slice, counted from k on. -/
def mark64 (k : Int) (j : Nat) : Value := .int .i64 (k + j)
def marks64 (k : Int) (n : Nat) : List Value := (List.range n).map (mark64 k)
theorem marks64_length (k : Int) (n : Nat) : (marks64 k n).length = n := by simp [marks64]
theorem marks64_get (k : Int) (n j : Nat) (h : j < n) : (marks64 k n)[j]? = some (mark64 k j) := by simp [marks64, h]
theorem marks64_done {k : Int} {n : Nat} {xs : List Value} (hl : xs.length = n) (h : ∀ j, j < n → xs[j]? = some (mark64 k j)) : xs = marks64 k n := by
  apply List.ext_getElem?
  intro j
  by_cases hj : j < n
  · rw [h j hj, marks64_get k n j hj]
  · rw [List.getElem?_eq_none (by omega), List.getElem?_eq_none (by rw [marks64_length]; omega)]

set_option maxHeartbeats 400000 in
theorem markIntS_any (base : Nat) (v : Value) (n : Nat) (xs : List Value) (k : Int) (w : World) (hn : n ≤ 1048576) (hk : 0 ≤ k) (hk' : k ≤ 1099511627776) (h : w.ownsRow base 3 1 v n xs) :
    Calls Try.prog 70 #[v, .int .i64 k] w fun e w' => e = .returned (.int .i64 (k + n)) ∧ w'.ownsRow base 3 1 v n (marks64 k n) ∧ Below base w w' := by
  rcases h.2 with ⟨rfl, hn0⟩ | ⟨g, cap, cur, rfl, hg, hh, hnc, hcm, hcs, ht⟩
  · subst hn0
    clear h
    go_enter Try.func70, Try.ntmps70
    go_wp2
    refine wp_loop_rounds 1 ?_
    rw [rounds_succ]
    go_wp2
    go_ret
    exact ⟨ret_int (by simp), World.ownsRow_nil _ _ _ _, Below.refl _ _⟩
  · have HH := Lib.hid h
    clear h hh hnc hcm hcs ht
    go_enter Try.func70, Try.ntmps70
    go_wp2
    go_loopw [1, 5] (fun c i wr => ∃ (j : Nat) (ys : List Value), j ≤ n ∧ i = .int .i64 j ∧ c = .int .i64 (k + j) ∧ wr.ownsRow base 3 1 (.slice (some ⟨g, 0, none⟩) n cap) n ys ∧ (∀ l, l < j → ys[l]? = some (mark64 k l)) ∧ Below base w wr)
      (fun _ i _ => n - (intOf i).toNat)
    case atStart => exact ⟨0, xs, Nat.zero_le _, rfl, by simp, HH.out, fun l hl => by omega, Below.refl _ _⟩
    case round =>
      obtain ⟨j, ys, hj, rfl, rfl, hown, hys, hb⟩ := hrel
      have hly : ys.length = n := by simpa using hown.1
      by_cases hlt : j < n
      · obtain ⟨y, hst⟩ : ∃ y, wr.cell? ⟨g, j, none⟩ = some y := ⟨ys[j]'(by omega), by rw [hown.cellAt j (by omega), List.getElem?_eq_getElem (show j < ys.length by omega)]⟩
        have hfr := hown.frozenAt j
        have HS := Lib.hid (hown.stored j (mark64 k j))
        have HY := Lib.hid hys
        have HB := Lib.hid hb
        have HL := Lib.hid hly
        clear hown hys hb hly
        go_wp2
        go_roundw
        case rel =>
          refine ⟨j + 1, _, by omega, by go_num, by go_num, HS.out.1, fun l hl => ?_, HB.out.setCell hg _⟩
          by_cases hlj : l = j
          · subst hlj
            rw [List.getElem?_set]; simp [HL.out, hlt]
          · rw [List.getElem?_set, if_neg (by omega)]; exact HY.out l (by omega)
        case measure => simp [intOf]; omega
      · obtain rfl : j = n := by omega
        have HD := Lib.hid (marks64_done hly hys)
        have HO := Lib.hid hown
        have HB := Lib.hid hb
        clear hown hys hb hly
        go_wp2
        go_ret
        exact ⟨rfl, by rw [← HD.out]; exact HO.out, HB.out⟩

set_option maxHeartbeats 400000 in
theorem heldIntS_any (v : Value) (n : Nat) (k : Int) (w : World) (hn : n ≤ 1048576) (hk : 0 ≤ k) (hk' : k ≤ 1099511627776) (h : Rd w v (marks64 k n)) :
    Calls Try.prog 71 #[v, .int .i64 k] w fun e w' => e = .returned (.int .i64 (k + n)) ∧ w = w' := by
  rcases h.cases with ⟨hx, a, cap, rfl⟩ | ⟨hx, b, off, cap, rfl, hlt, hc⟩
  · have hx' : n = 0 := by have := congrArg List.length hx; simpa [marks64_length] using this
    subst hx'
    clear h hx
    go_enter Try.func71, Try.ntmps71
    go_wp2
    refine wp_loop_rounds 1 ?_
    rw [rounds_succ]
    go_wp2
    go_ret
    exact ⟨ret_int (by simp), rfl⟩
  · have hc' : ∀ j, j < n → w.cell? ⟨b, off + j, none⟩ = some (.int .i64 (k + j)) := fun j hj => by
      have h1 : j < (marks64 k n).length := by rw [marks64_length]; exact hj
      rw [hc j h1]
      have := marks64_get k n j hj
      rw [List.getElem?_eq_getElem h1] at this
      exact this
    rw [marks64_length]
    clear h hx hc
    go_enter Try.func71, Try.ntmps71
    go_wp2
    go_loop [1, 5] (fun c i => ∃ (j : Nat), j ≤ n ∧ i = .int .i64 j ∧ c = .int .i64 (k + j)) (fun _ i => n - (intOf i).toNat)
    case atStart => exact ⟨0, Nat.zero_le _, rfl, by simp⟩
    case round =>
      obtain ⟨j, hj, rfl, rfl⟩ := hrel
      by_cases hlt' : j < n
      · have hcell := hc' j hlt'
        have HC := Lib.hid hc'
        clear hc'
        go_wp2
        go_round
        case rel => exact ⟨j + 1, by omega, by go_num, by go_num⟩
        case measure => simp [intOf]; omega
      · obtain rfl : j = n := by omega
        clear hc'
        go_wp2
        go_ret
        exact ⟨rfl, rfl⟩

theorem eqIntS_same (va vb : Value) (zs : List Int) (w : World) (hl : zs.length ≤ 1000000000000) (ha : Rd w va (zs.map (.int .i64))) (hb : Rd w vb (zs.map (.int .i64))) :
    Calls Try.prog 67 #[va, vb] w fun e w' => e = .returned (.bool true) ∧ ∃ n, w' = w.drewN n :=
  (eqIntS_any va vb zs zs w hl ha hb).mono fun e w' ⟨he, hn⟩ => ⟨by rw [he]; simp, hn⟩
/-- A row of numbers as a datum. -/
def ones (zs : List Int) : List (List Ce) := zs.map fun z => [.int z]
theorem ones_len (zs : List Int) : (ones zs).length = zs.length := by simp [ones]
theorem rdC_ints {w : World} {k : IntKind} {v : Value} {c : Ce} (h : RdC w (.row [.int k]) v c) : ∃ zs : List Int, c = .row (ones zs) ∧ Rd w v (zs.map (.int k)) ∧ zs.length ≤ maxLen := by
  simp only [RdC] at h
  obtain ⟨rs, a, cap, rfl, rfl, hl, h⟩ := h
  rcases h with rfl | ⟨b, off, rfl, hlt, h⟩
  · exact ⟨[], rfl, ⟨a, cap, rfl, .inl rfl⟩, Nat.zero_le _⟩
  · have key : ∀ n, n ≤ rs.length → ∃ zs : List Int, zs.length = n ∧ rs.take n = ones zs ∧ ∀ i (hi : i < zs.length), w.cell? ⟨b, off + i, none⟩ = some (.int k zs[i]) := by
      intro n
      induction n with
      | zero => intro _; exact ⟨[], rfl, rfl, fun i hi => by simp at hi⟩
      | succ n ih =>
        intro hn
        obtain ⟨zs, h1, h2, h3⟩ := ih (by omega)
        obtain ⟨vs, v1, v2, v3⟩ := h n (by omega)
        obtain ⟨v, vs', c, cs', rfl, e2, e3, e4⟩ := v3.consInv
        obtain ⟨rfl, rfl⟩ := e4.nilInv
        obtain ⟨z, rfl, rfl⟩ := e3.intInv
        refine ⟨zs ++ [z], by simp [h1], ?_, fun i hi => ?_⟩
        · rw [List.take_succ_eq_append_getElem (by omega), h2, e2]
          simp [ones]
        · by_cases hin : i < zs.length
          · rw [List.getElem_append_left hin]; exact h3 i hin
          · obtain rfl : i = n := by simp at hi; omega
            rw [List.getElem_append_right (by omega)]
            have := v2 0 (by simp)
            simpa [h1] using this
    obtain ⟨zs, h1, h2, h3⟩ := key rs.length (Nat.le_refl _)
    rw [List.take_length] at h2
    refine ⟨zs, by rw [h2], ⟨some ⟨b, off, none⟩, cap, by simp [h1], .inr ⟨b, off, rfl, hlt, fun j hj => ?_⟩⟩, by omega⟩
    have hj' : j < zs.length := by simpa using hj
    rw [h3 j hj']
    simp
theorem owC_ints {w : World} {B n : Nat} {e : TypeId} {k : IntKind} {u : Value} {zs : List Int} (h : w.ownsRow B e 1 u n (zs.map (.int k))) (hl : zs.length ≤ maxLen) : ∃ fp, fp.Nodup ∧ OwC w B (.row [.int k]) u (.row (ones zs)) fp := by
  have hn : zs.length = n := by simpa using h.1
  rcases h.2 with ⟨rfl, h0⟩ | ⟨g, cap, cur, rfl, hg, hh, hnc, hcm, hcs, ht⟩
  · have : zs = [] := List.eq_nil_of_length_eq_zero (by omega)
    subst this
    exact ⟨[], List.nodup_nil, OwC.rowNil⟩
  · refine ⟨[g], by simp, ?_⟩
    have e0 : [g] = g :: (List.replicate zs.length ([] : List Nat)).flatten := by simp
    rw [e0]
    refine OwC.rowMk (by rw [ones_len, hn]) (by rw [ones_len]; exact hl) hg hh ?_ (by rw [ones_len]; simp) fun i hi hi' => ?_
    · rw [ones_len]; simp; omega
    · have hz : i < zs.length := by rw [ones_len] at hi; exact hi
      have hcur : (cur.toList.drop i).take 1 = [.int k zs[i]] := by
        have h1 : (cur.toList.take (n * 1))[i]? = some (.int k zs[i]) := by rw [ht]; simp [List.getElem?_eq_getElem hz]
        have hi2 : i < cur.toList.length := by simp; omega
        rw [List.getElem?_take_of_lt (by omega), List.getElem?_eq_getElem hi2] at h1
        rw [List.drop_eq_getElem_cons hi2, List.take_succ_cons, List.take_zero]
        simpa using h1
      simp only [List.length_cons, List.length_nil, Nat.zero_add, Nat.mul_one]
      rw [hcur]
      have e1 : (ones zs)[i] = [.int zs[i]] := by simp [ones]
      have e2 : (List.replicate zs.length ([] : List Nat))[i] = [] := by simp
      rw [e1, e2]
      exact OwL.cons (OwC.mkInt k _) OwL.nil
/-- An owned row of numbers, as the laws' functions on it want it. -/
theorem OwC.ints {w : World} {B : Nat} {k : IntKind} {v : Value} {c : Ce} {fp : List Nat} (h : OwC w B (.row [.int k]) v c fp) : ∃ zs : List Int, c = .row (ones zs) ∧ zs.length ≤ maxLen ∧ Rd w v (zs.map (.int k)) := by
  obtain ⟨zs, hc, hr, hl⟩ := rdC_ints h.rd
  exact ⟨zs, hc, hl, hr⟩

/-- The marks that a law writes into a row of n numbers, counted from k on. -/
def marksZ (k : Int) (n : Nat) : List Int := (List.range n).map fun (j : Nat) => k + (j : Int)
theorem marksZ_len (k : Int) (n : Nat) : (marksZ k n).length = n := by simp [marksZ]
theorem marksZ_vals (k : Int) (n : Nat) : (marksZ k n).map (.int .i64) = marks64 k n := by simp [marksZ, marks64, mark64]

set_option maxHeartbeats 400000 in
theorem markIntS_own (B : Nat) (v : Value) (zs : List Int) (fp : List Nat) (k : Int) (w : World) (hn : zs.length ≤ 1099511627776) (hk : 0 ≤ k) (hk' : k ≤ 1099511627776) (h : OwC w B (.row [.int .i64]) v (.row (ones zs)) fp) :
    Calls Try.prog 70 #[v, .int .i64 k] w fun e w' => e = .returned (.int .i64 (k + zs.length)) ∧ OwC w' B (.row [.int .i64]) v (.row (ones (marksZ k zs.length))) fp ∧ Turn w w' fp := by
  obtain ⟨rs, hc, hl, h⟩ := h.rowInv
  obtain rfl : ones zs = rs := by simpa using hc
  rw [ones_len] at hl
  rcases h with ⟨rfl, hr, rfl⟩ | ⟨g, cap, cur, t, fps, hv, hB, hh, hs, rfl, hf, hr⟩
  · have hz : zs = [] := by simpa [ones] using hr
    subst hz
    go_enter Try.func70, Try.ntmps70
    go_wp2
    refine wp_loop_rounds 1 ?_
    rw [rounds_succ]
    go_wp2
    go_ret
    exact ⟨ret_int (by simp), OwC.rowNil, Turn.refl _ _⟩
  · rw [ones_len] at hv hs hf
    subst hv
    simp only [List.length_cons, List.length_nil, Nat.zero_add, Nat.mul_one] at hs hr
    have hfl : ∀ i (h : i < zs.length) (h' : i < fps.length), fps[i] = [] := fun i h h' => by
      obtain ⟨_, _, _, _, f, f', _, _, e, h1, h2⟩ := (hr i (by rw [ones_len]; exact h) h').consInv
      rw [e, h1.intInv.1, h2.nilInv.2.2]; rfl
    have hfin : ∀ (wr : World) (cur' : Array Value), wr.heap[g]? = some (.cells cur' t (0, 0)) → cur'.size = cur.size → (∀ l, l < zs.length → cur'[l]? = some (mark64 k l)) → OwC wr B (.row [.int .i64]) (.slice (some ⟨g, 0, none⟩) zs.length cap) (.row (ones (marksZ k zs.length))) (g :: fps.flatten) := by
      intro wr cur' h1 h2 h3
      refine OwC.rowMk (by rw [ones_len, marksZ_len]) (by rw [ones_len, marksZ_len]; exact hl) hB h1 (by rw [ones_len, marksZ_len, h2]; simpa using hs) (by rw [ones_len, marksZ_len]; exact hf) fun i hi hi' => ?_
      rw [ones_len, marksZ_len] at hi
      rw [hfl i hi hi']
      have hi2 : i < cur'.toList.length := by simp; omega
      have h4 := h3 i hi
      simp only [List.length_cons, List.length_nil, Nat.zero_add, Nat.mul_one]
      rw [List.drop_eq_getElem_cons hi2, List.take_succ_cons, List.take_zero]
      have e1 : (ones (marksZ k zs.length))[i]'(by rw [ones_len, marksZ_len]; exact hi) = [.int (k + i)] := by simp [ones, marksZ]
      have e2 : cur'.toList[i] = .int .i64 (k + i) := by
        rw [Array.getElem?_eq_getElem (by simpa using hi2)] at h4
        simpa [mark64] using h4
      rw [e1, e2]
      exact OwL.cons (OwC.mkInt _ _) OwL.nil
    have HF := Lib.hid hfin
    have HH := Lib.hid hh
    have HS := Lib.hid hs
    clear h hh hs hr hfl hf hc hl hfin
    go_enter Try.func70, Try.ntmps70
    go_wp2
    go_loopw [1, 5] (fun c i wr => ∃ (j : Nat) (cur' : Array Value), j ≤ zs.length ∧ i = .int .i64 j ∧ c = .int .i64 (k + j) ∧ wr.heap[g]? = some (.cells cur' t (0, 0)) ∧ cur'.size = cur.size ∧ (∀ l, l < j → cur'[l]? = some (mark64 k l)) ∧ w.grownBy wr (some g))
      (fun _ i _ => zs.length - (intOf i).toNat)
    case atStart => exact ⟨0, cur, Nat.zero_le _, rfl, by simp, HH.out, rfl, fun l hl => by omega, grown_refl _ _⟩
    case round =>
      obtain ⟨j, cur', hj, rfl, rfl, hb, hsz, hys, hg⟩ := hrel
      by_cases hlt : j < zs.length
      · have hjs : j < cur'.size := by have := HS.out; omega
        have hst := cell_of_block hb j hjs
        have hfr := free_of_block hb j
        have HB := Lib.hid (block_set hb j (mark64 k j))
        have HG := Lib.hid (grown_trans hg (grown_set wr g j (mark64 k j)))
        have HY := Lib.hid hys
        have HZ := Lib.hid hsz
        clear hb hys hg hsz
        go_wp2
        go_roundw
        case rel =>
          refine ⟨j + 1, _, by omega, by go_num, by go_num, HB.out, by simp [HZ.out], fun l hl => ?_, HG.out⟩
          by_cases hlj : l = j
          · subst hlj
            simp [hjs, mark64]
          · rw [Array.getElem?_setIfInBounds_ne (by omega)]; exact HY.out l (by omega)
        case measure => simp [intOf]; omega
      · obtain rfl : j = zs.length := by omega
        have HD := Lib.hid (HF.out wr cur' hb hsz hys)
        have HG := Lib.hid ((Turn.of_grown hg).mono (f' := g :: fps.flatten) (by simp))
        clear hb hys hg hsz
        go_wp2
        go_ret
        exact ⟨rfl, HD.out, HG.out⟩

end Go.Proofs.Yteljmfdlegohbaa
