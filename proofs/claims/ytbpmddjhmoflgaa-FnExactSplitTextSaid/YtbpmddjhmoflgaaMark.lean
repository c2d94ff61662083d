/- DERIVED. The laws' marks on slices of strings: each mark is a text of its number; marking an owned slice writes the marks, and a slice that reads as its marks is told to hold them. -/
import Derived.Test.YtbpmddjhmoflgaaStrs
namespace Go.Proofs.Ytbpmddjhmoflgaa
open Go.RowKit

def markStr (k : Nat) : ByteArray := strOfNums (109 :: decs k)

set_option maxHeartbeats 400000 in
theorem markText_any (k : Nat) (w : World) (hk : 0 < k) (hk' : k ≤ 1099511627776) :
    Calls Try.prog 31 #[.int .i64 k] w fun e w' => e = .returned (.string (markStr k)) ∧ Below w.heap.size w w' := by
  have h0 : (0 : Int) < k := by omega
  go_enter Try.func31, Try.ntmps31
  go_wp2
  go_loopw [0, 3] (fun c o wr => ∃ (m : Nat) (l : List Int), c = .int .i64 m ∧ m ≤ k ∧ o = .string (strOfNums l) ∧ decs k = decs m ++ l ∧ Below w.heap.size w wr)
    (fun c _ _ => (intOf c).toNat)
  case atStart => exact ⟨k, [], rfl, Nat.le_refl _, rfl, by simp, Below.refl _ _⟩
  case round =>
    obtain ⟨m, l, rfl, hmk, rfl, hd, hb⟩ := hrel
    have hlen := decs_len k
    have hll : l.length ≤ k := by rw [hd] at hlen; simp at hlen; omega
    have HD := Lib.hid hd
    have HB := Lib.hid hb
    have hle : w.heap.size ≤ wr.heap.size := hb.size
    clear hd hb hlen
    by_cases hm : (0 : Int) < m
    · have hcv := conv_owned (P := Try.prog) (src := 22) (dst := 9) (w := wr.alloc (.cells #[.int .u8 (48 + (m : Int) % 10)] 5)) (base := wr.heap.size) (v := .slice (some ⟨wr.heap.size, 0, none⟩) 1 1) (n := 1) (ns := [48 + (m : Int) % 10]) Try.underlying22 Try.underlying5 Try.underlying9 (World.ownsRow_lit wr #[.int .u8 (48 + (m : Int) % 10)] 1 (Nat.le_refl _) (by simp [maxLen]) rfl)
      have hadd := fun (w : World) => run_string_add_sum (P := Try.prog) w (strOfNums [48 + (m : Int) % 10]) (strOfNums l) (by rw [strOfNums_size, strOfNums_size]; simp; omega)
      simp only [strOfNums_append] at hadd
      go_wp2
      go_roundw
      case rel =>
        refine ⟨m / 10, (48 + (m : Int) % 10) :: l, by go_num, by omega, rfl, ?_, HB.out.alloc hle _⟩
        rw [HD.out, decs_pos (by omega : 0 < m)]
        simp
      case measure => simp [intOf]; omega
    · obtain rfl : m = 0 := by omega
      have hadd := fun (w : World) => run_string_add_sum (P := Try.prog) w ⟨#[109]⟩ (strOfNums l) (by rw [strOfNums_size, ByteArray.size_mk']; simp; omega)
      have HR := Lib.hid (show Value.string (⟨#[109]⟩ ++ strOfNums l) = .string (markStr k) from by
        have e := HD.out
        rw [decs_zero, List.nil_append] at e
        rw [markStr, e]
        show Value.string (strOfNums [109] ++ strOfNums l) = _
        rw [strOfNums_append]; rfl)
      go_wp2
      go_ret
      exact ⟨by rw [← HR.out]; rfl, HB.out⟩
theorem owns_below {w w' : World} {B e size n : Nat} {v : Value} {xs : List Value} (h : w.ownsRow B e size v n xs) (hb : Below w.heap.size w w') : w'.ownsRow B e size v n xs := by
  obtain ⟨h1, h2⟩ := h
  refine ⟨h1, ?_⟩
  rcases h2 with h2 | ⟨g, cap, cur, hv, hg, hh, r⟩
  · exact .inl h2
  · have hlt : g < w.heap.size := (Array.getElem?_eq_some_iff.mp hh).1
    exact .inr ⟨g, cap, cur, hv, hg, by rw [hb.block g hlt]; exact hh, r⟩

def markT (k j : Nat) : Value := .string (markStr (k + j))
def marksT (k n : Nat) : List Value := (List.range n).map (markT k)
theorem marksT_length (k n : Nat) : (marksT k n).length = n := by simp [marksT]
theorem marksT_get (k n j : Nat) (h : j < n) : (marksT k n)[j]? = some (markT k j) := by simp [marksT, h]
theorem marksT_done {k n : Nat} {xs : List Value} (hl : xs.length = n) (h : ∀ j, j < n → xs[j]? = some (markT k j)) : xs = marksT k n := by
  apply List.ext_getElem?
  intro j
  by_cases hj : j < n
  · rw [h j hj, marksT_get k n j hj]
  · rw [List.getElem?_eq_none (by omega), List.getElem?_eq_none (by rw [marksT_length]; omega)]

set_option maxHeartbeats 400000 in
theorem markStringS_any (base : Nat) (v : Value) (n : Nat) (xs : List Value) (k : Nat) (w : World) (hn : n ≤ 2097152) (hk : 0 < k) (hk' : k ≤ 109951162777) (hbase : base ≤ w.heap.size) (h : w.ownsRow base 9 1 v n xs) :
    Calls Try.prog 14 #[v, .int .i64 k] w fun e w' => e = .returned (.int .i64 (k + n : Nat)) ∧ w'.ownsRow base 9 1 v n (marksT k n) ∧ Below base w w' := by
  rcases h.2 with ⟨rfl, hn0⟩ | ⟨g, cap, cur, rfl, hg, hh, hnc, hcm, hcs, ht⟩
  · subst hn0
    clear h
    go_enter Try.func14, Try.ntmps14
    go_wp2
    refine wp_loop_rounds 1 ?_
    rw [rounds_succ]
    go_wp2
    go_ret
    exact ⟨ret_int (by simp), World.ownsRow_nil _ _ _ _, Below.refl _ _⟩
  · have HH := Lib.hid h
    clear h hh hnc hcm hcs ht
    go_enter Try.func14, Try.ntmps14
    go_wp2
    go_loopw [1, 5] (fun c i wr => ∃ (j : Nat) (ys : List Value) (c' : Nat), j ≤ n ∧ i = .int .i64 j ∧ c = .int .i64 c' ∧ c' = k + j ∧ wr.ownsRow base 9 1 (.slice (some ⟨g, 0, none⟩) n cap) n ys ∧ (∀ l, l < j → ys[l]? = some (markT k l)) ∧ Below base w wr)
      (fun _ i _ => n - (intOf i).toNat)
    case atStart => exact ⟨0, xs, k, Nat.zero_le _, rfl, rfl, rfl, HH.out, fun l hl => by omega, Below.refl _ _⟩
    case round =>
      obtain ⟨j, ys, c, hj, rfl, rfl, hc, hown, hys, hb⟩ := hrel
      have hly : ys.length = n := by simpa using hown.1
      have HCK := Lib.hid hc
      have HO := Lib.hid hown
      have HY := Lib.hid hys
      have HB := Lib.hid hb
      have HL := Lib.hid hly
      have c1 : 0 < c := by omega
      have c2 : c ≤ 1099511627776 := by omega
      by_cases hlt : j < n
      · clear hown hys hb hly hc
        go_wp2_with fail
        refine (markText_any c _ c1 c2).mono ?_
        rintro e w1 ⟨rfl, hb1⟩
        have ho1 := owns_below HO.out hb1
        obtain ⟨y, hst⟩ : ∃ y, w1.cell? ⟨g, j, none⟩ = some y := ⟨ys[j]'(by have := HL.out; omega), by rw [ho1.cellAt j (by omega), List.getElem?_eq_getElem (show j < ys.length by have := HL.out; omega)]⟩
        have hfr := ho1.frozenAt j
        have HS := Lib.hid (ho1.stored j (.string (markStr c)))
        have HB1 := Lib.hid (HB.out.trans (hb1.mono (Nat.le_trans hbase HB.out.size)))
        clear ho1 hb1
        go_wp2
        go_roundw
        case rel =>
          refine ⟨j + 1, _, c + 1, by omega, by go_num, by go_num, by have := HCK.out; omega, HS.out.1, fun l hl => ?_, HB1.out.setCell hg _⟩
          by_cases hlj : l = j
          · subst hlj
            rw [List.getElem?_set]; simp [HL.out, hlt, markT, ← HCK.out]
          · rw [List.getElem?_set, if_neg (by omega)]; exact HY.out l (by omega)
        case measure => simp [intOf]; omega
      · obtain rfl : j = n := by omega
        have HD := Lib.hid (marksT_done hly hys)
        clear hown hys hb hly hc
        go_wp2
        go_ret
        exact ⟨by rw [← HCK.out]; rfl, by rw [← HD.out]; exact HO.out, HB.out⟩

set_option maxHeartbeats 800000 in
theorem heldStringS_any (v : Value) (n : Nat) (k : Nat) (w : World) (hn : n ≤ 2097152) (hk : 0 < k) (hk' : k ≤ 109951162777) (h : Rd w v (marksT k n)) :
    Calls Try.prog 15 #[v, .int .i64 k] w fun e w' => e = .returned (.int .i64 (k + n : Nat)) ∧ Below w.heap.size w w' := by
  rcases h.cases with ⟨hx, a, cap, rfl⟩ | ⟨hx, b, off, cap, rfl, hlt, hc⟩
  · have hx' : n = 0 := by have := congrArg List.length hx; simpa [marksT_length] using this
    subst hx'
    clear h hx
    go_enter Try.func15, Try.ntmps15
    go_wp2
    refine wp_loop_rounds 1 ?_
    rw [rounds_succ]
    go_wp2
    go_ret
    exact ⟨ret_int (by simp), Below.refl _ _⟩
  · have hc' : ∀ j, j < n → w.cell? ⟨b, off + j, none⟩ = some (.string (markStr (k + j))) := fun j hj => by
      have h1 : j < (marksT k n).length := by rw [marksT_length]; exact hj
      rw [hc j h1]
      have := marksT_get k n j hj
      rw [List.getElem?_eq_getElem h1] at this
      exact this
    rw [marksT_length]
    clear h hx hc
    go_enter Try.func15, Try.ntmps15
    go_wp2
    go_loopw [1, 5] (fun c i wr => ∃ (j c' : Nat), j ≤ n ∧ i = .int .i64 j ∧ c = .int .i64 c' ∧ c' = k + j ∧ Below w.heap.size w wr) (fun _ i _ => n - (intOf i).toNat)
    case atStart => exact ⟨0, k, Nat.zero_le _, rfl, rfl, rfl, Below.refl _ _⟩
    case round =>
      obtain ⟨j, c, hj, rfl, rfl, hck, hb⟩ := hrel
      have c1 : 0 < c := by omega
      have c2 : c ≤ 1099511627776 := by omega
      have HCK := Lib.hid hck
      have HB := Lib.hid hb
      have HC := Lib.hid hc'
      by_cases hlt' : j < n
      · obtain ⟨x, hx⟩ : ∃ x, x = markStr c := ⟨_, rfl⟩
        have hcell : wr.cell? ⟨b, off + j, none⟩ = some (.string x) := by
          rw [hx, hck]; exact (hb.cell (p := ⟨b, off + j, none⟩) hlt).trans (hc' j hlt')
        have hbw : b < wr.heap.size := Nat.lt_of_lt_of_le hlt hb.size
        have HX := Lib.hid hx
        clear hck hb hc' hx
        go_wp2
        go_region_held3 (fun w' => w'.cell? ⟨b, off + j, none⟩ = some (.string x)) (first | go_keep | (rw [hbm.cell (by simp; omega)]; simp [go_sem, *]))
          ((first | (go_at_call 31; refine (markText_any c _ c1 c2).mono ?_; rw [← HX.out]; rintro e w1 ⟨rfl, hbm⟩)))
        all_goals
          have HBM := Lib.hid (HB.out.drew.trans (Below.mono hbm (show w.heap.size ≤ wr.heap.size from HB.out.size)))
          clear hbm hcell
          go_wp2
          go_roundw
          case rel => exact ⟨j + 1, c + 1, by omega, by go_num, by go_num, by have := HCK.out; omega, HBM.out⟩
          case measure => simp [intOf]; omega
      · obtain rfl : j = n := by omega
        clear hc' hck hb
        go_wp2
        go_ret
        exact ⟨by rw [← HCK.out]; rfl, HB.out⟩
theorem markStringS_one (base : Nat) (v : Value) (n : Nat) (xs : List Value) (w : World) (hn : n ≤ 2097152) (hbase : base ≤ w.heap.size) (h : w.ownsRow base 9 1 v n xs) :
    Calls Try.prog 14 #[v, .int .i64 1] w fun e w' => e = .returned (.int .i64 (1 + n : Nat)) ∧ w'.ownsRow base 9 1 v n (marksT 1 n) ∧ Below base w w' :=
  markStringS_any base v n xs 1 w hn (by omega) (by omega) hbase h
theorem heldStringS_one (v : Value) (n : Nat) (w : World) (hn : n ≤ 2097152) (h : Rd w v (marksT 1 n)) :
    Calls Try.prog 15 #[v, .int .i64 1] w fun e w' => e = .returned (.int .i64 (1 + n : Nat)) ∧ Below w.heap.size w w' :=
  heldStringS_any v n 1 w hn (by omega) (by omega) h
end Go.Proofs.Ytbpmddjhmoflgaa
