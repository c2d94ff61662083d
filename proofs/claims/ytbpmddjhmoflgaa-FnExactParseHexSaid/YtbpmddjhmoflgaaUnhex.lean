/- DERIVED. ParseHex, the program's and the reference's: the bytes that a text of hexadecimal digits tells, or none. Called with any text. -/
import Derived.Test.YtbpmddjhmoflgaaDigit
import Derived.Test.YtbpmddjhmoflgaaText
import Derived.Test.YtbpmddjhmoflgaaHex
import Derived.Lib.OthersKept
import Derived.WalkSmall
namespace Go.Proofs.Ytbpmddjhmoflgaa
open Go.RowKit

theorem l1Digit_any (c : Int) (w : World) (h0 : 0 ≤ c) (h1 : c < 256) :
    Calls Try.prog 32 #[.int .u8 c] w fun e w' => e = .returned (.int .i64 (digVal 16 c)) ∧ w = w' := by
  by_cases a : 48 ≤ c
  · by_cases b : c ≤ 57
    · go_enter Try.func32, Try.ntmps32
      go_wp2
      go_ret
      exact ⟨ret_int (by unfold digVal; rw [if_pos ⟨a, b⟩]), rfl⟩
    · by_cases d : 97 ≤ c ∧ c ≤ 102
      · obtain ⟨d1, d2⟩ := d
        go_enter Try.func32, Try.ntmps32
        go_wp2
        go_ret
        exact ⟨ret_int (by unfold digVal; rw [if_neg (by omega), if_pos (by omega)]), rfl⟩
      · by_cases d1 : 97 ≤ c
        · have d2 : ¬ c ≤ 102 := by omega
          go_enter Try.func32, Try.ntmps32
          go_wp2
          go_ret
          exact ⟨ret_int (by unfold digVal; rw [if_neg (by omega), if_neg (by omega)]), rfl⟩
        · go_enter Try.func32, Try.ntmps32
          go_wp2
          go_ret
          exact ⟨ret_int (by unfold digVal; rw [if_neg (by omega), if_neg (by omega)]), rfl⟩
  · go_enter Try.func32, Try.ntmps32
    go_wp2
    go_ret
    exact ⟨ret_int (by unfold digVal; rw [if_neg (by omega), if_neg (by omega)]), rfl⟩

def pairs (s : ByteArray) (k : Nat) : List Int := (List.range k).map fun j => 16 * digVal 16 (bt s (2 * j)) + digVal 16 (bt s (2 * j + 1))
theorem pairs_succ (s : ByteArray) (k : Nat) : pairs s (k + 1) = pairs s k ++ [16 * digVal 16 (bt s (2 * k)) + digVal 16 (bt s (2 * k + 1))] := by
  unfold pairs; rw [List.range_succ, List.map_append]; rfl
theorem pairs_length (s : ByteArray) (k : Nat) : (pairs s k).length = k := by simp [pairs]

def hexOk (s : ByteArray) : Bool := decide (s.size % 2 = 0 ∧ s.size ≤ 4000 ∧ ∀ j, j < s.size → 0 ≤ digVal 16 (bt s j))
theorem hexOk_yes {s : ByteArray} (h1 : s.size % 2 = 0) (h2 : s.size ≤ 4000) (h3 : ∀ j, j < s.size → 0 ≤ digVal 16 (bt s j)) : hexOk s = true := decide_eq_true ⟨h1, h2, h3⟩
theorem hexOk_odd {s : ByteArray} (h1 : s.size % 2 = 1) : hexOk s = false := decide_eq_false (fun h => by omega)
theorem hexOk_big {s : ByteArray} (h1 : 4000 < s.size) : hexOk s = false := decide_eq_false (fun h => by omega)
theorem hexOk_bad {s : ByteArray} (j : Nat) (h : j < s.size) (h1 : digVal 16 (bt s j) < 0) : hexOk s = false := decide_eq_false (fun h' => by have := h'.2.2 j h; omega)
def hexList (s : ByteArray) : List Int := if hexOk s = true then pairs s (s.size / 2) else []
theorem hexList_yes {s : ByteArray} (h : hexOk s = true) : hexList s = pairs s (s.size / 2) := by rw [hexList, if_pos h]
theorem hexList_no {s : ByteArray} (h : hexOk s = false) : hexList s = [] := by rw [hexList, h]; rfl

/-- What ParseHex returns: the bytes in memory of the call's own, and whether there are any. -/
def Unhexed (B : Nat) (s : ByteArray) (w : World) (e : Ending) (w' : World) : Prop :=
  ∃ v n, e = .returned (.tuple #[v, .bool (hexOk s)]) ∧ w'.ownsRow B 5 1 v n ((hexList s).map (.int .u8)) ∧ Below B w w'

theorem unhexed_yes {B : Nat} {s : ByteArray} {w w' : World} {v : Value} (h : hexOk s = true) (ho : w'.ownsRow B 5 1 v (s.size / 2) ((pairs s (s.size / 2)).map (.int .u8))) (hb : Below B w w') :
    Unhexed B s w (.returned (.tuple #[v, .bool true])) w' := ⟨v, _, by rw [h], by rw [hexList_yes h]; exact ho, hb⟩
theorem unhexed_no {B : Nat} {s : ByteArray} {w w' : World} {v : Value} (h : hexOk s = false) (ho : w'.ownsRow B 5 1 v 0 []) (hb : Below B w w') :
    Unhexed B s w (.returned (.tuple #[v, .bool false])) w' := ⟨v, 0, by rw [h], by rw [hexList_no h]; exact ho, hb⟩

set_option maxHeartbeats 1000000 in
theorem specParseHex_any (s : ByteArray) (w : World) (hl : s.size ≤ 1048576) :
    Calls Try.prog 23 #[.string s] w (Unhexed w.heap.size s w) := by
  have hlit := World.ownsRow_lit (e := 5) (size := 1) w #[] 0 (Nat.le_refl _) (by simp [maxLen]) rfl
  have hbel : Below w.heap.size w (w.alloc (.cells #[] 5)) := (Below.refl _ _).alloc (Nat.le_refl _) _
  have HL := Lib.hid hlit
  have HB := Lib.hid hbel
  clear hlit hbel
  have hq : (s.size : Int).tmod 2 = (s.size : Int) % 2 := Int.tmod_eq_emod_of_nonneg (by omega)
  by_cases hodd : s.size % 2 = 1
  · have h1 : ((s.size : Int) % 2 == 1) = true := by simp; omega
    have HO := Lib.hid hodd
    clear hodd
    go_enter Try.func23, Try.ntmps23
    go_wp2
    go_ret2
    exact unhexed_no (hexOk_odd HO.out) HL.out HB.out
  · have h1 : ((s.size : Int) % 2 == 1) = false := by simp; omega
    by_cases hbig : 4000 < s.size
    · have h2 : (4000 : Int) < s.size := by omega
      have HO := Lib.hid hodd
      clear hodd
      go_enter Try.func23, Try.ntmps23
      go_wp2
      go_ret2
      exact unhexed_no (hexOk_big hbig) HL.out HB.out
    · have h2 : ¬ (4000 : Int) < s.size := by omega
      have HO := Lib.hid hodd
      clear hodd
      obtain ⟨i0, hi, hz0, hz1, hz2⟩ := info_parts info_u8
      go_enter Try.func23, Try.ntmps23
      go_wp2
      go_loopw [4, 5] (fun u i wr => ∃ (k i' : Nat), i' = 2 * k ∧ i' ≤ s.size ∧ i = .int .i64 i' ∧ (∀ j, j < i' → 0 ≤ digVal 16 (bt s j)) ∧ wr.ownsRow w.heap.size 5 1 u k ((pairs s k).map (.int .u8)) ∧ Below w.heap.size w wr)
        (fun _ i _ => s.size - (intOf i).toNat)
      case atStart => exact ⟨0, 0, rfl, Nat.zero_le _, rfl, fun j hj => by omega, HL.out, HB.out⟩
      case round =>
        obtain ⟨k, i, hik, his, rfl, hok, hown, hb⟩ := hrel
        have HK := Lib.hid hik
        have HOK := Lib.hid hok
        have HW := Lib.hid hown
        have HBB := Lib.hid hb
        clear hik hok hown hb
        by_cases hlt : i < s.size
        · have hlt2 : i + 1 < s.size := by have := HK.out; have := HO.out; omega
          have e1 := bt_eq s i hlt
          have e2 := bt_eq s (i + 1) hlt2
          obtain ⟨b1, b2⟩ := bt_bound s i
          obtain ⟨b3, b4⟩ := bt_bound s (i + 1)
          go_wp2_with fail
          refine (l1Digit_any (bt s i) _ b1 b2).mono ?_
          rintro e w1 ⟨rfl, rfl⟩
          go_wp2_with fail
          refine (l1Digit_any (bt s (i + 1)) _ b3 b4).mono ?_
          rintro e w1 ⟨rfl, rfl⟩
          obtain ⟨x, hx⟩ : ∃ x, x = digVal 16 (bt s i) := ⟨_, rfl⟩
          obtain ⟨y, hy⟩ : ∃ y, y = digVal 16 (bt s (i + 1)) := ⟨_, rfl⟩
          have x2 : x < 16 := by rw [hx]; exact digVal_lt _ _ (by omega)
          have y2 : y < 16 := by rw [hy]; exact digVal_lt _ _ (by omega)
          have x3 : -1 ≤ x := by rw [hx]; exact digVal_ge _ _
          have y3 : -1 ≤ y := by rw [hy]; exact digVal_ge _ _
          rw [← hx, ← hy]
          have HX := Lib.hid hx
          have HY := Lib.hid hy
          clear hx hy e1 e2 b1 b2 b3 b4
          have hle : w.heap.size ≤ wr.heap.size := HBB.out.size
          by_cases hx0 : x < 0
          · go_wp2
            go_ret2
            exact unhexed_no (hexOk_bad i hlt (by rw [← HX.out]; exact hx0)) (World.ownsRow_lit wr #[] 0 hle (by simp [maxLen]) rfl) (HBB.out.alloc hle _)
          · by_cases hy0 : y < 0
            · go_wp2
              go_ret2
              exact unhexed_no (hexOk_bad (i + 1) hlt2 (by rw [← HY.out]; exact hy0)) (World.ownsRow_lit wr #[] 0 hle (by simp [maxLen]) rfl) (HBB.out.alloc hle _)
            · have b63 : k + 1 ≤ maxLen := by have := HK.out; unfold maxLen; omega
              have b47 : (k + 1) * 1 ≤ 140737488355328 := by have := HK.out; omega
              have t1 : 0 ≤ 16 * x + y ∧ 16 * x + y ≤ 255 := by omega
              obtain ⟨t1, t2⟩ := t1
              go_wp2_with (at_builtin; refine wpList_append_own _ rfl _ _ 22 rfl w.heap.size 5 i0 (.int .u8 0) 1 1 Try.underlying22 hi hz0 hz1 hz2 rfl (by decide) _ _ _ rfl (HW.out.alloc _) ⟨wr.heap.size, 0, none⟩ 1 1 [.int .u8 (16 * x + y)] rfl rfl ?c1 ?c2 b63 b47 ?c5 ?_)
              case c1 => exact cell_one_new _ _ _
              case c2 => intro u hu; simp at hu; subst hu; rfl
              case c5 => simp; omega
              · intro v' w1 hown1 hgrow _
                have hb1 := (HBB.out.alloc hle _).grown hgrow (by simp; omega) (fun j hj => (HW.out.lt j hj).1)
                have HG := Lib.hid hown1
                have HB1 := Lib.hid hb1
                clear hown1 hgrow hb1
                go_wp2
                go_roundw
                case rel =>
                  refine ⟨k + 1, i + 2, by have := HK.out; omega, by omega, by go_num, fun j hj => ?_, ?_, HB1.out⟩
                  · by_cases j1 : j = i
                    · subst j1; rw [← HX.out]; omega
                    · by_cases j2 : j = i + 1
                      · subst j2; rw [← HY.out]; omega
                      · exact HOK.out j (by omega)
                  · rw [pairs_succ, List.map_append, ← HK.out, ← HX.out, ← HY.out]
                    exact HG.out
                case measure => simp [intOf]; omega
        · have he : i = s.size := by omega
          have hk2 : k = s.size / 2 := by have := HK.out; omega
          have hyes := hexOk_yes (s := s) (by have := HO.out; omega) (by omega) (by rw [← he]; exact HOK.out)
          have HD := Lib.hid hyes
          have HW2 := Lib.hid (by rw [← hk2]; exact HW.out : wr.ownsRow w.heap.size 5 1 u4 (s.size / 2) ((pairs s (s.size / 2)).map (.int .u8)))
          clear hyes he hk2
          go_wp2
          go_ret2
          exact unhexed_yes HD.out HW2.out HBB.out
end Go.Proofs.Ytbpmddjhmoflgaa
