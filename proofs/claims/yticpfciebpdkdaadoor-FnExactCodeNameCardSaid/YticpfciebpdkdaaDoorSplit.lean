/- DERIVED. SplitText, the program's and the reference's: the parts of a text between the bytes that are equal to one. Called with any text of at most 1048576 bytes and any byte. -/
import Derived.Test.YticpfciebpdkdaaDoorText
import Derived.Deep.RegionHeld3
namespace Go.Proofs.YticpfciebpdkdaaDoor
open Go.RowKit

/-- The parts that are closed ahead of place i, and where the open one begins. -/
def cuts (s : ByteArray) (c : Int) : Nat → List ByteArray × Nat
  | 0 => ([], 0)
  | i + 1 => if bt s i = c then ((cuts s c i).1 ++ [s.extract (cuts s c i).2 i], i + 1) else cuts s c i
theorem cuts_hit {s : ByteArray} {c : Int} {i : Nat} (h : bt s i = c) : cuts s c (i + 1) = ((cuts s c i).1 ++ [s.extract (cuts s c i).2 i], i + 1) := by rw [cuts, if_pos h]
theorem cuts_miss {s : ByteArray} {c : Int} {i : Nat} (h : ¬ bt s i = c) : cuts s c (i + 1) = cuts s c i := by rw [cuts, if_neg h]
theorem cuts_le (s : ByteArray) (c : Int) (i : Nat) : (cuts s c i).2 ≤ i ∧ (cuts s c i).1.length ≤ i := by
  induction i with
  | zero => simp [cuts]
  | succ i ih => by_cases h : bt s i = c
                 · rw [cuts_hit h]; simp; omega
                 · rw [cuts_miss h]; omega
def parts (s : ByteArray) (c : Int) : List ByteArray := (cuts s c s.size).1 ++ [s.extract (cuts s c s.size).2 s.size]
theorem parts_len (s : ByteArray) (c : Int) : (parts s c).length ≤ s.size + 1 := by have := (cuts_le s c s.size).2; simp [parts]; omega

theorem extract_le (s : ByteArray) (a b : Nat) : (s.extract a b).size ≤ s.size := by rw [ByteArray.size_extract]; omega
theorem cuts_sizes (s : ByteArray) (c : Int) : ∀ i, ∀ p ∈ (cuts s c i).1, p.size ≤ s.size
  | 0, p, hp => by simp [cuts] at hp
  | i + 1, p, hp => by
    by_cases h : bt s i = c
    · rw [cuts_hit h] at hp
      rcases List.mem_append.1 hp with h1 | h1
      · exact cuts_sizes s c i p h1
      · rw [List.mem_singleton.1 h1]; exact extract_le _ _ _
    · rw [cuts_miss h] at hp
      exact cuts_sizes s c i p hp
theorem parts_sizes (s : ByteArray) (c : Int) (k : Nat) : ((parts s c).getD k ByteArray.empty).size ≤ s.size := by
  rw [List.getD_eq_getElem?_getD]
  rcases h : (parts s c)[k]? with _ | p
  · exact Nat.zero_le _
  · have hp := List.mem_of_getElem? h
    unfold parts at hp
    rcases List.mem_append.1 hp with h1 | h1
    · exact cuts_sizes s c _ p h1
    · rw [List.mem_singleton.1 h1]; exact extract_le _ _ _

def Splitted (B : Nat) (s : ByteArray) (c : Int) (w : World) (e : Ending) (w' : World) : Prop :=
  ∃ v, e = .returned v ∧ w'.ownsRow B 9 1 v (parts s c).length ((parts s c).map .string) ∧ Below B w w'

set_option maxRecDepth 100000 in
set_option maxHeartbeats 1000000 in
theorem specSplit_any (s : ByteArray) (c : Int) (w : World) (hl : s.size ≤ 1048576) :
    Calls Tryd.prog 27 #[.string s, .int .u8 c] w (Splitted w.heap.size s c w) := by
  have hlit := World.ownsRow_lit (e := 9) (size := 1) w #[] 0 (Nat.le_refl _) (by simp [maxLen]) rfl
  have hbel : Below w.heap.size w (w.alloc (.cells #[] 9)) := (Below.refl _ _).alloc (Nat.le_refl _) _
  have HL := Lib.hid hlit
  have HB := Lib.hid hbel
  clear hlit hbel
  obtain ⟨i0, hi, hz0, hz1, hz2⟩ := info_parts info_str
  go_enter Tryd.func27, Tryd.ntmps27
  go_wp2
  go_loopw [5, 6, 7] (fun u f i wr => (∃ (k n : Nat) (l : List ByteArray) (g : Nat), k ≤ s.size ∧ i = .int .i64 k ∧ f = .int .i64 g ∧ g ≤ k ∧ n ≤ k ∧ n = l.length ∧ (l, g) = cuts s c k ∧ wr.ownsRow w.heap.size 9 1 u n (l.map .string) ∧ Below w.heap.size w wr) ∨
      (i = .int .i64 (s.size + 1 : Nat) ∧ wr.ownsRow w.heap.size 9 1 u (parts s c).length ((parts s c).map .string) ∧ Below w.heap.size w wr))
    (fun _ _ i _ => s.size + 1 - (intOf i).toNat)
  case atStart => exact .inl ⟨0, 0, [], 0, Nat.zero_le _, rfl, rfl, Nat.le_refl _, Nat.le_refl _, rfl, rfl, HL.out, HB.out⟩
  case round =>
    rcases hrel with ⟨k, n, l, g, hk, rfl, rfl, hgk, hnk, hnl, hcut, hown, hb⟩ | ⟨rfl, hown, hb⟩
    · have HC := Lib.hid hcut
      have HN := Lib.hid hnl
      have HW := Lib.hid hown
      have HBB := Lib.hid hb
      have hle : w.heap.size ≤ wr.heap.size := hb.size
      have b63 : n + 1 ≤ maxLen := by unfold maxLen; omega
      have b47 : (n + 1) * 16 ≤ 140737488355328 := by omega
      clear hcut hnl hown hb
      by_cases hlt : k < s.size
      · have e1 := bt_eq s k hlt
        have hne : ((k : Int) == (s.size : Int)) = false := by simp; omega
        obtain ⟨x, hx⟩ : ∃ x, x = bt s k := ⟨_, rfl⟩
        rw [← hx] at e1
        have HX := Lib.hid hx
        clear hx
        by_cases hxc : x = c
        · subst hxc
          go_wp2_with (at_builtin; refine wpList_append_own _ rfl _ _ 36 rfl w.heap.size 9 i0 (.string ByteArray.empty) 1 16 Tryd.underlying36 hi hz0 hz1 hz2 rfl (by decide) _ _ _ rfl (HW.out.alloc _) ⟨wr.heap.size, 0, none⟩ 1 1 [.string (s.extract g k)] rfl rfl ?c1 ?c2 b63 b47 ?c5 ?_)
          case c1 => exact cell_one_new _ _ _
          case c2 => intro u hu; simp at hu; subst hu; rfl
          case c5 => simp; omega
          · intro v' w1 hown1 hgrow _
            have HG := Lib.hid hown1
            have HB1 := Lib.hid ((HBB.out.alloc hle _).grown hgrow (by simp; omega) (fun j hj => (HW.out.lt j hj).1))
            clear hown1 hgrow
            go_wp2
            go_roundw
            case rel =>
              have hc := cuts_hit (s := s) (c := x) (i := k) HX.out.symm
              rw [← HC.out] at hc
              exact .inl ⟨k + 1, n + 1, l ++ [s.extract g k], k + 1, by omega, by go_num, by go_num, Nat.le_refl _, by omega, by simp [HN.out], hc.symm, by simpa using HG.out, HB1.out⟩
            case measure => simp [intOf]; omega
        · go_wp2
          go_roundw
          case rel =>
            have hc := cuts_miss (s := s) (c := c) (i := k) (by rw [← HX.out]; exact hxc)
            rw [← HC.out] at hc
            exact .inl ⟨k + 1, n, l, g, by omega, by go_num, rfl, by omega, by omega, HN.out, hc.symm, HW.out, HBB.out⟩
          case measure => simp [intOf]; omega
      · obtain rfl : k = s.size := by omega
        go_wp2_with (at_builtin; refine wpList_append_own _ rfl _ _ 36 rfl w.heap.size 9 i0 (.string ByteArray.empty) 1 16 Tryd.underlying36 hi hz0 hz1 hz2 rfl (by decide) _ _ _ rfl (HW.out.alloc _) ⟨wr.heap.size, 0, none⟩ 1 1 [.string (s.extract g s.size)] rfl rfl ?c1 ?c2 b63 b47 ?c5 ?_)
        case c1 => exact cell_one_new _ _ _
        case c2 => intro u hu; simp at hu; subst hu; rfl
        case c5 => simp; omega
        · intro v' w1 hown1 hgrow _
          have HG := Lib.hid hown1
          have HB1 := Lib.hid ((HBB.out.alloc hle _).grown hgrow (by simp; omega) (fun j hj => (HW.out.lt j hj).1))
          clear hown1 hgrow
          go_wp2
          go_roundw
          case rel =>
            have hp : parts s c = l ++ [s.extract g s.size] := by rw [parts, ← HC.out]
            refine .inr ⟨by go_num, ?_, HB1.out⟩
            rw [hp, List.map_append, List.length_append, ← HN.out]
            exact HG.out
          case measure => simp [intOf]
    · have HW := Lib.hid hown
      have HBB := Lib.hid hb
      clear hown hb
      go_wp2
      go_ret
      exact ⟨_, rfl, HW.out, HBB.out⟩

end Go.Proofs.YticpfciebpdkdaaDoor
