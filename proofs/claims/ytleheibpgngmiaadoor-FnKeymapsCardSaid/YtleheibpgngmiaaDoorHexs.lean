/- DERIVED. ParseHex, the program's and the reference's: the bytes that a text of hexadecimal digits tells, or none. Called with any text. · The program's ParseHex, called with any text of at most 1048576 bytes: the bytes that it tells, or none. · The program's FormatHex, called with a slice that reads as known numbers from 0 to 255: two digits for each byte, and the empty text for more than 2000 bytes. · Numbers are read from their texts just where they have at most nine digits; bytes are read from their hexadecimal texts. No condition. -/
import Derived.Test.YtleheibpgngmiaaDoorText
import Derived.Lib.OthersKept
import Derived.WalkSmall
import Derived.Test.YtleheibpgngmiaaDoorParts
namespace Go.Proofs.YtleheibpgngmiaaDoor
open Go.RowKit

def pairs (s : ByteArray) (k : Nat) : List Int := (List.range k).map fun j => 16 * digVal 16 (bt s (2 * j)) + digVal 16 (bt s (2 * j + 1))
theorem pairs_succ (s : ByteArray) (k : Nat) : pairs s (k + 1) = pairs s k ++ [16 * digVal 16 (bt s (2 * k)) + digVal 16 (bt s (2 * k + 1))] := by
  unfold pairs; rw [List.range_succ, List.map_append]; rfl
theorem pairs_length (s : ByteArray) (k : Nat) : (pairs s k).length = k := by simp [pairs]

def hexOk (s : ByteArray) : Bool := decide (s.size % 2 = 0 ∧ s.size ≤ 4000 ∧ ∀ j, j < s.size → 0 ≤ digVal 16 (bt s j))
theorem hexOk_yes {s : ByteArray} (h1 : s.size % 2 = 0) (h2 : s.size ≤ 4000) (h3 : ∀ j, j < s.size → 0 ≤ digVal 16 (bt s j)) : hexOk s = true := decide_eq_true ⟨h1, h2, h3⟩
theorem hexOk_odd {s : ByteArray} (h1 : s.size % 2 = 1) : hexOk s = false := decide_eq_false (fun h => by omega)
theorem hexOk_big {s : ByteArray} (h1 : 4000 < s.size) : hexOk s = false := decide_eq_false (fun h => by omega)
theorem hexOk_bad {s : ByteArray} (j : Nat) (h : j < s.size) (h1 : digVal 16 (bt s j) < 0) : hexOk s = false := decide_eq_false (fun h' => by have := h'.2.2 j h; omega)
def hexList (s : ByteArray) : List Int := if hexOk s = true then pairs s (s.size / 2) else []
theorem hexList_yes {s : ByteArray} (h : hexOk s = true) : hexList s = pairs s (s.size / 2) := by rw [hexList, if_pos h]
theorem hexList_no {s : ByteArray} (h : hexOk s = false) : hexList s = [] := by rw [hexList, h]; rfl

/-- What ParseHex returns: the bytes in memory of the call's own, and whether there are any. -/
def Unhexed (B : Nat) (s : ByteArray) (w : World) (e : Ending) (w' : World) : Prop :=
  ∃ v n, e = .returned (.tuple #[v, .bool (hexOk s)]) ∧ w'.ownsRow B 5 1 v n ((hexList s).map (.int .u8)) ∧ Below B w w'

theorem unhexed_yes {B : Nat} {s : ByteArray} {w w' : World} {v : Value} (h : hexOk s = true) (ho : w'.ownsRow B 5 1 v (s.size / 2) ((pairs s (s.size / 2)).map (.int .u8))) (hb : Below B w w') :
    Unhexed B s w (.returned (.tuple #[v, .bool true])) w' := ⟨v, _, by rw [h], by rw [hexList_yes h]; exact ho, hb⟩
theorem unhexed_no {B : Nat} {s : ByteArray} {w w' : World} {v : Value} (h : hexOk s = false) (ho : w'.ownsRow B 5 1 v 0 []) (hb : Below B w w') :
    Unhexed B s w (.returned (.tuple #[v, .bool false])) w' := ⟨v, 0, by rw [h], by rw [hexList_no h]; exact ho, hb⟩

theorem owns_iterAt {w : World} {B e size n : Nat} {v : Value} {xs : List Value} {k : Nat} {s : ByteArray} {pos : Nat} (h : w.ownsRow B e size v n xs) (hk : w.heap[k]? = some (.stringIter s pos)) (p : Nat) : (w.iterAt k s p).ownsRow B e size v n xs := by
  obtain ⟨h1, h2⟩ := h
  refine ⟨h1, ?_⟩
  rcases h2 with h2 | ⟨g, cap, cur, hv, hg, hh, r⟩
  · exact .inl h2
  · refine .inr ⟨g, cap, cur, hv, hg, ?_, r⟩
    have hne : g ≠ k := by intro e; rw [e, hk] at hh; cases hh
    rw [Lib.iterAt_other w k g s p hne]; exact hh
theorem owns_ne_iter {w : World} {B e size n : Nat} {v : Value} {xs : List Value} {k : Nat} {s : ByteArray} {pos : Nat} (h : w.ownsRow B e size v n xs) (hk : w.heap[k]? = some (.stringIter s pos)) : some k ≠ v.ownBlock := by
  intro e
  rcases h.2 with ⟨rfl, _⟩ | ⟨g, cap, cur, rfl, hg, hh, r⟩
  · simp [Value.ownBlock] at e
  · simp [Value.ownBlock] at e
    subst e
    rw [hk] at hh; cases hh

set_option maxHeartbeats 2000000 in
set_option maxRecDepth 100000 in
theorem implParseHex_any (s : ByteArray) (w : World) (hl : s.size ≤ 1048576) :
    Calls Tryd.prog 14 #[.string s] w (Unhexed w.heap.size s w) := by
  have hq : (s.size : Int).tmod 2 = (s.size : Int) % 2 := Int.tmod_eq_emod_of_nonneg (by omega)
  by_cases hodd : s.size % 2 = 1
  · have h1 : ((s.size : Int) % 2 == 0) = false := by simp; omega
    have h1' : ((s.size : Int) % 2 != 0) = true := by simp; omega
    have HO := Lib.hid hodd
    clear hodd
    go_enter Tryd.func14, Tryd.ntmps14
    go_wp2
    go_ret2
    exact unhexed_no (hexOk_odd HO.out) (World.ownsRow_nil _ _ _ _) (Below.refl _ _)
  · have h1 : ((s.size : Int) % 2 == 0) = true := by simp; omega
    have h1' : ((s.size : Int) % 2 != 0) = false := by simp; omega
    by_cases hbig : 4000 < s.size
    · have h2 : (4000 : Int) < s.size := by omega
      have HO := Lib.hid hodd
      clear hodd
      go_enter Tryd.func14, Tryd.ntmps14
      go_wp2
      go_ret2
      exact unhexed_no (hexOk_big hbig) (World.ownsRow_nil _ _ _ _) (Below.refl _ _)
    · have h2 : ¬ (4000 : Int) < s.size := by omega
      have HO := Lib.hid hodd
      clear hodd
      obtain ⟨i0, hi, hz0, hz1, hz2⟩ := info_parts info_u8
      go_enter Tryd.func14, Tryd.ntmps14
      go_wp2_with (at_make; refine wpList_make_own w rfl _ _ 22 rfl w.heap.size 5 i0 (.int .u8 0) 1 Tryd.underlying22 hi hz0 hz1 .i64 .i64 _ (s.size / 2) rfl rfl (by simp) (made_bound hz2 (by omega)) ?_ ?_ ?_)
      · simp [maxLen]; omega
      · intro w1 hown hg
        have hb1 : Below w.heap.size w w1 := (Below.refl _ _).grown hg (Nat.le_refl _) (fun k hk => by cases hk)
        have HO1 := Lib.hid hown
        have HB1 := Lib.hid hb1
        clear hown hb1 hg
        go_wp2
        have hK : w.heap.size ≤ w1.heap.size := HB1.out.size
        have hi0 : (w1.iter s 0).heap[w1.heap.size]? = some (.stringIter s 0) := World.iter_heap w1 s 0
        have HI0 := Lib.hid hi0
        clear hi0
        go_loopw [4, 5] (fun u hv wr => ∃ (pos k : Nat) (x : Int), hv = .int .i64 x ∧ -1 ≤ x ∧ x < 16 ∧ pos ≤ s.size ∧ k = pos / 2 ∧ (pos % 2 = 1 → x = digVal 16 (bt s (pos - 1))) ∧ (∀ j, j < pos → 0 ≤ digVal 16 (bt s j)) ∧ wr.heap[w1.heap.size]? = some (.stringIter s pos) ∧ wr.ownsRow w.heap.size 5 1 u k ((pairs s k).map (.int .u8)) ∧ Below w.heap.size w wr)
          (fun _ _ wr => s.size - wr.iterPos w1.heap.size)
        case atStart => exact ⟨0, 0, 0, rfl, by omega, by omega, Nat.zero_le _, rfl, fun h => by omega, fun j hj => by omega, HI0.out, HO1.out.alloc _, HB1.out.alloc hK _⟩
        case round =>
          obtain ⟨pos, k, x, rfl, x1, x2, hps, hkp, hodd, hok, hit, hown, hb⟩ := hrel
          have hmeas : wr.iterPos w1.heap.size = pos := by simp [World.iterPos, hit]
          have HK := Lib.hid hkp
          have HP := Lib.hid hodd
          have HOK := Lib.hid hok
          have HI := Lib.hid hit
          have HW := Lib.hid hown
          have HBB := Lib.hid hb
          have HM := Lib.hid hmeas
          have hsz : w1.heap.size < wr.heap.size := (Array.getElem?_eq_some_iff.1 hit).1
          clear hkp hodd hok hit hown hb hmeas HO1 HB1 HI0
          by_cases hp : pos < s.size
          · have hbel := Lib.hid (Lib.below_iterAt HBB.out (k := w1.heap.size) hK s (pos + (Utf8.decode s pos).2))
            have hown2 := Lib.hid (owns_iterAt HW.out HI.out (pos + (Utf8.decode s pos).2))
            have hit2 := Lib.hid (Lib.iterAt_heap wr w1.heap.size s pos (pos + (Utf8.decode s pos).2) HI.out)
            have hle := decode_le s pos
            have hnx : ∀ ty, (Instr.next (.pointer (some ⟨w1.heap.size, 0, none⟩)) true ty).run Tryd.prog wr = _ := fun ty => Lib.run_next_any_at wr w1.heap.size s pos ty HI.out hp
            rcases decode_at s pos hp with ⟨c1, hd⟩ | ⟨c1, c2⟩
            · rw [hd] at hbel hown2 hit2 hnx hle
              simp only [] at hbel hown2 hit2
              simp only [bt_nat] at hnx
              obtain ⟨b1, b2⟩ := bt_bound s pos
              obtain ⟨y, hy⟩ : ∃ y, y = digVal 16 (bt s pos) := ⟨_, rfl⟩
              have y2 : y < 16 := by rw [hy]; exact digVal_lt _ _ (by omega)
              have HD := Lib.hid hd
              clear hd hle
              by_cases hy0 : y < 0
              · have hr := digRes_no (b := 16) (c := bt s pos) (by rw [← hy]; exact hy0)
                have HR := Lib.hid hr
                have HY := Lib.hid hy
                clear hr hy
                go_wp2_with fail
                refine (digitValue_any (bt s pos) 16 _ b1 (by omega) (by omega) (by omega)).mono ?_
                rw [HR.out]
                rintro e w2 ⟨rfl, rfl⟩
                go_wp2
                go_ret2
                exact unhexed_no (hexOk_bad pos hp (by rw [← HY.out]; exact hy0)) (World.ownsRow_nil _ _ _ _) hbel.out
              · have hr := digRes_yes (b := 16) (c := bt s pos) (by rw [← hy]; exact hy0)
                rw [← hy] at hr
                have HR := Lib.hid hr
                have HY := Lib.hid hy
                have pq : (pos : Int).tmod 2 = (pos : Int) % 2 := Int.tmod_eq_emod_of_nonneg (by omega)
                clear hr hy
                go_wp2_with fail
                refine (digitValue_any (bt s pos) 16 _ b1 (by omega) (by omega) (by omega)).mono ?_
                rw [HR.out]
                rintro e w2 ⟨rfl, rfl⟩
                by_cases hpar : pos % 2 = 0
                · have p1 : ((pos : Int) % 2 == 0) = true := by simp; omega
                  have HPP := Lib.hid hpar
                  clear hpar
                  go_wp2
                  go_roundw
                  case rel =>
                    refine ⟨pos + 1, k, y, rfl, by omega, by omega, by omega, by have := HK.out; have := HPP.out; omega, fun _ => HY.out, fun j hj => ?_, hit2.out, hown2.out, hbel.out⟩
                    by_cases j1 : j = pos
                    · subst j1; rw [← HY.out]; omega
                    · exact HOK.out j (by omega)
                  case measure => rw [HM.out]; simp [World.iterPos, hit2.out]; omega
                · have p1 : ((pos : Int) % 2 == 0) = false := by simp; omega
                  have HPP := Lib.hid hpar
                  have HX := Lib.hid (HP.out (by omega))
                  have x0 : 0 ≤ x := by rw [HX.out]; exact HOK.out _ (by omega)
                  clear hpar
                  have b63 : k + 1 ≤ maxLen := by have := HK.out; unfold maxLen; omega
                  have b47 : (k + 1) * 1 ≤ 140737488355328 := by have := HK.out; omega
                  have hsz2 : (wr.iterAt w1.heap.size s (pos + 1)).heap.size = wr.heap.size := Lib.iterAt_size _ _ _ _
                  have HS2 := Lib.hid hsz2
                  clear hsz2
                  go_wp2_with (at_builtin; refine wpList_append_own _ rfl _ _ 22 rfl w.heap.size 5 i0 (.int .u8 0) 1 1 Tryd.underlying22 hi hz0 hz1 hz2 rfl (by decide) _ _ _ rfl (hown2.out.alloc _) ⟨(wr.iterAt w1.heap.size s (pos + 1)).heap.size, 0, none⟩ 1 1 [.int .u8 (16 * x + y)] rfl rfl ?c1 ?c2 b63 b47 ?c5 ?_)
                  case c1 => exact cell_one_new _ _ _
                  case c2 => intro u hu; simp at hu; subst hu; rfl
                  case c5 => rw [World.size_alloc, HS2.out]; omega
                  · intro v' w3 hown3 hgrow _
                    have hK3 : w.heap.size ≤ (wr.iterAt w1.heap.size s (pos + 1)).heap.size := by rw [HS2.out]; omega
                    have hb3 := (hbel.out.alloc hK3 _).grown hgrow (by rw [World.size_alloc]; omega) (fun j hj => (hown2.out.lt j hj).1)
                    have hit3 : w3.heap[w1.heap.size]? = some (.stringIter s (pos + 1)) := by
                      rw [hgrow.block w1.heap.size (by rw [World.size_alloc, HS2.out]; omega) (owns_ne_iter hown2.out hit2.out), Below.heap_alloc _ _ _ (by rw [HS2.out]; omega)]
                      exact hit2.out
                    have HG := Lib.hid hown3
                    have HB3 := Lib.hid hb3
                    have HI3 := Lib.hid hit3
                    clear hown3 hgrow hb3 hit3
                    go_wp2
                    go_roundw
                    case rel =>
                      refine ⟨pos + 1, k + 1, x, rfl, x1, x2, by omega, by have := HK.out; have := HPP.out; omega, fun h => by have := HPP.out; omega, fun j hj => ?_, HI3.out, ?_, HB3.out⟩
                      · by_cases j1 : j = pos
                        · subst j1; rw [← HY.out]; omega
                        · exact HOK.out j (by omega)
                      · have e1 : 2 * k = pos - 1 := by have := HK.out; have := HPP.out; omega
                        have e2 : 2 * k + 1 = pos := by have := HK.out; have := HPP.out; omega
                        rw [pairs_succ, List.map_append, e1, ← HX.out]
                        rw [show pos - 1 + 1 = pos from by omega, ← HY.out]
                        exact HG.out
                    case measure => rw [HM.out]; simp [World.iterPos, HI3.out]; omega
            · have hr := digRes_no (b := 16) (c := (Utf8.decode s pos).1) (by rw [digVal_high 16 _ (by omega) (by omega)]; omega)
              have hbad := hexOk_bad pos hp (by rw [digVal_high 16 _ (by omega) c1]; omega)
              obtain ⟨r, hrd⟩ : ∃ r, r = (Utf8.decode s pos).1 := ⟨_, rfl⟩
              rw [← hrd] at hr hnx hle
              have HR := Lib.hid hr
              have HY := Lib.hid hbad
              have HZ := Lib.hid hrd
              clear hr hbad hrd c2
              go_wp2_with fail
              refine (digitValue_any (r : Int) 16 _ (by omega) (by omega) (by omega) (by omega)).mono ?_
              rw [HR.out]
              rintro e w2 ⟨rfl, rfl⟩
              go_wp2
              go_ret2
              exact unhexed_no HY.out (World.ownsRow_nil _ _ _ _) hbel.out
          · have he : pos = s.size := by omega
            have hyes := hexOk_yes (s := s) (by have := HO.out; omega) (by omega) (by rw [← he]; exact HOK.out)
            have HW2 := Lib.hid (by have e := HK.out; rw [he] at e; rw [← e]; exact HW.out : wr.ownsRow w.heap.size 5 1 u4 (s.size / 2) ((pairs s (s.size / 2)).map (.int .u8)))
            have HD := Lib.hid hyes
            have hnx : ∀ ty, (Instr.next (.pointer (some ⟨w1.heap.size, 0, none⟩)) true ty).run Tryd.prog wr = _ := fun ty => Lib.run_next_end_at wr w1.heap.size s pos ty HI.out hp
            clear hyes he
            go_wp2
            go_ret2
            exact unhexed_yes HD.out HW2.out HBB.out
end Go.Proofs.YtleheibpgngmiaaDoor

namespace Go.Proofs.YtleheibpgngmiaaDoor
open Go.RowKit

set_option maxHeartbeats 800000 in
set_option maxRecDepth 100000 in
theorem implFormatHex_any (v : Value) (zs : List Int) (w : World) (hl : zs.length ≤ 1048576) (hz : ∀ z ∈ zs, 0 ≤ z ∧ z < 256) (h : Rd w v (zs.map (.int .u8))) :
    Calls Tryd.prog 15 #[v] w fun e w' => e = .returned (.string (hexText zs)) ∧ Below w.heap.size w w' := by
  obtain ⟨i0, hi, hz0, hz1, hz2⟩ := info_parts info_u8
  rcases h.cases with ⟨hx, a, cap, rfl⟩ | ⟨hx, b, off, cap, rfl, hlt, hc⟩
  · have hx' : zs = [] := by simpa using hx
    subst hx'
    clear h hx
    go_enter Tryd.func15, Tryd.ntmps15
    go_wp2_with (at_make; refine wpList_make_own w rfl _ _ 22 rfl w.heap.size 5 i0 (.int .u8 0) 1 Tryd.underlying22 hi hz0 hz1 .i64 .i64 0 0 rfl rfl rfl ?_ ?_ ?_ ?_)
    · simp
    · simp [maxLen]
    · exact Nat.le_refl _
    · intro w1 hown hg
      have hcv := conv_owned (P := Tryd.prog) (src := 22) (dst := 9) (ns := []) Tryd.underlying22 Tryd.underlying5 Tryd.underlying9 hown
      go_wp2
      refine wp_loop_rounds 1 ?_
      rw [rounds_succ]
      go_wp2
      go_ret
      exact ⟨rfl, (Below.refl _ _).grown hg (Nat.le_refl _) (fun k hk => by cases hk)⟩
  · have hn : (zs.map (Value.int .u8)).length = zs.length := by simp
    rw [hn]
    have hc' : ∀ j, j < zs.length → w.cell? ⟨b, off + j, none⟩ = some (.int .u8 (zs.getD j 0)) := fun j hj => by
      rw [hc j (by simpa using hj), getD_map_int]
    clear hc h hx hn
    by_cases hbig : zs.length ≤ 2000
    · have hbig' : (zs.length : Int) ≤ 2000 := by omega
      go_enter Tryd.func15, Tryd.ntmps15
      go_wp2_with (at_make; refine wpList_make_own w rfl _ _ 22 rfl w.heap.size 5 i0 (.int .u8 0) 1 Tryd.underlying22 hi hz0 hz1 .i64 .i64 _ (2 * zs.length) rfl rfl (by simp) (made_bound hz2 (by omega)) ?_ ?_ ?_)
      · simp [maxLen]; omega
      · exact Nat.le_refl _
      · intro w1 hown hg
        have hb1 : Below w.heap.size w w1 := (Below.refl _ _).grown hg (Nat.le_refl _) (fun k hk => by cases hk)
        have HO1 := Lib.hid hown
        have HB1 := Lib.hid hb1
        clear hown hb1 hg
        go_wp2
        go_loopw [3, 15] (fun u i wr => ∃ (k : Nat), k ≤ zs.length ∧ i = .int .i64 k ∧ wr.ownsRow w.heap.size 5 1 u (2 * k) ((hexs (zs.take k)).map (.int .u8)) ∧ Below w.heap.size w wr)
          (fun _ i _ => zs.length - (intOf i).toNat)
        case atStart => exact ⟨0, Nat.zero_le _, rfl, HO1.out, HB1.out⟩
        case round =>
          obtain ⟨k, hk, rfl, hown, hb⟩ := hrel
          by_cases hlt' : k < zs.length
          · obtain ⟨x, hxd⟩ : ∃ x, x = zs.getD k 0 := ⟨_, rfl⟩
            have hcell : wr.cell? ⟨b, off + k, none⟩ = some (.int .u8 x) := by rw [hxd]; exact (hb.cell (p := ⟨b, off + k, none⟩) hlt).trans (hc' k hlt')
            obtain ⟨x0, x1⟩ : 0 ≤ x ∧ x < 256 := hz x (by rw [hxd]; simp [List.getElem?_eq_getElem hlt'])
            have HX := Lib.hid hxd
            have HO := Lib.hid hown
            have HB := Lib.hid hb
            have HC := Lib.hid hc'
            have HZ := Lib.hid hz
            clear hxd hown hb hc' hz
            have hi1 := fun (w : World) => index_hex (P := Tryd.prog) 9 Tryd.underlying9 (x / 16) (by omega) (by omega) .u8 w
            have hi2 := fun (w : World) => index_hex (P := Tryd.prog) 9 Tryd.underlying9 (x % 16) (by omega) (by omega) .u8 w
            have e1 : bits .and .u8 x 15 = x % 16 := u8_and15 x x0 x1
            have b63 : 2 * k + 2 ≤ maxLen := by unfold maxLen; omega
            have b47 : (2 * k + 2) * 1 ≤ 140737488355328 := by omega
            have bsz : w.heap.size ≤ wr.heap.size := HB.out.size
            have hnb : u3.ownBlock ≠ some b := fun e => by have := HO.out.lt b e; omega
            have hbw : b < wr.heap.size := by omega
            go_wp2
            go_region_held3 (fun w' => w'.cell? ⟨b, off + k, none⟩ = some (.int .u8 x)) (first | go_keep | (rw [hgrow.cell_far _ (by simp; omega) (Ne.symm hnb)]; simp [go_sem, *]))
              ((refine step_append_lies _ (by rfl) _ _ _ (by rfl) w.heap.size 5 i0 _ 1 1 Tryd.underlying22 hi hz0 hz1 hz2 rfl (by omega) u3 _ _ (by rfl) ((HO.out.alloc _).drew) ⟨wr.heap.size, 0, none⟩ 2 2 [.int .u8 (hexByte (x / 16)), .int .u8 (hexByte (x % 16))] (by rfl) (by rfl) (World.news_of_block (cs := #[.int .u8 (hexByte (x / 16)), .int .u8 (hexByte (x % 16))]) (t := 5) (fr := (0, 0)) (heap_alloc_new wr _)) (by simp [Value.oneCell']) (by omega) b63 b47 (by simp; omega) (wr.heap.size + 1) (by simp) ?_; intro gg cap1 w1 hown1 hgrow hat hlt1))
            all_goals
              have hbw1 : Below w.heap.size w w1 := (((HB.out.alloc bsz _).drew).grown hgrow (by simp; omega) (fun j hj => (HO.out.lt j hj).1))
              have HG := Lib.hid hown1
              have HB1 := Lib.hid hbw1
              clear hi1 hi2 e1 hown1 hbw1 hgrow hat hlt1 hcell
              go_wp2
              go_roundw
              case rel =>
                refine ⟨k + 1, by omega, by go_num, ?_, HB1.out⟩
                rw [take_snoc zs k hlt', hexs_snoc, ← HX.out]
                simpa [Nat.mul_add] using HG.out
              case measure => simp [intOf]; omega
          · obtain rfl : k = zs.length := by omega
            have hcv := conv_owned (P := Tryd.prog) (src := 22) (dst := 9) Tryd.underlying22 Tryd.underlying5 Tryd.underlying9 hown
            rw [List.take_length] at hcv
            have HB := Lib.hid hb
            clear hown hb hc' hz
            go_wp2
            go_ret
            exact ⟨by rw [hexText, if_pos hbig]; rfl, HB.out⟩
    · have hbig' : (2000 : Int) < (zs.length : Int) := by omega
      clear hc' hz
      go_enter Tryd.func15, Tryd.ntmps15
      go_wp2
      go_ret
      exact ⟨by rw [hexText, if_neg hbig]; rfl, Below.refl _ _⟩
end Go.Proofs.YtleheibpgngmiaaDoor

namespace Go.Proofs.YtleheibpgngmiaaDoor
open Go.RowKit

theorem itoa_minus {m : Nat} (h : 0 < m) : itoaText (-(m : Int)) = ⟨((45 : UInt8) :: Lib.decDigits m).toArray⟩ := by
  rw [itoaText, Lib.itoa, if_pos (by omega)]
  simp
/-- A number from -999999999 to 999999999 is read from its text. -/
theorem itoa_reads_int {n : Int} (h0 : -999999999 ≤ n) (h1 : n ≤ 999999999) : okI (itoaText n) = true ∧ pval (itoaText n) = n := by
  by_cases hn : 0 ≤ n
  · obtain ⟨q, rfl⟩ := Int.eq_ofNat_of_zero_le hn
    exact itoa_reads q (by omega)
  · obtain ⟨m, rfl⟩ : ∃ m : Nat, n = -(m : Int) := ⟨(-n).toNat, by omega⟩
    have hm : 0 < m := by omega
    have htx := itoa_minus hm
    obtain ⟨s, hs⟩ : ∃ s, s = itoaText (-(m : Int)) := ⟨_, rfl⟩
    rw [← hs] at htx ⊢
    obtain ⟨t, htt⟩ : ∃ t, t = itoaText (m : Int) := ⟨_, rfl⟩
    have ht1 : t = ⟨(Lib.decDigits m).toArray⟩ := by rw [htt, itoa_nat]
    have hsz : s.size = (Lib.decDigits m).length + 1 := by rw [htx, size_list]; rfl
    have htz : t.size = (Lib.decDigits m).length := by rw [ht1, size_list]
    have hb0 : bt s 0 = 45 := by rw [htx, bt_list _ 0 (by simp)]; rfl
    have hbj : ∀ j, j < t.size → bt t j = bt s (1 + j) := fun j hj => by
      rw [ht1, htx, bt_list _ j (by omega), bt_list _ (1 + j) (by rw [List.length_cons]; omega)]
      simp only [Nat.add_comm 1 j, List.getElem_cons_succ]
    have hneg : isNeg s := ⟨by omega, hb0⟩
    have ho : off s = 1 := by unfold off; rw [if_pos hneg]
    have hp := dec_ne m
    have h9 := itoa_size_pos (n := m) (by omega)
    rw [← htt] at h9
    have hvl : ∀ k, k ≤ t.size → vl t 0 k = vl s 1 k := fun k hk => by
      have := spec_tail s t (by rw [ho]; omega) (fun j hj => by rw [ho]; exact hbj j hj) k hk
      rwa [ho] at this
    have hval : vl s 1 (s.size - 1) = m := by
      rw [show s.size - 1 = t.size by omega, ← hvl _ (Nat.le_refl _), htz, ht1, vl_dval _ _ (Nat.le_refl _), List.take_length, dval_dec]
    have hv : sval s = -(m : Int) := by unfold sval; rw [if_pos hneg, ho, hval]
    have hok : okI s = true := by
      rw [okI_iff, ho, hv]
      refine ⟨by omega, by omega, fun j hj => ?_, hs.symm⟩
      rw [← hbj j (by omega), htt]
      exact itoa_bytes m j (by rw [← htt]; omega)
    exact ⟨hok, by rw [pval_yes hok, hv]⟩
set_option maxRecDepth 100000 in
theorem itoa_least : okI (itoaText (-1000000000)) = false := by
  refine okI_no (fun h => ?_)
  have htx : itoaText (-1000000000) = ⟨#[45, 49, 48, 48, 48, 48, 48, 48, 48, 48, 48]⟩ := by kernel_rfl
  have hsz : (itoaText (-1000000000)).size = 11 := by rw [htx]; rfl
  have ho : off (itoaText (-1000000000)) ≤ 1 := by unfold off; split <;> omega
  omega

theorem bt_strOf (xs : List Int) (i : Nat) (hi : i < xs.length) (h0 : 0 ≤ xs[i]) (h1 : xs[i] < 256) : bt (strOfNums xs) i = xs[i] := by
  have e : strOfNums xs = ⟨(xs.map fun n => UInt8.ofNat n.toNat).toArray⟩ := rfl
  rw [e, bt_list _ i (by rw [List.length_map]; exact hi), List.getElem_map]
  simp
  omega
theorem hexByte_lim {d : Int} (h0 : 0 ≤ d) (h1 : d < 16) : 0 ≤ hexByte d ∧ hexByte d < 256 ∧ digVal 16 (hexByte d) = d := by
  unfold hexByte digVal
  split
  · refine ⟨by omega, by omega, ?_⟩
    rw [if_pos (by omega)]; omega
  · refine ⟨by omega, by omega, ?_⟩
    rw [if_neg (by omega), if_pos (by omega)]; omega
theorem hexs_get : ∀ (zs : List Int) (j : Nat) (hj : j < zs.length), (hexs zs)[2 * j]? = some (hexByte (zs[j] / 16)) ∧ (hexs zs)[2 * j + 1]? = some (hexByte (zs[j] % 16))
  | z :: zs, 0, _ => by simp [hexs]
  | z :: zs, j + 1, hj => by
    have ih := hexs_get zs j (by simpa using hj)
    have e : hexs (z :: zs) = hexByte (z / 16) :: hexByte (z % 16) :: hexs zs := rfl
    rw [e, show 2 * (j + 1) = 2 * j + 1 + 1 by omega]
    simp only [List.getElem?_cons_succ, List.getElem_cons_succ]
    exact ih
theorem hexText_size {zs : List Int} (h : zs.length ≤ 2000) : (hexText zs).size = 2 * zs.length := by rw [hexText, if_pos h, strOfNums_size, hexs_length]
theorem hex_bt {zs : List Int} (h : zs.length ≤ 2000) (hz : ∀ z ∈ zs, 0 ≤ z ∧ z < 256) (j : Nat) (hj : j < zs.length) : digVal 16 (bt (hexText zs) (2 * j)) = zs[j] / 16 ∧ digVal 16 (bt (hexText zs) (2 * j + 1)) = zs[j] % 16 := by
  obtain ⟨g1, g2⟩ := hexs_get zs j hj
  have hb := hz _ (List.getElem_mem hj)
  have l1 := hexByte_lim (d := zs[j] / 16) (by omega) (by omega)
  have l2 := hexByte_lim (d := zs[j] % 16) (by omega) (by omega)
  have hl := hexs_length zs
  obtain ⟨p1, e1⟩ := List.getElem?_eq_some_iff.1 g1
  obtain ⟨p2, e2⟩ := List.getElem?_eq_some_iff.1 g2
  rw [hexText, if_pos h, bt_strOf _ _ p1 (by rw [e1]; exact l1.1) (by rw [e1]; exact l1.2.1), bt_strOf _ _ p2 (by rw [e2]; exact l2.1) (by rw [e2]; exact l2.2.1), e1, e2]
  exact ⟨l1.2.2, l2.2.2⟩
/-- Bytes are read from their hexadecimal text. -/
theorem hex_reads {zs : List Int} (h : zs.length ≤ 2000) (hz : ∀ z ∈ zs, 0 ≤ z ∧ z < 256) : hexOk (hexText zs) = true ∧ hexList (hexText zs) = zs := by
  have hs := hexText_size h
  have hok : hexOk (hexText zs) = true := hexOk_yes (by omega) (by omega) (fun j hj => by
    have hj2 : j / 2 < zs.length := by omega
    have hb := hex_bt h hz (j / 2) hj2
    have hzz := hz _ (List.getElem_mem hj2)
    rcases (by omega : j = 2 * (j / 2) ∨ j = 2 * (j / 2) + 1) with e | e
    · rw [e, hb.1]; omega
    · rw [e, hb.2]; omega)
  refine ⟨hok, ?_⟩
  rw [hexList_yes hok, hs, show 2 * zs.length / 2 = zs.length by omega]
  apply List.ext_getElem
  · rw [pairs_length]
  · intro j h1 h2
    have hb := hex_bt h hz j h2
    have e : (pairs (hexText zs) zs.length)[j] = 16 * digVal 16 (bt (hexText zs) (2 * j)) + digVal 16 (bt (hexText zs) (2 * j + 1)) := by simp [pairs]
    rw [e, hb.1, hb.2]
    omega

end Go.Proofs.YtleheibpgngmiaaDoor
