/- DERIVED. The program's FormatHex, called with a slice that reads as known numbers from 0 to 255: two digits for each byte, and the empty text for more than 2000 bytes. -/
import Derived.Test.YtbpmddjhmoflgaaHex
namespace Go.Proofs.Ytbpmddjhmoflgaa
open Go.RowKit

set_option maxHeartbeats 800000 in
theorem implFormatHex_any (v : Value) (zs : List Int) (w : World) (hl : zs.length ≤ 1048576) (hz : ∀ z ∈ zs, 0 ≤ z ∧ z < 256) (h : Rd w v (zs.map (.int .u8))) :
    Calls Try.prog 21 #[v] w fun e w' => e = .returned (.string (hexText zs)) ∧ Below w.heap.size w w' := by
  obtain ⟨i0, hi, hz0, hz1, hz2⟩ := info_parts info_u8
  rcases h.cases with ⟨hx, a, cap, rfl⟩ | ⟨hx, b, off, cap, rfl, hlt, hc⟩
  · have hx' : zs = [] := by simpa using hx
    subst hx'
    clear h hx
    go_enter Try.func21, Try.ntmps21
    go_wp2_with (at_make; refine wpList_make_own w rfl _ _ 22 rfl w.heap.size 5 i0 (.int .u8 0) 1 Try.underlying22 hi hz0 hz1 .i64 .i64 0 0 rfl rfl rfl ?_ ?_ ?_ ?_)
    · simp
    · simp [maxLen]
    · exact Nat.le_refl _
    · intro w1 hown hg
      have hcv := conv_owned (P := Try.prog) (src := 22) (dst := 9) (ns := []) Try.underlying22 Try.underlying5 Try.underlying9 hown
      go_wp2
      refine wp_loop_rounds 1 ?_
      rw [rounds_succ]
      go_wp2
      go_ret
      exact ⟨rfl, (Below.refl _ _).grown hg (Nat.le_refl _) (fun k hk => by cases hk)⟩
  · have hn : (zs.map (Value.int .u8)).length = zs.length := by simp
    rw [hn]
    have hc' : ∀ j, j < zs.length → w.cell? ⟨b, off + j, none⟩ = some (.int .u8 (zs.getD j 0)) := fun j hj => by
      rw [hc j (by simpa using hj), getD_map_int]
    clear hc h hx hn
    by_cases hbig : zs.length ≤ 2000
    · have hbig' : (zs.length : Int) ≤ 2000 := by omega
      go_enter Try.func21, Try.ntmps21
      go_wp2_with (at_make; refine wpList_make_own w rfl _ _ 22 rfl w.heap.size 5 i0 (.int .u8 0) 1 Try.underlying22 hi hz0 hz1 .i64 .i64 _ (2 * zs.length) rfl rfl (by simp) (made_bound hz2 (by omega)) ?_ ?_ ?_)
      · simp [maxLen]; omega
      · exact Nat.le_refl _
      · intro w1 hown hg
        have hb1 : Below w.heap.size w w1 := (Below.refl _ _).grown hg (Nat.le_refl _) (fun k hk => by cases hk)
        have HO1 := Lib.hid hown
        have HB1 := Lib.hid hb1
        clear hown hb1 hg
        go_wp2
        go_loopw [3, 15] (fun u i wr => ∃ (k : Nat), k ≤ zs.length ∧ i = .int .i64 k ∧ wr.ownsRow w.heap.size 5 1 u (2 * k) ((hexs (zs.take k)).map (.int .u8)) ∧ Below w.heap.size w wr)
          (fun _ i _ => zs.length - (intOf i).toNat)
        case atStart => exact ⟨0, Nat.zero_le _, rfl, HO1.out, HB1.out⟩
        case round =>
          obtain ⟨k, hk, rfl, hown, hb⟩ := hrel
          by_cases hlt' : k < zs.length
          · obtain ⟨x, hxd⟩ : ∃ x, x = zs.getD k 0 := ⟨_, rfl⟩
            have hcell : wr.cell? ⟨b, off + k, none⟩ = some (.int .u8 x) := by rw [hxd]; exact (hb.cell (p := ⟨b, off + k, none⟩) hlt).trans (hc' k hlt')
            obtain ⟨x0, x1⟩ : 0 ≤ x ∧ x < 256 := hz x (by rw [hxd]; simp [List.getElem?_eq_getElem hlt'])
            have HX := Lib.hid hxd
            have HO := Lib.hid hown
            have HB := Lib.hid hb
            have HC := Lib.hid hc'
            have HZ := Lib.hid hz
            clear hxd hown hb hc' hz
            have hi1 := fun (w : World) => index_hex (P := Try.prog) 9 Try.underlying9 (x / 16) (by omega) (by omega) .u8 w
            have hi2 := fun (w : World) => index_hex (P := Try.prog) 9 Try.underlying9 (x % 16) (by omega) (by omega) .u8 w
            have e1 : bits .and .u8 x 15 = x % 16 := u8_and15 x x0 x1
            have b63 : 2 * k + 2 ≤ maxLen := by unfold maxLen; omega
            have b47 : (2 * k + 2) * 1 ≤ 140737488355328 := by omega
            have bsz : w.heap.size ≤ wr.heap.size := HB.out.size
            have hnb : u3.ownBlock ≠ some b := fun e => by have := HO.out.lt b e; omega
            have hbw : b < wr.heap.size := by omega
            go_wp2
            go_region_held3 (fun w' => w'.cell? ⟨b, off + k, none⟩ = some (.int .u8 x)) (first | go_keep | (rw [hgrow.cell_far _ (by simp; omega) (Ne.symm hnb)]; simp [go_sem, *]))
              ((refine step_append_lies _ (by rfl) _ _ _ (by rfl) w.heap.size 5 i0 _ 1 1 Try.underlying22 hi hz0 hz1 hz2 rfl (by omega) u3 _ _ (by rfl) ((HO.out.alloc _).drew) ⟨wr.heap.size, 0, none⟩ 2 2 [.int .u8 (hexByte (x / 16)), .int .u8 (hexByte (x % 16))] (by rfl) (by rfl) (World.news_of_block (cs := #[.int .u8 (hexByte (x / 16)), .int .u8 (hexByte (x % 16))]) (t := 5) (fr := (0, 0)) (heap_alloc_new wr _)) (by simp [Value.oneCell']) (by omega) b63 b47 (by simp; omega) (wr.heap.size + 1) (by simp) ?_; intro gg cap1 w1 hown1 hgrow hat hlt1))
            all_goals
              have hbw1 : Below w.heap.size w w1 := (((HB.out.alloc bsz _).drew).grown hgrow (by simp; omega) (fun j hj => (HO.out.lt j hj).1))
              have HG := Lib.hid hown1
              have HB1 := Lib.hid hbw1
              clear hi1 hi2 e1 hown1 hbw1 hgrow hat hlt1 hcell
              go_wp2
              go_roundw
              case rel =>
                refine ⟨k + 1, by omega, by go_num, ?_, HB1.out⟩
                rw [take_snoc zs k hlt', hexs_snoc, ← HX.out]
                simpa [Nat.mul_add] using HG.out
              case measure => simp [intOf]; omega
          · obtain rfl : k = zs.length := by omega
            have hcv := conv_owned (P := Try.prog) (src := 22) (dst := 9) Try.underlying22 Try.underlying5 Try.underlying9 hown
            rw [List.take_length] at hcv
            have HB := Lib.hid hb
            clear hown hb hc' hz
            go_wp2
            go_ret
            exact ⟨by rw [hexText, if_pos hbig]; rfl, HB.out⟩
    · have hbig' : (2000 : Int) < (zs.length : Int) := by omega
      clear hc' hz
      go_enter Try.func21, Try.ntmps21
      go_wp2
      go_ret
      exact ⟨by rw [hexText, if_neg hbig]; rfl, Below.refl _ _⟩
end Go.Proofs.Ytbpmddjhmoflgaa
