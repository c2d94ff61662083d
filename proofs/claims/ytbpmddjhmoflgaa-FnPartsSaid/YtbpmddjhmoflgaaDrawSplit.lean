/- DERIVED. The reference's draw of a text and a byte: some text of at most 1000 bytes and some byte. -/
import Derived.Test.YtbpmddjhmoflgaaPick
import Derived.Deep.RegionWith
namespace Go.Proofs.Ytbpmddjhmoflgaa
open Go.RowKit

def DrawnText (w : World) (e : Ending) (w' : World) : Prop := ∃ (s : ByteArray) (c : Int), e = .returned (.tuple #[.string s, .int .u8 c]) ∧ s.size ≤ 1000 ∧ 0 ≤ c ∧ c < 256 ∧ Below w.heap.size w w'

theorem index_sep {P : Program} (t : TypeId) (ht : P.underlying t = some .string) (d : Int) (h0 : 0 ≤ d) (h1 : d < 3) (k : IntKind) (w : World) :
    ∃ c : Int, 0 ≤ c ∧ c < 256 ∧ (Instr.index t (.string ⟨#[32, 124, 97]⟩) (.int k d)).run P w = .ok (.int .u8 c) w := by
  rw [run_index_string w t _ k _ ht, dif_pos ⟨h0, by show d < (3 : Nat); omega⟩]
  refine ⟨_, ?_, ?_, rfl⟩
  · omega
  · have := ((⟨#[32, 124, 97]⟩ : ByteArray)[d.toNat]'(by show d.toNat < 3; omega)).toNat_lt; omega

def pieces : List ByteArray := [⟨#[97]⟩, ⟨#[32]⟩, ⟨#[98, 99]⟩, ⟨#[124]⟩, ⟨#[]⟩, ⟨#[49]⟩]
theorem pieces_small : ∀ s ∈ pieces, s.size ≤ 2 := by decide
theorem pieces_cells (w : World) (t : TypeId) : ∀ j, j < pieces.length → (w.alloc (.cells #[.string ⟨#[97]⟩, .string ⟨#[32]⟩, .string ⟨#[98, 99]⟩, .string ⟨#[124]⟩, .string ⟨#[]⟩, .string ⟨#[49]⟩] t)).cell? ⟨w.heap.size, j, none⟩ = some (.string (pieces.getD j ByteArray.empty)) := by
  intro j hj
  rw [World.cell?_alloc_at _ _ _ _ rfl]
  have h : j < 6 := hj
  match j, h with
  | 0, _ => rfl
  | 1, _ => rfl
  | 2, _ => rfl
  | 3, _ => rfl
  | 4, _ => rfl
  | 5, _ => rfl

set_option maxHeartbeats 2000000 in
set_option maxRecDepth 100000 in
theorem drawSplit_any (v : Value) (zs : List Int) (w : World) (hl : zs.length ≤ 1048576) (hz : ∀ z ∈ zs, 0 ≤ z ∧ z < 256) (h : Rd w v (zs.map (.int .u8))) :
    Calls Try.prog 9 #[v] w (DrawnText w) := by
  have HR := Lib.hid h
  have HZ := Lib.hid hz
  clear h hz
  go_enter Try.func9, Try.ntmps9
  go_wp2_with fail
  refine (l1New_draw v zs _ (by omega) HZ.out HR.out).mono ?_
  rintro e w1 ⟨rfl, hd, hb, hs⟩
  have HD := Lib.hid hd
  have HB := Lib.hid hb
  clear hd hb
  go_wp2_with fail
  refine (l1Below_draw 8 HD.out (by omega) (by omega)).mono ?_
  rintro e w2 ⟨x, rfl, x0, x1, hd, hg⟩
  have HD2 := Lib.hid hd
  have HB2 := Lib.hid (HB.out.trans (low_of_grown hg (Nat.le_refl _) (Nat.le_of_lt hs)))
  clear hd hg
  go_wp2
  go_loopw [5, 6] (fun s i wr => ∃ (k : Nat) (t : ByteArray), i = .int .i64 k ∧ k ≤ 8 ∧ s = .string t ∧ t.size + 2 * k ≤ 16 ∧ Draws w.heap.size w.heap.size v zs.length zs wr ∧ Below w.heap.size w wr)
    (fun _ i _ => (intOf i).toNat)
  case atStart =>
    obtain ⟨k, rfl⟩ := Int.eq_ofNat_of_zero_le x0
    exact ⟨k, _, rfl, by omega, rfl, by show 0 + 2 * k ≤ 16; omega, HD2.out, HB2.out⟩
  case round =>
    obtain ⟨k, t, rfl, hk, rfl, ht, hd, hb⟩ := hrel
    have HD3 := Lib.hid hd
    have HB3 := Lib.hid hb
    have hlt := hd.lt
    clear hd hb
    by_cases hk0 : (0 : Int) < k
    · have hle : w.heap.size ≤ wr.heap.size := HB3.out.size
      have HB4 := Lib.hid (HB3.out.alloc hle (.cells #[.string ⟨#[97]⟩, .string ⟨#[32]⟩, .string ⟨#[98, 99]⟩, .string ⟨#[124]⟩, .string ⟨#[]⟩, .string ⟨#[49]⟩] 9))
      have HD4 := Lib.hid (HD3.out.stay (w' := wr.alloc (.cells #[.string ⟨#[97]⟩, .string ⟨#[32]⟩, .string ⟨#[98, 99]⟩, .string ⟨#[124]⟩, .string ⟨#[]⟩, .string ⟨#[49]⟩] 9)) (Below.heap_alloc _ _ _ hlt) ((Below.refl _ _).alloc hle _))
      go_wp2_with fail
      refine (l1Pick_draw wr.heap.size pieces HD4.out (by decide) (by decide) (by omega) (pieces_cells wr _)).mono ?_
      rintro e w3 ⟨s, rfl, hmem, hd, hg⟩
      have hss := pieces_small s hmem
      have HD5 := Lib.hid hd
      have HB5 := Lib.hid (HB4.out.trans (low_of_grown hg (Nat.le_refl _) (by simp; omega)))
      have hts : t.size ≤ 16 := by omega
      have hadd := fun (w : World) => run_string_add_sum (P := Try.prog) w t s (by omega)
      clear hd hg hmem
      go_wp2
      go_roundw
      case rel => exact ⟨k - 1, t ++ s, by go_num, by omega, rfl, by rw [ByteArray.size_append]; omega, HD5.out, HB5.out⟩
      case measure => simp [intOf]; omega
    · have hts : t.size ≤ 16 := by omega
      go_wp2
      go_region_with (go_at_call 28; refine (l1Below_draw 3 (w := wr.drew) (HD3.out.stay rfl ((Below.refl _ _).drew)) (by omega) (by omega)).mono ?_; rintro e w3 ⟨y, rfl, y0, y1, hd, hg⟩; obtain ⟨c, c0, c1, hix⟩ := index_sep (P := Try.prog) 9 Try.underlying9 y y0 y1 .i64 w3)
      all_goals
        have HB6 := Lib.hid (HB3.out.drew.trans (low_of_grown hg (Nat.le_refl _) (show w.heap.size ≤ wr.heap.size from HB3.out.size)))
        clear hd hg hix
        go_wp2
        go_ret2
        exact ⟨t, c, rfl, by omega, c0, c1, HB6.out⟩
end Go.Proofs.Ytbpmddjhmoflgaa
