/- DERIVED. FormatHex, the program's and the reference's: each returns two digits for each byte, and the empty text for more than 2000 bytes. Called with a slice that reads as known numbers from 0 to 255. -/
import Derived.Test.YtbpmddjhmoflgaaBytes
import Derived.Deep.RegionHeld3
import Derived.Deep.AppendLies
import Derived.Test.YtbpmddjhmoflgaaNum
namespace Go.Proofs.Ytbpmddjhmoflgaa
open Go.RowKit

/-- The letter of a digit from 0 to 15. -/
def hexByte (d : Int) : Int := if d < 10 then 48 + d else 87 + d
def hexs (zs : List Int) : List Int := zs.flatMap fun x => [hexByte (x / 16), hexByte (x % 16)]
theorem hexs_snoc (zs : List Int) (x : Int) : hexs (zs ++ [x]) = hexs zs ++ [hexByte (x / 16), hexByte (x % 16)] := by simp [hexs]
theorem hexs_length (zs : List Int) : (hexs zs).length = 2 * zs.length := by
  unfold hexs; induction zs with
  | nil => rfl
  | cons x r ih => simp [ih]; omega
theorem take_snoc (zs : List Int) (k : Nat) (h : k < zs.length) : zs.take (k + 1) = zs.take k ++ [zs.getD k 0] := by
  rw [List.take_succ_eq_append_getElem h]; simp [List.getElem?_eq_getElem h]

def hexText (zs : List Int) : ByteArray := if zs.length ≤ 2000 then strOfNums (hexs zs) else strOfNums []

theorem hexGet : ∀ m : Fin 16, (((⟨#[48, 49, 50, 51, 52, 53, 54, 55, 56, 57, 97, 98, 99, 100, 101, 102]⟩ : ByteArray)[m.val]'(m.isLt)).toNat : Int) = hexByte m.val := by decide
theorem index_hex {P : Program} (t : TypeId) (ht : P.underlying t = some .string) (d : Int) (h0 : 0 ≤ d) (h1 : d < 16) (k : IntKind) (w : World) :
    (Instr.index t (.string ⟨#[48, 49, 50, 51, 52, 53, 54, 55, 56, 57, 97, 98, 99, 100, 101, 102]⟩) (.int k d)).run P w = .ok (.int .u8 (hexByte d)) w := by
  obtain ⟨m, rfl⟩ := Int.eq_ofNat_of_zero_le h0
  have hm : m < 16 := by omega
  rw [run_index_string w t _ k _ ht, dif_pos ⟨h0, by show (m : Int) < (16 : Nat); omega⟩]
  have := hexGet ⟨m, hm⟩
  simp only [Int.toNat_natCast]
  rw [this]

set_option maxHeartbeats 800000 in
theorem specFormatHex_any (v : Value) (zs : List Int) (w : World) (hl : zs.length ≤ 1048576) (hz : ∀ z ∈ zs, 0 ≤ z ∧ z < 256) (h : Rd w v (zs.map (.int .u8))) :
    Calls Try.prog 19 #[v] w fun e w' => e = .returned (.string (hexText zs)) ∧ Below w.heap.size w w' := by
  obtain ⟨i0, hi, hz0, hz1, hz2⟩ := info_parts info_u8
  rcases h.cases with ⟨hx, a, cap, rfl⟩ | ⟨hx, b, off, cap, rfl, hlt, hc⟩
  · have hx' : zs = [] := by simpa using hx
    subst hx'
    have hcv := conv_owned (P := Try.prog) (src := 22) (dst := 9) (w := w.alloc (.cells #[] 5)) (base := w.heap.size) (v := .slice (some ⟨w.heap.size, 0, none⟩) 0 0) (n := 0) (ns := []) Try.underlying22 Try.underlying5 Try.underlying9 (World.ownsRow_lit w #[] 0 (Nat.le_refl _) (by simp [maxLen]) rfl)
    clear h hx
    go_enter Try.func19, Try.ntmps19
    go_wp2
    refine wp_loop_rounds 1 ?_
    rw [rounds_succ]
    go_wp2
    go_ret
    exact ⟨rfl, (Below.refl _ _).alloc (Nat.le_refl _) _⟩
  · have hn : (zs.map (Value.int .u8)).length = zs.length := by simp
    rw [hn]
    have hc' : ∀ j, j < zs.length → w.cell? ⟨b, off + j, none⟩ = some (.int .u8 (zs.getD j 0)) := fun j hj => by
      rw [hc j (by simpa using hj), getD_map_int]
    clear hc h hx hn
    by_cases hbig : zs.length ≤ 2000
    · have hbig' : (zs.length : Int) ≤ 2000 := by omega
      go_enter Try.func19, Try.ntmps19
      go_wp2
      go_loopw [3, 4] (fun u i wr => ∃ (k : Nat), k ≤ zs.length ∧ i = .int .i64 k ∧ wr.ownsRow w.heap.size 5 1 u (2 * k) ((hexs (zs.take k)).map (.int .u8)) ∧ Below w.heap.size w wr)
        (fun _ i _ => zs.length - (intOf i).toNat)
      case atStart => exact ⟨0, Nat.zero_le _, rfl, World.ownsRow_lit w #[] 0 (Nat.le_refl _) (by simp [maxLen]) rfl, (Below.refl _ _).alloc (Nat.le_refl _) _⟩
      case round =>
        obtain ⟨k, hk, rfl, hown, hb⟩ := hrel
        by_cases hlt' : k < zs.length
        · obtain ⟨x, hxd⟩ : ∃ x, x = zs.getD k 0 := ⟨_, rfl⟩
          have hcell : wr.cell? ⟨b, off + k, none⟩ = some (.int .u8 x) := by rw [hxd]; exact (hb.cell (p := ⟨b, off + k, none⟩) hlt).trans (hc' k hlt')
          obtain ⟨x0, x1⟩ : 0 ≤ x ∧ x < 256 := hz x (by rw [hxd]; simp [List.getElem?_eq_getElem hlt'])
          have HX := Lib.hid hxd
          have HO := Lib.hid hown
          have HB := Lib.hid hb
          have HC := Lib.hid hc'
          have HZ := Lib.hid hz
          clear hxd hown hb hc' hz
          have hi1 := fun (w : World) => index_hex (P := Try.prog) 9 Try.underlying9 (x / 16) (by omega) (by omega) .i64 w
          have hi2 := fun (w : World) => index_hex (P := Try.prog) 9 Try.underlying9 (x % 16) (by omega) (by omega) .i64 w
          have e1 : IntKind.i64.wrap x = x := IntWalk.i64_in _ ⟨by omega, by omega⟩
          have t2 : x.tdiv 16 = x / 16 := Int.tdiv_eq_ediv_of_nonneg x0
          have t3 : x.tmod 16 = x % 16 := Int.tmod_eq_emod_of_nonneg x0
          have e2 : IntKind.i64.wrap (x / 16) = x / 16 := IntWalk.i64_in _ ⟨by omega, by omega⟩
          have b63 : 2 * k + 2 ≤ maxLen := by unfold maxLen; omega
          have b47 : (2 * k + 2) * 1 ≤ 140737488355328 := by omega
          have bsz : w.heap.size ≤ wr.heap.size := HB.out.size
          have hnb : u3.ownBlock ≠ some b := fun e => by have := HO.out.lt b e; omega
          have hbw : b < wr.heap.size := by omega
          go_wp2
          go_region_held3 (fun w' => w'.cell? ⟨b, off + k, none⟩ = some (.int .u8 x)) (first | go_keep | (rw [hgrow.cell_far _ (by simp; omega) (Ne.symm hnb)]; simp [go_sem, *]))
            ((refine step_append_lies _ (by rfl) _ _ _ (by rfl) w.heap.size 5 i0 _ 1 1 Try.underlying22 hi hz0 hz1 hz2 rfl (by omega) u3 _ _ (by rfl) ((HO.out.alloc _).drew) ⟨wr.heap.size, 0, none⟩ 2 2 [.int .u8 (hexByte (x / 16)), .int .u8 (hexByte (x % 16))] (by rfl) (by rfl) (World.news_of_block (cs := #[.int .u8 (hexByte (x / 16)), .int .u8 (hexByte (x % 16))]) (t := 5) (fr := (0, 0)) (heap_alloc_new wr _)) (by simp [Value.oneCell']) (by omega) b63 b47 (by simp; omega) (wr.heap.size + 1) (by simp) ?_; intro gg cap1 w1 hown1 hgrow hat hlt1))
          all_goals
            have hbw1 : Below w.heap.size w w1 := (((HB.out.alloc bsz _).drew).grown hgrow (by simp; omega) (fun j hj => (HO.out.lt j hj).1))
            have HG := Lib.hid hown1
            have HB1 := Lib.hid hbw1
            clear hi1 hi2 e1 e2 t2 t3 hown1 hbw1 hgrow hat hlt1 hcell
            go_wp2
            go_roundw
            case rel =>
              refine ⟨k + 1, by omega, by go_num, ?_, HB1.out⟩
              rw [take_snoc zs k hlt', hexs_snoc, ← HX.out]
              simpa [Nat.mul_add] using HG.out
            case measure => simp [intOf]; omega
        · obtain rfl : k = zs.length := by omega
          have hcv := conv_owned (P := Try.prog) (src := 22) (dst := 9) Try.underlying22 Try.underlying5 Try.underlying9 hown
          rw [List.take_length] at hcv
          have HB := Lib.hid hb
          clear hown hb hc' hz
          go_wp2
          go_ret
          exact ⟨by rw [hexText, if_pos hbig]; rfl, HB.out⟩
    · have hcv := conv_owned (P := Try.prog) (src := 22) (dst := 9) (w := w.alloc (.cells #[] 5)) (base := w.heap.size) (v := .slice (some ⟨w.heap.size, 0, none⟩) 0 0) (n := 0) (ns := []) Try.underlying22 Try.underlying5 Try.underlying9 (World.ownsRow_lit w #[] 0 (Nat.le_refl _) (by simp [maxLen]) rfl)
      have hbig' : (2000 : Int) < (zs.length : Int) := by omega
      have hpos : (0 : Int) < (zs.length : Int) := by omega
      clear hc' hz
      go_enter Try.func19, Try.ntmps19
      go_wp2
      refine wp_loop_rounds 1 ?_
      rw [rounds_succ]
      go_wp2
      go_ret
      exact ⟨by rw [hexText, if_neg hbig]; rfl, (Below.refl _ _).alloc (Nat.le_refl _) _⟩
end Go.Proofs.Ytbpmddjhmoflgaa
