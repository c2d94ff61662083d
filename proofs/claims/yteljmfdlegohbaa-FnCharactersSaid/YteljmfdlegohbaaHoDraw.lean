/- DERIVED. The reference's draw of a text: at most so many characters, each of which has a code. -/
import Derived.Test.YteljmfdlegohbaaHoMath
import Derived.Test.YteljmfdlegohbaaPick
namespace Go.Proofs.Yteljmfdlegohbaa
open Go.RowKit

def chars17 : List ByteArray := [⟨#[97]⟩, ⟨#[98]⟩, ⟨#[90]⟩, ⟨#[122]⟩, ⟨#[49]⟩, ⟨#[48]⟩, ⟨#[33]⟩, ⟨#[41]⟩, ⟨#[32]⟩, ⟨#[45]⟩, ⟨#[95]⟩, ⟨#[61]⟩, ⟨#[43]⟩, ⟨#[10]⟩, ⟨#[9]⟩, ⟨#[113]⟩, ⟨#[81]⟩]
def bytes17 : List UInt8 := [97, 98, 90, 122, 49, 48, 33, 41, 32, 45, 95, 61, 43, 10, 9, 113, 81]
theorem chars17_eq : chars17 = bytes17.map fun x => (⟨#[x]⟩ : ByteArray) := rfl
theorem bytes17_ok : bytes17.all (fun x => !decide ((koP x).1 = 0)) = true := by kernel_rfl
theorem chars17_ok : ∀ s ∈ chars17, ∃ x : UInt8, s = ⟨#[x]⟩ ∧ ¬ (koP x).1 = 0 := fun s hs => by
  rw [chars17_eq, List.mem_map] at hs
  obtain ⟨x, hx, rfl⟩ := hs
  exact ⟨x, rfl, by have := List.all_eq_true.1 bytes17_ok x hx; simpa using this⟩
theorem chars17_cells (w : World) (t : TypeId) : ∀ j, j < chars17.length → (w.alloc (.cells #[.string ⟨#[97]⟩, .string ⟨#[98]⟩, .string ⟨#[90]⟩, .string ⟨#[122]⟩, .string ⟨#[49]⟩, .string ⟨#[48]⟩, .string ⟨#[33]⟩, .string ⟨#[41]⟩, .string ⟨#[32]⟩, .string ⟨#[45]⟩, .string ⟨#[95]⟩, .string ⟨#[61]⟩, .string ⟨#[43]⟩, .string ⟨#[10]⟩, .string ⟨#[9]⟩, .string ⟨#[113]⟩, .string ⟨#[81]⟩] t)).cell? ⟨w.heap.size, j, none⟩ = some (.string (chars17.getD j ByteArray.empty)) := by
  intro j hj
  rw [World.cell?_alloc_at _ _ _ _ rfl]
  have h : j < 17 := hj
  rcases (show j = 0 ∨ j = 1 ∨ j = 2 ∨ j = 3 ∨ j = 4 ∨ j = 5 ∨ j = 6 ∨ j = 7 ∨ j = 8 ∨ j = 9 ∨ j = 10 ∨ j = 11 ∨ j = 12 ∨ j = 13 ∨ j = 14 ∨ j = 15 ∨ j = 16 by omega) with rfl | rfl | rfl | rfl | rfl | rfl | rfl | rfl | rfl | rfl | rfl | rfl | rfl | rfl | rfl | rfl | rfl <;> rfl
theorem TyO.nil : TyO [] := fun _ h => by cases h
theorem TyO.snoc {l : List UInt8} {x : UInt8} (h : TyO l) (hx : ¬ (koP x).1 = 0) : TyO (l ++ [x]) := fun y hy => by
  rcases List.mem_append.1 hy with h1 | h1
  · exact h y h1
  · rw [List.mem_singleton] at h1; rw [h1]; exact hx

set_option maxHeartbeats 2000000 in
set_option maxRecDepth 100000 in
theorem l12Text_draw {B b n : Nat} {v : Value} {zs : List Int} {w : World} (M : Nat) (h : Draws B b v n zs w) (hM : M ≤ 1000) :
    Calls Try.prog 101 #[.pointer (some ⟨b, 0, none⟩), .int .i64 (M : Int)] w fun e w' => ∃ l, e = .returned (.string (tS l)) ∧ (l.length ≤ M ∧ TyO l) ∧ Below B w w' := by
  have HD := Lib.hid h
  have HLow := Lib.hid h.low
  clear h
  have hw : wrap64 ((M : Int) + 1) = (M : Int) + 1 := IntWalk.wrap64_in _ ⟨by omega, by omega⟩
  go_enter Try.func101, Try.ntmps101
  go_wp2_with fail
  refine (l1Below_draw ((M : Int) + 1) HD.out (by omega) (by omega)).mono ?_
  rintro e w2 ⟨x, rfl, x0, x1, hd, hg⟩
  have HD2 := Lib.hid hd
  have HB2 := Lib.hid (low_of_grown hg HLow.out (Nat.le_trans HLow.out (Nat.le_of_lt HD.out.lt)))
  clear hd hg
  go_wp2
  go_loopw [5, 6] (fun s i wr => ∃ (k : Nat) (l : List UInt8), i = .int .i64 k ∧ k ≤ M ∧ s = .string (tS l) ∧ l.length + k ≤ M ∧ TyO l ∧ Draws B b v n zs wr ∧ Below B w wr)
    (fun _ i _ => (intOf i).toNat)
  case atStart =>
    obtain ⟨k, rfl⟩ := Int.eq_ofNat_of_zero_le x0
    exact ⟨k, [], rfl, by omega, rfl, by simp; omega, TyO.nil, HD2.out, HB2.out⟩
  case round =>
    obtain ⟨k, l, rfl, hk, rfl, hl, hty, hd, hb⟩ := hrel
    have HD3 := Lib.hid hd
    have HB3 := Lib.hid hb
    have HTY := Lib.hid hty
    have hlt := hd.lt
    obtain ⟨t, ht⟩ : ∃ t, t = tS l := ⟨_, rfl⟩
    have hts : t.size = l.length := by rw [ht]; rfl
    have HT := Lib.hid ht
    rw [← ht]
    clear hd hb hty ht
    by_cases hk0 : (0 : Int) < k
    · have hle : B ≤ wr.heap.size := Nat.le_trans HLow.out (Nat.le_of_lt hlt)
      have HB4 := Lib.hid (HB3.out.alloc hle (.cells #[.string ⟨#[97]⟩, .string ⟨#[98]⟩, .string ⟨#[90]⟩, .string ⟨#[122]⟩, .string ⟨#[49]⟩, .string ⟨#[48]⟩, .string ⟨#[33]⟩, .string ⟨#[41]⟩, .string ⟨#[32]⟩, .string ⟨#[45]⟩, .string ⟨#[95]⟩, .string ⟨#[61]⟩, .string ⟨#[43]⟩, .string ⟨#[10]⟩, .string ⟨#[9]⟩, .string ⟨#[113]⟩, .string ⟨#[81]⟩] 9))
      have HD4 := Lib.hid (HD3.out.stay (w' := wr.alloc (.cells #[.string ⟨#[97]⟩, .string ⟨#[98]⟩, .string ⟨#[90]⟩, .string ⟨#[122]⟩, .string ⟨#[49]⟩, .string ⟨#[48]⟩, .string ⟨#[33]⟩, .string ⟨#[41]⟩, .string ⟨#[32]⟩, .string ⟨#[45]⟩, .string ⟨#[95]⟩, .string ⟨#[61]⟩, .string ⟨#[43]⟩, .string ⟨#[10]⟩, .string ⟨#[9]⟩, .string ⟨#[113]⟩, .string ⟨#[81]⟩] 9)) (Below.heap_alloc _ _ _ hlt) ((Below.refl _ _).alloc hle _))
      go_wp2_with fail
      refine (l1Pick_draw wr.heap.size chars17 HD4.out (by decide) (by decide) (by omega) (chars17_cells wr _)).mono ?_
      rintro e w3 ⟨s, rfl, hmem, hd, hg⟩
      obtain ⟨y, hs, hy⟩ := chars17_ok s hmem
      have hss : s.size = 1 := by rw [hs]; rfl
      have HD5 := Lib.hid hd
      have HB5 := Lib.hid (HB4.out.trans (low_of_grown hg HLow.out (by simp; omega)))
      have hadd := fun (w : World) => run_string_add_sum (P := Try.prog) w t s (by omega)
      obtain ⟨t2, ht2⟩ : ∃ t2, t2 = t ++ s := ⟨_, rfl⟩
      rw [← ht2] at hadd
      have HT2 := Lib.hid (show t2 = tS (l ++ [y]) by rw [ht2, HT.out, hs]; exact ba_app l [y])
      have HY := Lib.hid (HTY.out.snoc hy)
      clear hd hg hmem hs hy ht2
      go_wp2
      go_roundw
      case rel => exact ⟨k - 1, l ++ [y], by go_num, by omega, by rw [HT2.out], by simp; omega, HY.out, HD5.out, HB5.out⟩
      case measure => simp [intOf]; omega
    · have hts2 : l.length ≤ M := by omega
      go_wp2
      go_ret
      exact ⟨l, by rw [HT.out]; rfl, ⟨hts2, HTY.out⟩, HB3.out⟩

theorem MakeText_draw (v : Value) (zs : List Int) (M : Nat) (w : World) (hl : zs.length ≤ 1099511627776) (hz : ∀ z ∈ zs, 0 ≤ z ∧ z < 256) (h : Rd w v (zs.map (.int .u8))) (hM : M ≤ 1000) :
    Calls Try.prog 32 #[v, .int .i64 (M : Int)] w fun e w' => ∃ l, e = .returned (.string (tS l)) ∧ (l.length ≤ M ∧ TyO l) ∧ Below w.heap.size w w' := by
  have HZ := Lib.hid hz
  have HR := Lib.hid h
  clear hz h
  go_enter Try.func32, Try.ntmps32
  go_wp2_with fail
  refine (l24New_draw v zs 12 _ hl HZ.out HR.out).mono ?_
  rintro e w1 ⟨rfl, hd, hb, hlt⟩
  have HB := Lib.hid hb
  have HD := Lib.hid hd
  clear hd hb
  go_wp2_with fail
  refine (l12Text_draw M HD.out hM).mono ?_
  rintro e w2 ⟨l, rfl, hq, hb⟩
  have HB2 := Lib.hid (HB.out.trans hb)
  have HQ := Lib.hid hq
  clear hb hq
  go_wp2
  go_ret
  exact ⟨l, rfl, HQ.out, HB2.out⟩

end Go.Proofs.Yteljmfdlegohbaa
