/- DERIVED. FnActions, where the tables are as their texts lay them: every drawn action is read from its text and from its bytes, and what is tapped or held of it can be neither again. The program's PackAction and UnpackAction as premises. -/
import Derived.Test.YtnfnhbldphiohaaDoorAcMath
import Derived.Test.YtnfnhbldphiohaaDoorAcTap
import Derived.Test.YtnfnhbldphiohaaDoorAcDraw
import Derived.Test.YtnfnhbldphiohaaDoorDraw
import Derived.Test.YtnfnhbldphiohaaDoorKmSpec
import Derived.Test.YtnfnhbldphiohaaDoorLawBits
import Derived.Laws.StructEq
namespace Go.Proofs.YtnfnhbldphiohaaDoor
open Go.RowKit

theorem packV_len3 (a : Ac) : (packV a).length ≤ 3 := by unfold packV; split <;> simp
theorem unpack_pack {a : Ac} (h : okAc a.k a.c a.m a.n = true) : unpackV (packV a) = (a, true) := by
  obtain ⟨k, c, m, n⟩ := a
  have hl := okAc_lim h
  simp only at h hl
  have e1 : (16 * k + n) / 16 = k := by omega
  have e2 : (16 * k + n) % 16 = n := by omega
  have hp : packV ⟨k, c, m, n⟩ = [16 * k + n, c, m] := by rw [packV, if_pos h]
  rw [hp]
  unfold unpackV
  simp only [List.length_cons, List.length_nil, List.getD_cons_zero, List.getD_cons_succ, e1, e2, if_pos h]
  rfl
theorem pack_bytes {a : Ac} (h : okAc a.k a.c a.m a.n = true) : ∀ z ∈ packV a, 0 ≤ z ∧ z < 256 := by
  have hl := okAc_lim h
  intro z hz
  rw [packV, if_pos h] at hz
  simp at hz
  omega
theorem acS_size2 (k c m n : Int) : (acS k c m n).size ≤ 1048576 := by
  unfold acS
  split
  · rename_i h
    obtain ⟨⟨k0, k1⟩, -, -, n0, n3⟩ := okAc_lim h
    have h1 := mdV_size m
    have h2 := nmV_size c
    have h3 : (itoaText n).size = 1 := by rw [itoa_few n0 n3]; rfl
    have e1 : (⟨#[110, 111, 110, 101]⟩ : ByteArray).size = 4 := rfl
    have e2 : (⟨#[112, 97, 115, 115]⟩ : ByteArray).size = 4 := rfl
    have e3 : (⟨#[109, 111, 58]⟩ : ByteArray).size = 3 := rfl
    have e4 : (⟨#[116, 103, 58]⟩ : ByteArray).size = 3 := rfl
    have e5 : (⟨#[116, 111, 58]⟩ : ByteArray).size = 3 := rfl
    have e6 : (⟨#[47]⟩ : ByteArray).size = 1 := rfl
    have e7 : (⟨#[111, 110, 99, 101, 58]⟩ : ByteArray).size = 5 := rfl
    have e8 : (⟨#[109, 97, 99, 114, 111, 58]⟩ : ByteArray).size = 6 := rfl
    have e9 : (⟨#[99, 97, 112, 115]⟩ : ByteArray).size = 4 := rfl
    have e10 : (⟨#[45]⟩ : ByteArray).size = 1 := rfl
    have two : ∀ (a b : ByteArray) (n : Nat), a.size + b.size ≤ n → (a ++ b).size ≤ n := fun a b n hh => by rw [ByteArray.size_append]; exact hh
    have three : ∀ (a b c : ByteArray) (n : Nat), a.size + b.size + c.size ≤ n → (a ++ b ++ c).size ≤ n := fun a b c n hh => by rw [ByteArray.size_append, ByteArray.size_append]; exact hh
    have hk : k = 0 ∨ k = 1 ∨ k = 2 ∨ k = 3 ∨ k = 4 ∨ k = 5 ∨ k = 6 ∨ k = 7 ∨ k = 8 ∨ k = 9 ∨ k = 10 := by omega
    clear k0 k1 h n0 n3
    rcases hk with rfl | rfl | rfl | rfl | rfl | rfl | rfl | rfl | rfl | rfl | rfl
    · have e : acT 0 c m n = ⟨#[110, 111, 110, 101]⟩ := rfl
      rw [e]; omega
    · have e : acT 1 c m n = ⟨#[112, 97, 115, 115]⟩ := rfl
      rw [e]; omega
    · by_cases hm : m = 0
      · have e : acT 2 c m n = nmV c := if_pos hm
        rw [e]; omega
      · have e : acT 2 c m n = mdV m ++ ⟨#[45]⟩ ++ nmV c := if_neg hm
        rw [e]; exact three _ _ _ _ (by omega)
    · have e : acT 3 c m n = ⟨#[109, 111, 58]⟩ ++ itoaText n := rfl
      rw [e]; exact two _ _ _ (by omega)
    · have e : acT 4 c m n = ⟨#[116, 103, 58]⟩ ++ itoaText n := rfl
      rw [e]; exact two _ _ _ (by omega)
    · have e : acT 5 c m n = ⟨#[116, 111, 58]⟩ ++ itoaText n := rfl
      rw [e]; exact two _ _ _ (by omega)
    · have e : acT 6 c m n = mdV m ++ ⟨#[47]⟩ ++ nmV c := rfl
      rw [e]; exact three _ _ _ _ (by omega)
    · have e : acT 7 c m n = itoaText n ++ ⟨#[47]⟩ ++ nmV c := rfl
      rw [e]; exact three _ _ _ _ (by omega)
    · have e : acT 8 c m n = ⟨#[111, 110, 99, 101, 58]⟩ ++ mdV m := rfl
      rw [e]; exact two _ _ _ (by omega)
    · have e : acT 9 c m n = ⟨#[109, 97, 99, 114, 111, 58]⟩ ++ itoaText n := rfl
      rw [e]; exact two _ _ _ (by omega)
    · have e : acT 10 c m n = ⟨#[99, 97, 112, 115]⟩ := rfl
      rw [e]; omega
  · exact Nat.zero_le _
theorem code_back0 {c : Int} (h0 : 0 ≤ c) (h1 : c ≤ 56) : codeV (nmV c) = c.toNat := by
  have := List.all_eq_true.1 code_back c.toNat (by rw [List.mem_range]; omega)
  have h2 := of_decide_eq_true this
  rwa [Int.toNat_of_nonneg h0] at h2
theorem mods_back0 {m : Int} (h0 : 0 ≤ m) (h1 : m ≤ 15) : pmV (mdV m) = m.toNat := by
  have := List.all_eq_true.1 mods_back m.toNat (by rw [List.mem_range]; omega)
  have h2 := of_decide_eq_true this
  rwa [Int.toNat_of_nonneg h0] at h2
theorem implCodeName_f (c : Int) (N : ByteArray) (hN : N = nmV c) (w : World) (ht : AcTabs w) : Calls Tryd.prog 62 #[.int .i64 c] w fun e w' => e = .returned (.string N) ∧ Below w.heap.size w w' := by
  rw [hN]; exact (implCodeName_any c w ht.nm).mono fun e w' h => ⟨h.1, by rw [← h.2]; exact Below.refl _ _⟩
theorem implFormatMods_f (m : Int) (N : ByteArray) (hN : N = mdV m) (w : World) : Calls Tryd.prog 61 #[.int .i64 m] w fun e w' => e = .returned (.string N) ∧ Below w.heap.size w w' := by
  rw [hN]; exact implFormatMods_any m w
theorem implParseAction_n (s : ByteArray) (z : Ac) (b : Bool) (hz : (z, b) = acP s) (w : World) (ht : AcTabs w) (hl : s.size ≤ 1048576) : Calls Tryd.prog 59 #[.string s] w fun e w' => e = .returned (.tuple #[acv z.k z.c z.m z.n, .bool b]) ∧ Below w.heap.size w w' := by
  have := implParseAction_any s w ht hl
  rw [← hz] at this; exact this
end Go.Proofs.YtnfnhbldphiohaaDoor
