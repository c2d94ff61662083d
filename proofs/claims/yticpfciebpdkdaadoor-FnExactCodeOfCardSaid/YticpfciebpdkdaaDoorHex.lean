/- DERIVED. FormatHex, the program's and the reference's: each returns two digits for each byte, and the empty text for more than 2000 bytes. Called with a slice that reads as known numbers from 0 to 255. -/
import Derived.Test.YticpfciebpdkdaaDoorBytes
import Derived.Deep.RegionHeld3
import Derived.Deep.AppendLies
import Derived.Test.YticpfciebpdkdaaDoorNum
namespace Go.Proofs.YticpfciebpdkdaaDoor
open Go.RowKit

/-- The letter of a digit from 0 to 15. -/
def hexByte (d : Int) : Int := if d < 10 then 48 + d else 87 + d
def hexs (zs : List Int) : List Int := zs.flatMap fun x => [hexByte (x / 16), hexByte (x % 16)]
theorem hexs_snoc (zs : List Int) (x : Int) : hexs (zs ++ [x]) = hexs zs ++ [hexByte (x / 16), hexByte (x % 16)] := by simp [hexs]
theorem hexs_length (zs : List Int) : (hexs zs).length = 2 * zs.length := by
  unfold hexs; induction zs with
  | nil => rfl
  | cons x r ih => simp [ih]; omega
theorem take_snoc (zs : List Int) (k : Nat) (h : k < zs.length) : zs.take (k + 1) = zs.take k ++ [zs.getD k 0] := by
  rw [List.take_succ_eq_append_getElem h]; simp [List.getElem?_eq_getElem h]

def hexText (zs : List Int) : ByteArray := if zs.length ≤ 2000 then strOfNums (hexs zs) else strOfNums []

theorem hexGet : ∀ m : Fin 16, (((⟨#[48, 49, 50, 51, 52, 53, 54, 55, 56, 57, 97, 98, 99, 100, 101, 102]⟩ : ByteArray)[m.val]'(m.isLt)).toNat : Int) = hexByte m.val := by decide
theorem index_hex {P : Program} (t : TypeId) (ht : P.underlying t = some .string) (d : Int) (h0 : 0 ≤ d) (h1 : d < 16) (k : IntKind) (w : World) :
    (Instr.index t (.string ⟨#[48, 49, 50, 51, 52, 53, 54, 55, 56, 57, 97, 98, 99, 100, 101, 102]⟩) (.int k d)).run P w = .ok (.int .u8 (hexByte d)) w := by
  obtain ⟨m, rfl⟩ := Int.eq_ofNat_of_zero_le h0
  have hm : m < 16 := by omega
  rw [run_index_string w t _ k _ ht, dif_pos ⟨h0, by show (m : Int) < (16 : Nat); omega⟩]
  have := hexGet ⟨m, hm⟩
  simp only [Int.toNat_natCast]
  rw [this]

end Go.Proofs.YticpfciebpdkdaaDoor
