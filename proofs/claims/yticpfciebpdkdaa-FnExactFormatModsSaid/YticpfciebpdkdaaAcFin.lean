/- DERIVED. Six exact laws of chapter 5 over the program's own contracts. -/
import Derived.Test.YticpfciebpdkdaaAcLaw
import Derived.Test.YticpfciebpdkdaaAcMods
import Derived.Test.YticpfciebpdkdaaAcTapI
namespace Go.Proofs.Yticpfciebpdkdaa
open Go.RowKit
theorem lawFormatMods_all (m : Int) (w : World) : Calls Try.prog 3 #[.int .i64 m] w fun e w' => e = .returned (.bool true) ∧ Below w.heap.size w w' := lawFormatMods_walk m w (fun w' _ => implFormatMods_any m w')
theorem lawParseMods_all (s : ByteArray) (w : World) : Calls Try.prog 4 #[.string s] w fun e w' => e = .returned (.bool true) ∧ Below w.heap.size w w' := lawParseMods_walk s w (fun _ w' _ => implParseMods_any s w')
theorem lawIsAction_all (k c m n : Int) (w : World) : Calls Try.prog 5 #[acv k c m n] w fun e w' => e = .returned (.bool true) ∧ Below w.heap.size w w' := lawIsAction_walk k c m n w (fun w' _ => implIsAction_any k c m n w')
theorem lawIsTapHold_all (k c m n : Int) (w : World) : Calls Try.prog 6 #[acv k c m n] w fun e w' => e = .returned (.bool true) ∧ Below w.heap.size w w' := lawIsTapHold_walk k c m n w (fun w' _ => implIsTapHold_any k c m n w')
theorem lawTapOf_all (k c m n : Int) (w : World) : Calls Try.prog 7 #[acv k c m n] w fun e w' => e = .returned (.bool true) ∧ Below w.heap.size w w' := lawTapOf_walk k c m n w (fun w' _ => implTapOf_any k c m n w')
theorem lawHoldOf_all (k c m n : Int) (w : World) : Calls Try.prog 8 #[acv k c m n] w fun e w' => e = .returned (.bool true) ∧ Below w.heap.size w w' := lawHoldOf_walk k c m n w (fun w' _ => implHoldOf_any k c m n w')

end Go.Proofs.Yticpfciebpdkdaa
