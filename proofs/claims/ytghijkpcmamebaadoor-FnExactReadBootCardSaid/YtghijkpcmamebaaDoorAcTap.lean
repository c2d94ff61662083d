/- DERIVED. The reference's TapOf and HoldOf: each returns what a plain function says. · The program's TapOf and HoldOf: each returns what a plain function says. · The exact laws of chapter 5: each, called with any arguments, returns true and changes nothing that was there, where the program's function answers as the plain function. · The exact laws of chapter 5: each, called with any arguments, returns true and changes nothing that was there, where the program's function answers as the plain function. -/
import Derived.Test.YtghijkpcmamebaaDoorAcOk
import Derived.Test.YtghijkpcmamebaaDoorAcImpl
import Derived.Test.YtghijkpcmamebaaDoorAcs
import Derived.Test.YtghijkpcmamebaaDoorLawBits
import Derived.Test.YtghijkpcmamebaaDoorAcPa2
namespace Go.Proofs.YtghijkpcmamebaaDoor
open Go.RowKit


end Go.Proofs.YtghijkpcmamebaaDoor
