/- sort.Search, over any closure that tells whether a place is at or behind k. -/
import Derived.Test.YtnkkjedckehoaaaDoorMem
import Derived.Deep.QuietTactic
import Derived.BigQuiet
import Derived.Shelf.Abstract
namespace Go.Proofs.YtnkkjedckehoaaaDoor
open Go.RowKit

end Go.Proofs.YtnkkjedckehoaaaDoor
