/- carpetbagref01.Rows at two rows that are the same. -/
import Derived.Test.YtohnommmmdlnpaaMem
import Derived.Deep.QuietTactic
import Derived.BigQuiet
namespace Go.Proofs.Ytohnommmmdlnpaa
open Go.RowKit

end Go.Proofs.Ytohnommmmdlnpaa
