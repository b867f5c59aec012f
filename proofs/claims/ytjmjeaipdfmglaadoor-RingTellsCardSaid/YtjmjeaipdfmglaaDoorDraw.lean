/-
  The walks of Draw and Below, of the document and of the program.
-/
import Derived.Test.YtjmjeaipdfmglaaDoorCheck
import Derived.Deep.RegionHeld3
import Derived.BigQuiet
import Derived.Deep.QuietTactic
import Derived.BigRegion
import Derived.RegionTactic
namespace Go.Proofs.YtjmjeaipdfmglaaDoor
open Go.RowKit Go.Proofs.YtjmjeaipdfmglaaDoor.Pure

end Go.Proofs.YtjmjeaipdfmglaaDoor
