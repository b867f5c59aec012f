/-
  The walks of Check and May, and of the law's cuts.
-/
import Derived.Test.YtjmjeaipdfmglaaDoorMem
namespace Go.Proofs.YtjmjeaipdfmglaaDoor
open Go.RowKit Go.Proofs.YtjmjeaipdfmglaaDoor.Pure

end Go.Proofs.YtjmjeaipdfmglaaDoor
