/-
  The walk of Shuffle.
-/
import Derived.Test.YtjmjeaipdfmglaaDoorShuf
namespace Go.Proofs.YtjmjeaipdfmglaaDoor
open Go.RowKit Go.Proofs.YtjmjeaipdfmglaaDoor.Pure

end Go.Proofs.YtjmjeaipdfmglaaDoor
