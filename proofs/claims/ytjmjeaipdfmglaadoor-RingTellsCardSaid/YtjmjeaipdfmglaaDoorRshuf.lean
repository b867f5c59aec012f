/-
  The walk of the document's Shuffle.
-/
import Derived.Test.YtjmjeaipdfmglaaDoorBox
import Derived.Deep.DeepCutAuto
namespace Go.Proofs.YtjmjeaipdfmglaaDoor
open Go.RowKit Go.Proofs.YtjmjeaipdfmglaaDoor.Pure

end Go.Proofs.YtjmjeaipdfmglaaDoor
