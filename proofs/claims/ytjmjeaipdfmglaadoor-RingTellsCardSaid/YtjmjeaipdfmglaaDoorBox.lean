/-
  Dice in a box: what a variable of theirs holds.
-/
import Derived.Test.YtjmjeaipdfmglaaDoorShuffle
namespace Go.Proofs.YtjmjeaipdfmglaaDoor
open Go.RowKit Go.Proofs.YtjmjeaipdfmglaaDoor.Pure

end Go.Proofs.YtjmjeaipdfmglaaDoor
