/-
  The document's Write of a message that may be: the text that the program writes.
-/
import Derived.Test.YtjeepmdklbfgeaaDoorRwriteB
import Derived.Test.YtjeepmdklbfgeaaDoorRwriteC
import Derived.Test.YtjeepmdklbfgeaaDoorRwriteD
import Derived.Test.YtjeepmdklbfgeaaDoorRwriteE
import Derived.Test.YtjeepmdklbfgeaaDoorRwriteF
namespace Go.Proofs.YtjeepmdklbfgeaaDoor
open Go.Sort Go.RowKit Go.Proofs.YtjeepmdklbfgeaaDoor.Pure Go.Proofs.YtjeepmdklbfgeaaDoor.W Go.Proofs.YtjeepmdklbfgeaaDoor.W.Pure

theorem rwrite_any (m : Mg) (u : Value) (w : World) (h : MsgV w u m) (hw : Wf m) (hm : mayM m = true) : Calls Tryd.prog 19 #[u] w fun e w' => e = .returned (.string (sealB (tx (enc m)))) ∧ Below w.heap.size w w' := by
  rcases may_kind hm with hk | hk | hk | hk | hk | hk | hk | hk | hk | hk | hk | hk
  · exact rwrite_1 m u w h hw hm hk
  · exact rwrite_2 m u w h hw hm hk
  · exact rwrite_3 m u w h hw hm hk
  · exact rwrite_4 m u w h hw hm hk
  · exact rwrite_5 m u w h hw hm hk
  · exact rwrite_6 m u w h hw hm hk
  · exact rwrite_7 m u w h hw hm hk
  · exact rwrite_8 m u w h hw hm hk
  · exact rwrite_9 m u w h hw hm hk
  · exact rwrite_10 m u w h hw hm hk
  · exact rwrite_11 m u w h hw hm hk
  · rcases hg : m.gd with _ | _
    · exact rwrite_12f m u w h hw hm hk hg
    · exact rwrite_12t m u w h hw hm hk hg
end Go.Proofs.YtjeepmdklbfgeaaDoor
