/-
  The walks of Text and TakeText, of the program and of the document.
-/
import Derived.Test.YtlpnhpnigljlnaaDoorRnum
import Derived.Test.YtlpnhpnigljlnaaDoorRtake
import Derived.WalkSpells
namespace Go.Proofs.YtlpnhpnigljlnaaDoor
open Go.RowKit Go.Proofs.YtlpnhpnigljlnaaDoor.Pure

theorem ret_text {a b : ByteArray} {k l : Int} (h : a = b) (h' : k = l) : Ending.returned (.tuple #[.string a, .int .i64 k]) = .returned (.tuple #[.string b, .int .i64 l]) := by rw [h, h']
end Go.Proofs.YtlpnhpnigljlnaaDoor
