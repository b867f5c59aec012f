/-
  The law's own cut: a message no longer than is looked at.
-/
import Derived.Test.YtjeepmdklbfgeaaDoorMLaw
namespace Go.Proofs.YtjeepmdklbfgeaaDoor
open Go.Sort Go.RowKit Go.Proofs.YtjeepmdklbfgeaaDoor.Pure Go.Proofs.YtjeepmdklbfgeaaDoor.W Go.Proofs.YtjeepmdklbfgeaaDoor.W.Pure

def fewT (s : ByteArray) : ByteArray := if 21 < s.size then s.extract 0 21 else s
def fewM (m : Mg) : Mg := { m with ns := m.ns.take 9, tb := m.tb.take 65, ts := fewT m.ts }
/-- The lists of a message that came in. -/
def Lists (w : World) (m : Mg) (A : Option Addr) (cA : Nat) (T : Option Addr) (cT : Nat) : Prop := Ns w A m.ns ∧ Lst w T m.tb ∧ (m.ns.length ≤ cA ∧ cA ≤ maxLen) ∧ (m.tb.length ≤ cT ∧ cT ≤ maxLen) ∧ m.ts.size ≤ maxLen
def fewV (m : Mg) (A : Option Addr) (cA : Nat) (T : Option Addr) (cT : Nat) : Value := mvv (fewM m) (.slice A (m.ns.take 9).length cA) (.slice T (m.tb.take 65).length cT)
theorem fewT_size (s : ByteArray) : (fewT s).size ≤ 21 := by
  unfold fewT
  split
  · rw [ByteArray.size_extract]; omega
  · omega
theorem few_wf {m : Mg} (h : Wf m) : Wf (fewM m) :=
  ⟨h.sq, h.ep, h.bo, h.tn, h.k, fun y hy => h.ns y (List.mem_of_mem_take hy), fun y hy => h.tb y (List.mem_of_mem_take hy)⟩
end Go.Proofs.YtjeepmdklbfgeaaDoor
