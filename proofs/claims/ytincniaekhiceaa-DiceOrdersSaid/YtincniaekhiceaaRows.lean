/-
  No cell of these rows narrows 'for every input' (looked for: loops, veiled, ifaces, maps, wideKeys, modest, calm, conditions, laid).
  DERIVED. THE GIVEN ROWS OF THIS SEAT. 6 by the template 'for every input the law returns true; each argument reads behind the call as it read before'; 0 by the template 'total and deterministic' (their statements: YtincniaekhiceaaTotals.lean).
  GIVEN WITH THE SEED: the statements are not yours to turn. If you find one false, say at which input.
  Laid BY PROGRAM, IN A SANDBOX (cutbox-rows.mjs): the forced cells as the released guide's own fill.sh prints them over the translation eceb3255f7b649c6… (all of the seat's roots in one cut). By AI agents, Wed Nov 11 2026. No macro, syntax, notation, axiom, sorry.
-/
import Derived.Test.YtincniaekhiceaaChecked
import GoSem.Claim
import GoSem.ClaimJoined
import GoSem.ClaimMapViews
import Derived.JoinedTies
import Derived.KernelRfl
namespace Go.Proofs.Ytincniaekhiceaa
/- THE CELL 'sum', in the pinned program and in every row, IS THE sha256 OF THE DUMP (.gsa) THAT YtincniaekhiceaaProg.lean LOADS. Nothing in Lean hashes anything: it is a label: what it is worth is what the hold of that sum in a sandbox is worth. -/
noncomputable def Try.pinned : Pinned := { name := "ytincniaekhiceaa", sum := "eceb3255f7b649c6e77af77680318f5285e1545a32b4599adf65e1125eeb07a9", checked := Try.checked }
namespace Rows
def none {H : Type} : Left H := { results := [], args := [] }

/-- 'tattlelaw02.DiceDraws': WHATEVER THE INPUT: true; the input reads as it did. -/
def diceDrawsSpec : ChangeSpec := { name := "diceDraws", fn := fun _ => fun
  | [d1, d2, d3] => { results := [.lit (.bool true)], args := [d1, d2, d3] }
  | _ => none }
def diceDrawsRow : OpenClaim := { program := "ytincniaekhiceaa", sum := "eceb3255f7b649c6e77af77680318f5285e1545a32b4599adf65e1125eeb07a9", func := "tattle/tattlelaw02.DiceDraws", spec := "diceDraws", unfollowed := true, recurses := true, apart := false }
def DiceDrawsSaid : Prop := diceDrawsRow.holds Try.pinned (OpenSpec.ofChange diceDrawsSpec)

/-- ITS FALSE NEIGHBOUR: 'it returns false'. Refute it at one input. -/
def diceDrawsWrong : ChangeSpec := { name := "diceDraws", fn := fun _ => fun
  | [d1, d2, d3] => { results := [.lit (.bool false)], args := [d1, d2, d3] }
  | _ => none }
def DiceDrawsWrongFalsely : Prop := diceDrawsRow.holds Try.pinned (OpenSpec.ofChange diceDrawsWrong)

/-- 'tattlelaw02.DiceKeeps': WHATEVER THE INPUT: true; the input reads as it did. -/
def diceKeepsSpec : ChangeSpec := { name := "diceKeeps", fn := fun _ => fun
  | [d1, d2, d3] => { results := [.lit (.bool true)], args := [d1, d2, d3] }
  | _ => none }
def diceKeepsRow : OpenClaim := { program := "ytincniaekhiceaa", sum := "eceb3255f7b649c6e77af77680318f5285e1545a32b4599adf65e1125eeb07a9", func := "tattle/tattlelaw02.DiceKeeps", spec := "diceKeeps", unfollowed := true, recurses := true, apart := false }
def DiceKeepsSaid : Prop := diceKeepsRow.holds Try.pinned (OpenSpec.ofChange diceKeepsSpec)

/-- ITS FALSE NEIGHBOUR: 'it returns false'. Refute it at one input. -/
def diceKeepsWrong : ChangeSpec := { name := "diceKeeps", fn := fun _ => fun
  | [d1, d2, d3] => { results := [.lit (.bool false)], args := [d1, d2, d3] }
  | _ => none }
def DiceKeepsWrongFalsely : Prop := diceKeepsRow.holds Try.pinned (OpenSpec.ofChange diceKeepsWrong)

/-- 'tattlelaw02.DiceOrders': WHATEVER THE INPUT: true; the input reads as it did. -/
def diceOrdersSpec : ChangeSpec := { name := "diceOrders", fn := fun _ => fun
  | [d] => { results := [.lit (.bool true)], args := [d] }
  | _ => none }
def diceOrdersRow : OpenClaim := { program := "ytincniaekhiceaa", sum := "eceb3255f7b649c6e77af77680318f5285e1545a32b4599adf65e1125eeb07a9", func := "tattle/tattlelaw02.DiceOrders", spec := "diceOrders", unfollowed := true, recurses := true, apart := false }
def DiceOrdersSaid : Prop := diceOrdersRow.holds Try.pinned (OpenSpec.ofChange diceOrdersSpec)

/-- ITS FALSE NEIGHBOUR: 'it returns false'. Refute it at one input. -/
def diceOrdersWrong : ChangeSpec := { name := "diceOrders", fn := fun _ => fun
  | [d] => { results := [.lit (.bool false)], args := [d] }
  | _ => none }
def DiceOrdersWrongFalsely : Prop := diceOrdersRow.holds Try.pinned (OpenSpec.ofChange diceOrdersWrong)

/-- 'tattlelaw02.DiceBehind': WHATEVER THE INPUT: true; the input reads as it did. -/
def diceBehindSpec : ChangeSpec := { name := "diceBehind", fn := fun _ => fun
  | [d] => { results := [.lit (.bool true)], args := [d] }
  | _ => none }
def diceBehindRow : OpenClaim := { program := "ytincniaekhiceaa", sum := "eceb3255f7b649c6e77af77680318f5285e1545a32b4599adf65e1125eeb07a9", func := "tattle/tattlelaw02.DiceBehind", spec := "diceBehind", unfollowed := true, recurses := true, apart := false }
def DiceBehindSaid : Prop := diceBehindRow.holds Try.pinned (OpenSpec.ofChange diceBehindSpec)

/-- ITS FALSE NEIGHBOUR: 'it returns false'. Refute it at one input. -/
def diceBehindWrong : ChangeSpec := { name := "diceBehind", fn := fun _ => fun
  | [d] => { results := [.lit (.bool false)], args := [d] }
  | _ => none }
def DiceBehindWrongFalsely : Prop := diceBehindRow.holds Try.pinned (OpenSpec.ofChange diceBehindWrong)

/-- 'tattlelaw02.DiceEnds': WHATEVER THE INPUT: true; the input reads as it did. -/
def diceEndsSpec : ChangeSpec := { name := "diceEnds", fn := fun _ => fun
  | [d1, d2] => { results := [.lit (.bool true)], args := [d1, d2] }
  | _ => none }
def diceEndsRow : OpenClaim := { program := "ytincniaekhiceaa", sum := "eceb3255f7b649c6e77af77680318f5285e1545a32b4599adf65e1125eeb07a9", func := "tattle/tattlelaw02.DiceEnds", spec := "diceEnds", unfollowed := true, recurses := true, apart := false }
def DiceEndsSaid : Prop := diceEndsRow.holds Try.pinned (OpenSpec.ofChange diceEndsSpec)

/-- ITS FALSE NEIGHBOUR: 'it returns false'. Refute it at one input. -/
def diceEndsWrong : ChangeSpec := { name := "diceEnds", fn := fun _ => fun
  | [d1, d2] => { results := [.lit (.bool false)], args := [d1, d2] }
  | _ => none }
def DiceEndsWrongFalsely : Prop := diceEndsRow.holds Try.pinned (OpenSpec.ofChange diceEndsWrong)

/-- 'tattlelaw02.DiceParts': WHATEVER THE INPUT: true; the input reads as it did. -/
def dicePartsSpec : ChangeSpec := { name := "diceParts", fn := fun _ => fun
  | [d1, d2, d3] => { results := [.lit (.bool true)], args := [d1, d2, d3] }
  | _ => none }
def dicePartsRow : OpenClaim := { program := "ytincniaekhiceaa", sum := "eceb3255f7b649c6e77af77680318f5285e1545a32b4599adf65e1125eeb07a9", func := "tattle/tattlelaw02.DiceParts", spec := "diceParts", unfollowed := true, recurses := true, apart := false }
def DicePartsSaid : Prop := dicePartsRow.holds Try.pinned (OpenSpec.ofChange dicePartsSpec)

/-- ITS FALSE NEIGHBOUR: 'it returns false'. Refute it at one input. -/
def dicePartsWrong : ChangeSpec := { name := "diceParts", fn := fun _ => fun
  | [d1, d2, d3] => { results := [.lit (.bool false)], args := [d1, d2, d3] }
  | _ => none }
def DicePartsWrongFalsely : Prop := dicePartsRow.holds Try.pinned (OpenSpec.ofChange dicePartsWrong)

/- THE SECOND FORM. 'bulk': how many values and letters a reading holds, each counted each time it is reached (what is shared counts as often as it is met; a slice's spare places count too). A statement '..UptoSaid' is the law's where the arguments, and the package variables that the reading takes, are together of bulk at most 1048576: NARROWER than '..Said'. Prove '..Said' where nothing that the law and all that it calls make is longer than what came in: it says more and counts as full. Else prove '..UptoSaid'. A law counts once. -/
mutual
def uptoBulk {H : Type} : DataW H → Nat
  | .lit (.string bytes) => bytes.length + 1
  | .lit _ => 1
  | .nil => 1
  | .ptr d => uptoBulk d + 1
  | .slice elems spare => uptoBulkAll elems + uptoBulkAll spare + 1
  | .agg parts => uptoBulkAll parts + 1
  | .iface _ d => uptoBulk d + 1
  | .map entries => uptoBulkEntries entries + 1
  | .held _ => 1
def uptoBulkAll {H : Type} : List (DataW H) → Nat
  | [] => 0
  | d :: r => uptoBulk d + uptoBulkAll r
def uptoBulkEntries {H : Type} : List (Lit × DataW H) → Nat
  | [] => 0
  | x :: r => uptoBulkEntry x + uptoBulkEntries r
def uptoBulkEntry {H : Type} : Lit × DataW H → Nat
  | (.string bytes, d) => bytes.length + uptoBulk d + 1
  | (_, d) => uptoBulk d + 1
 end
def uptoSmall : (H : Type) → List (DataW H) → Bool := fun _ ds => decide (uptoBulkAll ds ≤ 1048576)
def OpenSpec.upto (s : _root_.Go.ChangeSpec) : _root_.Go.OpenSpec := { _root_.Go.OpenSpec.ofChange s with cond := some uptoSmall }

/-- 'tattlelaw02.DiceDraws', WHERE WHAT IT READS IS OF BULK AT MOST 1048576: true; the input reads as it did. -/
def diceDrawsUptoRow : OpenClaim := { program := "ytincniaekhiceaa", sum := "eceb3255f7b649c6e77af77680318f5285e1545a32b4599adf65e1125eeb07a9", func := "tattle/tattlelaw02.DiceDraws", spec := "diceDraws", unfollowed := true, recurses := true, apart := false, narrowed := true }
def DiceDrawsUptoSaid : Prop := diceDrawsUptoRow.holds Try.pinned (OpenSpec.upto diceDrawsSpec)

/-- 'tattlelaw02.DiceKeeps', WHERE WHAT IT READS IS OF BULK AT MOST 1048576: true; the input reads as it did. -/
def diceKeepsUptoRow : OpenClaim := { program := "ytincniaekhiceaa", sum := "eceb3255f7b649c6e77af77680318f5285e1545a32b4599adf65e1125eeb07a9", func := "tattle/tattlelaw02.DiceKeeps", spec := "diceKeeps", unfollowed := true, recurses := true, apart := false, narrowed := true }
def DiceKeepsUptoSaid : Prop := diceKeepsUptoRow.holds Try.pinned (OpenSpec.upto diceKeepsSpec)

/-- 'tattlelaw02.DiceOrders', WHERE WHAT IT READS IS OF BULK AT MOST 1048576: true; the input reads as it did. -/
def diceOrdersUptoRow : OpenClaim := { program := "ytincniaekhiceaa", sum := "eceb3255f7b649c6e77af77680318f5285e1545a32b4599adf65e1125eeb07a9", func := "tattle/tattlelaw02.DiceOrders", spec := "diceOrders", unfollowed := true, recurses := true, apart := false, narrowed := true }
def DiceOrdersUptoSaid : Prop := diceOrdersUptoRow.holds Try.pinned (OpenSpec.upto diceOrdersSpec)

/-- 'tattlelaw02.DiceBehind', WHERE WHAT IT READS IS OF BULK AT MOST 1048576: true; the input reads as it did. -/
def diceBehindUptoRow : OpenClaim := { program := "ytincniaekhiceaa", sum := "eceb3255f7b649c6e77af77680318f5285e1545a32b4599adf65e1125eeb07a9", func := "tattle/tattlelaw02.DiceBehind", spec := "diceBehind", unfollowed := true, recurses := true, apart := false, narrowed := true }
def DiceBehindUptoSaid : Prop := diceBehindUptoRow.holds Try.pinned (OpenSpec.upto diceBehindSpec)

/-- 'tattlelaw02.DiceEnds', WHERE WHAT IT READS IS OF BULK AT MOST 1048576: true; the input reads as it did. -/
def diceEndsUptoRow : OpenClaim := { program := "ytincniaekhiceaa", sum := "eceb3255f7b649c6e77af77680318f5285e1545a32b4599adf65e1125eeb07a9", func := "tattle/tattlelaw02.DiceEnds", spec := "diceEnds", unfollowed := true, recurses := true, apart := false, narrowed := true }
def DiceEndsUptoSaid : Prop := diceEndsUptoRow.holds Try.pinned (OpenSpec.upto diceEndsSpec)

/-- 'tattlelaw02.DiceParts', WHERE WHAT IT READS IS OF BULK AT MOST 1048576: true; the input reads as it did. -/
def dicePartsUptoRow : OpenClaim := { program := "ytincniaekhiceaa", sum := "eceb3255f7b649c6e77af77680318f5285e1545a32b4599adf65e1125eeb07a9", func := "tattle/tattlelaw02.DiceParts", spec := "diceParts", unfollowed := true, recurses := true, apart := false, narrowed := true }
def DicePartsUptoSaid : Prop := dicePartsUptoRow.holds Try.pinned (OpenSpec.upto dicePartsSpec)

end Rows
end Go.Proofs.Ytincniaekhiceaa
