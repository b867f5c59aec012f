/-
  No cell of these rows narrows 'for every input' (looked for: loops, veiled, ifaces, maps, wideKeys, modest, calm, conditions, laid).
  DERIVED. THE GIVEN ROWS OF THIS SEAT. 6 by the template 'for every input the law returns true; each argument reads behind the call as it read before'; 0 by the template 'total and deterministic' (their statements: YtmbapcdchaamfaaTotals.lean).
  GIVEN WITH THE SEED: the statements are not yours to turn. If you find one false, say at which input.
  Laid BY PROGRAM, IN A SANDBOX (cutbox-rows.mjs): the forced cells as the released guide's own fill.sh prints them over the translation c42531cf74e99824… (all of the seat's roots in one cut). By AI agents, Wed Nov 11 2026. No macro, syntax, notation, axiom, sorry.
-/
import Derived.Test.YtmbapcdchaamfaaChecked
import GoSem.Claim
import GoSem.ClaimJoined
import GoSem.ClaimMapViews
import Derived.JoinedTies
import Derived.KernelRfl
namespace Go.Proofs.Ytmbapcdchaamfaa
/- THE CELL 'sum', in the pinned program and in every row, IS THE sha256 OF THE DUMP (.gsa) THAT YtmbapcdchaamfaaProg.lean LOADS. Nothing in Lean hashes anything: it is a label: what it is worth is what the hold of that sum in a sandbox is worth. -/
noncomputable def Try.pinned : Pinned := { name := "ytmbapcdchaamfaa", sum := "c42531cf74e9982465527d67f048b8c0cf25d02a37e8ef5192db02614951e90d", checked := Try.checked }
namespace Rows
def none {H : Type} : Left H := { results := [], args := [] }

/-- 'tattlelaw04.ClockTells': WHATEVER THE INPUT: true; the input reads as it did. -/
def clockTellsSpec : ChangeSpec := { name := "clockTells", fn := fun _ => fun
  | [d] => { results := [.lit (.bool true)], args := [d] }
  | _ => none }
def clockTellsRow : OpenClaim := { program := "ytmbapcdchaamfaa", sum := "c42531cf74e9982465527d67f048b8c0cf25d02a37e8ef5192db02614951e90d", func := "tattle/tattlelaw04.ClockTells", spec := "clockTells", unfollowed := true, recurses := true, apart := false }
def ClockTellsSaid : Prop := clockTellsRow.holds Try.pinned (OpenSpec.ofChange clockTellsSpec)

/-- ITS FALSE NEIGHBOUR: 'it returns false'. Refute it at one input. -/
def clockTellsWrong : ChangeSpec := { name := "clockTells", fn := fun _ => fun
  | [d] => { results := [.lit (.bool false)], args := [d] }
  | _ => none }
def ClockTellsWrongFalsely : Prop := clockTellsRow.holds Try.pinned (OpenSpec.ofChange clockTellsWrong)

/-- 'tattlelaw04.ClockGuards': WHATEVER THE INPUT: true; the input reads as it did. -/
def clockGuardsSpec : ChangeSpec := { name := "clockGuards", fn := fun _ => fun
  | [d1, d2, d3] => { results := [.lit (.bool true)], args := [d1, d2, d3] }
  | _ => none }
def clockGuardsRow : OpenClaim := { program := "ytmbapcdchaamfaa", sum := "c42531cf74e9982465527d67f048b8c0cf25d02a37e8ef5192db02614951e90d", func := "tattle/tattlelaw04.ClockGuards", spec := "clockGuards", unfollowed := true, recurses := true, apart := false }
def ClockGuardsSaid : Prop := clockGuardsRow.holds Try.pinned (OpenSpec.ofChange clockGuardsSpec)

/-- ITS FALSE NEIGHBOUR: 'it returns false'. Refute it at one input. -/
def clockGuardsWrong : ChangeSpec := { name := "clockGuards", fn := fun _ => fun
  | [d1, d2, d3] => { results := [.lit (.bool false)], args := [d1, d2, d3] }
  | _ => none }
def ClockGuardsWrongFalsely : Prop := clockGuardsRow.holds Try.pinned (OpenSpec.ofChange clockGuardsWrong)

/-- 'tattlelaw04.ClockCovers': WHATEVER THE INPUT: true; the input reads as it did. -/
def clockCoversSpec : ChangeSpec := { name := "clockCovers", fn := fun _ => fun
  | [d1, d2] => { results := [.lit (.bool true)], args := [d1, d2] }
  | _ => none }
def clockCoversRow : OpenClaim := { program := "ytmbapcdchaamfaa", sum := "c42531cf74e9982465527d67f048b8c0cf25d02a37e8ef5192db02614951e90d", func := "tattle/tattlelaw04.ClockCovers", spec := "clockCovers", unfollowed := true, recurses := true, apart := false }
def ClockCoversSaid : Prop := clockCoversRow.holds Try.pinned (OpenSpec.ofChange clockCoversSpec)

/-- ITS FALSE NEIGHBOUR: 'it returns false'. Refute it at one input. -/
def clockCoversWrong : ChangeSpec := { name := "clockCovers", fn := fun _ => fun
  | [d1, d2] => { results := [.lit (.bool false)], args := [d1, d2] }
  | _ => none }
def ClockCoversWrongFalsely : Prop := clockCoversRow.holds Try.pinned (OpenSpec.ofChange clockCoversWrong)

/-- 'tattlelaw04.ClockStays': WHATEVER THE INPUT: true; the input reads as it did. -/
def clockStaysSpec : ChangeSpec := { name := "clockStays", fn := fun _ => fun
  | [d1, d2, d3] => { results := [.lit (.bool true)], args := [d1, d2, d3] }
  | _ => none }
def clockStaysRow : OpenClaim := { program := "ytmbapcdchaamfaa", sum := "c42531cf74e9982465527d67f048b8c0cf25d02a37e8ef5192db02614951e90d", func := "tattle/tattlelaw04.ClockStays", spec := "clockStays", unfollowed := true, recurses := true, apart := false }
def ClockStaysSaid : Prop := clockStaysRow.holds Try.pinned (OpenSpec.ofChange clockStaysSpec)

/-- ITS FALSE NEIGHBOUR: 'it returns false'. Refute it at one input. -/
def clockStaysWrong : ChangeSpec := { name := "clockStays", fn := fun _ => fun
  | [d1, d2, d3] => { results := [.lit (.bool false)], args := [d1, d2, d3] }
  | _ => none }
def ClockStaysWrongFalsely : Prop := clockStaysRow.holds Try.pinned (OpenSpec.ofChange clockStaysWrong)

/-- 'tattlelaw04.ClockSplits': WHATEVER THE INPUT: true; the input reads as it did. -/
def clockSplitsSpec : ChangeSpec := { name := "clockSplits", fn := fun _ => fun
  | [d1, d2] => { results := [.lit (.bool true)], args := [d1, d2] }
  | _ => none }
def clockSplitsRow : OpenClaim := { program := "ytmbapcdchaamfaa", sum := "c42531cf74e9982465527d67f048b8c0cf25d02a37e8ef5192db02614951e90d", func := "tattle/tattlelaw04.ClockSplits", spec := "clockSplits", unfollowed := true, recurses := true, apart := false }
def ClockSplitsSaid : Prop := clockSplitsRow.holds Try.pinned (OpenSpec.ofChange clockSplitsSpec)

/-- ITS FALSE NEIGHBOUR: 'it returns false'. Refute it at one input. -/
def clockSplitsWrong : ChangeSpec := { name := "clockSplits", fn := fun _ => fun
  | [d1, d2] => { results := [.lit (.bool false)], args := [d1, d2] }
  | _ => none }
def ClockSplitsWrongFalsely : Prop := clockSplitsRow.holds Try.pinned (OpenSpec.ofChange clockSplitsWrong)

/-- 'tattlelaw04.ClockTerms': WHATEVER THE INPUT: true; the input reads as it did. -/
def clockTermsSpec : ChangeSpec := { name := "clockTerms", fn := fun _ => fun
  | [d] => { results := [.lit (.bool true)], args := [d] }
  | _ => none }
def clockTermsRow : OpenClaim := { program := "ytmbapcdchaamfaa", sum := "c42531cf74e9982465527d67f048b8c0cf25d02a37e8ef5192db02614951e90d", func := "tattle/tattlelaw04.ClockTerms", spec := "clockTerms", unfollowed := true, recurses := true, apart := false }
def ClockTermsSaid : Prop := clockTermsRow.holds Try.pinned (OpenSpec.ofChange clockTermsSpec)

/-- ITS FALSE NEIGHBOUR: 'it returns false'. Refute it at one input. -/
def clockTermsWrong : ChangeSpec := { name := "clockTerms", fn := fun _ => fun
  | [d] => { results := [.lit (.bool false)], args := [d] }
  | _ => none }
def ClockTermsWrongFalsely : Prop := clockTermsRow.holds Try.pinned (OpenSpec.ofChange clockTermsWrong)

/- THE SECOND FORM. 'bulk': how many values and letters a reading holds, each counted each time it is reached (what is shared counts as often as it is met; a slice's spare places count too). A statement '..UptoSaid' is the law's where the arguments, and the package variables that the reading takes, are together of bulk at most 1048576: NARROWER than '..Said'. Prove '..Said' where nothing that the law and all that it calls make is longer than what came in: it says more and counts as full. Else prove '..UptoSaid'. A law counts once. -/
mutual
def uptoBulk {H : Type} : DataW H → Nat
  | .lit (.string bytes) => bytes.length + 1
  | .lit _ => 1
  | .nil => 1
  | .ptr d => uptoBulk d + 1
  | .slice elems spare => uptoBulkAll elems + uptoBulkAll spare + 1
  | .agg parts => uptoBulkAll parts + 1
  | .iface _ d => uptoBulk d + 1
  | .map entries => uptoBulkEntries entries + 1
  | .held _ => 1
def uptoBulkAll {H : Type} : List (DataW H) → Nat
  | [] => 0
  | d :: r => uptoBulk d + uptoBulkAll r
def uptoBulkEntries {H : Type} : List (Lit × DataW H) → Nat
  | [] => 0
  | x :: r => uptoBulkEntry x + uptoBulkEntries r
def uptoBulkEntry {H : Type} : Lit × DataW H → Nat
  | (.string bytes, d) => bytes.length + uptoBulk d + 1
  | (_, d) => uptoBulk d + 1
 end
def uptoSmall : (H : Type) → List (DataW H) → Bool := fun _ ds => decide (uptoBulkAll ds ≤ 1048576)
def OpenSpec.upto (s : _root_.Go.ChangeSpec) : _root_.Go.OpenSpec := { _root_.Go.OpenSpec.ofChange s with cond := some uptoSmall }

/-- 'tattlelaw04.ClockTells', WHERE WHAT IT READS IS OF BULK AT MOST 1048576: true; the input reads as it did. -/
def clockTellsUptoRow : OpenClaim := { program := "ytmbapcdchaamfaa", sum := "c42531cf74e9982465527d67f048b8c0cf25d02a37e8ef5192db02614951e90d", func := "tattle/tattlelaw04.ClockTells", spec := "clockTells", unfollowed := true, recurses := true, apart := false, narrowed := true }
def ClockTellsUptoSaid : Prop := clockTellsUptoRow.holds Try.pinned (OpenSpec.upto clockTellsSpec)

/-- 'tattlelaw04.ClockGuards', WHERE WHAT IT READS IS OF BULK AT MOST 1048576: true; the input reads as it did. -/
def clockGuardsUptoRow : OpenClaim := { program := "ytmbapcdchaamfaa", sum := "c42531cf74e9982465527d67f048b8c0cf25d02a37e8ef5192db02614951e90d", func := "tattle/tattlelaw04.ClockGuards", spec := "clockGuards", unfollowed := true, recurses := true, apart := false, narrowed := true }
def ClockGuardsUptoSaid : Prop := clockGuardsUptoRow.holds Try.pinned (OpenSpec.upto clockGuardsSpec)

/-- 'tattlelaw04.ClockCovers', WHERE WHAT IT READS IS OF BULK AT MOST 1048576: true; the input reads as it did. -/
def clockCoversUptoRow : OpenClaim := { program := "ytmbapcdchaamfaa", sum := "c42531cf74e9982465527d67f048b8c0cf25d02a37e8ef5192db02614951e90d", func := "tattle/tattlelaw04.ClockCovers", spec := "clockCovers", unfollowed := true, recurses := true, apart := false, narrowed := true }
def ClockCoversUptoSaid : Prop := clockCoversUptoRow.holds Try.pinned (OpenSpec.upto clockCoversSpec)

/-- 'tattlelaw04.ClockStays', WHERE WHAT IT READS IS OF BULK AT MOST 1048576: true; the input reads as it did. -/
def clockStaysUptoRow : OpenClaim := { program := "ytmbapcdchaamfaa", sum := "c42531cf74e9982465527d67f048b8c0cf25d02a37e8ef5192db02614951e90d", func := "tattle/tattlelaw04.ClockStays", spec := "clockStays", unfollowed := true, recurses := true, apart := false, narrowed := true }
def ClockStaysUptoSaid : Prop := clockStaysUptoRow.holds Try.pinned (OpenSpec.upto clockStaysSpec)

/-- 'tattlelaw04.ClockSplits', WHERE WHAT IT READS IS OF BULK AT MOST 1048576: true; the input reads as it did. -/
def clockSplitsUptoRow : OpenClaim := { program := "ytmbapcdchaamfaa", sum := "c42531cf74e9982465527d67f048b8c0cf25d02a37e8ef5192db02614951e90d", func := "tattle/tattlelaw04.ClockSplits", spec := "clockSplits", unfollowed := true, recurses := true, apart := false, narrowed := true }
def ClockSplitsUptoSaid : Prop := clockSplitsUptoRow.holds Try.pinned (OpenSpec.upto clockSplitsSpec)

/-- 'tattlelaw04.ClockTerms', WHERE WHAT IT READS IS OF BULK AT MOST 1048576: true; the input reads as it did. -/
def clockTermsUptoRow : OpenClaim := { program := "ytmbapcdchaamfaa", sum := "c42531cf74e9982465527d67f048b8c0cf25d02a37e8ef5192db02614951e90d", func := "tattle/tattlelaw04.ClockTerms", spec := "clockTerms", unfollowed := true, recurses := true, apart := false, narrowed := true }
def ClockTermsUptoSaid : Prop := clockTermsUptoRow.holds Try.pinned (OpenSpec.upto clockTermsSpec)

end Rows
end Go.Proofs.Ytmbapcdchaamfaa
