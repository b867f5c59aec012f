/-
  NARROWER THAN 'FOR EVERY INPUT', by the rows' own cells (each row's printed sentence says how): DiskReads: laid · DiskWrites: laid · DiskTears: laid · DiskSteps: laid · DiskTurns: laid · DiskTurnsAbout: laid.
  DERIVED. THE GIVEN ROWS OF THIS SEAT. 6 by the template 'for every input the law returns true; each argument reads behind the call as it read before'; 0 by the template 'total and deterministic' (their statements: YtlpnhpnigljlnaaDoorTotals.lean).
  GIVEN WITH THE SEED: the statements are not yours to turn. If you find one false, say at which input.
  Laid BY PROGRAM, IN A SANDBOX (cutbox-rows.mjs): the forced cells as the released guide's own fill.sh prints them over the translation 0040be7bcd98ecc2… (all of the seat's roots in one cut). By AI agents, Wed Nov 11 2026. No macro, syntax, notation, axiom, sorry.
-/
import Derived.Test.YtlpnhpnigljlnaaDoorChecked
import GoSem.Claim
import GoSem.ClaimJoined
import GoSem.ClaimMapViews
import Derived.JoinedTies
import Derived.KernelRfl
namespace Go.Proofs.YtlpnhpnigljlnaaDoor
/- THE CELL 'sum', in the pinned program and in every row, IS THE sha256 OF THE DUMP (.gsa) THAT YtlpnhpnigljlnaaDoorProg.lean LOADS. Nothing in Lean hashes anything: it is a label: what it is worth is what the hold of that sum in a sandbox is worth. -/
noncomputable def Tryd.pinned : Pinned := { name := "ytlpnhpnigljlnaadoor", sum := "0040be7bcd98ecc28760761323cb83973b6f03b4c001920c28aa5a23944075aa", checked := Tryd.checked }
namespace Rows
def none {H : Type} : Left H := { results := [], args := [] }

/- WHAT THE LISTED PACKAGE-LEVEL VARIABLES READ AS WHEN THE CALL BEGINS. Each datum BY PROGRAM (the guide's laid-datum.mjs) off the statement by which the dump's own 'gosem.cut.vars' lays the variable. In a bare row this is a premise. The card (YtlpnhpnigljlnaaDoorCards.lean) ties it to the program's text. -/
def laid_tattle_wire_sumTable {H : Type} : DataW H := .agg [.lit (.int .u32 0), .lit (.int .u32 498536548), .lit (.int .u32 997073096), .lit (.int .u32 651767980), .lit (.int .u32 1994146192), .lit (.int .u32 1802195444), .lit (.int .u32 1303535960), .lit (.int .u32 1342533948), .lit (.int .u32 3988292384), .lit (.int .u32 4027552580), .lit (.int .u32 3604390888), .lit (.int .u32 3412177804), .lit (.int .u32 2607071920), .lit (.int .u32 2262029012), .lit (.int .u32 2685067896), .lit (.int .u32 3183342108)]

/-- 'tattlelaw16.DiskReads': WHATEVER THE INPUT: true; the input reads as it did. -/
def diskReadsSpec : ChangeSpec := { name := "diskReads", fn := fun _ => fun
  | [d1, d2, d3] => { results := [.lit (.bool true)], args := [d1, d2, d3] }
  | _ => none }
def diskReadsRow : OpenClaim := { program := "ytlpnhpnigljlnaadoor", sum := "0040be7bcd98ecc28760761323cb83973b6f03b4c001920c28aa5a23944075aa", func := "tattle/tattlelaw16.DiskReads", spec := "diskReads", recurses := true, named := ["tattle/wire.sumTable"], apart := false, laid := [("tattle/wire.sumTable", laid_tattle_wire_sumTable)] }
def DiskReadsSaid : Prop := diskReadsRow.holds Tryd.pinned (OpenSpec.ofChange diskReadsSpec)

/-- ITS FALSE NEIGHBOUR: 'it returns false'. Refute it at one input. -/
def diskReadsWrong : ChangeSpec := { name := "diskReads", fn := fun _ => fun
  | [d1, d2, d3] => { results := [.lit (.bool false)], args := [d1, d2, d3] }
  | _ => none }
def DiskReadsWrongFalsely : Prop := diskReadsRow.holds Tryd.pinned (OpenSpec.ofChange diskReadsWrong)

/-- 'tattlelaw16.DiskWrites': WHATEVER THE INPUT: true; the input reads as it did. -/
def diskWritesSpec : ChangeSpec := { name := "diskWrites", fn := fun _ => fun
  | [d1, d2, d3] => { results := [.lit (.bool true)], args := [d1, d2, d3] }
  | _ => none }
def diskWritesRow : OpenClaim := { program := "ytlpnhpnigljlnaadoor", sum := "0040be7bcd98ecc28760761323cb83973b6f03b4c001920c28aa5a23944075aa", func := "tattle/tattlelaw16.DiskWrites", spec := "diskWrites", recurses := true, named := ["tattle/wire.sumTable"], apart := false, laid := [("tattle/wire.sumTable", laid_tattle_wire_sumTable)] }
def DiskWritesSaid : Prop := diskWritesRow.holds Tryd.pinned (OpenSpec.ofChange diskWritesSpec)

/-- ITS FALSE NEIGHBOUR: 'it returns false'. Refute it at one input. -/
def diskWritesWrong : ChangeSpec := { name := "diskWrites", fn := fun _ => fun
  | [d1, d2, d3] => { results := [.lit (.bool false)], args := [d1, d2, d3] }
  | _ => none }
def DiskWritesWrongFalsely : Prop := diskWritesRow.holds Tryd.pinned (OpenSpec.ofChange diskWritesWrong)

/-- 'tattlelaw16.DiskTears': WHATEVER THE INPUT: true; the input reads as it did. -/
def diskTearsSpec : ChangeSpec := { name := "diskTears", fn := fun _ => fun
  | [d1, d2, d3] => { results := [.lit (.bool true)], args := [d1, d2, d3] }
  | _ => none }
def diskTearsRow : OpenClaim := { program := "ytlpnhpnigljlnaadoor", sum := "0040be7bcd98ecc28760761323cb83973b6f03b4c001920c28aa5a23944075aa", func := "tattle/tattlelaw16.DiskTears", spec := "diskTears", named := ["tattle/wire.sumTable"], apart := false, laid := [("tattle/wire.sumTable", laid_tattle_wire_sumTable)] }
def DiskTearsSaid : Prop := diskTearsRow.holds Tryd.pinned (OpenSpec.ofChange diskTearsSpec)

/-- ITS FALSE NEIGHBOUR: 'it returns false'. Refute it at one input. -/
def diskTearsWrong : ChangeSpec := { name := "diskTears", fn := fun _ => fun
  | [d1, d2, d3] => { results := [.lit (.bool false)], args := [d1, d2, d3] }
  | _ => none }
def DiskTearsWrongFalsely : Prop := diskTearsRow.holds Tryd.pinned (OpenSpec.ofChange diskTearsWrong)

/-- 'tattlelaw16.DiskSteps': WHATEVER THE INPUT: true; the input reads as it did. -/
def diskStepsSpec : ChangeSpec := { name := "diskSteps", fn := fun _ => fun
  | [d1, d2] => { results := [.lit (.bool true)], args := [d1, d2] }
  | _ => none }
def diskStepsRow : OpenClaim := { program := "ytlpnhpnigljlnaadoor", sum := "0040be7bcd98ecc28760761323cb83973b6f03b4c001920c28aa5a23944075aa", func := "tattle/tattlelaw16.DiskSteps", spec := "diskSteps", named := ["tattle/wire.sumTable"], apart := false, laid := [("tattle/wire.sumTable", laid_tattle_wire_sumTable)] }
def DiskStepsSaid : Prop := diskStepsRow.holds Tryd.pinned (OpenSpec.ofChange diskStepsSpec)

/-- ITS FALSE NEIGHBOUR: 'it returns false'. Refute it at one input. -/
def diskStepsWrong : ChangeSpec := { name := "diskSteps", fn := fun _ => fun
  | [d1, d2] => { results := [.lit (.bool false)], args := [d1, d2] }
  | _ => none }
def DiskStepsWrongFalsely : Prop := diskStepsRow.holds Tryd.pinned (OpenSpec.ofChange diskStepsWrong)

/-- 'tattlelaw16.DiskTurns': WHATEVER THE INPUT: true; the input reads as it did. -/
def diskTurnsSpec : ChangeSpec := { name := "diskTurns", fn := fun _ => fun
  | [d1, d2, d3] => { results := [.lit (.bool true)], args := [d1, d2, d3] }
  | _ => none }
def diskTurnsRow : OpenClaim := { program := "ytlpnhpnigljlnaadoor", sum := "0040be7bcd98ecc28760761323cb83973b6f03b4c001920c28aa5a23944075aa", func := "tattle/tattlelaw16.DiskTurns", spec := "diskTurns", named := ["tattle/wire.sumTable"], apart := false, laid := [("tattle/wire.sumTable", laid_tattle_wire_sumTable)] }
def DiskTurnsSaid : Prop := diskTurnsRow.holds Tryd.pinned (OpenSpec.ofChange diskTurnsSpec)

/-- ITS FALSE NEIGHBOUR: 'it returns false'. Refute it at one input. -/
def diskTurnsWrong : ChangeSpec := { name := "diskTurns", fn := fun _ => fun
  | [d1, d2, d3] => { results := [.lit (.bool false)], args := [d1, d2, d3] }
  | _ => none }
def DiskTurnsWrongFalsely : Prop := diskTurnsRow.holds Tryd.pinned (OpenSpec.ofChange diskTurnsWrong)

/-- 'tattlelaw16.DiskTurnsAbout': WHATEVER THE INPUT: true; the input reads as it did. -/
def diskTurnsAboutSpec : ChangeSpec := { name := "diskTurnsAbout", fn := fun _ => fun
  | [d1, d2, d3] => { results := [.lit (.bool true)], args := [d1, d2, d3] }
  | _ => none }
def diskTurnsAboutRow : OpenClaim := { program := "ytlpnhpnigljlnaadoor", sum := "0040be7bcd98ecc28760761323cb83973b6f03b4c001920c28aa5a23944075aa", func := "tattle/tattlelaw16.DiskTurnsAbout", spec := "diskTurnsAbout", named := ["tattle/wire.sumTable"], apart := false, laid := [("tattle/wire.sumTable", laid_tattle_wire_sumTable)] }
def DiskTurnsAboutSaid : Prop := diskTurnsAboutRow.holds Tryd.pinned (OpenSpec.ofChange diskTurnsAboutSpec)

/-- ITS FALSE NEIGHBOUR: 'it returns false'. Refute it at one input. -/
def diskTurnsAboutWrong : ChangeSpec := { name := "diskTurnsAbout", fn := fun _ => fun
  | [d1, d2, d3] => { results := [.lit (.bool false)], args := [d1, d2, d3] }
  | _ => none }
def DiskTurnsAboutWrongFalsely : Prop := diskTurnsAboutRow.holds Tryd.pinned (OpenSpec.ofChange diskTurnsAboutWrong)

/- THE SECOND FORM. 'bulk': how many values and letters a reading holds, each counted each time it is reached (what is shared counts as often as it is met; a slice's spare places count too). A statement '..UptoSaid' is the law's where the arguments, and the package variables that the reading takes, are together of bulk at most 1048576: NARROWER than '..Said'. Prove '..Said' where nothing that the law and all that it calls make is longer than what came in: it says more and counts as full. Else prove '..UptoSaid'. A law counts once. -/
mutual
def uptoBulk {H : Type} : DataW H → Nat
  | .lit (.string bytes) => bytes.length + 1
  | .lit _ => 1
  | .nil => 1
  | .ptr d => uptoBulk d + 1
  | .slice elems spare => uptoBulkAll elems + uptoBulkAll spare + 1
  | .agg parts => uptoBulkAll parts + 1
  | .iface _ d => uptoBulk d + 1
  | .map entries => uptoBulkEntries entries + 1
  | .held _ => 1
def uptoBulkAll {H : Type} : List (DataW H) → Nat
  | [] => 0
  | d :: r => uptoBulk d + uptoBulkAll r
def uptoBulkEntries {H : Type} : List (Lit × DataW H) → Nat
  | [] => 0
  | x :: r => uptoBulkEntry x + uptoBulkEntries r
def uptoBulkEntry {H : Type} : Lit × DataW H → Nat
  | (.string bytes, d) => bytes.length + uptoBulk d + 1
  | (_, d) => uptoBulk d + 1
 end
def uptoSmall : (H : Type) → List (DataW H) → Bool := fun _ ds => decide (uptoBulkAll ds ≤ 1048576)
def OpenSpec.upto (s : _root_.Go.ChangeSpec) : _root_.Go.OpenSpec := { _root_.Go.OpenSpec.ofChange s with cond := some uptoSmall }

/-- 'tattlelaw16.DiskReads', WHERE WHAT IT READS IS OF BULK AT MOST 1048576: true; the input reads as it did. -/
def diskReadsUptoRow : OpenClaim := { program := "ytlpnhpnigljlnaadoor", sum := "0040be7bcd98ecc28760761323cb83973b6f03b4c001920c28aa5a23944075aa", func := "tattle/tattlelaw16.DiskReads", spec := "diskReads", recurses := true, named := ["tattle/wire.sumTable"], apart := false, laid := [("tattle/wire.sumTable", laid_tattle_wire_sumTable)], narrowed := true }
def DiskReadsUptoSaid : Prop := diskReadsUptoRow.holds Tryd.pinned (OpenSpec.upto diskReadsSpec)

/-- 'tattlelaw16.DiskWrites', WHERE WHAT IT READS IS OF BULK AT MOST 1048576: true; the input reads as it did. -/
def diskWritesUptoRow : OpenClaim := { program := "ytlpnhpnigljlnaadoor", sum := "0040be7bcd98ecc28760761323cb83973b6f03b4c001920c28aa5a23944075aa", func := "tattle/tattlelaw16.DiskWrites", spec := "diskWrites", recurses := true, named := ["tattle/wire.sumTable"], apart := false, laid := [("tattle/wire.sumTable", laid_tattle_wire_sumTable)], narrowed := true }
def DiskWritesUptoSaid : Prop := diskWritesUptoRow.holds Tryd.pinned (OpenSpec.upto diskWritesSpec)

/-- 'tattlelaw16.DiskTears', WHERE WHAT IT READS IS OF BULK AT MOST 1048576: true; the input reads as it did. -/
def diskTearsUptoRow : OpenClaim := { program := "ytlpnhpnigljlnaadoor", sum := "0040be7bcd98ecc28760761323cb83973b6f03b4c001920c28aa5a23944075aa", func := "tattle/tattlelaw16.DiskTears", spec := "diskTears", named := ["tattle/wire.sumTable"], apart := false, laid := [("tattle/wire.sumTable", laid_tattle_wire_sumTable)], narrowed := true }
def DiskTearsUptoSaid : Prop := diskTearsUptoRow.holds Tryd.pinned (OpenSpec.upto diskTearsSpec)

/-- 'tattlelaw16.DiskSteps', WHERE WHAT IT READS IS OF BULK AT MOST 1048576: true; the input reads as it did. -/
def diskStepsUptoRow : OpenClaim := { program := "ytlpnhpnigljlnaadoor", sum := "0040be7bcd98ecc28760761323cb83973b6f03b4c001920c28aa5a23944075aa", func := "tattle/tattlelaw16.DiskSteps", spec := "diskSteps", named := ["tattle/wire.sumTable"], apart := false, laid := [("tattle/wire.sumTable", laid_tattle_wire_sumTable)], narrowed := true }
def DiskStepsUptoSaid : Prop := diskStepsUptoRow.holds Tryd.pinned (OpenSpec.upto diskStepsSpec)

/-- 'tattlelaw16.DiskTurns', WHERE WHAT IT READS IS OF BULK AT MOST 1048576: true; the input reads as it did. -/
def diskTurnsUptoRow : OpenClaim := { program := "ytlpnhpnigljlnaadoor", sum := "0040be7bcd98ecc28760761323cb83973b6f03b4c001920c28aa5a23944075aa", func := "tattle/tattlelaw16.DiskTurns", spec := "diskTurns", named := ["tattle/wire.sumTable"], apart := false, laid := [("tattle/wire.sumTable", laid_tattle_wire_sumTable)], narrowed := true }
def DiskTurnsUptoSaid : Prop := diskTurnsUptoRow.holds Tryd.pinned (OpenSpec.upto diskTurnsSpec)

/-- 'tattlelaw16.DiskTurnsAbout', WHERE WHAT IT READS IS OF BULK AT MOST 1048576: true; the input reads as it did. -/
def diskTurnsAboutUptoRow : OpenClaim := { program := "ytlpnhpnigljlnaadoor", sum := "0040be7bcd98ecc28760761323cb83973b6f03b4c001920c28aa5a23944075aa", func := "tattle/tattlelaw16.DiskTurnsAbout", spec := "diskTurnsAbout", named := ["tattle/wire.sumTable"], apart := false, laid := [("tattle/wire.sumTable", laid_tattle_wire_sumTable)], narrowed := true }
def DiskTurnsAboutUptoSaid : Prop := diskTurnsAboutUptoRow.holds Tryd.pinned (OpenSpec.upto diskTurnsAboutSpec)

end Rows
end Go.Proofs.YtlpnhpnigljlnaaDoor
