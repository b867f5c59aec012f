/-
  NARROWER THAN 'FOR EVERY INPUT', by the rows' own cells (each row's printed sentence says how): WireNums: laid · WireTexts: laid · WireSeals: laid · WireBacks: laid · WireTurns: laid · WireSums: laid · WireLong: laid.
  DERIVED. THE GIVEN ROWS OF THIS SEAT. 7 by the template 'for every input the law returns true; each argument reads behind the call as it read before'; 0 by the template 'total and deterministic' (their statements: YtpndijbhopeakaaDoorTotals.lean).
  GIVEN WITH THE SEED: the statements are not yours to turn. If you find one false, say at which input.
  Laid BY PROGRAM, IN A SANDBOX (cutbox-rows.mjs): the forced cells as the released guide's own fill.sh prints them over the translation 26c703a9f0b33c15… (all of the seat's roots in one cut). By AI agents, Wed Nov 11 2026. No macro, syntax, notation, axiom, sorry.
-/
import Derived.Test.YtpndijbhopeakaaDoorChecked
import GoSem.Claim
import GoSem.ClaimJoined
import GoSem.ClaimMapViews
import Derived.JoinedTies
import Derived.KernelRfl
namespace Go.Proofs.YtpndijbhopeakaaDoor
/- THE CELL 'sum', in the pinned program and in every row, IS THE sha256 OF THE DUMP (.gsa) THAT YtpndijbhopeakaaDoorProg.lean LOADS. Nothing in Lean hashes anything: it is a label: what it is worth is what the hold of that sum in a sandbox is worth. -/
noncomputable def Tryd.pinned : Pinned := { name := "ytpndijbhopeakaadoor", sum := "26c703a9f0b33c15772e99a44f763ce8d40db82d1ee9af6231c8cd20e7e5f147", checked := Tryd.checked }
namespace Rows
def none {H : Type} : Left H := { results := [], args := [] }

/- WHAT THE LISTED PACKAGE-LEVEL VARIABLES READ AS WHEN THE CALL BEGINS. Each datum BY PROGRAM (the guide's laid-datum.mjs) off the statement by which the dump's own 'gosem.cut.vars' lays the variable. In a bare row this is a premise. The card (YtpndijbhopeakaaDoorCards.lean) ties it to the program's text. -/
def laid_tattle_wire_sumTable {H : Type} : DataW H := .agg [.lit (.int .u32 0), .lit (.int .u32 498536548), .lit (.int .u32 997073096), .lit (.int .u32 651767980), .lit (.int .u32 1994146192), .lit (.int .u32 1802195444), .lit (.int .u32 1303535960), .lit (.int .u32 1342533948), .lit (.int .u32 3988292384), .lit (.int .u32 4027552580), .lit (.int .u32 3604390888), .lit (.int .u32 3412177804), .lit (.int .u32 2607071920), .lit (.int .u32 2262029012), .lit (.int .u32 2685067896), .lit (.int .u32 3183342108)]

/-- 'tattlelaw01.WireNums': WHATEVER THE INPUT: true; the input reads as it did. -/
def wireNumsSpec : ChangeSpec := { name := "wireNums", fn := fun _ => fun
  | [d1, d2, d3] => { results := [.lit (.bool true)], args := [d1, d2, d3] }
  | _ => none }
def wireNumsRow : OpenClaim := { program := "ytpndijbhopeakaadoor", sum := "26c703a9f0b33c15772e99a44f763ce8d40db82d1ee9af6231c8cd20e7e5f147", func := "tattle/tattlelaw01.WireNums", spec := "wireNums", recurses := true, named := ["tattle/wire.sumTable"], apart := false, laid := [("tattle/wire.sumTable", laid_tattle_wire_sumTable)] }
def WireNumsSaid : Prop := wireNumsRow.holds Tryd.pinned (OpenSpec.ofChange wireNumsSpec)

/-- ITS FALSE NEIGHBOUR: 'it returns false'. Refute it at one input. -/
def wireNumsWrong : ChangeSpec := { name := "wireNums", fn := fun _ => fun
  | [d1, d2, d3] => { results := [.lit (.bool false)], args := [d1, d2, d3] }
  | _ => none }
def WireNumsWrongFalsely : Prop := wireNumsRow.holds Tryd.pinned (OpenSpec.ofChange wireNumsWrong)

/-- 'tattlelaw01.WireTexts': WHATEVER THE INPUT: true; the input reads as it did. -/
def wireTextsSpec : ChangeSpec := { name := "wireTexts", fn := fun _ => fun
  | [d1, d2, d3] => { results := [.lit (.bool true)], args := [d1, d2, d3] }
  | _ => none }
def wireTextsRow : OpenClaim := { program := "ytpndijbhopeakaadoor", sum := "26c703a9f0b33c15772e99a44f763ce8d40db82d1ee9af6231c8cd20e7e5f147", func := "tattle/tattlelaw01.WireTexts", spec := "wireTexts", recurses := true, named := ["tattle/wire.sumTable"], apart := false, laid := [("tattle/wire.sumTable", laid_tattle_wire_sumTable)] }
def WireTextsSaid : Prop := wireTextsRow.holds Tryd.pinned (OpenSpec.ofChange wireTextsSpec)

/-- ITS FALSE NEIGHBOUR: 'it returns false'. Refute it at one input. -/
def wireTextsWrong : ChangeSpec := { name := "wireTexts", fn := fun _ => fun
  | [d1, d2, d3] => { results := [.lit (.bool false)], args := [d1, d2, d3] }
  | _ => none }
def WireTextsWrongFalsely : Prop := wireTextsRow.holds Tryd.pinned (OpenSpec.ofChange wireTextsWrong)

/-- 'tattlelaw01.WireSeals': WHATEVER THE INPUT: true; the input reads as it did. -/
def wireSealsSpec : ChangeSpec := { name := "wireSeals", fn := fun _ => fun
  | [d] => { results := [.lit (.bool true)], args := [d] }
  | _ => none }
def wireSealsRow : OpenClaim := { program := "ytpndijbhopeakaadoor", sum := "26c703a9f0b33c15772e99a44f763ce8d40db82d1ee9af6231c8cd20e7e5f147", func := "tattle/tattlelaw01.WireSeals", spec := "wireSeals", named := ["tattle/wire.sumTable"], apart := false, laid := [("tattle/wire.sumTable", laid_tattle_wire_sumTable)] }
def WireSealsSaid : Prop := wireSealsRow.holds Tryd.pinned (OpenSpec.ofChange wireSealsSpec)

/-- ITS FALSE NEIGHBOUR: 'it returns false'. Refute it at one input. -/
def wireSealsWrong : ChangeSpec := { name := "wireSeals", fn := fun _ => fun
  | [d] => { results := [.lit (.bool false)], args := [d] }
  | _ => none }
def WireSealsWrongFalsely : Prop := wireSealsRow.holds Tryd.pinned (OpenSpec.ofChange wireSealsWrong)

/-- 'tattlelaw01.WireBacks': WHATEVER THE INPUT: true; the input reads as it did. -/
def wireBacksSpec : ChangeSpec := { name := "wireBacks", fn := fun _ => fun
  | [d] => { results := [.lit (.bool true)], args := [d] }
  | _ => none }
def wireBacksRow : OpenClaim := { program := "ytpndijbhopeakaadoor", sum := "26c703a9f0b33c15772e99a44f763ce8d40db82d1ee9af6231c8cd20e7e5f147", func := "tattle/tattlelaw01.WireBacks", spec := "wireBacks", named := ["tattle/wire.sumTable"], apart := false, laid := [("tattle/wire.sumTable", laid_tattle_wire_sumTable)] }
def WireBacksSaid : Prop := wireBacksRow.holds Tryd.pinned (OpenSpec.ofChange wireBacksSpec)

/-- ITS FALSE NEIGHBOUR: 'it returns false'. Refute it at one input. -/
def wireBacksWrong : ChangeSpec := { name := "wireBacks", fn := fun _ => fun
  | [d] => { results := [.lit (.bool false)], args := [d] }
  | _ => none }
def WireBacksWrongFalsely : Prop := wireBacksRow.holds Tryd.pinned (OpenSpec.ofChange wireBacksWrong)

/-- 'tattlelaw01.WireTurns': WHATEVER THE INPUT: true; the input reads as it did. -/
def wireTurnsSpec : ChangeSpec := { name := "wireTurns", fn := fun _ => fun
  | [d1, d2, d3] => { results := [.lit (.bool true)], args := [d1, d2, d3] }
  | _ => none }
def wireTurnsRow : OpenClaim := { program := "ytpndijbhopeakaadoor", sum := "26c703a9f0b33c15772e99a44f763ce8d40db82d1ee9af6231c8cd20e7e5f147", func := "tattle/tattlelaw01.WireTurns", spec := "wireTurns", named := ["tattle/wire.sumTable"], apart := false, laid := [("tattle/wire.sumTable", laid_tattle_wire_sumTable)] }
def WireTurnsSaid : Prop := wireTurnsRow.holds Tryd.pinned (OpenSpec.ofChange wireTurnsSpec)

/-- ITS FALSE NEIGHBOUR: 'it returns false'. Refute it at one input. -/
def wireTurnsWrong : ChangeSpec := { name := "wireTurns", fn := fun _ => fun
  | [d1, d2, d3] => { results := [.lit (.bool false)], args := [d1, d2, d3] }
  | _ => none }
def WireTurnsWrongFalsely : Prop := wireTurnsRow.holds Tryd.pinned (OpenSpec.ofChange wireTurnsWrong)

/-- 'tattlelaw01.WireSums': WHATEVER THE INPUT: true; the input reads as it did. -/
def wireSumsSpec : ChangeSpec := { name := "wireSums", fn := fun _ => fun
  | [d1, d2] => { results := [.lit (.bool true)], args := [d1, d2] }
  | _ => none }
def wireSumsRow : OpenClaim := { program := "ytpndijbhopeakaadoor", sum := "26c703a9f0b33c15772e99a44f763ce8d40db82d1ee9af6231c8cd20e7e5f147", func := "tattle/tattlelaw01.WireSums", spec := "wireSums", named := ["tattle/wire.sumTable"], apart := false, laid := [("tattle/wire.sumTable", laid_tattle_wire_sumTable)] }
def WireSumsSaid : Prop := wireSumsRow.holds Tryd.pinned (OpenSpec.ofChange wireSumsSpec)

/-- ITS FALSE NEIGHBOUR: 'it returns false'. Refute it at one input. -/
def wireSumsWrong : ChangeSpec := { name := "wireSums", fn := fun _ => fun
  | [d1, d2] => { results := [.lit (.bool false)], args := [d1, d2] }
  | _ => none }
def WireSumsWrongFalsely : Prop := wireSumsRow.holds Tryd.pinned (OpenSpec.ofChange wireSumsWrong)

/-- 'tattlelaw01.WireLong': WHATEVER THE INPUT: true; the input reads as it did. -/
def wireLongSpec : ChangeSpec := { name := "wireLong", fn := fun _ => fun
  | [d1, d2, d3] => { results := [.lit (.bool true)], args := [d1, d2, d3] }
  | _ => none }
def wireLongRow : OpenClaim := { program := "ytpndijbhopeakaadoor", sum := "26c703a9f0b33c15772e99a44f763ce8d40db82d1ee9af6231c8cd20e7e5f147", func := "tattle/tattlelaw01.WireLong", spec := "wireLong", named := ["tattle/wire.sumTable"], apart := false, laid := [("tattle/wire.sumTable", laid_tattle_wire_sumTable)] }
def WireLongSaid : Prop := wireLongRow.holds Tryd.pinned (OpenSpec.ofChange wireLongSpec)

/-- ITS FALSE NEIGHBOUR: 'it returns false'. Refute it at one input. -/
def wireLongWrong : ChangeSpec := { name := "wireLong", fn := fun _ => fun
  | [d1, d2, d3] => { results := [.lit (.bool false)], args := [d1, d2, d3] }
  | _ => none }
def WireLongWrongFalsely : Prop := wireLongRow.holds Tryd.pinned (OpenSpec.ofChange wireLongWrong)

/- THE SECOND FORM. 'bulk': how many values and letters a reading holds, each counted each time it is reached (what is shared counts as often as it is met; a slice's spare places count too). A statement '..UptoSaid' is the law's where the arguments, and the package variables that the reading takes, are together of bulk at most 1048576: NARROWER than '..Said'. Prove '..Said' where nothing that the law and all that it calls make is longer than what came in: it says more and counts as full. Else prove '..UptoSaid'. A law counts once. -/
mutual
def uptoBulk {H : Type} : DataW H → Nat
  | .lit (.string bytes) => bytes.length + 1
  | .lit _ => 1
  | .nil => 1
  | .ptr d => uptoBulk d + 1
  | .slice elems spare => uptoBulkAll elems + uptoBulkAll spare + 1
  | .agg parts => uptoBulkAll parts + 1
  | .iface _ d => uptoBulk d + 1
  | .map entries => uptoBulkEntries entries + 1
  | .held _ => 1
def uptoBulkAll {H : Type} : List (DataW H) → Nat
  | [] => 0
  | d :: r => uptoBulk d + uptoBulkAll r
def uptoBulkEntries {H : Type} : List (Lit × DataW H) → Nat
  | [] => 0
  | x :: r => uptoBulkEntry x + uptoBulkEntries r
def uptoBulkEntry {H : Type} : Lit × DataW H → Nat
  | (.string bytes, d) => bytes.length + uptoBulk d + 1
  | (_, d) => uptoBulk d + 1
 end
def uptoSmall : (H : Type) → List (DataW H) → Bool := fun _ ds => decide (uptoBulkAll ds ≤ 1048576)
def OpenSpec.upto (s : _root_.Go.ChangeSpec) : _root_.Go.OpenSpec := { _root_.Go.OpenSpec.ofChange s with cond := some uptoSmall }

/-- 'tattlelaw01.WireNums', WHERE WHAT IT READS IS OF BULK AT MOST 1048576: true; the input reads as it did. -/
def wireNumsUptoRow : OpenClaim := { program := "ytpndijbhopeakaadoor", sum := "26c703a9f0b33c15772e99a44f763ce8d40db82d1ee9af6231c8cd20e7e5f147", func := "tattle/tattlelaw01.WireNums", spec := "wireNums", recurses := true, named := ["tattle/wire.sumTable"], apart := false, laid := [("tattle/wire.sumTable", laid_tattle_wire_sumTable)], narrowed := true }
def WireNumsUptoSaid : Prop := wireNumsUptoRow.holds Tryd.pinned (OpenSpec.upto wireNumsSpec)

/-- 'tattlelaw01.WireTexts', WHERE WHAT IT READS IS OF BULK AT MOST 1048576: true; the input reads as it did. -/
def wireTextsUptoRow : OpenClaim := { program := "ytpndijbhopeakaadoor", sum := "26c703a9f0b33c15772e99a44f763ce8d40db82d1ee9af6231c8cd20e7e5f147", func := "tattle/tattlelaw01.WireTexts", spec := "wireTexts", recurses := true, named := ["tattle/wire.sumTable"], apart := false, laid := [("tattle/wire.sumTable", laid_tattle_wire_sumTable)], narrowed := true }
def WireTextsUptoSaid : Prop := wireTextsUptoRow.holds Tryd.pinned (OpenSpec.upto wireTextsSpec)

/-- 'tattlelaw01.WireSeals', WHERE WHAT IT READS IS OF BULK AT MOST 1048576: true; the input reads as it did. -/
def wireSealsUptoRow : OpenClaim := { program := "ytpndijbhopeakaadoor", sum := "26c703a9f0b33c15772e99a44f763ce8d40db82d1ee9af6231c8cd20e7e5f147", func := "tattle/tattlelaw01.WireSeals", spec := "wireSeals", named := ["tattle/wire.sumTable"], apart := false, laid := [("tattle/wire.sumTable", laid_tattle_wire_sumTable)], narrowed := true }
def WireSealsUptoSaid : Prop := wireSealsUptoRow.holds Tryd.pinned (OpenSpec.upto wireSealsSpec)

/-- 'tattlelaw01.WireBacks', WHERE WHAT IT READS IS OF BULK AT MOST 1048576: true; the input reads as it did. -/
def wireBacksUptoRow : OpenClaim := { program := "ytpndijbhopeakaadoor", sum := "26c703a9f0b33c15772e99a44f763ce8d40db82d1ee9af6231c8cd20e7e5f147", func := "tattle/tattlelaw01.WireBacks", spec := "wireBacks", named := ["tattle/wire.sumTable"], apart := false, laid := [("tattle/wire.sumTable", laid_tattle_wire_sumTable)], narrowed := true }
def WireBacksUptoSaid : Prop := wireBacksUptoRow.holds Tryd.pinned (OpenSpec.upto wireBacksSpec)

/-- 'tattlelaw01.WireTurns', WHERE WHAT IT READS IS OF BULK AT MOST 1048576: true; the input reads as it did. -/
def wireTurnsUptoRow : OpenClaim := { program := "ytpndijbhopeakaadoor", sum := "26c703a9f0b33c15772e99a44f763ce8d40db82d1ee9af6231c8cd20e7e5f147", func := "tattle/tattlelaw01.WireTurns", spec := "wireTurns", named := ["tattle/wire.sumTable"], apart := false, laid := [("tattle/wire.sumTable", laid_tattle_wire_sumTable)], narrowed := true }
def WireTurnsUptoSaid : Prop := wireTurnsUptoRow.holds Tryd.pinned (OpenSpec.upto wireTurnsSpec)

/-- 'tattlelaw01.WireSums', WHERE WHAT IT READS IS OF BULK AT MOST 1048576: true; the input reads as it did. -/
def wireSumsUptoRow : OpenClaim := { program := "ytpndijbhopeakaadoor", sum := "26c703a9f0b33c15772e99a44f763ce8d40db82d1ee9af6231c8cd20e7e5f147", func := "tattle/tattlelaw01.WireSums", spec := "wireSums", named := ["tattle/wire.sumTable"], apart := false, laid := [("tattle/wire.sumTable", laid_tattle_wire_sumTable)], narrowed := true }
def WireSumsUptoSaid : Prop := wireSumsUptoRow.holds Tryd.pinned (OpenSpec.upto wireSumsSpec)

/-- 'tattlelaw01.WireLong', WHERE WHAT IT READS IS OF BULK AT MOST 1048576: true; the input reads as it did. -/
def wireLongUptoRow : OpenClaim := { program := "ytpndijbhopeakaadoor", sum := "26c703a9f0b33c15772e99a44f763ce8d40db82d1ee9af6231c8cd20e7e5f147", func := "tattle/tattlelaw01.WireLong", spec := "wireLong", named := ["tattle/wire.sumTable"], apart := false, laid := [("tattle/wire.sumTable", laid_tattle_wire_sumTable)], narrowed := true }
def WireLongUptoSaid : Prop := wireLongUptoRow.holds Tryd.pinned (OpenSpec.upto wireLongSpec)

end Rows
end Go.Proofs.YtpndijbhopeakaaDoor
