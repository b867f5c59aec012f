/-
  NARROWER THAN 'FOR EVERY INPUT', by the rows' own cells (each row's printed sentence says how): LoadTells: laid · LoadBounds: laid · LoadFirst: laid · LoadOne: laid · LoadAhead: laid · LoadStays: laid · LoadMost: laid.
  DERIVED. THE GIVEN ROWS OF THIS SEAT. 7 by the template 'for every input the law returns true; each argument reads behind the call as it read before'; 0 by the template 'total and deterministic' (their statements: YthcjjogomknddaaDoorTotals.lean).
  GIVEN WITH THE SEED: the statements are not yours to turn. If you find one false, say at which input.
  Laid BY PROGRAM, IN A SANDBOX (cutbox-rows.mjs): the forced cells as the released guide's own fill.sh prints them over the translation 79a58099bac2332a… (all of the seat's roots in one cut). By AI agents, Wed Nov 11 2026. No macro, syntax, notation, axiom, sorry.
-/
import Derived.Test.YthcjjogomknddaaDoorChecked
import GoSem.Claim
import GoSem.ClaimJoined
import GoSem.ClaimMapViews
import Derived.JoinedTies
import Derived.KernelRfl
namespace Go.Proofs.YthcjjogomknddaaDoor
/- THE CELL 'sum', in the pinned program and in every row, IS THE sha256 OF THE DUMP (.gsa) THAT YthcjjogomknddaaDoorProg.lean LOADS. Nothing in Lean hashes anything: it is a label: what it is worth is what the hold of that sum in a sandbox is worth. -/
noncomputable def Tryd.pinned : Pinned := { name := "ythcjjogomknddaadoor", sum := "79a58099bac2332a941d841e13b93a8763115616ae38d7dd8a56bad3db90e1e5", checked := Tryd.checked }
namespace Rows
def none {H : Type} : Left H := { results := [], args := [] }

/- WHAT THE LISTED PACKAGE-LEVEL VARIABLES READ AS WHEN THE CALL BEGINS. Each datum BY PROGRAM (the guide's laid-datum.mjs) off the statement by which the dump's own 'gosem.cut.vars' lays the variable. In a bare row this is a premise. The card (YthcjjogomknddaaDoorCards.lean) ties it to the program's text. -/
def laid_math_bits_deBruijn32tab {H : Type} : DataW H := .agg [.lit (.int .u8 0), .lit (.int .u8 1), .lit (.int .u8 28), .lit (.int .u8 2), .lit (.int .u8 29), .lit (.int .u8 14), .lit (.int .u8 24), .lit (.int .u8 3), .lit (.int .u8 30), .lit (.int .u8 22), .lit (.int .u8 20), .lit (.int .u8 15), .lit (.int .u8 25), .lit (.int .u8 17), .lit (.int .u8 4), .lit (.int .u8 8), .lit (.int .u8 31), .lit (.int .u8 27), .lit (.int .u8 13), .lit (.int .u8 23), .lit (.int .u8 21), .lit (.int .u8 19), .lit (.int .u8 16), .lit (.int .u8 7), .lit (.int .u8 26), .lit (.int .u8 12), .lit (.int .u8 18), .lit (.int .u8 6), .lit (.int .u8 11), .lit (.int .u8 5), .lit (.int .u8 10), .lit (.int .u8 9)]
def laid_math_bits_deBruijn64tab {H : Type} : DataW H := .agg [.lit (.int .u8 0), .lit (.int .u8 1), .lit (.int .u8 56), .lit (.int .u8 2), .lit (.int .u8 57), .lit (.int .u8 49), .lit (.int .u8 28), .lit (.int .u8 3), .lit (.int .u8 61), .lit (.int .u8 58), .lit (.int .u8 42), .lit (.int .u8 50), .lit (.int .u8 38), .lit (.int .u8 29), .lit (.int .u8 17), .lit (.int .u8 4), .lit (.int .u8 62), .lit (.int .u8 47), .lit (.int .u8 59), .lit (.int .u8 36), .lit (.int .u8 45), .lit (.int .u8 43), .lit (.int .u8 51), .lit (.int .u8 22), .lit (.int .u8 53), .lit (.int .u8 39), .lit (.int .u8 33), .lit (.int .u8 30), .lit (.int .u8 24), .lit (.int .u8 18), .lit (.int .u8 12), .lit (.int .u8 5), .lit (.int .u8 63), .lit (.int .u8 55), .lit (.int .u8 48), .lit (.int .u8 27), .lit (.int .u8 60), .lit (.int .u8 41), .lit (.int .u8 37), .lit (.int .u8 16), .lit (.int .u8 46), .lit (.int .u8 35), .lit (.int .u8 44), .lit (.int .u8 21), .lit (.int .u8 52), .lit (.int .u8 32), .lit (.int .u8 23), .lit (.int .u8 11), .lit (.int .u8 54), .lit (.int .u8 26), .lit (.int .u8 40), .lit (.int .u8 15), .lit (.int .u8 34), .lit (.int .u8 20), .lit (.int .u8 31), .lit (.int .u8 10), .lit (.int .u8 25), .lit (.int .u8 14), .lit (.int .u8 19), .lit (.int .u8 9), .lit (.int .u8 13), .lit (.int .u8 8), .lit (.int .u8 7), .lit (.int .u8 6)]
def laid_internal_strconv_uint64pow10 {H : Type} : DataW H := .agg [.lit (.int .u64 1), .lit (.int .u64 10), .lit (.int .u64 100), .lit (.int .u64 1000), .lit (.int .u64 10000), .lit (.int .u64 100000), .lit (.int .u64 1000000), .lit (.int .u64 10000000), .lit (.int .u64 100000000), .lit (.int .u64 1000000000), .lit (.int .u64 10000000000), .lit (.int .u64 100000000000), .lit (.int .u64 1000000000000), .lit (.int .u64 10000000000000), .lit (.int .u64 100000000000000), .lit (.int .u64 1000000000000000), .lit (.int .u64 10000000000000000), .lit (.int .u64 100000000000000000), .lit (.int .u64 1000000000000000000), .lit (.int .u64 10000000000000000000)]

/-- 'tattlelaw14.LoadTells': WHATEVER THE INPUT: true; the input reads as it did. -/
def loadTellsSpec : ChangeSpec := { name := "loadTells", fn := fun _ => fun
  | [d] => { results := [.lit (.bool true)], args := [d] }
  | _ => none }
def loadTellsRow : OpenClaim := { program := "ythcjjogomknddaadoor", sum := "79a58099bac2332a941d841e13b93a8763115616ae38d7dd8a56bad3db90e1e5", func := "tattle/tattlelaw14.LoadTells", spec := "loadTells", unfollowed := true, recurses := true, named := ["internal/strconv.uint64pow10", "math/bits.deBruijn32tab", "math/bits.deBruijn64tab"], apart := false, laid := [("math/bits.deBruijn32tab", laid_math_bits_deBruijn32tab), ("math/bits.deBruijn64tab", laid_math_bits_deBruijn64tab), ("internal/strconv.uint64pow10", laid_internal_strconv_uint64pow10)] }
def LoadTellsSaid : Prop := loadTellsRow.holds Tryd.pinned (OpenSpec.ofChange loadTellsSpec)

/-- ITS FALSE NEIGHBOUR: 'it returns false'. Refute it at one input. -/
def loadTellsWrong : ChangeSpec := { name := "loadTells", fn := fun _ => fun
  | [d] => { results := [.lit (.bool false)], args := [d] }
  | _ => none }
def LoadTellsWrongFalsely : Prop := loadTellsRow.holds Tryd.pinned (OpenSpec.ofChange loadTellsWrong)

/-- 'tattlelaw14.LoadBounds': WHATEVER THE INPUT: true; the input reads as it did. -/
def loadBoundsSpec : ChangeSpec := { name := "loadBounds", fn := fun _ => fun
  | [d] => { results := [.lit (.bool true)], args := [d] }
  | _ => none }
def loadBoundsRow : OpenClaim := { program := "ythcjjogomknddaadoor", sum := "79a58099bac2332a941d841e13b93a8763115616ae38d7dd8a56bad3db90e1e5", func := "tattle/tattlelaw14.LoadBounds", spec := "loadBounds", unfollowed := true, recurses := true, named := ["internal/strconv.uint64pow10", "math/bits.deBruijn32tab", "math/bits.deBruijn64tab"], apart := false, laid := [("math/bits.deBruijn32tab", laid_math_bits_deBruijn32tab), ("math/bits.deBruijn64tab", laid_math_bits_deBruijn64tab), ("internal/strconv.uint64pow10", laid_internal_strconv_uint64pow10)] }
def LoadBoundsSaid : Prop := loadBoundsRow.holds Tryd.pinned (OpenSpec.ofChange loadBoundsSpec)

/-- ITS FALSE NEIGHBOUR: 'it returns false'. Refute it at one input. -/
def loadBoundsWrong : ChangeSpec := { name := "loadBounds", fn := fun _ => fun
  | [d] => { results := [.lit (.bool false)], args := [d] }
  | _ => none }
def LoadBoundsWrongFalsely : Prop := loadBoundsRow.holds Tryd.pinned (OpenSpec.ofChange loadBoundsWrong)

/-- 'tattlelaw14.LoadFirst': WHATEVER THE INPUT: true; the input reads as it did. -/
def loadFirstSpec : ChangeSpec := { name := "loadFirst", fn := fun _ => fun
  | [d] => { results := [.lit (.bool true)], args := [d] }
  | _ => none }
def loadFirstRow : OpenClaim := { program := "ythcjjogomknddaadoor", sum := "79a58099bac2332a941d841e13b93a8763115616ae38d7dd8a56bad3db90e1e5", func := "tattle/tattlelaw14.LoadFirst", spec := "loadFirst", unfollowed := true, recurses := true, named := ["internal/strconv.uint64pow10", "math/bits.deBruijn32tab", "math/bits.deBruijn64tab"], apart := false, laid := [("math/bits.deBruijn32tab", laid_math_bits_deBruijn32tab), ("math/bits.deBruijn64tab", laid_math_bits_deBruijn64tab), ("internal/strconv.uint64pow10", laid_internal_strconv_uint64pow10)] }
def LoadFirstSaid : Prop := loadFirstRow.holds Tryd.pinned (OpenSpec.ofChange loadFirstSpec)

/-- ITS FALSE NEIGHBOUR: 'it returns false'. Refute it at one input. -/
def loadFirstWrong : ChangeSpec := { name := "loadFirst", fn := fun _ => fun
  | [d] => { results := [.lit (.bool false)], args := [d] }
  | _ => none }
def LoadFirstWrongFalsely : Prop := loadFirstRow.holds Tryd.pinned (OpenSpec.ofChange loadFirstWrong)

/-- 'tattlelaw14.LoadOne': WHATEVER THE INPUT: true; the input reads as it did. -/
def loadOneSpec : ChangeSpec := { name := "loadOne", fn := fun _ => fun
  | [d1, d2] => { results := [.lit (.bool true)], args := [d1, d2] }
  | _ => none }
def loadOneRow : OpenClaim := { program := "ythcjjogomknddaadoor", sum := "79a58099bac2332a941d841e13b93a8763115616ae38d7dd8a56bad3db90e1e5", func := "tattle/tattlelaw14.LoadOne", spec := "loadOne", unfollowed := true, recurses := true, named := ["internal/strconv.uint64pow10", "math/bits.deBruijn32tab", "math/bits.deBruijn64tab"], apart := false, laid := [("math/bits.deBruijn32tab", laid_math_bits_deBruijn32tab), ("math/bits.deBruijn64tab", laid_math_bits_deBruijn64tab), ("internal/strconv.uint64pow10", laid_internal_strconv_uint64pow10)] }
def LoadOneSaid : Prop := loadOneRow.holds Tryd.pinned (OpenSpec.ofChange loadOneSpec)

/-- ITS FALSE NEIGHBOUR: 'it returns false'. Refute it at one input. -/
def loadOneWrong : ChangeSpec := { name := "loadOne", fn := fun _ => fun
  | [d1, d2] => { results := [.lit (.bool false)], args := [d1, d2] }
  | _ => none }
def LoadOneWrongFalsely : Prop := loadOneRow.holds Tryd.pinned (OpenSpec.ofChange loadOneWrong)

/-- 'tattlelaw14.LoadAhead': WHATEVER THE INPUT: true; the input reads as it did. -/
def loadAheadSpec : ChangeSpec := { name := "loadAhead", fn := fun _ => fun
  | [d] => { results := [.lit (.bool true)], args := [d] }
  | _ => none }
def loadAheadRow : OpenClaim := { program := "ythcjjogomknddaadoor", sum := "79a58099bac2332a941d841e13b93a8763115616ae38d7dd8a56bad3db90e1e5", func := "tattle/tattlelaw14.LoadAhead", spec := "loadAhead", unfollowed := true, recurses := true, named := ["internal/strconv.uint64pow10", "math/bits.deBruijn32tab", "math/bits.deBruijn64tab"], apart := false, laid := [("math/bits.deBruijn32tab", laid_math_bits_deBruijn32tab), ("math/bits.deBruijn64tab", laid_math_bits_deBruijn64tab), ("internal/strconv.uint64pow10", laid_internal_strconv_uint64pow10)] }
def LoadAheadSaid : Prop := loadAheadRow.holds Tryd.pinned (OpenSpec.ofChange loadAheadSpec)

/-- ITS FALSE NEIGHBOUR: 'it returns false'. Refute it at one input. -/
def loadAheadWrong : ChangeSpec := { name := "loadAhead", fn := fun _ => fun
  | [d] => { results := [.lit (.bool false)], args := [d] }
  | _ => none }
def LoadAheadWrongFalsely : Prop := loadAheadRow.holds Tryd.pinned (OpenSpec.ofChange loadAheadWrong)

/-- 'tattlelaw14.LoadStays': WHATEVER THE INPUT: true; the input reads as it did. -/
def loadStaysSpec : ChangeSpec := { name := "loadStays", fn := fun _ => fun
  | [d1, d2] => { results := [.lit (.bool true)], args := [d1, d2] }
  | _ => none }
def loadStaysRow : OpenClaim := { program := "ythcjjogomknddaadoor", sum := "79a58099bac2332a941d841e13b93a8763115616ae38d7dd8a56bad3db90e1e5", func := "tattle/tattlelaw14.LoadStays", spec := "loadStays", unfollowed := true, recurses := true, named := ["internal/strconv.uint64pow10", "math/bits.deBruijn32tab", "math/bits.deBruijn64tab"], apart := false, laid := [("math/bits.deBruijn32tab", laid_math_bits_deBruijn32tab), ("math/bits.deBruijn64tab", laid_math_bits_deBruijn64tab), ("internal/strconv.uint64pow10", laid_internal_strconv_uint64pow10)] }
def LoadStaysSaid : Prop := loadStaysRow.holds Tryd.pinned (OpenSpec.ofChange loadStaysSpec)

/-- ITS FALSE NEIGHBOUR: 'it returns false'. Refute it at one input. -/
def loadStaysWrong : ChangeSpec := { name := "loadStays", fn := fun _ => fun
  | [d1, d2] => { results := [.lit (.bool false)], args := [d1, d2] }
  | _ => none }
def LoadStaysWrongFalsely : Prop := loadStaysRow.holds Tryd.pinned (OpenSpec.ofChange loadStaysWrong)

/-- 'tattlelaw14.LoadMost': WHATEVER THE INPUT: true; the input reads as it did. -/
def loadMostSpec : ChangeSpec := { name := "loadMost", fn := fun _ => fun
  | [d1, d2] => { results := [.lit (.bool true)], args := [d1, d2] }
  | _ => none }
def loadMostRow : OpenClaim := { program := "ythcjjogomknddaadoor", sum := "79a58099bac2332a941d841e13b93a8763115616ae38d7dd8a56bad3db90e1e5", func := "tattle/tattlelaw14.LoadMost", spec := "loadMost", unfollowed := true, recurses := true, named := ["internal/strconv.uint64pow10", "math/bits.deBruijn32tab", "math/bits.deBruijn64tab"], apart := false, laid := [("math/bits.deBruijn32tab", laid_math_bits_deBruijn32tab), ("math/bits.deBruijn64tab", laid_math_bits_deBruijn64tab), ("internal/strconv.uint64pow10", laid_internal_strconv_uint64pow10)] }
def LoadMostSaid : Prop := loadMostRow.holds Tryd.pinned (OpenSpec.ofChange loadMostSpec)

/-- ITS FALSE NEIGHBOUR: 'it returns false'. Refute it at one input. -/
def loadMostWrong : ChangeSpec := { name := "loadMost", fn := fun _ => fun
  | [d1, d2] => { results := [.lit (.bool false)], args := [d1, d2] }
  | _ => none }
def LoadMostWrongFalsely : Prop := loadMostRow.holds Tryd.pinned (OpenSpec.ofChange loadMostWrong)

/- THE SECOND FORM. 'bulk': how many values and letters a reading holds, each counted each time it is reached (what is shared counts as often as it is met; a slice's spare places count too). A statement '..UptoSaid' is the law's where the arguments, and the package variables that the reading takes, are together of bulk at most 1048576: NARROWER than '..Said'. Prove '..Said' where nothing that the law and all that it calls make is longer than what came in: it says more and counts as full. Else prove '..UptoSaid'. A law counts once. -/
mutual
def uptoBulk {H : Type} : DataW H → Nat
  | .lit (.string bytes) => bytes.length + 1
  | .lit _ => 1
  | .nil => 1
  | .ptr d => uptoBulk d + 1
  | .slice elems spare => uptoBulkAll elems + uptoBulkAll spare + 1
  | .agg parts => uptoBulkAll parts + 1
  | .iface _ d => uptoBulk d + 1
  | .map entries => uptoBulkEntries entries + 1
  | .held _ => 1
def uptoBulkAll {H : Type} : List (DataW H) → Nat
  | [] => 0
  | d :: r => uptoBulk d + uptoBulkAll r
def uptoBulkEntries {H : Type} : List (Lit × DataW H) → Nat
  | [] => 0
  | x :: r => uptoBulkEntry x + uptoBulkEntries r
def uptoBulkEntry {H : Type} : Lit × DataW H → Nat
  | (.string bytes, d) => bytes.length + uptoBulk d + 1
  | (_, d) => uptoBulk d + 1
 end
def uptoSmall : (H : Type) → List (DataW H) → Bool := fun _ ds => decide (uptoBulkAll ds ≤ 1048576)
def OpenSpec.upto (s : _root_.Go.ChangeSpec) : _root_.Go.OpenSpec := { _root_.Go.OpenSpec.ofChange s with cond := some uptoSmall }

/-- 'tattlelaw14.LoadTells', WHERE WHAT IT READS IS OF BULK AT MOST 1048576: true; the input reads as it did. -/
def loadTellsUptoRow : OpenClaim := { program := "ythcjjogomknddaadoor", sum := "79a58099bac2332a941d841e13b93a8763115616ae38d7dd8a56bad3db90e1e5", func := "tattle/tattlelaw14.LoadTells", spec := "loadTells", unfollowed := true, recurses := true, named := ["internal/strconv.uint64pow10", "math/bits.deBruijn32tab", "math/bits.deBruijn64tab"], apart := false, laid := [("math/bits.deBruijn32tab", laid_math_bits_deBruijn32tab), ("math/bits.deBruijn64tab", laid_math_bits_deBruijn64tab), ("internal/strconv.uint64pow10", laid_internal_strconv_uint64pow10)], narrowed := true }
def LoadTellsUptoSaid : Prop := loadTellsUptoRow.holds Tryd.pinned (OpenSpec.upto loadTellsSpec)

/-- 'tattlelaw14.LoadBounds', WHERE WHAT IT READS IS OF BULK AT MOST 1048576: true; the input reads as it did. -/
def loadBoundsUptoRow : OpenClaim := { program := "ythcjjogomknddaadoor", sum := "79a58099bac2332a941d841e13b93a8763115616ae38d7dd8a56bad3db90e1e5", func := "tattle/tattlelaw14.LoadBounds", spec := "loadBounds", unfollowed := true, recurses := true, named := ["internal/strconv.uint64pow10", "math/bits.deBruijn32tab", "math/bits.deBruijn64tab"], apart := false, laid := [("math/bits.deBruijn32tab", laid_math_bits_deBruijn32tab), ("math/bits.deBruijn64tab", laid_math_bits_deBruijn64tab), ("internal/strconv.uint64pow10", laid_internal_strconv_uint64pow10)], narrowed := true }
def LoadBoundsUptoSaid : Prop := loadBoundsUptoRow.holds Tryd.pinned (OpenSpec.upto loadBoundsSpec)

/-- 'tattlelaw14.LoadFirst', WHERE WHAT IT READS IS OF BULK AT MOST 1048576: true; the input reads as it did. -/
def loadFirstUptoRow : OpenClaim := { program := "ythcjjogomknddaadoor", sum := "79a58099bac2332a941d841e13b93a8763115616ae38d7dd8a56bad3db90e1e5", func := "tattle/tattlelaw14.LoadFirst", spec := "loadFirst", unfollowed := true, recurses := true, named := ["internal/strconv.uint64pow10", "math/bits.deBruijn32tab", "math/bits.deBruijn64tab"], apart := false, laid := [("math/bits.deBruijn32tab", laid_math_bits_deBruijn32tab), ("math/bits.deBruijn64tab", laid_math_bits_deBruijn64tab), ("internal/strconv.uint64pow10", laid_internal_strconv_uint64pow10)], narrowed := true }
def LoadFirstUptoSaid : Prop := loadFirstUptoRow.holds Tryd.pinned (OpenSpec.upto loadFirstSpec)

/-- 'tattlelaw14.LoadOne', WHERE WHAT IT READS IS OF BULK AT MOST 1048576: true; the input reads as it did. -/
def loadOneUptoRow : OpenClaim := { program := "ythcjjogomknddaadoor", sum := "79a58099bac2332a941d841e13b93a8763115616ae38d7dd8a56bad3db90e1e5", func := "tattle/tattlelaw14.LoadOne", spec := "loadOne", unfollowed := true, recurses := true, named := ["internal/strconv.uint64pow10", "math/bits.deBruijn32tab", "math/bits.deBruijn64tab"], apart := false, laid := [("math/bits.deBruijn32tab", laid_math_bits_deBruijn32tab), ("math/bits.deBruijn64tab", laid_math_bits_deBruijn64tab), ("internal/strconv.uint64pow10", laid_internal_strconv_uint64pow10)], narrowed := true }
def LoadOneUptoSaid : Prop := loadOneUptoRow.holds Tryd.pinned (OpenSpec.upto loadOneSpec)

/-- 'tattlelaw14.LoadAhead', WHERE WHAT IT READS IS OF BULK AT MOST 1048576: true; the input reads as it did. -/
def loadAheadUptoRow : OpenClaim := { program := "ythcjjogomknddaadoor", sum := "79a58099bac2332a941d841e13b93a8763115616ae38d7dd8a56bad3db90e1e5", func := "tattle/tattlelaw14.LoadAhead", spec := "loadAhead", unfollowed := true, recurses := true, named := ["internal/strconv.uint64pow10", "math/bits.deBruijn32tab", "math/bits.deBruijn64tab"], apart := false, laid := [("math/bits.deBruijn32tab", laid_math_bits_deBruijn32tab), ("math/bits.deBruijn64tab", laid_math_bits_deBruijn64tab), ("internal/strconv.uint64pow10", laid_internal_strconv_uint64pow10)], narrowed := true }
def LoadAheadUptoSaid : Prop := loadAheadUptoRow.holds Tryd.pinned (OpenSpec.upto loadAheadSpec)

/-- 'tattlelaw14.LoadStays', WHERE WHAT IT READS IS OF BULK AT MOST 1048576: true; the input reads as it did. -/
def loadStaysUptoRow : OpenClaim := { program := "ythcjjogomknddaadoor", sum := "79a58099bac2332a941d841e13b93a8763115616ae38d7dd8a56bad3db90e1e5", func := "tattle/tattlelaw14.LoadStays", spec := "loadStays", unfollowed := true, recurses := true, named := ["internal/strconv.uint64pow10", "math/bits.deBruijn32tab", "math/bits.deBruijn64tab"], apart := false, laid := [("math/bits.deBruijn32tab", laid_math_bits_deBruijn32tab), ("math/bits.deBruijn64tab", laid_math_bits_deBruijn64tab), ("internal/strconv.uint64pow10", laid_internal_strconv_uint64pow10)], narrowed := true }
def LoadStaysUptoSaid : Prop := loadStaysUptoRow.holds Tryd.pinned (OpenSpec.upto loadStaysSpec)

/-- 'tattlelaw14.LoadMost', WHERE WHAT IT READS IS OF BULK AT MOST 1048576: true; the input reads as it did. -/
def loadMostUptoRow : OpenClaim := { program := "ythcjjogomknddaadoor", sum := "79a58099bac2332a941d841e13b93a8763115616ae38d7dd8a56bad3db90e1e5", func := "tattle/tattlelaw14.LoadMost", spec := "loadMost", unfollowed := true, recurses := true, named := ["internal/strconv.uint64pow10", "math/bits.deBruijn32tab", "math/bits.deBruijn64tab"], apart := false, laid := [("math/bits.deBruijn32tab", laid_math_bits_deBruijn32tab), ("math/bits.deBruijn64tab", laid_math_bits_deBruijn64tab), ("internal/strconv.uint64pow10", laid_internal_strconv_uint64pow10)], narrowed := true }
def LoadMostUptoSaid : Prop := loadMostUptoRow.holds Tryd.pinned (OpenSpec.upto loadMostSpec)

end Rows
end Go.Proofs.YthcjjogomknddaaDoor
