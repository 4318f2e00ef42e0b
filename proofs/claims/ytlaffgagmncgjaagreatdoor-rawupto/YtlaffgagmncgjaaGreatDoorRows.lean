/-
  NARROWER THAN 'FOR EVERY INPUT', by the rows' own cells (each row's printed sentence says how): Applies: laid · Unapplies: laid · Pulls: laid · Shows: laid · Logs: laid · Texts: laid · Records: laid · Credits: laid · Bundles: laid · Loads: laid · Owned: laid · Raw: laid.
  DERIVED. THE GIVEN ROWS OF THIS SEAT. 12 by the template 'for every input the law returns true; each argument reads behind the call as it read before'; 0 by the template 'total and deterministic' (their statements: YtlaffgagmncgjaaGreatDoorTotals.lean).
  GIVEN WITH THE SEED: the statements are not yours to turn. If you find one false, say at which input.
  Laid BY PROGRAM, IN A SANDBOX (cutbox-rows.mjs): the forced cells as the released guide's own fill.sh prints them over the translation 3dd1b187c5cb7241… (all of the seat's roots in one cut). By AI agents, Wed Nov 11 2026. No macro, syntax, notation, axiom, sorry.
-/
import Derived.Test.YtlaffgagmncgjaaGreatDoorChecked
import GoSem.Claim
import GoSem.ClaimJoined
import GoSem.ClaimMapViews
import Derived.JoinedTies
import Derived.KernelRfl
namespace Go.Proofs.YtlaffgagmncgjaaGreatDoor
/- THE CELL 'sum', in the pinned program and in every row, IS THE sha256 OF THE DUMP (.gsa) THAT YtlaffgagmncgjaaGreatDoorProg.lean LOADS. Nothing in Lean hashes anything: it is a label: what it is worth is what the hold of that sum in a sandbox is worth. -/
noncomputable def Tryz.pinned : Pinned := { name := "ytlaffgagmncgjaagreatdoor", sum := "3dd1b187c5cb7241ffb3a929b6efac19e5876cf1479ac1f62562c5efe4bcfeec", checked := Tryz.checked }
namespace Rows
def none {H : Type} : Left H := { results := [], args := [] }

/- WHAT THE LISTED PACKAGE-LEVEL VARIABLES READ AS WHEN THE CALL BEGINS. Each datum BY PROGRAM (the guide's laid-datum.mjs) off the statement by which the dump's own 'gosem.cut.vars' lays the variable. In a bare row this is a premise. The card (YtlaffgagmncgjaaGreatDoorCards.lean) ties it to the program's text. -/
def laid_math_bits_deBruijn32tab {H : Type} : DataW H := .agg [.lit (.int .u8 0), .lit (.int .u8 1), .lit (.int .u8 28), .lit (.int .u8 2), .lit (.int .u8 29), .lit (.int .u8 14), .lit (.int .u8 24), .lit (.int .u8 3), .lit (.int .u8 30), .lit (.int .u8 22), .lit (.int .u8 20), .lit (.int .u8 15), .lit (.int .u8 25), .lit (.int .u8 17), .lit (.int .u8 4), .lit (.int .u8 8), .lit (.int .u8 31), .lit (.int .u8 27), .lit (.int .u8 13), .lit (.int .u8 23), .lit (.int .u8 21), .lit (.int .u8 19), .lit (.int .u8 16), .lit (.int .u8 7), .lit (.int .u8 26), .lit (.int .u8 12), .lit (.int .u8 18), .lit (.int .u8 6), .lit (.int .u8 11), .lit (.int .u8 5), .lit (.int .u8 10), .lit (.int .u8 9)]
def laid_math_bits_deBruijn64tab {H : Type} : DataW H := .agg [.lit (.int .u8 0), .lit (.int .u8 1), .lit (.int .u8 56), .lit (.int .u8 2), .lit (.int .u8 57), .lit (.int .u8 49), .lit (.int .u8 28), .lit (.int .u8 3), .lit (.int .u8 61), .lit (.int .u8 58), .lit (.int .u8 42), .lit (.int .u8 50), .lit (.int .u8 38), .lit (.int .u8 29), .lit (.int .u8 17), .lit (.int .u8 4), .lit (.int .u8 62), .lit (.int .u8 47), .lit (.int .u8 59), .lit (.int .u8 36), .lit (.int .u8 45), .lit (.int .u8 43), .lit (.int .u8 51), .lit (.int .u8 22), .lit (.int .u8 53), .lit (.int .u8 39), .lit (.int .u8 33), .lit (.int .u8 30), .lit (.int .u8 24), .lit (.int .u8 18), .lit (.int .u8 12), .lit (.int .u8 5), .lit (.int .u8 63), .lit (.int .u8 55), .lit (.int .u8 48), .lit (.int .u8 27), .lit (.int .u8 60), .lit (.int .u8 41), .lit (.int .u8 37), .lit (.int .u8 16), .lit (.int .u8 46), .lit (.int .u8 35), .lit (.int .u8 44), .lit (.int .u8 21), .lit (.int .u8 52), .lit (.int .u8 32), .lit (.int .u8 23), .lit (.int .u8 11), .lit (.int .u8 54), .lit (.int .u8 26), .lit (.int .u8 40), .lit (.int .u8 15), .lit (.int .u8 34), .lit (.int .u8 20), .lit (.int .u8 31), .lit (.int .u8 10), .lit (.int .u8 25), .lit (.int .u8 14), .lit (.int .u8 19), .lit (.int .u8 9), .lit (.int .u8 13), .lit (.int .u8 8), .lit (.int .u8 7), .lit (.int .u8 6)]
def laid_internal_strconv_uint64pow10 {H : Type} : DataW H := .agg [.lit (.int .u64 1), .lit (.int .u64 10), .lit (.int .u64 100), .lit (.int .u64 1000), .lit (.int .u64 10000), .lit (.int .u64 100000), .lit (.int .u64 1000000), .lit (.int .u64 10000000), .lit (.int .u64 100000000), .lit (.int .u64 1000000000), .lit (.int .u64 10000000000), .lit (.int .u64 100000000000), .lit (.int .u64 1000000000000), .lit (.int .u64 10000000000000), .lit (.int .u64 100000000000000), .lit (.int .u64 1000000000000000), .lit (.int .u64 10000000000000000), .lit (.int .u64 100000000000000000), .lit (.int .u64 1000000000000000000), .lit (.int .u64 10000000000000000000)]

/-- 'patcheslaw.Applies': WHATEVER THE INPUT: true; the input reads as it did. -/
def appliesSpec : ChangeSpec := { name := "applies", fn := fun _ => fun
  | [d] => { results := [.lit (.bool true)], args := [d] }
  | _ => none }
def appliesRow : OpenClaim := { program := "ytlaffgagmncgjaagreatdoor", sum := "3dd1b187c5cb7241ffb3a929b6efac19e5876cf1479ac1f62562c5efe4bcfeec", func := "patches/patcheslaw.Applies", spec := "applies", recurses := true, named := ["internal/strconv.uint64pow10", "math/bits.deBruijn32tab", "math/bits.deBruijn64tab"], apart := false, laid := [("math/bits.deBruijn32tab", laid_math_bits_deBruijn32tab), ("math/bits.deBruijn64tab", laid_math_bits_deBruijn64tab), ("internal/strconv.uint64pow10", laid_internal_strconv_uint64pow10)] }
def AppliesSaid : Prop := appliesRow.holds Tryz.pinned (OpenSpec.ofChange appliesSpec)

/-- ITS FALSE NEIGHBOUR: 'it returns false'. Refute it at one input. -/
def appliesWrong : ChangeSpec := { name := "applies", fn := fun _ => fun
  | [d] => { results := [.lit (.bool false)], args := [d] }
  | _ => none }
def AppliesWrongFalsely : Prop := appliesRow.holds Tryz.pinned (OpenSpec.ofChange appliesWrong)

/-- 'patcheslaw.Unapplies': WHATEVER THE INPUT: true; the input reads as it did. -/
def unappliesSpec : ChangeSpec := { name := "unapplies", fn := fun _ => fun
  | [d] => { results := [.lit (.bool true)], args := [d] }
  | _ => none }
def unappliesRow : OpenClaim := { program := "ytlaffgagmncgjaagreatdoor", sum := "3dd1b187c5cb7241ffb3a929b6efac19e5876cf1479ac1f62562c5efe4bcfeec", func := "patches/patcheslaw.Unapplies", spec := "unapplies", recurses := true, named := ["internal/strconv.uint64pow10", "math/bits.deBruijn32tab", "math/bits.deBruijn64tab"], apart := false, laid := [("math/bits.deBruijn32tab", laid_math_bits_deBruijn32tab), ("math/bits.deBruijn64tab", laid_math_bits_deBruijn64tab), ("internal/strconv.uint64pow10", laid_internal_strconv_uint64pow10)] }
def UnappliesSaid : Prop := unappliesRow.holds Tryz.pinned (OpenSpec.ofChange unappliesSpec)

/-- ITS FALSE NEIGHBOUR: 'it returns false'. Refute it at one input. -/
def unappliesWrong : ChangeSpec := { name := "unapplies", fn := fun _ => fun
  | [d] => { results := [.lit (.bool false)], args := [d] }
  | _ => none }
def UnappliesWrongFalsely : Prop := unappliesRow.holds Tryz.pinned (OpenSpec.ofChange unappliesWrong)

/-- 'patcheslaw.Pulls': WHATEVER THE INPUT: true; the input reads as it did. -/
def pullsSpec : ChangeSpec := { name := "pulls", fn := fun _ => fun
  | [d] => { results := [.lit (.bool true)], args := [d] }
  | _ => none }
def pullsRow : OpenClaim := { program := "ytlaffgagmncgjaagreatdoor", sum := "3dd1b187c5cb7241ffb3a929b6efac19e5876cf1479ac1f62562c5efe4bcfeec", func := "patches/patcheslaw.Pulls", spec := "pulls", recurses := true, named := ["internal/strconv.uint64pow10", "math/bits.deBruijn32tab", "math/bits.deBruijn64tab"], apart := false, laid := [("math/bits.deBruijn32tab", laid_math_bits_deBruijn32tab), ("math/bits.deBruijn64tab", laid_math_bits_deBruijn64tab), ("internal/strconv.uint64pow10", laid_internal_strconv_uint64pow10)] }
def PullsSaid : Prop := pullsRow.holds Tryz.pinned (OpenSpec.ofChange pullsSpec)

/-- ITS FALSE NEIGHBOUR: 'it returns false'. Refute it at one input. -/
def pullsWrong : ChangeSpec := { name := "pulls", fn := fun _ => fun
  | [d] => { results := [.lit (.bool false)], args := [d] }
  | _ => none }
def PullsWrongFalsely : Prop := pullsRow.holds Tryz.pinned (OpenSpec.ofChange pullsWrong)

/-- 'patcheslaw.Shows': WHATEVER THE INPUT: true; the input reads as it did. -/
def showsSpec : ChangeSpec := { name := "shows", fn := fun _ => fun
  | [d] => { results := [.lit (.bool true)], args := [d] }
  | _ => none }
def showsRow : OpenClaim := { program := "ytlaffgagmncgjaagreatdoor", sum := "3dd1b187c5cb7241ffb3a929b6efac19e5876cf1479ac1f62562c5efe4bcfeec", func := "patches/patcheslaw.Shows", spec := "shows", recurses := true, named := ["internal/strconv.uint64pow10", "math/bits.deBruijn32tab", "math/bits.deBruijn64tab"], apart := false, laid := [("math/bits.deBruijn32tab", laid_math_bits_deBruijn32tab), ("math/bits.deBruijn64tab", laid_math_bits_deBruijn64tab), ("internal/strconv.uint64pow10", laid_internal_strconv_uint64pow10)] }
def ShowsSaid : Prop := showsRow.holds Tryz.pinned (OpenSpec.ofChange showsSpec)

/-- ITS FALSE NEIGHBOUR: 'it returns false'. Refute it at one input. -/
def showsWrong : ChangeSpec := { name := "shows", fn := fun _ => fun
  | [d] => { results := [.lit (.bool false)], args := [d] }
  | _ => none }
def ShowsWrongFalsely : Prop := showsRow.holds Tryz.pinned (OpenSpec.ofChange showsWrong)

/-- 'patcheslaw.Logs': WHATEVER THE INPUT: true; the input reads as it did. -/
def logsSpec : ChangeSpec := { name := "logs", fn := fun _ => fun
  | [d] => { results := [.lit (.bool true)], args := [d] }
  | _ => none }
def logsRow : OpenClaim := { program := "ytlaffgagmncgjaagreatdoor", sum := "3dd1b187c5cb7241ffb3a929b6efac19e5876cf1479ac1f62562c5efe4bcfeec", func := "patches/patcheslaw.Logs", spec := "logs", recurses := true, named := ["internal/strconv.uint64pow10", "math/bits.deBruijn32tab", "math/bits.deBruijn64tab"], apart := false, laid := [("math/bits.deBruijn32tab", laid_math_bits_deBruijn32tab), ("math/bits.deBruijn64tab", laid_math_bits_deBruijn64tab), ("internal/strconv.uint64pow10", laid_internal_strconv_uint64pow10)] }
def LogsSaid : Prop := logsRow.holds Tryz.pinned (OpenSpec.ofChange logsSpec)

/-- ITS FALSE NEIGHBOUR: 'it returns false'. Refute it at one input. -/
def logsWrong : ChangeSpec := { name := "logs", fn := fun _ => fun
  | [d] => { results := [.lit (.bool false)], args := [d] }
  | _ => none }
def LogsWrongFalsely : Prop := logsRow.holds Tryz.pinned (OpenSpec.ofChange logsWrong)

/-- 'patcheslaw.Texts': WHATEVER THE INPUT: true; the input reads as it did. -/
def textsSpec : ChangeSpec := { name := "texts", fn := fun _ => fun
  | [d] => { results := [.lit (.bool true)], args := [d] }
  | _ => none }
def textsRow : OpenClaim := { program := "ytlaffgagmncgjaagreatdoor", sum := "3dd1b187c5cb7241ffb3a929b6efac19e5876cf1479ac1f62562c5efe4bcfeec", func := "patches/patcheslaw.Texts", spec := "texts", recurses := true, named := ["internal/strconv.uint64pow10", "math/bits.deBruijn32tab", "math/bits.deBruijn64tab"], apart := false, laid := [("math/bits.deBruijn32tab", laid_math_bits_deBruijn32tab), ("math/bits.deBruijn64tab", laid_math_bits_deBruijn64tab), ("internal/strconv.uint64pow10", laid_internal_strconv_uint64pow10)] }
def TextsSaid : Prop := textsRow.holds Tryz.pinned (OpenSpec.ofChange textsSpec)

/-- ITS FALSE NEIGHBOUR: 'it returns false'. Refute it at one input. -/
def textsWrong : ChangeSpec := { name := "texts", fn := fun _ => fun
  | [d] => { results := [.lit (.bool false)], args := [d] }
  | _ => none }
def TextsWrongFalsely : Prop := textsRow.holds Tryz.pinned (OpenSpec.ofChange textsWrong)

/-- 'patcheslaw.Records': WHATEVER THE INPUT: true; the input reads as it did. -/
def recordsSpec : ChangeSpec := { name := "records", fn := fun _ => fun
  | [d] => { results := [.lit (.bool true)], args := [d] }
  | _ => none }
def recordsRow : OpenClaim := { program := "ytlaffgagmncgjaagreatdoor", sum := "3dd1b187c5cb7241ffb3a929b6efac19e5876cf1479ac1f62562c5efe4bcfeec", func := "patches/patcheslaw.Records", spec := "records", recurses := true, named := ["internal/strconv.uint64pow10", "math/bits.deBruijn32tab", "math/bits.deBruijn64tab"], apart := false, laid := [("math/bits.deBruijn32tab", laid_math_bits_deBruijn32tab), ("math/bits.deBruijn64tab", laid_math_bits_deBruijn64tab), ("internal/strconv.uint64pow10", laid_internal_strconv_uint64pow10)] }
def RecordsSaid : Prop := recordsRow.holds Tryz.pinned (OpenSpec.ofChange recordsSpec)

/-- ITS FALSE NEIGHBOUR: 'it returns false'. Refute it at one input. -/
def recordsWrong : ChangeSpec := { name := "records", fn := fun _ => fun
  | [d] => { results := [.lit (.bool false)], args := [d] }
  | _ => none }
def RecordsWrongFalsely : Prop := recordsRow.holds Tryz.pinned (OpenSpec.ofChange recordsWrong)

/-- 'patcheslaw.Credits': WHATEVER THE INPUT: true; the input reads as it did. -/
def creditsSpec : ChangeSpec := { name := "credits", fn := fun _ => fun
  | [d] => { results := [.lit (.bool true)], args := [d] }
  | _ => none }
def creditsRow : OpenClaim := { program := "ytlaffgagmncgjaagreatdoor", sum := "3dd1b187c5cb7241ffb3a929b6efac19e5876cf1479ac1f62562c5efe4bcfeec", func := "patches/patcheslaw.Credits", spec := "credits", recurses := true, named := ["internal/strconv.uint64pow10", "math/bits.deBruijn32tab", "math/bits.deBruijn64tab"], apart := false, laid := [("math/bits.deBruijn32tab", laid_math_bits_deBruijn32tab), ("math/bits.deBruijn64tab", laid_math_bits_deBruijn64tab), ("internal/strconv.uint64pow10", laid_internal_strconv_uint64pow10)] }
def CreditsSaid : Prop := creditsRow.holds Tryz.pinned (OpenSpec.ofChange creditsSpec)

/-- ITS FALSE NEIGHBOUR: 'it returns false'. Refute it at one input. -/
def creditsWrong : ChangeSpec := { name := "credits", fn := fun _ => fun
  | [d] => { results := [.lit (.bool false)], args := [d] }
  | _ => none }
def CreditsWrongFalsely : Prop := creditsRow.holds Tryz.pinned (OpenSpec.ofChange creditsWrong)

/-- 'patcheslaw.Bundles': WHATEVER THE INPUT: true; the input reads as it did. -/
def bundlesSpec : ChangeSpec := { name := "bundles", fn := fun _ => fun
  | [d] => { results := [.lit (.bool true)], args := [d] }
  | _ => none }
def bundlesRow : OpenClaim := { program := "ytlaffgagmncgjaagreatdoor", sum := "3dd1b187c5cb7241ffb3a929b6efac19e5876cf1479ac1f62562c5efe4bcfeec", func := "patches/patcheslaw.Bundles", spec := "bundles", recurses := true, named := ["internal/strconv.uint64pow10", "math/bits.deBruijn32tab", "math/bits.deBruijn64tab"], apart := false, laid := [("math/bits.deBruijn32tab", laid_math_bits_deBruijn32tab), ("math/bits.deBruijn64tab", laid_math_bits_deBruijn64tab), ("internal/strconv.uint64pow10", laid_internal_strconv_uint64pow10)] }
def BundlesSaid : Prop := bundlesRow.holds Tryz.pinned (OpenSpec.ofChange bundlesSpec)

/-- ITS FALSE NEIGHBOUR: 'it returns false'. Refute it at one input. -/
def bundlesWrong : ChangeSpec := { name := "bundles", fn := fun _ => fun
  | [d] => { results := [.lit (.bool false)], args := [d] }
  | _ => none }
def BundlesWrongFalsely : Prop := bundlesRow.holds Tryz.pinned (OpenSpec.ofChange bundlesWrong)

/-- 'patcheslaw.Loads': WHATEVER THE INPUT: true; the input reads as it did. -/
def loadsSpec : ChangeSpec := { name := "loads", fn := fun _ => fun
  | [d] => { results := [.lit (.bool true)], args := [d] }
  | _ => none }
def loadsRow : OpenClaim := { program := "ytlaffgagmncgjaagreatdoor", sum := "3dd1b187c5cb7241ffb3a929b6efac19e5876cf1479ac1f62562c5efe4bcfeec", func := "patches/patcheslaw.Loads", spec := "loads", recurses := true, named := ["internal/strconv.uint64pow10", "math/bits.deBruijn32tab", "math/bits.deBruijn64tab"], apart := false, laid := [("math/bits.deBruijn32tab", laid_math_bits_deBruijn32tab), ("math/bits.deBruijn64tab", laid_math_bits_deBruijn64tab), ("internal/strconv.uint64pow10", laid_internal_strconv_uint64pow10)] }
def LoadsSaid : Prop := loadsRow.holds Tryz.pinned (OpenSpec.ofChange loadsSpec)

/-- ITS FALSE NEIGHBOUR: 'it returns false'. Refute it at one input. -/
def loadsWrong : ChangeSpec := { name := "loads", fn := fun _ => fun
  | [d] => { results := [.lit (.bool false)], args := [d] }
  | _ => none }
def LoadsWrongFalsely : Prop := loadsRow.holds Tryz.pinned (OpenSpec.ofChange loadsWrong)

/-- 'patcheslaw.Owned': WHATEVER THE INPUT: true; the input reads as it did. -/
def ownedSpec : ChangeSpec := { name := "owned", fn := fun _ => fun
  | [d] => { results := [.lit (.bool true)], args := [d] }
  | _ => none }
def ownedRow : OpenClaim := { program := "ytlaffgagmncgjaagreatdoor", sum := "3dd1b187c5cb7241ffb3a929b6efac19e5876cf1479ac1f62562c5efe4bcfeec", func := "patches/patcheslaw.Owned", spec := "owned", recurses := true, named := ["internal/strconv.uint64pow10", "math/bits.deBruijn32tab", "math/bits.deBruijn64tab"], apart := false, laid := [("math/bits.deBruijn32tab", laid_math_bits_deBruijn32tab), ("math/bits.deBruijn64tab", laid_math_bits_deBruijn64tab), ("internal/strconv.uint64pow10", laid_internal_strconv_uint64pow10)] }
def OwnedSaid : Prop := ownedRow.holds Tryz.pinned (OpenSpec.ofChange ownedSpec)

/-- ITS FALSE NEIGHBOUR: 'it returns false'. Refute it at one input. -/
def ownedWrong : ChangeSpec := { name := "owned", fn := fun _ => fun
  | [d] => { results := [.lit (.bool false)], args := [d] }
  | _ => none }
def OwnedWrongFalsely : Prop := ownedRow.holds Tryz.pinned (OpenSpec.ofChange ownedWrong)

/-- 'patcheslaw.Raw': WHATEVER THE INPUT: true; the input reads as it did. -/
def rawSpec : ChangeSpec := { name := "raw", fn := fun _ => fun
  | [d1, d2, d3] => { results := [.lit (.bool true)], args := [d1, d2, d3] }
  | _ => none }
def rawRow : OpenClaim := { program := "ytlaffgagmncgjaagreatdoor", sum := "3dd1b187c5cb7241ffb3a929b6efac19e5876cf1479ac1f62562c5efe4bcfeec", func := "patches/patcheslaw.Raw", spec := "raw", recurses := true, named := ["internal/strconv.uint64pow10", "math/bits.deBruijn32tab", "math/bits.deBruijn64tab"], apart := false, laid := [("math/bits.deBruijn32tab", laid_math_bits_deBruijn32tab), ("math/bits.deBruijn64tab", laid_math_bits_deBruijn64tab), ("internal/strconv.uint64pow10", laid_internal_strconv_uint64pow10)] }
def RawSaid : Prop := rawRow.holds Tryz.pinned (OpenSpec.ofChange rawSpec)

/-- ITS FALSE NEIGHBOUR: 'it returns false'. Refute it at one input. -/
def rawWrong : ChangeSpec := { name := "raw", fn := fun _ => fun
  | [d1, d2, d3] => { results := [.lit (.bool false)], args := [d1, d2, d3] }
  | _ => none }
def RawWrongFalsely : Prop := rawRow.holds Tryz.pinned (OpenSpec.ofChange rawWrong)

/- THE SECOND FORM. 'bulk': how many values and letters a reading holds, each counted each time it is reached (what is shared counts as often as it is met; a slice's spare places count too). A statement '..UptoSaid' is the law's where the arguments, and the package variables that the reading takes, are together of bulk at most 1048576: NARROWER than '..Said'. Prove '..Said' where nothing that the law and all that it calls make is longer than what came in: it says more and counts as full. Else prove '..UptoSaid'. A law counts once. -/
mutual
def uptoBulk {H : Type} : DataW H → Nat
  | .lit (.string bytes) => bytes.length + 1
  | .lit _ => 1
  | .nil => 1
  | .ptr d => uptoBulk d + 1
  | .slice elems spare => uptoBulkAll elems + uptoBulkAll spare + 1
  | .agg parts => uptoBulkAll parts + 1
  | .iface _ d => uptoBulk d + 1
  | .map entries => uptoBulkEntries entries + 1
  | .held _ => 1
def uptoBulkAll {H : Type} : List (DataW H) → Nat
  | [] => 0
  | d :: r => uptoBulk d + uptoBulkAll r
def uptoBulkEntries {H : Type} : List (Lit × DataW H) → Nat
  | [] => 0
  | x :: r => uptoBulkEntry x + uptoBulkEntries r
def uptoBulkEntry {H : Type} : Lit × DataW H → Nat
  | (.string bytes, d) => bytes.length + uptoBulk d + 1
  | (_, d) => uptoBulk d + 1
 end
def uptoSmall : (H : Type) → List (DataW H) → Bool := fun _ ds => decide (uptoBulkAll ds ≤ 1048576)
def OpenSpec.upto (s : _root_.Go.ChangeSpec) : _root_.Go.OpenSpec := { _root_.Go.OpenSpec.ofChange s with cond := some uptoSmall }

/-- 'patcheslaw.Applies', WHERE WHAT IT READS IS OF BULK AT MOST 1048576: true; the input reads as it did. -/
def appliesUptoRow : OpenClaim := { program := "ytlaffgagmncgjaagreatdoor", sum := "3dd1b187c5cb7241ffb3a929b6efac19e5876cf1479ac1f62562c5efe4bcfeec", func := "patches/patcheslaw.Applies", spec := "applies", recurses := true, named := ["internal/strconv.uint64pow10", "math/bits.deBruijn32tab", "math/bits.deBruijn64tab"], apart := false, laid := [("math/bits.deBruijn32tab", laid_math_bits_deBruijn32tab), ("math/bits.deBruijn64tab", laid_math_bits_deBruijn64tab), ("internal/strconv.uint64pow10", laid_internal_strconv_uint64pow10)], narrowed := true }
def AppliesUptoSaid : Prop := appliesUptoRow.holds Tryz.pinned (OpenSpec.upto appliesSpec)

/-- 'patcheslaw.Unapplies', WHERE WHAT IT READS IS OF BULK AT MOST 1048576: true; the input reads as it did. -/
def unappliesUptoRow : OpenClaim := { program := "ytlaffgagmncgjaagreatdoor", sum := "3dd1b187c5cb7241ffb3a929b6efac19e5876cf1479ac1f62562c5efe4bcfeec", func := "patches/patcheslaw.Unapplies", spec := "unapplies", recurses := true, named := ["internal/strconv.uint64pow10", "math/bits.deBruijn32tab", "math/bits.deBruijn64tab"], apart := false, laid := [("math/bits.deBruijn32tab", laid_math_bits_deBruijn32tab), ("math/bits.deBruijn64tab", laid_math_bits_deBruijn64tab), ("internal/strconv.uint64pow10", laid_internal_strconv_uint64pow10)], narrowed := true }
def UnappliesUptoSaid : Prop := unappliesUptoRow.holds Tryz.pinned (OpenSpec.upto unappliesSpec)

/-- 'patcheslaw.Pulls', WHERE WHAT IT READS IS OF BULK AT MOST 1048576: true; the input reads as it did. -/
def pullsUptoRow : OpenClaim := { program := "ytlaffgagmncgjaagreatdoor", sum := "3dd1b187c5cb7241ffb3a929b6efac19e5876cf1479ac1f62562c5efe4bcfeec", func := "patches/patcheslaw.Pulls", spec := "pulls", recurses := true, named := ["internal/strconv.uint64pow10", "math/bits.deBruijn32tab", "math/bits.deBruijn64tab"], apart := false, laid := [("math/bits.deBruijn32tab", laid_math_bits_deBruijn32tab), ("math/bits.deBruijn64tab", laid_math_bits_deBruijn64tab), ("internal/strconv.uint64pow10", laid_internal_strconv_uint64pow10)], narrowed := true }
def PullsUptoSaid : Prop := pullsUptoRow.holds Tryz.pinned (OpenSpec.upto pullsSpec)

/-- 'patcheslaw.Shows', WHERE WHAT IT READS IS OF BULK AT MOST 1048576: true; the input reads as it did. -/
def showsUptoRow : OpenClaim := { program := "ytlaffgagmncgjaagreatdoor", sum := "3dd1b187c5cb7241ffb3a929b6efac19e5876cf1479ac1f62562c5efe4bcfeec", func := "patches/patcheslaw.Shows", spec := "shows", recurses := true, named := ["internal/strconv.uint64pow10", "math/bits.deBruijn32tab", "math/bits.deBruijn64tab"], apart := false, laid := [("math/bits.deBruijn32tab", laid_math_bits_deBruijn32tab), ("math/bits.deBruijn64tab", laid_math_bits_deBruijn64tab), ("internal/strconv.uint64pow10", laid_internal_strconv_uint64pow10)], narrowed := true }
def ShowsUptoSaid : Prop := showsUptoRow.holds Tryz.pinned (OpenSpec.upto showsSpec)

/-- 'patcheslaw.Logs', WHERE WHAT IT READS IS OF BULK AT MOST 1048576: true; the input reads as it did. -/
def logsUptoRow : OpenClaim := { program := "ytlaffgagmncgjaagreatdoor", sum := "3dd1b187c5cb7241ffb3a929b6efac19e5876cf1479ac1f62562c5efe4bcfeec", func := "patches/patcheslaw.Logs", spec := "logs", recurses := true, named := ["internal/strconv.uint64pow10", "math/bits.deBruijn32tab", "math/bits.deBruijn64tab"], apart := false, laid := [("math/bits.deBruijn32tab", laid_math_bits_deBruijn32tab), ("math/bits.deBruijn64tab", laid_math_bits_deBruijn64tab), ("internal/strconv.uint64pow10", laid_internal_strconv_uint64pow10)], narrowed := true }
def LogsUptoSaid : Prop := logsUptoRow.holds Tryz.pinned (OpenSpec.upto logsSpec)

/-- 'patcheslaw.Texts', WHERE WHAT IT READS IS OF BULK AT MOST 1048576: true; the input reads as it did. -/
def textsUptoRow : OpenClaim := { program := "ytlaffgagmncgjaagreatdoor", sum := "3dd1b187c5cb7241ffb3a929b6efac19e5876cf1479ac1f62562c5efe4bcfeec", func := "patches/patcheslaw.Texts", spec := "texts", recurses := true, named := ["internal/strconv.uint64pow10", "math/bits.deBruijn32tab", "math/bits.deBruijn64tab"], apart := false, laid := [("math/bits.deBruijn32tab", laid_math_bits_deBruijn32tab), ("math/bits.deBruijn64tab", laid_math_bits_deBruijn64tab), ("internal/strconv.uint64pow10", laid_internal_strconv_uint64pow10)], narrowed := true }
def TextsUptoSaid : Prop := textsUptoRow.holds Tryz.pinned (OpenSpec.upto textsSpec)

/-- 'patcheslaw.Records', WHERE WHAT IT READS IS OF BULK AT MOST 1048576: true; the input reads as it did. -/
def recordsUptoRow : OpenClaim := { program := "ytlaffgagmncgjaagreatdoor", sum := "3dd1b187c5cb7241ffb3a929b6efac19e5876cf1479ac1f62562c5efe4bcfeec", func := "patches/patcheslaw.Records", spec := "records", recurses := true, named := ["internal/strconv.uint64pow10", "math/bits.deBruijn32tab", "math/bits.deBruijn64tab"], apart := false, laid := [("math/bits.deBruijn32tab", laid_math_bits_deBruijn32tab), ("math/bits.deBruijn64tab", laid_math_bits_deBruijn64tab), ("internal/strconv.uint64pow10", laid_internal_strconv_uint64pow10)], narrowed := true }
def RecordsUptoSaid : Prop := recordsUptoRow.holds Tryz.pinned (OpenSpec.upto recordsSpec)

/-- 'patcheslaw.Credits', WHERE WHAT IT READS IS OF BULK AT MOST 1048576: true; the input reads as it did. -/
def creditsUptoRow : OpenClaim := { program := "ytlaffgagmncgjaagreatdoor", sum := "3dd1b187c5cb7241ffb3a929b6efac19e5876cf1479ac1f62562c5efe4bcfeec", func := "patches/patcheslaw.Credits", spec := "credits", recurses := true, named := ["internal/strconv.uint64pow10", "math/bits.deBruijn32tab", "math/bits.deBruijn64tab"], apart := false, laid := [("math/bits.deBruijn32tab", laid_math_bits_deBruijn32tab), ("math/bits.deBruijn64tab", laid_math_bits_deBruijn64tab), ("internal/strconv.uint64pow10", laid_internal_strconv_uint64pow10)], narrowed := true }
def CreditsUptoSaid : Prop := creditsUptoRow.holds Tryz.pinned (OpenSpec.upto creditsSpec)

/-- 'patcheslaw.Bundles', WHERE WHAT IT READS IS OF BULK AT MOST 1048576: true; the input reads as it did. -/
def bundlesUptoRow : OpenClaim := { program := "ytlaffgagmncgjaagreatdoor", sum := "3dd1b187c5cb7241ffb3a929b6efac19e5876cf1479ac1f62562c5efe4bcfeec", func := "patches/patcheslaw.Bundles", spec := "bundles", recurses := true, named := ["internal/strconv.uint64pow10", "math/bits.deBruijn32tab", "math/bits.deBruijn64tab"], apart := false, laid := [("math/bits.deBruijn32tab", laid_math_bits_deBruijn32tab), ("math/bits.deBruijn64tab", laid_math_bits_deBruijn64tab), ("internal/strconv.uint64pow10", laid_internal_strconv_uint64pow10)], narrowed := true }
def BundlesUptoSaid : Prop := bundlesUptoRow.holds Tryz.pinned (OpenSpec.upto bundlesSpec)

/-- 'patcheslaw.Loads', WHERE WHAT IT READS IS OF BULK AT MOST 1048576: true; the input reads as it did. -/
def loadsUptoRow : OpenClaim := { program := "ytlaffgagmncgjaagreatdoor", sum := "3dd1b187c5cb7241ffb3a929b6efac19e5876cf1479ac1f62562c5efe4bcfeec", func := "patches/patcheslaw.Loads", spec := "loads", recurses := true, named := ["internal/strconv.uint64pow10", "math/bits.deBruijn32tab", "math/bits.deBruijn64tab"], apart := false, laid := [("math/bits.deBruijn32tab", laid_math_bits_deBruijn32tab), ("math/bits.deBruijn64tab", laid_math_bits_deBruijn64tab), ("internal/strconv.uint64pow10", laid_internal_strconv_uint64pow10)], narrowed := true }
def LoadsUptoSaid : Prop := loadsUptoRow.holds Tryz.pinned (OpenSpec.upto loadsSpec)

/-- 'patcheslaw.Owned', WHERE WHAT IT READS IS OF BULK AT MOST 1048576: true; the input reads as it did. -/
def ownedUptoRow : OpenClaim := { program := "ytlaffgagmncgjaagreatdoor", sum := "3dd1b187c5cb7241ffb3a929b6efac19e5876cf1479ac1f62562c5efe4bcfeec", func := "patches/patcheslaw.Owned", spec := "owned", recurses := true, named := ["internal/strconv.uint64pow10", "math/bits.deBruijn32tab", "math/bits.deBruijn64tab"], apart := false, laid := [("math/bits.deBruijn32tab", laid_math_bits_deBruijn32tab), ("math/bits.deBruijn64tab", laid_math_bits_deBruijn64tab), ("internal/strconv.uint64pow10", laid_internal_strconv_uint64pow10)], narrowed := true }
def OwnedUptoSaid : Prop := ownedUptoRow.holds Tryz.pinned (OpenSpec.upto ownedSpec)

/-- 'patcheslaw.Raw', WHERE WHAT IT READS IS OF BULK AT MOST 1048576: true; the input reads as it did. -/
def rawUptoRow : OpenClaim := { program := "ytlaffgagmncgjaagreatdoor", sum := "3dd1b187c5cb7241ffb3a929b6efac19e5876cf1479ac1f62562c5efe4bcfeec", func := "patches/patcheslaw.Raw", spec := "raw", recurses := true, named := ["internal/strconv.uint64pow10", "math/bits.deBruijn32tab", "math/bits.deBruijn64tab"], apart := false, laid := [("math/bits.deBruijn32tab", laid_math_bits_deBruijn32tab), ("math/bits.deBruijn64tab", laid_math_bits_deBruijn64tab), ("internal/strconv.uint64pow10", laid_internal_strconv_uint64pow10)], narrowed := true }
def RawUptoSaid : Prop := rawUptoRow.holds Tryz.pinned (OpenSpec.upto rawSpec)

end Rows
end Go.Proofs.YtlaffgagmncgjaaGreatDoor
