/-
  NARROWER THAN 'FOR EVERY INPUT', by the rows' own cells (each row's printed sentence says how): ReportRenders: laid · ReportParses: laid · ReportBack: laid · ReportOne: laid · ReportList: laid · ReportKinds: laid.
  DERIVED. THE GIVEN ROWS OF THIS SEAT. 6 by the template 'for every input the law returns true; each argument reads behind the call as it read before'; 0 by the template 'total and deterministic' (their statements: YtfhaiklfbnfdlaaDoorTotals.lean).
  GIVEN WITH THE SEED: the statements are not yours to turn. If you find one false, say at which input.
  Laid BY PROGRAM, IN A SANDBOX (cutbox-rows.mjs): the forced cells as the released guide's own fill.sh prints them over the translation 57bc65ae442de1cf… (all of the seat's roots in one cut). By AI agents, Wed Nov 11 2026. No macro, syntax, notation, axiom, sorry.
-/
import Derived.Test.YtfhaiklfbnfdlaaDoorChecked
import GoSem.Claim
import GoSem.ClaimJoined
import GoSem.ClaimMapViews
import Derived.JoinedTies
import Derived.KernelRfl
namespace Go.Proofs.YtfhaiklfbnfdlaaDoor
/- THE CELL 'sum', in the pinned program and in every row, IS THE sha256 OF THE DUMP (.gsa) THAT YtfhaiklfbnfdlaaDoorProg.lean LOADS. Nothing in Lean hashes anything: it is a label: what it is worth is what the hold of that sum in a sandbox is worth. -/
noncomputable def Tryd.pinned : Pinned := { name := "ytfhaiklfbnfdlaadoor", sum := "57bc65ae442de1cf51ac940acfeae305803befb0da7cb14cab73f5e2783d78bd", checked := Tryd.checked }
namespace Rows
def none {H : Type} : Left H := { results := [], args := [] }

/- WHAT THE LISTED PACKAGE-LEVEL VARIABLES READ AS WHEN THE CALL BEGINS. Each datum BY PROGRAM (the guide's laid-datum.mjs) off the statement by which the dump's own 'gosem.cut.vars' lays the variable. In a bare row this is a premise. The card (YtfhaiklfbnfdlaaDoorCards.lean) ties it to the program's text. -/
def laid_math_bits_deBruijn32tab {H : Type} : DataW H := .agg [.lit (.int .u8 0), .lit (.int .u8 1), .lit (.int .u8 28), .lit (.int .u8 2), .lit (.int .u8 29), .lit (.int .u8 14), .lit (.int .u8 24), .lit (.int .u8 3), .lit (.int .u8 30), .lit (.int .u8 22), .lit (.int .u8 20), .lit (.int .u8 15), .lit (.int .u8 25), .lit (.int .u8 17), .lit (.int .u8 4), .lit (.int .u8 8), .lit (.int .u8 31), .lit (.int .u8 27), .lit (.int .u8 13), .lit (.int .u8 23), .lit (.int .u8 21), .lit (.int .u8 19), .lit (.int .u8 16), .lit (.int .u8 7), .lit (.int .u8 26), .lit (.int .u8 12), .lit (.int .u8 18), .lit (.int .u8 6), .lit (.int .u8 11), .lit (.int .u8 5), .lit (.int .u8 10), .lit (.int .u8 9)]
def laid_math_bits_deBruijn64tab {H : Type} : DataW H := .agg [.lit (.int .u8 0), .lit (.int .u8 1), .lit (.int .u8 56), .lit (.int .u8 2), .lit (.int .u8 57), .lit (.int .u8 49), .lit (.int .u8 28), .lit (.int .u8 3), .lit (.int .u8 61), .lit (.int .u8 58), .lit (.int .u8 42), .lit (.int .u8 50), .lit (.int .u8 38), .lit (.int .u8 29), .lit (.int .u8 17), .lit (.int .u8 4), .lit (.int .u8 62), .lit (.int .u8 47), .lit (.int .u8 59), .lit (.int .u8 36), .lit (.int .u8 45), .lit (.int .u8 43), .lit (.int .u8 51), .lit (.int .u8 22), .lit (.int .u8 53), .lit (.int .u8 39), .lit (.int .u8 33), .lit (.int .u8 30), .lit (.int .u8 24), .lit (.int .u8 18), .lit (.int .u8 12), .lit (.int .u8 5), .lit (.int .u8 63), .lit (.int .u8 55), .lit (.int .u8 48), .lit (.int .u8 27), .lit (.int .u8 60), .lit (.int .u8 41), .lit (.int .u8 37), .lit (.int .u8 16), .lit (.int .u8 46), .lit (.int .u8 35), .lit (.int .u8 44), .lit (.int .u8 21), .lit (.int .u8 52), .lit (.int .u8 32), .lit (.int .u8 23), .lit (.int .u8 11), .lit (.int .u8 54), .lit (.int .u8 26), .lit (.int .u8 40), .lit (.int .u8 15), .lit (.int .u8 34), .lit (.int .u8 20), .lit (.int .u8 31), .lit (.int .u8 10), .lit (.int .u8 25), .lit (.int .u8 14), .lit (.int .u8 19), .lit (.int .u8 9), .lit (.int .u8 13), .lit (.int .u8 8), .lit (.int .u8 7), .lit (.int .u8 6)]
def laid_internal_strconv_uint64pow10 {H : Type} : DataW H := .agg [.lit (.int .u64 1), .lit (.int .u64 10), .lit (.int .u64 100), .lit (.int .u64 1000), .lit (.int .u64 10000), .lit (.int .u64 100000), .lit (.int .u64 1000000), .lit (.int .u64 10000000), .lit (.int .u64 100000000), .lit (.int .u64 1000000000), .lit (.int .u64 10000000000), .lit (.int .u64 100000000000), .lit (.int .u64 1000000000000), .lit (.int .u64 10000000000000), .lit (.int .u64 100000000000000), .lit (.int .u64 1000000000000000), .lit (.int .u64 10000000000000000), .lit (.int .u64 100000000000000000), .lit (.int .u64 1000000000000000000), .lit (.int .u64 10000000000000000000)]
def laid_proctor_report_outcomeWords {H : Type} : DataW H := .agg [.lit (.string [99, 111, 110, 102, 105, 103]), .lit (.string [109, 97, 108, 102, 111, 114, 109, 101, 100]), .lit (.string [105, 111]), .lit (.string [99, 114, 97, 115, 104]), .lit (.string [110, 111, 115, 112, 97, 99, 101]), .lit (.string [115, 116, 97, 116, 101]), .lit (.string [99, 97, 110, 99, 101, 108, 108, 101, 100]), .lit (.string [97, 99, 99, 101, 112, 116]), .lit (.string [114, 101, 106, 101, 99, 116])]
def laid_proctor_report_violWords {H : Type} : DataW H := .agg [.lit (.string [105, 110, 118, 101, 114, 116, 101, 100]), .lit (.string [99, 108, 105, 101, 110, 116]), .lit (.string [101, 97, 114, 108, 121]), .lit (.string [108, 97, 116, 101]), .lit (.string [116, 119, 105, 110]), .lit (.string [105, 110, 116, 101, 114, 110, 97, 108]), .lit (.string [115, 110, 97, 112, 115, 104, 111, 116]), .lit (.string [99, 111, 110, 102, 108, 105, 99, 116]), .lit (.string [114, 101, 112, 101, 97, 116]), .lit (.string [115, 101, 115, 115, 105, 111, 110])]

/-- 'proctorlaw22.ReportRenders': WHATEVER THE INPUT: true; the input reads as it did. -/
def reportRendersSpec : ChangeSpec := { name := "reportRenders", fn := fun _ => fun
  | [d] => { results := [.lit (.bool true)], args := [d] }
  | _ => none }
def reportRendersRow : OpenClaim := { program := "ytfhaiklfbnfdlaadoor", sum := "57bc65ae442de1cf51ac940acfeae305803befb0da7cb14cab73f5e2783d78bd", func := "proctor/proctorlaw22.ReportRenders", spec := "reportRenders", inPlace := ["internal/bytealg.IndexByteString", "internal/bytealg.IndexString"], unfollowed := true, recurses := true, named := ["proctor/report.outcomeWords", "internal/strconv.uint64pow10", "math/bits.deBruijn32tab", "math/bits.deBruijn64tab", "proctor/report.violWords", "internal/bytealg.MaxLen"], apart := false, laid := [("math/bits.deBruijn32tab", laid_math_bits_deBruijn32tab), ("math/bits.deBruijn64tab", laid_math_bits_deBruijn64tab), ("internal/strconv.uint64pow10", laid_internal_strconv_uint64pow10), ("proctor/report.outcomeWords", laid_proctor_report_outcomeWords), ("proctor/report.violWords", laid_proctor_report_violWords)] }
def ReportRendersSaid : Prop := reportRendersRow.holds Tryd.pinned (OpenSpec.ofChange reportRendersSpec)

/-- ITS FALSE NEIGHBOUR: 'it returns false'. Refute it at one input. -/
def reportRendersWrong : ChangeSpec := { name := "reportRenders", fn := fun _ => fun
  | [d] => { results := [.lit (.bool false)], args := [d] }
  | _ => none }
def ReportRendersWrongFalsely : Prop := reportRendersRow.holds Tryd.pinned (OpenSpec.ofChange reportRendersWrong)

/-- 'proctorlaw22.ReportParses': WHATEVER THE INPUT: true; the input reads as it did. -/
def reportParsesSpec : ChangeSpec := { name := "reportParses", fn := fun _ => fun
  | [d] => { results := [.lit (.bool true)], args := [d] }
  | _ => none }
def reportParsesRow : OpenClaim := { program := "ytfhaiklfbnfdlaadoor", sum := "57bc65ae442de1cf51ac940acfeae305803befb0da7cb14cab73f5e2783d78bd", func := "proctor/proctorlaw22.ReportParses", spec := "reportParses", inPlace := ["internal/bytealg.IndexByteString", "internal/bytealg.IndexString"], unfollowed := true, recurses := true, named := ["proctor/report.outcomeWords", "internal/strconv.uint64pow10", "math/bits.deBruijn32tab", "math/bits.deBruijn64tab", "proctor/report.violWords", "internal/bytealg.MaxLen"], apart := false, laid := [("math/bits.deBruijn32tab", laid_math_bits_deBruijn32tab), ("math/bits.deBruijn64tab", laid_math_bits_deBruijn64tab), ("internal/strconv.uint64pow10", laid_internal_strconv_uint64pow10), ("proctor/report.outcomeWords", laid_proctor_report_outcomeWords), ("proctor/report.violWords", laid_proctor_report_violWords)] }
def ReportParsesSaid : Prop := reportParsesRow.holds Tryd.pinned (OpenSpec.ofChange reportParsesSpec)

/-- ITS FALSE NEIGHBOUR: 'it returns false'. Refute it at one input. -/
def reportParsesWrong : ChangeSpec := { name := "reportParses", fn := fun _ => fun
  | [d] => { results := [.lit (.bool false)], args := [d] }
  | _ => none }
def ReportParsesWrongFalsely : Prop := reportParsesRow.holds Tryd.pinned (OpenSpec.ofChange reportParsesWrong)

/-- 'proctorlaw22.ReportBack': WHATEVER THE INPUT: true; the input reads as it did. -/
def reportBackSpec : ChangeSpec := { name := "reportBack", fn := fun _ => fun
  | [d1, d2] => { results := [.lit (.bool true)], args := [d1, d2] }
  | _ => none }
def reportBackRow : OpenClaim := { program := "ytfhaiklfbnfdlaadoor", sum := "57bc65ae442de1cf51ac940acfeae305803befb0da7cb14cab73f5e2783d78bd", func := "proctor/proctorlaw22.ReportBack", spec := "reportBack", inPlace := ["internal/bytealg.IndexByteString", "internal/bytealg.IndexString"], unfollowed := true, recurses := true, named := ["proctor/report.outcomeWords", "internal/strconv.uint64pow10", "math/bits.deBruijn32tab", "math/bits.deBruijn64tab", "proctor/report.violWords", "internal/bytealg.MaxLen"], apart := false, laid := [("math/bits.deBruijn32tab", laid_math_bits_deBruijn32tab), ("math/bits.deBruijn64tab", laid_math_bits_deBruijn64tab), ("internal/strconv.uint64pow10", laid_internal_strconv_uint64pow10), ("proctor/report.outcomeWords", laid_proctor_report_outcomeWords), ("proctor/report.violWords", laid_proctor_report_violWords)] }
def ReportBackSaid : Prop := reportBackRow.holds Tryd.pinned (OpenSpec.ofChange reportBackSpec)

/-- ITS FALSE NEIGHBOUR: 'it returns false'. Refute it at one input. -/
def reportBackWrong : ChangeSpec := { name := "reportBack", fn := fun _ => fun
  | [d1, d2] => { results := [.lit (.bool false)], args := [d1, d2] }
  | _ => none }
def ReportBackWrongFalsely : Prop := reportBackRow.holds Tryd.pinned (OpenSpec.ofChange reportBackWrong)

/-- 'proctorlaw22.ReportOne': WHATEVER THE INPUT: true; the input reads as it did. -/
def reportOneSpec : ChangeSpec := { name := "reportOne", fn := fun _ => fun
  | [d1, d2, d3] => { results := [.lit (.bool true)], args := [d1, d2, d3] }
  | _ => none }
def reportOneRow : OpenClaim := { program := "ytfhaiklfbnfdlaadoor", sum := "57bc65ae442de1cf51ac940acfeae305803befb0da7cb14cab73f5e2783d78bd", func := "proctor/proctorlaw22.ReportOne", spec := "reportOne", inPlace := ["internal/bytealg.IndexByteString", "internal/bytealg.IndexString"], unfollowed := true, recurses := true, named := ["proctor/report.outcomeWords", "internal/strconv.uint64pow10", "math/bits.deBruijn32tab", "math/bits.deBruijn64tab", "proctor/report.violWords", "internal/bytealg.MaxLen"], apart := false, laid := [("math/bits.deBruijn32tab", laid_math_bits_deBruijn32tab), ("math/bits.deBruijn64tab", laid_math_bits_deBruijn64tab), ("internal/strconv.uint64pow10", laid_internal_strconv_uint64pow10), ("proctor/report.outcomeWords", laid_proctor_report_outcomeWords), ("proctor/report.violWords", laid_proctor_report_violWords)] }
def ReportOneSaid : Prop := reportOneRow.holds Tryd.pinned (OpenSpec.ofChange reportOneSpec)

/-- ITS FALSE NEIGHBOUR: 'it returns false'. Refute it at one input. -/
def reportOneWrong : ChangeSpec := { name := "reportOne", fn := fun _ => fun
  | [d1, d2, d3] => { results := [.lit (.bool false)], args := [d1, d2, d3] }
  | _ => none }
def ReportOneWrongFalsely : Prop := reportOneRow.holds Tryd.pinned (OpenSpec.ofChange reportOneWrong)

/-- 'proctorlaw22.ReportList': WHATEVER THE INPUT: true; the input reads as it did. -/
def reportListSpec : ChangeSpec := { name := "reportList", fn := fun _ => fun
  | [d1, d2] => { results := [.lit (.bool true)], args := [d1, d2] }
  | _ => none }
def reportListRow : OpenClaim := { program := "ytfhaiklfbnfdlaadoor", sum := "57bc65ae442de1cf51ac940acfeae305803befb0da7cb14cab73f5e2783d78bd", func := "proctor/proctorlaw22.ReportList", spec := "reportList", inPlace := ["internal/bytealg.IndexByteString", "internal/bytealg.IndexString"], unfollowed := true, recurses := true, named := ["proctor/report.outcomeWords", "internal/strconv.uint64pow10", "math/bits.deBruijn32tab", "math/bits.deBruijn64tab", "proctor/report.violWords", "internal/bytealg.MaxLen"], apart := false, laid := [("math/bits.deBruijn32tab", laid_math_bits_deBruijn32tab), ("math/bits.deBruijn64tab", laid_math_bits_deBruijn64tab), ("internal/strconv.uint64pow10", laid_internal_strconv_uint64pow10), ("proctor/report.outcomeWords", laid_proctor_report_outcomeWords), ("proctor/report.violWords", laid_proctor_report_violWords)] }
def ReportListSaid : Prop := reportListRow.holds Tryd.pinned (OpenSpec.ofChange reportListSpec)

/-- ITS FALSE NEIGHBOUR: 'it returns false'. Refute it at one input. -/
def reportListWrong : ChangeSpec := { name := "reportList", fn := fun _ => fun
  | [d1, d2] => { results := [.lit (.bool false)], args := [d1, d2] }
  | _ => none }
def ReportListWrongFalsely : Prop := reportListRow.holds Tryd.pinned (OpenSpec.ofChange reportListWrong)

/-- 'proctorlaw22.ReportKinds': WHATEVER THE INPUT: true; the input reads as it did. -/
def reportKindsSpec : ChangeSpec := { name := "reportKinds", fn := fun _ => fun
  | [d1, d2] => { results := [.lit (.bool true)], args := [d1, d2] }
  | _ => none }
def reportKindsRow : OpenClaim := { program := "ytfhaiklfbnfdlaadoor", sum := "57bc65ae442de1cf51ac940acfeae305803befb0da7cb14cab73f5e2783d78bd", func := "proctor/proctorlaw22.ReportKinds", spec := "reportKinds", inPlace := ["internal/bytealg.IndexByteString", "internal/bytealg.IndexString"], unfollowed := true, recurses := true, named := ["proctor/report.outcomeWords", "internal/strconv.uint64pow10", "math/bits.deBruijn32tab", "math/bits.deBruijn64tab", "proctor/report.violWords", "internal/bytealg.MaxLen"], apart := false, laid := [("math/bits.deBruijn32tab", laid_math_bits_deBruijn32tab), ("math/bits.deBruijn64tab", laid_math_bits_deBruijn64tab), ("internal/strconv.uint64pow10", laid_internal_strconv_uint64pow10), ("proctor/report.outcomeWords", laid_proctor_report_outcomeWords), ("proctor/report.violWords", laid_proctor_report_violWords)] }
def ReportKindsSaid : Prop := reportKindsRow.holds Tryd.pinned (OpenSpec.ofChange reportKindsSpec)

/-- ITS FALSE NEIGHBOUR: 'it returns false'. Refute it at one input. -/
def reportKindsWrong : ChangeSpec := { name := "reportKinds", fn := fun _ => fun
  | [d1, d2] => { results := [.lit (.bool false)], args := [d1, d2] }
  | _ => none }
def ReportKindsWrongFalsely : Prop := reportKindsRow.holds Tryd.pinned (OpenSpec.ofChange reportKindsWrong)

/- THE SECOND FORM. 'bulk': how many values and letters a reading holds, each counted each time it is reached (what is shared counts as often as it is met; a slice's spare places count too). A statement '..UptoSaid' is the law's where the arguments, and the package variables that the reading takes, are together of bulk at most 1048576: NARROWER than '..Said'. Prove '..Said' where nothing that the law and all that it calls make is longer than what came in: it says more and counts as full. Else prove '..UptoSaid'. A law counts once. -/
mutual
def uptoBulk {H : Type} : DataW H → Nat
  | .lit (.string bytes) => bytes.length + 1
  | .lit _ => 1
  | .nil => 1
  | .ptr d => uptoBulk d + 1
  | .slice elems spare => uptoBulkAll elems + uptoBulkAll spare + 1
  | .agg parts => uptoBulkAll parts + 1
  | .iface _ d => uptoBulk d + 1
  | .map entries => uptoBulkEntries entries + 1
  | .held _ => 1
def uptoBulkAll {H : Type} : List (DataW H) → Nat
  | [] => 0
  | d :: r => uptoBulk d + uptoBulkAll r
def uptoBulkEntries {H : Type} : List (Lit × DataW H) → Nat
  | [] => 0
  | x :: r => uptoBulkEntry x + uptoBulkEntries r
def uptoBulkEntry {H : Type} : Lit × DataW H → Nat
  | (.string bytes, d) => bytes.length + uptoBulk d + 1
  | (_, d) => uptoBulk d + 1
 end
def uptoSmall : (H : Type) → List (DataW H) → Bool := fun _ ds => decide (uptoBulkAll ds ≤ 1048576)
def OpenSpec.upto (s : _root_.Go.ChangeSpec) : _root_.Go.OpenSpec := { _root_.Go.OpenSpec.ofChange s with cond := some uptoSmall }

/-- 'proctorlaw22.ReportRenders', WHERE WHAT IT READS IS OF BULK AT MOST 1048576: true; the input reads as it did. -/
def reportRendersUptoRow : OpenClaim := { program := "ytfhaiklfbnfdlaadoor", sum := "57bc65ae442de1cf51ac940acfeae305803befb0da7cb14cab73f5e2783d78bd", func := "proctor/proctorlaw22.ReportRenders", spec := "reportRenders", inPlace := ["internal/bytealg.IndexByteString", "internal/bytealg.IndexString"], unfollowed := true, recurses := true, named := ["proctor/report.outcomeWords", "internal/strconv.uint64pow10", "math/bits.deBruijn32tab", "math/bits.deBruijn64tab", "proctor/report.violWords", "internal/bytealg.MaxLen"], apart := false, laid := [("math/bits.deBruijn32tab", laid_math_bits_deBruijn32tab), ("math/bits.deBruijn64tab", laid_math_bits_deBruijn64tab), ("internal/strconv.uint64pow10", laid_internal_strconv_uint64pow10), ("proctor/report.outcomeWords", laid_proctor_report_outcomeWords), ("proctor/report.violWords", laid_proctor_report_violWords)], narrowed := true }
def ReportRendersUptoSaid : Prop := reportRendersUptoRow.holds Tryd.pinned (OpenSpec.upto reportRendersSpec)

/-- 'proctorlaw22.ReportParses', WHERE WHAT IT READS IS OF BULK AT MOST 1048576: true; the input reads as it did. -/
def reportParsesUptoRow : OpenClaim := { program := "ytfhaiklfbnfdlaadoor", sum := "57bc65ae442de1cf51ac940acfeae305803befb0da7cb14cab73f5e2783d78bd", func := "proctor/proctorlaw22.ReportParses", spec := "reportParses", inPlace := ["internal/bytealg.IndexByteString", "internal/bytealg.IndexString"], unfollowed := true, recurses := true, named := ["proctor/report.outcomeWords", "internal/strconv.uint64pow10", "math/bits.deBruijn32tab", "math/bits.deBruijn64tab", "proctor/report.violWords", "internal/bytealg.MaxLen"], apart := false, laid := [("math/bits.deBruijn32tab", laid_math_bits_deBruijn32tab), ("math/bits.deBruijn64tab", laid_math_bits_deBruijn64tab), ("internal/strconv.uint64pow10", laid_internal_strconv_uint64pow10), ("proctor/report.outcomeWords", laid_proctor_report_outcomeWords), ("proctor/report.violWords", laid_proctor_report_violWords)], narrowed := true }
def ReportParsesUptoSaid : Prop := reportParsesUptoRow.holds Tryd.pinned (OpenSpec.upto reportParsesSpec)

/-- 'proctorlaw22.ReportBack', WHERE WHAT IT READS IS OF BULK AT MOST 1048576: true; the input reads as it did. -/
def reportBackUptoRow : OpenClaim := { program := "ytfhaiklfbnfdlaadoor", sum := "57bc65ae442de1cf51ac940acfeae305803befb0da7cb14cab73f5e2783d78bd", func := "proctor/proctorlaw22.ReportBack", spec := "reportBack", inPlace := ["internal/bytealg.IndexByteString", "internal/bytealg.IndexString"], unfollowed := true, recurses := true, named := ["proctor/report.outcomeWords", "internal/strconv.uint64pow10", "math/bits.deBruijn32tab", "math/bits.deBruijn64tab", "proctor/report.violWords", "internal/bytealg.MaxLen"], apart := false, laid := [("math/bits.deBruijn32tab", laid_math_bits_deBruijn32tab), ("math/bits.deBruijn64tab", laid_math_bits_deBruijn64tab), ("internal/strconv.uint64pow10", laid_internal_strconv_uint64pow10), ("proctor/report.outcomeWords", laid_proctor_report_outcomeWords), ("proctor/report.violWords", laid_proctor_report_violWords)], narrowed := true }
def ReportBackUptoSaid : Prop := reportBackUptoRow.holds Tryd.pinned (OpenSpec.upto reportBackSpec)

/-- 'proctorlaw22.ReportOne', WHERE WHAT IT READS IS OF BULK AT MOST 1048576: true; the input reads as it did. -/
def reportOneUptoRow : OpenClaim := { program := "ytfhaiklfbnfdlaadoor", sum := "57bc65ae442de1cf51ac940acfeae305803befb0da7cb14cab73f5e2783d78bd", func := "proctor/proctorlaw22.ReportOne", spec := "reportOne", inPlace := ["internal/bytealg.IndexByteString", "internal/bytealg.IndexString"], unfollowed := true, recurses := true, named := ["proctor/report.outcomeWords", "internal/strconv.uint64pow10", "math/bits.deBruijn32tab", "math/bits.deBruijn64tab", "proctor/report.violWords", "internal/bytealg.MaxLen"], apart := false, laid := [("math/bits.deBruijn32tab", laid_math_bits_deBruijn32tab), ("math/bits.deBruijn64tab", laid_math_bits_deBruijn64tab), ("internal/strconv.uint64pow10", laid_internal_strconv_uint64pow10), ("proctor/report.outcomeWords", laid_proctor_report_outcomeWords), ("proctor/report.violWords", laid_proctor_report_violWords)], narrowed := true }
def ReportOneUptoSaid : Prop := reportOneUptoRow.holds Tryd.pinned (OpenSpec.upto reportOneSpec)

/-- 'proctorlaw22.ReportList', WHERE WHAT IT READS IS OF BULK AT MOST 1048576: true; the input reads as it did. -/
def reportListUptoRow : OpenClaim := { program := "ytfhaiklfbnfdlaadoor", sum := "57bc65ae442de1cf51ac940acfeae305803befb0da7cb14cab73f5e2783d78bd", func := "proctor/proctorlaw22.ReportList", spec := "reportList", inPlace := ["internal/bytealg.IndexByteString", "internal/bytealg.IndexString"], unfollowed := true, recurses := true, named := ["proctor/report.outcomeWords", "internal/strconv.uint64pow10", "math/bits.deBruijn32tab", "math/bits.deBruijn64tab", "proctor/report.violWords", "internal/bytealg.MaxLen"], apart := false, laid := [("math/bits.deBruijn32tab", laid_math_bits_deBruijn32tab), ("math/bits.deBruijn64tab", laid_math_bits_deBruijn64tab), ("internal/strconv.uint64pow10", laid_internal_strconv_uint64pow10), ("proctor/report.outcomeWords", laid_proctor_report_outcomeWords), ("proctor/report.violWords", laid_proctor_report_violWords)], narrowed := true }
def ReportListUptoSaid : Prop := reportListUptoRow.holds Tryd.pinned (OpenSpec.upto reportListSpec)

/-- 'proctorlaw22.ReportKinds', WHERE WHAT IT READS IS OF BULK AT MOST 1048576: true; the input reads as it did. -/
def reportKindsUptoRow : OpenClaim := { program := "ytfhaiklfbnfdlaadoor", sum := "57bc65ae442de1cf51ac940acfeae305803befb0da7cb14cab73f5e2783d78bd", func := "proctor/proctorlaw22.ReportKinds", spec := "reportKinds", inPlace := ["internal/bytealg.IndexByteString", "internal/bytealg.IndexString"], unfollowed := true, recurses := true, named := ["proctor/report.outcomeWords", "internal/strconv.uint64pow10", "math/bits.deBruijn32tab", "math/bits.deBruijn64tab", "proctor/report.violWords", "internal/bytealg.MaxLen"], apart := false, laid := [("math/bits.deBruijn32tab", laid_math_bits_deBruijn32tab), ("math/bits.deBruijn64tab", laid_math_bits_deBruijn64tab), ("internal/strconv.uint64pow10", laid_internal_strconv_uint64pow10), ("proctor/report.outcomeWords", laid_proctor_report_outcomeWords), ("proctor/report.violWords", laid_proctor_report_violWords)], narrowed := true }
def ReportKindsUptoSaid : Prop := reportKindsUptoRow.holds Tryd.pinned (OpenSpec.upto reportKindsSpec)

end Rows
end Go.Proofs.YtfhaiklfbnfdlaaDoor
