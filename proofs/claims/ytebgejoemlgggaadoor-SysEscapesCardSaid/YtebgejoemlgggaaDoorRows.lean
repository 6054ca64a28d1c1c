/-
  NARROWER THAN 'FOR EVERY INPUT', by the rows' own cells (each row's printed sentence says how): SysChecks: laid · SysParses: laid · SysEscapes: laid · SysAnswers: laid · SysUnlike: laid · TraceParses: laid · TraceReads: laid · TraceUses: laid.
  DERIVED. THE GIVEN ROWS OF THIS SEAT. 8 by the template 'for every input the law returns true; each argument reads behind the call as it read before'; 0 by the template 'total and deterministic' (their statements: YtebgejoemlgggaaDoorTotals.lean).
  GIVEN WITH THE SEED: the statements are not yours to turn. If you find one false, say at which input.
  Laid BY PROGRAM, IN A SANDBOX (cutbox-rows.mjs): the forced cells as the released guide's own fill.sh prints them over the translation a7632c92112ebde4… (all of the seat's roots in one cut). By AI agents, Wed Nov 11 2026. No macro, syntax, notation, axiom, sorry.
-/
import Derived.Test.YtebgejoemlgggaaDoorChecked
import GoSem.PinnedTables
import GoSem.Claim
import GoSem.ClaimJoined
import GoSem.ClaimMapViews
import Derived.JoinedTies
import Derived.KernelRfl
namespace Go.Proofs.YtebgejoemlgggaaDoor
/- THE CELL 'sum', in the pinned program and in every row, IS THE sha256 OF THE DUMP (.gsa) THAT YtebgejoemlgggaaDoorProg.lean LOADS. Nothing in Lean hashes anything: it is a label: what it is worth is what the hold of that sum in a sandbox is worth. -/
noncomputable def Tryd.pinned : Pinned := { name := "ytebgejoemlgggaadoor", sum := "a7632c92112ebde4204468c14f40fe6086107dea1e0e4402b09fcadcbfbbfd8a", checked := Tryd.checked }
namespace Rows
def none {H : Type} : Left H := { results := [], args := [] }

/- WHAT THE LISTED PACKAGE-LEVEL VARIABLES READ AS WHEN THE CALL BEGINS. Each datum BY PROGRAM (the guide's laid-datum.mjs) off the statement by which the dump's own 'gosem.cut.vars' lays the variable. In a bare row this is a premise. The card (YtebgejoemlgggaaDoorCards.lean) ties it to the program's text. -/
def laid_math_bits_deBruijn32tab {H : Type} : DataW H := .agg [.lit (.int .u8 0), .lit (.int .u8 1), .lit (.int .u8 28), .lit (.int .u8 2), .lit (.int .u8 29), .lit (.int .u8 14), .lit (.int .u8 24), .lit (.int .u8 3), .lit (.int .u8 30), .lit (.int .u8 22), .lit (.int .u8 20), .lit (.int .u8 15), .lit (.int .u8 25), .lit (.int .u8 17), .lit (.int .u8 4), .lit (.int .u8 8), .lit (.int .u8 31), .lit (.int .u8 27), .lit (.int .u8 13), .lit (.int .u8 23), .lit (.int .u8 21), .lit (.int .u8 19), .lit (.int .u8 16), .lit (.int .u8 7), .lit (.int .u8 26), .lit (.int .u8 12), .lit (.int .u8 18), .lit (.int .u8 6), .lit (.int .u8 11), .lit (.int .u8 5), .lit (.int .u8 10), .lit (.int .u8 9)]
def laid_math_bits_deBruijn64tab {H : Type} : DataW H := .agg [.lit (.int .u8 0), .lit (.int .u8 1), .lit (.int .u8 56), .lit (.int .u8 2), .lit (.int .u8 57), .lit (.int .u8 49), .lit (.int .u8 28), .lit (.int .u8 3), .lit (.int .u8 61), .lit (.int .u8 58), .lit (.int .u8 42), .lit (.int .u8 50), .lit (.int .u8 38), .lit (.int .u8 29), .lit (.int .u8 17), .lit (.int .u8 4), .lit (.int .u8 62), .lit (.int .u8 47), .lit (.int .u8 59), .lit (.int .u8 36), .lit (.int .u8 45), .lit (.int .u8 43), .lit (.int .u8 51), .lit (.int .u8 22), .lit (.int .u8 53), .lit (.int .u8 39), .lit (.int .u8 33), .lit (.int .u8 30), .lit (.int .u8 24), .lit (.int .u8 18), .lit (.int .u8 12), .lit (.int .u8 5), .lit (.int .u8 63), .lit (.int .u8 55), .lit (.int .u8 48), .lit (.int .u8 27), .lit (.int .u8 60), .lit (.int .u8 41), .lit (.int .u8 37), .lit (.int .u8 16), .lit (.int .u8 46), .lit (.int .u8 35), .lit (.int .u8 44), .lit (.int .u8 21), .lit (.int .u8 52), .lit (.int .u8 32), .lit (.int .u8 23), .lit (.int .u8 11), .lit (.int .u8 54), .lit (.int .u8 26), .lit (.int .u8 40), .lit (.int .u8 15), .lit (.int .u8 34), .lit (.int .u8 20), .lit (.int .u8 31), .lit (.int .u8 10), .lit (.int .u8 25), .lit (.int .u8 14), .lit (.int .u8 19), .lit (.int .u8 9), .lit (.int .u8 13), .lit (.int .u8 8), .lit (.int .u8 7), .lit (.int .u8 6)]
def laid_internal_strconv_uint64pow10 {H : Type} : DataW H := .agg [.lit (.int .u64 1), .lit (.int .u64 10), .lit (.int .u64 100), .lit (.int .u64 1000), .lit (.int .u64 10000), .lit (.int .u64 100000), .lit (.int .u64 1000000), .lit (.int .u64 10000000), .lit (.int .u64 100000000), .lit (.int .u64 1000000000), .lit (.int .u64 10000000000), .lit (.int .u64 100000000000), .lit (.int .u64 1000000000000), .lit (.int .u64 10000000000000), .lit (.int .u64 100000000000000), .lit (.int .u64 1000000000000000), .lit (.int .u64 10000000000000000), .lit (.int .u64 100000000000000000), .lit (.int .u64 1000000000000000000), .lit (.int .u64 10000000000000000000)]
def laid_unicode_utf8_acceptRanges {H : Type} : DataW H := .agg [.agg [.lit (.int .u8 128), .lit (.int .u8 191)], .agg [.lit (.int .u8 160), .lit (.int .u8 191)], .agg [.lit (.int .u8 128), .lit (.int .u8 159)], .agg [.lit (.int .u8 144), .lit (.int .u8 191)], .agg [.lit (.int .u8 128), .lit (.int .u8 143)], .agg [.lit (.int .u8 0), .lit (.int .u8 0)], .agg [.lit (.int .u8 0), .lit (.int .u8 0)], .agg [.lit (.int .u8 0), .lit (.int .u8 0)], .agg [.lit (.int .u8 0), .lit (.int .u8 0)], .agg [.lit (.int .u8 0), .lit (.int .u8 0)], .agg [.lit (.int .u8 0), .lit (.int .u8 0)], .agg [.lit (.int .u8 0), .lit (.int .u8 0)], .agg [.lit (.int .u8 0), .lit (.int .u8 0)], .agg [.lit (.int .u8 0), .lit (.int .u8 0)], .agg [.lit (.int .u8 0), .lit (.int .u8 0)], .agg [.lit (.int .u8 0), .lit (.int .u8 0)]]
def laid_strconv_ErrRange {H : Type} : DataW H := .iface "*errors.errorString" (.ptr (.agg [.lit (.string [118, 97, 108, 117, 101, 32, 111, 117, 116, 32, 111, 102, 32, 114, 97, 110, 103, 101])]))
def laid_strconv_ErrSyntax {H : Type} : DataW H := .iface "*errors.errorString" (.ptr (.agg [.lit (.string [105, 110, 118, 97, 108, 105, 100, 32, 115, 121, 110, 116, 97, 120])]))
def laid_drumlin_sys_shapes {H : Type} : DataW H := .agg [.agg [.lit (.string []), .lit (.string [])], .agg [.lit (.string [102, 111, 114, 107]), .lit (.string [])], .agg [.lit (.string [101, 120, 105, 116]), .lit (.string [65])], .agg [.lit (.string [119, 97, 105, 116]), .lit (.string [])], .agg [.lit (.string [107, 105, 108, 108]), .lit (.string [65])], .agg [.lit (.string [115, 108, 101, 101, 112]), .lit (.string [65])], .agg [.lit (.string [103, 101, 116, 112, 105, 100]), .lit (.string [])], .agg [.lit (.string [111, 112, 101, 110]), .lit (.string [83, 65])], .agg [.lit (.string [99, 108, 111, 115, 101]), .lit (.string [65])], .agg [.lit (.string [114, 101, 97, 100]), .lit (.string [65, 66])], .agg [.lit (.string [119, 114, 105, 116, 101]), .lit (.string [65, 68])], .agg [.lit (.string [115, 101, 101, 107]), .lit (.string [65, 66])], .agg [.lit (.string [100, 117, 112]), .lit (.string [65])], .agg [.lit (.string [100, 117, 112, 50]), .lit (.string [65, 66])], .agg [.lit (.string [112, 105, 112, 101]), .lit (.string [])], .agg [.lit (.string [108, 105, 110, 107]), .lit (.string [83, 84])], .agg [.lit (.string [117, 110, 108, 105, 110, 107]), .lit (.string [83])], .agg [.lit (.string [114, 101, 110, 97, 109, 101]), .lit (.string [83, 84])], .agg [.lit (.string [109, 107, 100, 105, 114]), .lit (.string [83])], .agg [.lit (.string [114, 109, 100, 105, 114]), .lit (.string [83])], .agg [.lit (.string [99, 104, 100, 105, 114]), .lit (.string [83])], .agg [.lit (.string [115, 116, 97, 116]), .lit (.string [83])], .agg [.lit (.string [102, 115, 116, 97, 116]), .lit (.string [65])], .agg [.lit (.string [108, 105, 115, 116]), .lit (.string [65])], .agg [.lit (.string [116, 114, 117, 110, 99, 97, 116, 101]), .lit (.string [65, 66])], .agg [.lit (.string [115, 121, 110, 99]), .lit (.string [])], .agg [.lit (.string [102, 115, 121, 110, 99]), .lit (.string [65])], .agg [.lit (.string [103, 101, 116, 99, 119, 100]), .lit (.string [])], .agg [.lit (.string [103, 101, 116, 112, 112, 105, 100]), .lit (.string [])], .agg [.lit (.string [116, 105, 109, 101]), .lit (.string [])]]
/-- One of Go's own tables, pinned by name: the form's constant. -/
def laid_unicode_utf8_first : DataW Unit := Go.Pinned.utf8First
def laid_drumlin_trace_words {H : Type} : DataW H := .agg [.lit (.string [105, 100, 108, 101]), .lit (.string []), .lit (.string [98, 108, 111, 99, 107, 101, 100]), .lit (.string [101, 110, 100, 101, 100])]

/-- 'drumlinlaw23.SysChecks': WHATEVER THE INPUT: true; the input reads as it did. -/
def sysChecksSpec : ChangeSpec := { name := "sysChecks", fn := fun _ => fun
  | [d] => { results := [.lit (.bool true)], args := [d] }
  | _ => none }
def sysChecksRow : OpenClaim := { program := "ytebgejoemlgggaadoor", sum := "a7632c92112ebde4204468c14f40fe6086107dea1e0e4402b09fcadcbfbbfd8a", func := "drumlin/drumlinlaw23.SysChecks", spec := "sysChecks", inPlace := ["internal/bytealg.CountString", "internal/bytealg.IndexByteString", "internal/bytealg.IndexString", "internal/abi.NoEscape", "internal/bytealg.MakeNoZero"], unfollowed := true, recurses := true, named := ["drumlin/sys.shapes", "unicode/utf8.first", "unicode/utf8.acceptRanges", "internal/bytealg.MaxLen", "strconv.ErrSyntax", "strconv.ErrRange", "internal/strconv.uint64pow10", "math/bits.deBruijn32tab", "math/bits.deBruijn64tab"], apart := false, laid := [("math/bits.deBruijn32tab", laid_math_bits_deBruijn32tab), ("math/bits.deBruijn64tab", laid_math_bits_deBruijn64tab), ("internal/strconv.uint64pow10", laid_internal_strconv_uint64pow10), ("unicode/utf8.acceptRanges", laid_unicode_utf8_acceptRanges), ("strconv.ErrRange", laid_strconv_ErrRange), ("strconv.ErrSyntax", laid_strconv_ErrSyntax), ("drumlin/sys.shapes", laid_drumlin_sys_shapes), ("unicode/utf8.first", laid_unicode_utf8_first)] }
def SysChecksSaid : Prop := sysChecksRow.holds Tryd.pinned (OpenSpec.ofChange sysChecksSpec)

/-- ITS FALSE NEIGHBOUR: 'it returns false'. Refute it at one input. -/
def sysChecksWrong : ChangeSpec := { name := "sysChecks", fn := fun _ => fun
  | [d] => { results := [.lit (.bool false)], args := [d] }
  | _ => none }
def SysChecksWrongFalsely : Prop := sysChecksRow.holds Tryd.pinned (OpenSpec.ofChange sysChecksWrong)

/-- 'drumlinlaw23.SysParses': WHATEVER THE INPUT: true; the input reads as it did. -/
def sysParsesSpec : ChangeSpec := { name := "sysParses", fn := fun _ => fun
  | [d] => { results := [.lit (.bool true)], args := [d] }
  | _ => none }
def sysParsesRow : OpenClaim := { program := "ytebgejoemlgggaadoor", sum := "a7632c92112ebde4204468c14f40fe6086107dea1e0e4402b09fcadcbfbbfd8a", func := "drumlin/drumlinlaw23.SysParses", spec := "sysParses", inPlace := ["internal/bytealg.CountString", "internal/bytealg.IndexByteString", "internal/bytealg.IndexString", "internal/abi.NoEscape", "internal/bytealg.MakeNoZero"], unfollowed := true, recurses := true, named := ["drumlin/sys.shapes", "unicode/utf8.first", "unicode/utf8.acceptRanges", "internal/bytealg.MaxLen", "strconv.ErrSyntax", "strconv.ErrRange", "internal/strconv.uint64pow10", "math/bits.deBruijn32tab", "math/bits.deBruijn64tab"], apart := false, laid := [("math/bits.deBruijn32tab", laid_math_bits_deBruijn32tab), ("math/bits.deBruijn64tab", laid_math_bits_deBruijn64tab), ("internal/strconv.uint64pow10", laid_internal_strconv_uint64pow10), ("unicode/utf8.acceptRanges", laid_unicode_utf8_acceptRanges), ("strconv.ErrRange", laid_strconv_ErrRange), ("strconv.ErrSyntax", laid_strconv_ErrSyntax), ("drumlin/sys.shapes", laid_drumlin_sys_shapes), ("unicode/utf8.first", laid_unicode_utf8_first)] }
def SysParsesSaid : Prop := sysParsesRow.holds Tryd.pinned (OpenSpec.ofChange sysParsesSpec)

/-- ITS FALSE NEIGHBOUR: 'it returns false'. Refute it at one input. -/
def sysParsesWrong : ChangeSpec := { name := "sysParses", fn := fun _ => fun
  | [d] => { results := [.lit (.bool false)], args := [d] }
  | _ => none }
def SysParsesWrongFalsely : Prop := sysParsesRow.holds Tryd.pinned (OpenSpec.ofChange sysParsesWrong)

/-- 'drumlinlaw23.SysEscapes': WHATEVER THE INPUT: true; the input reads as it did. -/
def sysEscapesSpec : ChangeSpec := { name := "sysEscapes", fn := fun _ => fun
  | [d1, d2] => { results := [.lit (.bool true)], args := [d1, d2] }
  | _ => none }
def sysEscapesRow : OpenClaim := { program := "ytebgejoemlgggaadoor", sum := "a7632c92112ebde4204468c14f40fe6086107dea1e0e4402b09fcadcbfbbfd8a", func := "drumlin/drumlinlaw23.SysEscapes", spec := "sysEscapes", inPlace := ["internal/bytealg.CountString", "internal/bytealg.IndexByteString", "internal/bytealg.IndexString", "internal/abi.NoEscape", "internal/bytealg.MakeNoZero"], unfollowed := true, recurses := true, named := ["drumlin/sys.shapes", "unicode/utf8.first", "unicode/utf8.acceptRanges", "internal/bytealg.MaxLen", "strconv.ErrSyntax", "strconv.ErrRange", "internal/strconv.uint64pow10", "math/bits.deBruijn32tab", "math/bits.deBruijn64tab"], apart := false, laid := [("math/bits.deBruijn32tab", laid_math_bits_deBruijn32tab), ("math/bits.deBruijn64tab", laid_math_bits_deBruijn64tab), ("internal/strconv.uint64pow10", laid_internal_strconv_uint64pow10), ("unicode/utf8.acceptRanges", laid_unicode_utf8_acceptRanges), ("strconv.ErrRange", laid_strconv_ErrRange), ("strconv.ErrSyntax", laid_strconv_ErrSyntax), ("drumlin/sys.shapes", laid_drumlin_sys_shapes), ("unicode/utf8.first", laid_unicode_utf8_first)] }
def SysEscapesSaid : Prop := sysEscapesRow.holds Tryd.pinned (OpenSpec.ofChange sysEscapesSpec)

/-- ITS FALSE NEIGHBOUR: 'it returns false'. Refute it at one input. -/
def sysEscapesWrong : ChangeSpec := { name := "sysEscapes", fn := fun _ => fun
  | [d1, d2] => { results := [.lit (.bool false)], args := [d1, d2] }
  | _ => none }
def SysEscapesWrongFalsely : Prop := sysEscapesRow.holds Tryd.pinned (OpenSpec.ofChange sysEscapesWrong)

/-- 'drumlinlaw23.SysAnswers': WHATEVER THE INPUT: true; the input reads as it did. -/
def sysAnswersSpec : ChangeSpec := { name := "sysAnswers", fn := fun _ => fun
  | [d1, d2] => { results := [.lit (.bool true)], args := [d1, d2] }
  | _ => none }
def sysAnswersRow : OpenClaim := { program := "ytebgejoemlgggaadoor", sum := "a7632c92112ebde4204468c14f40fe6086107dea1e0e4402b09fcadcbfbbfd8a", func := "drumlin/drumlinlaw23.SysAnswers", spec := "sysAnswers", inPlace := ["internal/bytealg.CountString", "internal/bytealg.IndexByteString", "internal/bytealg.IndexString", "internal/abi.NoEscape", "internal/bytealg.MakeNoZero"], unfollowed := true, recurses := true, named := ["drumlin/sys.shapes", "unicode/utf8.first", "unicode/utf8.acceptRanges", "internal/bytealg.MaxLen", "strconv.ErrSyntax", "strconv.ErrRange", "internal/strconv.uint64pow10", "math/bits.deBruijn32tab", "math/bits.deBruijn64tab"], apart := false, laid := [("math/bits.deBruijn32tab", laid_math_bits_deBruijn32tab), ("math/bits.deBruijn64tab", laid_math_bits_deBruijn64tab), ("internal/strconv.uint64pow10", laid_internal_strconv_uint64pow10), ("unicode/utf8.acceptRanges", laid_unicode_utf8_acceptRanges), ("strconv.ErrRange", laid_strconv_ErrRange), ("strconv.ErrSyntax", laid_strconv_ErrSyntax), ("drumlin/sys.shapes", laid_drumlin_sys_shapes), ("unicode/utf8.first", laid_unicode_utf8_first)] }
def SysAnswersSaid : Prop := sysAnswersRow.holds Tryd.pinned (OpenSpec.ofChange sysAnswersSpec)

/-- ITS FALSE NEIGHBOUR: 'it returns false'. Refute it at one input. -/
def sysAnswersWrong : ChangeSpec := { name := "sysAnswers", fn := fun _ => fun
  | [d1, d2] => { results := [.lit (.bool false)], args := [d1, d2] }
  | _ => none }
def SysAnswersWrongFalsely : Prop := sysAnswersRow.holds Tryd.pinned (OpenSpec.ofChange sysAnswersWrong)

/-- 'drumlinlaw23.SysUnlike': WHATEVER THE INPUT: true; the input reads as it did. -/
def sysUnlikeSpec : ChangeSpec := { name := "sysUnlike", fn := fun _ => fun
  | [d1, d2] => { results := [.lit (.bool true)], args := [d1, d2] }
  | _ => none }
def sysUnlikeRow : OpenClaim := { program := "ytebgejoemlgggaadoor", sum := "a7632c92112ebde4204468c14f40fe6086107dea1e0e4402b09fcadcbfbbfd8a", func := "drumlin/drumlinlaw23.SysUnlike", spec := "sysUnlike", inPlace := ["internal/bytealg.CountString", "internal/bytealg.IndexByteString", "internal/bytealg.IndexString", "internal/abi.NoEscape", "internal/bytealg.MakeNoZero"], unfollowed := true, recurses := true, named := ["drumlin/sys.shapes", "unicode/utf8.first", "unicode/utf8.acceptRanges", "internal/bytealg.MaxLen", "strconv.ErrSyntax", "strconv.ErrRange", "internal/strconv.uint64pow10", "math/bits.deBruijn32tab", "math/bits.deBruijn64tab"], apart := false, laid := [("math/bits.deBruijn32tab", laid_math_bits_deBruijn32tab), ("math/bits.deBruijn64tab", laid_math_bits_deBruijn64tab), ("internal/strconv.uint64pow10", laid_internal_strconv_uint64pow10), ("unicode/utf8.acceptRanges", laid_unicode_utf8_acceptRanges), ("strconv.ErrRange", laid_strconv_ErrRange), ("strconv.ErrSyntax", laid_strconv_ErrSyntax), ("drumlin/sys.shapes", laid_drumlin_sys_shapes), ("unicode/utf8.first", laid_unicode_utf8_first)] }
def SysUnlikeSaid : Prop := sysUnlikeRow.holds Tryd.pinned (OpenSpec.ofChange sysUnlikeSpec)

/-- ITS FALSE NEIGHBOUR: 'it returns false'. Refute it at one input. -/
def sysUnlikeWrong : ChangeSpec := { name := "sysUnlike", fn := fun _ => fun
  | [d1, d2] => { results := [.lit (.bool false)], args := [d1, d2] }
  | _ => none }
def SysUnlikeWrongFalsely : Prop := sysUnlikeRow.holds Tryd.pinned (OpenSpec.ofChange sysUnlikeWrong)

/-- 'drumlinlaw25.TraceParses': WHATEVER THE INPUT: true; the input reads as it did. -/
def traceParsesSpec : ChangeSpec := { name := "traceParses", fn := fun _ => fun
  | [d] => { results := [.lit (.bool true)], args := [d] }
  | _ => none }
def traceParsesRow : OpenClaim := { program := "ytebgejoemlgggaadoor", sum := "a7632c92112ebde4204468c14f40fe6086107dea1e0e4402b09fcadcbfbbfd8a", func := "drumlin/drumlinlaw25.TraceParses", spec := "traceParses", inPlace := ["internal/bytealg.IndexByteString", "internal/abi.NoEscape", "internal/bytealg.MakeNoZero", "internal/bytealg.IndexString", "internal/bytealg.CountString"], unfollowed := true, recurses := true, named := ["internal/strconv.uint64pow10", "math/bits.deBruijn32tab", "math/bits.deBruijn64tab", "drumlin/trace.words", "drumlin/sys.shapes", "internal/bytealg.MaxLen", "strconv.ErrSyntax", "strconv.ErrRange", "unicode/utf8.first", "unicode/utf8.acceptRanges"], apart := false, laid := [("math/bits.deBruijn32tab", laid_math_bits_deBruijn32tab), ("math/bits.deBruijn64tab", laid_math_bits_deBruijn64tab), ("internal/strconv.uint64pow10", laid_internal_strconv_uint64pow10), ("unicode/utf8.acceptRanges", laid_unicode_utf8_acceptRanges), ("strconv.ErrRange", laid_strconv_ErrRange), ("strconv.ErrSyntax", laid_strconv_ErrSyntax), ("drumlin/sys.shapes", laid_drumlin_sys_shapes), ("drumlin/trace.words", laid_drumlin_trace_words), ("unicode/utf8.first", laid_unicode_utf8_first)] }
def TraceParsesSaid : Prop := traceParsesRow.holds Tryd.pinned (OpenSpec.ofChange traceParsesSpec)

/-- ITS FALSE NEIGHBOUR: 'it returns false'. Refute it at one input. -/
def traceParsesWrong : ChangeSpec := { name := "traceParses", fn := fun _ => fun
  | [d] => { results := [.lit (.bool false)], args := [d] }
  | _ => none }
def TraceParsesWrongFalsely : Prop := traceParsesRow.holds Tryd.pinned (OpenSpec.ofChange traceParsesWrong)

/-- 'drumlinlaw25.TraceReads': WHATEVER THE INPUT: true; the input reads as it did. -/
def traceReadsSpec : ChangeSpec := { name := "traceReads", fn := fun _ => fun
  | [d] => { results := [.lit (.bool true)], args := [d] }
  | _ => none }
def traceReadsRow : OpenClaim := { program := "ytebgejoemlgggaadoor", sum := "a7632c92112ebde4204468c14f40fe6086107dea1e0e4402b09fcadcbfbbfd8a", func := "drumlin/drumlinlaw25.TraceReads", spec := "traceReads", inPlace := ["internal/bytealg.IndexByteString", "internal/abi.NoEscape", "internal/bytealg.MakeNoZero", "internal/bytealg.IndexString", "internal/bytealg.CountString"], unfollowed := true, recurses := true, named := ["internal/strconv.uint64pow10", "math/bits.deBruijn32tab", "math/bits.deBruijn64tab", "drumlin/trace.words", "drumlin/sys.shapes", "internal/bytealg.MaxLen", "strconv.ErrSyntax", "strconv.ErrRange", "unicode/utf8.first", "unicode/utf8.acceptRanges"], apart := false, laid := [("math/bits.deBruijn32tab", laid_math_bits_deBruijn32tab), ("math/bits.deBruijn64tab", laid_math_bits_deBruijn64tab), ("internal/strconv.uint64pow10", laid_internal_strconv_uint64pow10), ("unicode/utf8.acceptRanges", laid_unicode_utf8_acceptRanges), ("strconv.ErrRange", laid_strconv_ErrRange), ("strconv.ErrSyntax", laid_strconv_ErrSyntax), ("drumlin/sys.shapes", laid_drumlin_sys_shapes), ("drumlin/trace.words", laid_drumlin_trace_words), ("unicode/utf8.first", laid_unicode_utf8_first)] }
def TraceReadsSaid : Prop := traceReadsRow.holds Tryd.pinned (OpenSpec.ofChange traceReadsSpec)

/-- ITS FALSE NEIGHBOUR: 'it returns false'. Refute it at one input. -/
def traceReadsWrong : ChangeSpec := { name := "traceReads", fn := fun _ => fun
  | [d] => { results := [.lit (.bool false)], args := [d] }
  | _ => none }
def TraceReadsWrongFalsely : Prop := traceReadsRow.holds Tryd.pinned (OpenSpec.ofChange traceReadsWrong)

/-- 'drumlinlaw25.TraceUses': WHATEVER THE INPUT: true; the input reads as it did. -/
def traceUsesSpec : ChangeSpec := { name := "traceUses", fn := fun _ => fun
  | [d1, d2] => { results := [.lit (.bool true)], args := [d1, d2] }
  | _ => none }
def traceUsesRow : OpenClaim := { program := "ytebgejoemlgggaadoor", sum := "a7632c92112ebde4204468c14f40fe6086107dea1e0e4402b09fcadcbfbbfd8a", func := "drumlin/drumlinlaw25.TraceUses", spec := "traceUses", inPlace := ["internal/bytealg.IndexByteString", "internal/abi.NoEscape", "internal/bytealg.MakeNoZero", "internal/bytealg.IndexString", "internal/bytealg.CountString"], unfollowed := true, recurses := true, named := ["internal/strconv.uint64pow10", "math/bits.deBruijn32tab", "math/bits.deBruijn64tab", "drumlin/trace.words", "drumlin/sys.shapes", "internal/bytealg.MaxLen", "strconv.ErrSyntax", "strconv.ErrRange", "unicode/utf8.first", "unicode/utf8.acceptRanges", "math/bits.divideError", "math/bits.overflowError"], apart := false, laid := [("math/bits.deBruijn32tab", laid_math_bits_deBruijn32tab), ("math/bits.deBruijn64tab", laid_math_bits_deBruijn64tab), ("internal/strconv.uint64pow10", laid_internal_strconv_uint64pow10), ("unicode/utf8.acceptRanges", laid_unicode_utf8_acceptRanges), ("strconv.ErrRange", laid_strconv_ErrRange), ("strconv.ErrSyntax", laid_strconv_ErrSyntax), ("drumlin/sys.shapes", laid_drumlin_sys_shapes), ("drumlin/trace.words", laid_drumlin_trace_words), ("unicode/utf8.first", laid_unicode_utf8_first)] }
def TraceUsesSaid : Prop := traceUsesRow.holds Tryd.pinned (OpenSpec.ofChange traceUsesSpec)

/-- ITS FALSE NEIGHBOUR: 'it returns false'. Refute it at one input. -/
def traceUsesWrong : ChangeSpec := { name := "traceUses", fn := fun _ => fun
  | [d1, d2] => { results := [.lit (.bool false)], args := [d1, d2] }
  | _ => none }
def TraceUsesWrongFalsely : Prop := traceUsesRow.holds Tryd.pinned (OpenSpec.ofChange traceUsesWrong)

/- THE SECOND FORM. 'bulk': how many values and letters a reading holds, each counted each time it is reached (what is shared counts as often as it is met; a slice's spare places count too). A statement '..UptoSaid' is the law's where the arguments, and the package variables that the reading takes, are together of bulk at most 1048576: NARROWER than '..Said'. Prove '..Said' where nothing that the law and all that it calls make is longer than what came in: it says more and counts as full. Else prove '..UptoSaid'. A law counts once. -/
mutual
def uptoBulk {H : Type} : DataW H → Nat
  | .lit (.string bytes) => bytes.length + 1
  | .lit _ => 1
  | .nil => 1
  | .ptr d => uptoBulk d + 1
  | .slice elems spare => uptoBulkAll elems + uptoBulkAll spare + 1
  | .agg parts => uptoBulkAll parts + 1
  | .iface _ d => uptoBulk d + 1
  | .map entries => uptoBulkEntries entries + 1
  | .held _ => 1
def uptoBulkAll {H : Type} : List (DataW H) → Nat
  | [] => 0
  | d :: r => uptoBulk d + uptoBulkAll r
def uptoBulkEntries {H : Type} : List (Lit × DataW H) → Nat
  | [] => 0
  | x :: r => uptoBulkEntry x + uptoBulkEntries r
def uptoBulkEntry {H : Type} : Lit × DataW H → Nat
  | (.string bytes, d) => bytes.length + uptoBulk d + 1
  | (_, d) => uptoBulk d + 1
 end
def uptoSmall : (H : Type) → List (DataW H) → Bool := fun _ ds => decide (uptoBulkAll ds ≤ 1048576)
def OpenSpec.upto (s : _root_.Go.ChangeSpec) : _root_.Go.OpenSpec := { _root_.Go.OpenSpec.ofChange s with cond := some uptoSmall }

/-- 'drumlinlaw23.SysChecks', WHERE WHAT IT READS IS OF BULK AT MOST 1048576: true; the input reads as it did. -/
def sysChecksUptoRow : OpenClaim := { program := "ytebgejoemlgggaadoor", sum := "a7632c92112ebde4204468c14f40fe6086107dea1e0e4402b09fcadcbfbbfd8a", func := "drumlin/drumlinlaw23.SysChecks", spec := "sysChecks", inPlace := ["internal/bytealg.CountString", "internal/bytealg.IndexByteString", "internal/bytealg.IndexString", "internal/abi.NoEscape", "internal/bytealg.MakeNoZero"], unfollowed := true, recurses := true, named := ["drumlin/sys.shapes", "unicode/utf8.first", "unicode/utf8.acceptRanges", "internal/bytealg.MaxLen", "strconv.ErrSyntax", "strconv.ErrRange", "internal/strconv.uint64pow10", "math/bits.deBruijn32tab", "math/bits.deBruijn64tab"], apart := false, laid := [("math/bits.deBruijn32tab", laid_math_bits_deBruijn32tab), ("math/bits.deBruijn64tab", laid_math_bits_deBruijn64tab), ("internal/strconv.uint64pow10", laid_internal_strconv_uint64pow10), ("unicode/utf8.acceptRanges", laid_unicode_utf8_acceptRanges), ("strconv.ErrRange", laid_strconv_ErrRange), ("strconv.ErrSyntax", laid_strconv_ErrSyntax), ("drumlin/sys.shapes", laid_drumlin_sys_shapes), ("unicode/utf8.first", laid_unicode_utf8_first)], narrowed := true }
def SysChecksUptoSaid : Prop := sysChecksUptoRow.holds Tryd.pinned (OpenSpec.upto sysChecksSpec)

/-- 'drumlinlaw23.SysParses', WHERE WHAT IT READS IS OF BULK AT MOST 1048576: true; the input reads as it did. -/
def sysParsesUptoRow : OpenClaim := { program := "ytebgejoemlgggaadoor", sum := "a7632c92112ebde4204468c14f40fe6086107dea1e0e4402b09fcadcbfbbfd8a", func := "drumlin/drumlinlaw23.SysParses", spec := "sysParses", inPlace := ["internal/bytealg.CountString", "internal/bytealg.IndexByteString", "internal/bytealg.IndexString", "internal/abi.NoEscape", "internal/bytealg.MakeNoZero"], unfollowed := true, recurses := true, named := ["drumlin/sys.shapes", "unicode/utf8.first", "unicode/utf8.acceptRanges", "internal/bytealg.MaxLen", "strconv.ErrSyntax", "strconv.ErrRange", "internal/strconv.uint64pow10", "math/bits.deBruijn32tab", "math/bits.deBruijn64tab"], apart := false, laid := [("math/bits.deBruijn32tab", laid_math_bits_deBruijn32tab), ("math/bits.deBruijn64tab", laid_math_bits_deBruijn64tab), ("internal/strconv.uint64pow10", laid_internal_strconv_uint64pow10), ("unicode/utf8.acceptRanges", laid_unicode_utf8_acceptRanges), ("strconv.ErrRange", laid_strconv_ErrRange), ("strconv.ErrSyntax", laid_strconv_ErrSyntax), ("drumlin/sys.shapes", laid_drumlin_sys_shapes), ("unicode/utf8.first", laid_unicode_utf8_first)], narrowed := true }
def SysParsesUptoSaid : Prop := sysParsesUptoRow.holds Tryd.pinned (OpenSpec.upto sysParsesSpec)

/-- 'drumlinlaw23.SysEscapes', WHERE WHAT IT READS IS OF BULK AT MOST 1048576: true; the input reads as it did. -/
def sysEscapesUptoRow : OpenClaim := { program := "ytebgejoemlgggaadoor", sum := "a7632c92112ebde4204468c14f40fe6086107dea1e0e4402b09fcadcbfbbfd8a", func := "drumlin/drumlinlaw23.SysEscapes", spec := "sysEscapes", inPlace := ["internal/bytealg.CountString", "internal/bytealg.IndexByteString", "internal/bytealg.IndexString", "internal/abi.NoEscape", "internal/bytealg.MakeNoZero"], unfollowed := true, recurses := true, named := ["drumlin/sys.shapes", "unicode/utf8.first", "unicode/utf8.acceptRanges", "internal/bytealg.MaxLen", "strconv.ErrSyntax", "strconv.ErrRange", "internal/strconv.uint64pow10", "math/bits.deBruijn32tab", "math/bits.deBruijn64tab"], apart := false, laid := [("math/bits.deBruijn32tab", laid_math_bits_deBruijn32tab), ("math/bits.deBruijn64tab", laid_math_bits_deBruijn64tab), ("internal/strconv.uint64pow10", laid_internal_strconv_uint64pow10), ("unicode/utf8.acceptRanges", laid_unicode_utf8_acceptRanges), ("strconv.ErrRange", laid_strconv_ErrRange), ("strconv.ErrSyntax", laid_strconv_ErrSyntax), ("drumlin/sys.shapes", laid_drumlin_sys_shapes), ("unicode/utf8.first", laid_unicode_utf8_first)], narrowed := true }
def SysEscapesUptoSaid : Prop := sysEscapesUptoRow.holds Tryd.pinned (OpenSpec.upto sysEscapesSpec)

/-- 'drumlinlaw23.SysAnswers', WHERE WHAT IT READS IS OF BULK AT MOST 1048576: true; the input reads as it did. -/
def sysAnswersUptoRow : OpenClaim := { program := "ytebgejoemlgggaadoor", sum := "a7632c92112ebde4204468c14f40fe6086107dea1e0e4402b09fcadcbfbbfd8a", func := "drumlin/drumlinlaw23.SysAnswers", spec := "sysAnswers", inPlace := ["internal/bytealg.CountString", "internal/bytealg.IndexByteString", "internal/bytealg.IndexString", "internal/abi.NoEscape", "internal/bytealg.MakeNoZero"], unfollowed := true, recurses := true, named := ["drumlin/sys.shapes", "unicode/utf8.first", "unicode/utf8.acceptRanges", "internal/bytealg.MaxLen", "strconv.ErrSyntax", "strconv.ErrRange", "internal/strconv.uint64pow10", "math/bits.deBruijn32tab", "math/bits.deBruijn64tab"], apart := false, laid := [("math/bits.deBruijn32tab", laid_math_bits_deBruijn32tab), ("math/bits.deBruijn64tab", laid_math_bits_deBruijn64tab), ("internal/strconv.uint64pow10", laid_internal_strconv_uint64pow10), ("unicode/utf8.acceptRanges", laid_unicode_utf8_acceptRanges), ("strconv.ErrRange", laid_strconv_ErrRange), ("strconv.ErrSyntax", laid_strconv_ErrSyntax), ("drumlin/sys.shapes", laid_drumlin_sys_shapes), ("unicode/utf8.first", laid_unicode_utf8_first)], narrowed := true }
def SysAnswersUptoSaid : Prop := sysAnswersUptoRow.holds Tryd.pinned (OpenSpec.upto sysAnswersSpec)

/-- 'drumlinlaw23.SysUnlike', WHERE WHAT IT READS IS OF BULK AT MOST 1048576: true; the input reads as it did. -/
def sysUnlikeUptoRow : OpenClaim := { program := "ytebgejoemlgggaadoor", sum := "a7632c92112ebde4204468c14f40fe6086107dea1e0e4402b09fcadcbfbbfd8a", func := "drumlin/drumlinlaw23.SysUnlike", spec := "sysUnlike", inPlace := ["internal/bytealg.CountString", "internal/bytealg.IndexByteString", "internal/bytealg.IndexString", "internal/abi.NoEscape", "internal/bytealg.MakeNoZero"], unfollowed := true, recurses := true, named := ["drumlin/sys.shapes", "unicode/utf8.first", "unicode/utf8.acceptRanges", "internal/bytealg.MaxLen", "strconv.ErrSyntax", "strconv.ErrRange", "internal/strconv.uint64pow10", "math/bits.deBruijn32tab", "math/bits.deBruijn64tab"], apart := false, laid := [("math/bits.deBruijn32tab", laid_math_bits_deBruijn32tab), ("math/bits.deBruijn64tab", laid_math_bits_deBruijn64tab), ("internal/strconv.uint64pow10", laid_internal_strconv_uint64pow10), ("unicode/utf8.acceptRanges", laid_unicode_utf8_acceptRanges), ("strconv.ErrRange", laid_strconv_ErrRange), ("strconv.ErrSyntax", laid_strconv_ErrSyntax), ("drumlin/sys.shapes", laid_drumlin_sys_shapes), ("unicode/utf8.first", laid_unicode_utf8_first)], narrowed := true }
def SysUnlikeUptoSaid : Prop := sysUnlikeUptoRow.holds Tryd.pinned (OpenSpec.upto sysUnlikeSpec)

/-- 'drumlinlaw25.TraceParses', WHERE WHAT IT READS IS OF BULK AT MOST 1048576: true; the input reads as it did. -/
def traceParsesUptoRow : OpenClaim := { program := "ytebgejoemlgggaadoor", sum := "a7632c92112ebde4204468c14f40fe6086107dea1e0e4402b09fcadcbfbbfd8a", func := "drumlin/drumlinlaw25.TraceParses", spec := "traceParses", inPlace := ["internal/bytealg.IndexByteString", "internal/abi.NoEscape", "internal/bytealg.MakeNoZero", "internal/bytealg.IndexString", "internal/bytealg.CountString"], unfollowed := true, recurses := true, named := ["internal/strconv.uint64pow10", "math/bits.deBruijn32tab", "math/bits.deBruijn64tab", "drumlin/trace.words", "drumlin/sys.shapes", "internal/bytealg.MaxLen", "strconv.ErrSyntax", "strconv.ErrRange", "unicode/utf8.first", "unicode/utf8.acceptRanges"], apart := false, laid := [("math/bits.deBruijn32tab", laid_math_bits_deBruijn32tab), ("math/bits.deBruijn64tab", laid_math_bits_deBruijn64tab), ("internal/strconv.uint64pow10", laid_internal_strconv_uint64pow10), ("unicode/utf8.acceptRanges", laid_unicode_utf8_acceptRanges), ("strconv.ErrRange", laid_strconv_ErrRange), ("strconv.ErrSyntax", laid_strconv_ErrSyntax), ("drumlin/sys.shapes", laid_drumlin_sys_shapes), ("drumlin/trace.words", laid_drumlin_trace_words), ("unicode/utf8.first", laid_unicode_utf8_first)], narrowed := true }
def TraceParsesUptoSaid : Prop := traceParsesUptoRow.holds Tryd.pinned (OpenSpec.upto traceParsesSpec)

/-- 'drumlinlaw25.TraceReads', WHERE WHAT IT READS IS OF BULK AT MOST 1048576: true; the input reads as it did. -/
def traceReadsUptoRow : OpenClaim := { program := "ytebgejoemlgggaadoor", sum := "a7632c92112ebde4204468c14f40fe6086107dea1e0e4402b09fcadcbfbbfd8a", func := "drumlin/drumlinlaw25.TraceReads", spec := "traceReads", inPlace := ["internal/bytealg.IndexByteString", "internal/abi.NoEscape", "internal/bytealg.MakeNoZero", "internal/bytealg.IndexString", "internal/bytealg.CountString"], unfollowed := true, recurses := true, named := ["internal/strconv.uint64pow10", "math/bits.deBruijn32tab", "math/bits.deBruijn64tab", "drumlin/trace.words", "drumlin/sys.shapes", "internal/bytealg.MaxLen", "strconv.ErrSyntax", "strconv.ErrRange", "unicode/utf8.first", "unicode/utf8.acceptRanges"], apart := false, laid := [("math/bits.deBruijn32tab", laid_math_bits_deBruijn32tab), ("math/bits.deBruijn64tab", laid_math_bits_deBruijn64tab), ("internal/strconv.uint64pow10", laid_internal_strconv_uint64pow10), ("unicode/utf8.acceptRanges", laid_unicode_utf8_acceptRanges), ("strconv.ErrRange", laid_strconv_ErrRange), ("strconv.ErrSyntax", laid_strconv_ErrSyntax), ("drumlin/sys.shapes", laid_drumlin_sys_shapes), ("drumlin/trace.words", laid_drumlin_trace_words), ("unicode/utf8.first", laid_unicode_utf8_first)], narrowed := true }
def TraceReadsUptoSaid : Prop := traceReadsUptoRow.holds Tryd.pinned (OpenSpec.upto traceReadsSpec)

/-- 'drumlinlaw25.TraceUses', WHERE WHAT IT READS IS OF BULK AT MOST 1048576: true; the input reads as it did. -/
def traceUsesUptoRow : OpenClaim := { program := "ytebgejoemlgggaadoor", sum := "a7632c92112ebde4204468c14f40fe6086107dea1e0e4402b09fcadcbfbbfd8a", func := "drumlin/drumlinlaw25.TraceUses", spec := "traceUses", inPlace := ["internal/bytealg.IndexByteString", "internal/abi.NoEscape", "internal/bytealg.MakeNoZero", "internal/bytealg.IndexString", "internal/bytealg.CountString"], unfollowed := true, recurses := true, named := ["internal/strconv.uint64pow10", "math/bits.deBruijn32tab", "math/bits.deBruijn64tab", "drumlin/trace.words", "drumlin/sys.shapes", "internal/bytealg.MaxLen", "strconv.ErrSyntax", "strconv.ErrRange", "unicode/utf8.first", "unicode/utf8.acceptRanges", "math/bits.divideError", "math/bits.overflowError"], apart := false, laid := [("math/bits.deBruijn32tab", laid_math_bits_deBruijn32tab), ("math/bits.deBruijn64tab", laid_math_bits_deBruijn64tab), ("internal/strconv.uint64pow10", laid_internal_strconv_uint64pow10), ("unicode/utf8.acceptRanges", laid_unicode_utf8_acceptRanges), ("strconv.ErrRange", laid_strconv_ErrRange), ("strconv.ErrSyntax", laid_strconv_ErrSyntax), ("drumlin/sys.shapes", laid_drumlin_sys_shapes), ("drumlin/trace.words", laid_drumlin_trace_words), ("unicode/utf8.first", laid_unicode_utf8_first)], narrowed := true }
def TraceUsesUptoSaid : Prop := traceUsesUptoRow.holds Tryd.pinned (OpenSpec.upto traceUsesSpec)

end Rows
end Go.Proofs.YtebgejoemlgggaaDoor
