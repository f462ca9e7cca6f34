/-
  NARROWER THAN 'FOR EVERY INPUT', by the rows' own cells (each row's printed sentence says how): Nodes: laid · Stray: laid · Agreed: laid · Live: laid · Blamed: laid.
  DERIVED. THE GIVEN ROWS OF THIS SEAT. 5 by the template 'for every input the law returns true; each argument reads behind the call as it read before'; 0 by the template 'total and deterministic' (their statements: YtcfjhbcpjpgodaaGreatDoorTotals.lean).
  GIVEN WITH THE SEED: the statements are not yours to turn. If you find one false, say at which input.
  Laid BY PROGRAM, IN A SANDBOX (cutbox-rows.mjs): the forced cells as the released guide's own fill.sh prints them over the translation 42415bad5513b9f2… (all of the seat's roots in one cut). By AI agents, Wed Nov 11 2026. No macro, syntax, notation, axiom, sorry.
-/
import Derived.Test.YtcfjhbcpjpgodaaGreatDoorChecked
import GoSem.PinnedTables
import GoSem.Claim
import GoSem.ClaimJoined
import GoSem.ClaimMapViews
import Derived.JoinedTies
import Derived.KernelRfl
namespace Go.Proofs.YtcfjhbcpjpgodaaGreatDoor
/- THE CELL 'sum', in the pinned program and in every row, IS THE sha256 OF THE DUMP (.gsa) THAT YtcfjhbcpjpgodaaGreatDoorProg.lean LOADS. Nothing in Lean hashes anything: it is a label: what it is worth is what the hold of that sum in a sandbox is worth. -/
noncomputable def Tryz.pinned : Pinned := { name := "ytcfjhbcpjpgodaagreatdoor", sum := "42415bad5513b9f2339b0c50088afe4a01e449d4a21a45484c92d617751d1180", checked := Tryz.checked }
namespace Rows
def none {H : Type} : Left H := { results := [], args := [] }

/- WHAT THE LISTED PACKAGE-LEVEL VARIABLES READ AS WHEN THE CALL BEGINS. Each datum BY PROGRAM (the guide's laid-datum.mjs) off the statement by which the dump's own 'gosem.cut.vars' lays the variable. In a bare row this is a premise. The card (YtcfjhbcpjpgodaaGreatDoorCards.lean) ties it to the program's text. -/
def laid_unicode_utf8_acceptRanges {H : Type} : DataW H := .agg [.agg [.lit (.int .u8 128), .lit (.int .u8 191)], .agg [.lit (.int .u8 160), .lit (.int .u8 191)], .agg [.lit (.int .u8 128), .lit (.int .u8 159)], .agg [.lit (.int .u8 144), .lit (.int .u8 191)], .agg [.lit (.int .u8 128), .lit (.int .u8 143)], .agg [.lit (.int .u8 0), .lit (.int .u8 0)], .agg [.lit (.int .u8 0), .lit (.int .u8 0)], .agg [.lit (.int .u8 0), .lit (.int .u8 0)], .agg [.lit (.int .u8 0), .lit (.int .u8 0)], .agg [.lit (.int .u8 0), .lit (.int .u8 0)], .agg [.lit (.int .u8 0), .lit (.int .u8 0)], .agg [.lit (.int .u8 0), .lit (.int .u8 0)], .agg [.lit (.int .u8 0), .lit (.int .u8 0)], .agg [.lit (.int .u8 0), .lit (.int .u8 0)], .agg [.lit (.int .u8 0), .lit (.int .u8 0)], .agg [.lit (.int .u8 0), .lit (.int .u8 0)]]
def laid_errors_errorType {H : Type} : DataW H := .iface "internal/reflectlite.rtype" (.agg [.ptr (.lit (.string [101, 114, 114, 111, 114]))])
def laid_synod_api_ErrArg {H : Type} : DataW H := .iface "*errors.errorString" (.ptr (.agg [.lit (.string [119, 104, 97, 116, 32, 109, 97, 121, 32, 110, 111, 116, 32, 98, 101])]))
def laid_synod_api_ErrForm {H : Type} : DataW H := .iface "*errors.errorString" (.ptr (.agg [.lit (.string [110, 111, 32, 102, 114, 97, 109, 101])]))
def laid_synod_api_ErrSeal {H : Type} : DataW H := .iface "*errors.errorString" (.ptr (.agg [.lit (.string [110, 111, 116, 32, 115, 105, 103, 110, 101, 100, 32, 98, 121, 32, 105, 116, 115, 32, 115, 101, 110, 100, 101, 114])]))
def laid_synod_api_ErrPast {H : Type} : DataW H := .iface "*errors.errorString" (.ptr (.agg [.lit (.string [111, 102, 32, 97, 32, 104, 101, 105, 103, 104, 116, 32, 116, 104, 97, 116, 32, 105, 115, 32, 100, 101, 99, 105, 100, 101, 100])]))
def laid_synod_api_ErrFar {H : Type} : DataW H := .iface "*errors.errorString" (.ptr (.agg [.lit (.string [111, 102, 32, 97, 32, 104, 101, 105, 103, 104, 116, 32, 111, 114, 32, 114, 111, 117, 110, 100, 32, 116, 111, 111, 32, 102, 97, 114, 32, 97, 119, 97, 121])]))
def laid_synod_api_ErrOutsider {H : Type} : DataW H := .iface "*errors.errorString" (.ptr (.agg [.lit (.string [102, 114, 111, 109, 32, 111, 110, 101, 32, 119, 104, 111, 32, 104, 97, 115, 32, 110, 111, 32, 115, 97, 121, 32, 105, 110, 32, 116, 104, 105, 115])]))
def laid_synod_api_ErrKnown {H : Type} : DataW H := .iface "*errors.errorString" (.ptr (.agg [.lit (.string [107, 110, 111, 119, 110, 32, 97, 108, 114, 101, 97, 100, 121])]))
def laid_synod_api_ErrMany {H : Type} : DataW H := .iface "*errors.errorString" (.ptr (.agg [.lit (.string [109, 111, 114, 101, 32, 116, 104, 97, 110, 32, 111, 110, 101, 32, 109, 97, 121, 32, 115, 97, 121])]))
def laid_synod_api_ErrFull {H : Type} : DataW H := .iface "*errors.errorString" (.ptr (.agg [.lit (.string [109, 111, 114, 101, 32, 116, 104, 97, 110, 32, 109, 97, 121, 32, 119, 97, 105, 116])]))
def laid_synod_api_ErrCert {H : Type} : DataW H := .iface "*errors.errorString" (.ptr (.agg [.lit (.string [110, 111, 32, 99, 101, 114, 116, 105, 102, 105, 99, 97, 116, 101])]))
def laid_synod_api_ErrNone {H : Type} : DataW H := .iface "*errors.errorString" (.ptr (.agg [.lit (.string [110, 111, 116, 104, 105, 110, 103, 32, 116, 104, 101, 114, 101])]))
def laid_synod_api_ErrRecord {H : Type} : DataW H := .iface "*errors.errorString" (.ptr (.agg [.lit (.string [110, 111, 32, 103, 111, 111, 100, 32, 114, 101, 99, 111, 114, 100, 32, 111, 114, 32, 98, 108, 111, 99, 107])]))
/-- One of Go's own tables, pinned by name: the form's constant. -/
def laid_unicode_utf8_first : DataW Unit := Go.Pinned.utf8First

/-- 'synodlaw.Nodes': WHATEVER THE INPUT: true; the input reads as it did. -/
def nodesSpec : ChangeSpec := { name := "nodes", fn := fun _ => fun
  | [d1, d2, d3] => { results := [.lit (.bool true)], args := [d1, d2, d3] }
  | _ => none }
def nodesRow : OpenClaim := { program := "ytcfjhbcpjpgodaagreatdoor", sum := "42415bad5513b9f2339b0c50088afe4a01e449d4a21a45484c92d617751d1180", func := "synod/synodlaw.Nodes", spec := "nodes", inPlace := ["internal/bytealg.CountString", "internal/bytealg.IndexByteString", "internal/bytealg.IndexString", "internal/reflectlite.TypeOf", "internal/reflectlite.ValueOf", "(internal/reflectlite.Value).Type", "(internal/reflectlite.Value).IsNil", "(internal/reflectlite.Value).Elem", "(internal/reflectlite.Value).Set"], unfollowed := true, recurses := true, named := ["synod/api.ErrForm", "synod/api.ErrArg", "synod/api.ErrRecord", "unicode/utf8.first", "unicode/utf8.acceptRanges", "internal/bytealg.MaxLen", "synod/api.ErrSeal", "synod/api.ErrPast", "synod/api.ErrFar", "synod/api.ErrOutsider", "synod/api.ErrKnown", "synod/api.ErrMany", "synod/api.ErrFull", "synod/api.ErrCert", "synod/api.ErrNone", "errors.errorType"], plainKeys := false, apart := false, laid := [("unicode/utf8.acceptRanges", laid_unicode_utf8_acceptRanges), ("errors.errorType", laid_errors_errorType), ("synod/api.ErrArg", laid_synod_api_ErrArg), ("synod/api.ErrForm", laid_synod_api_ErrForm), ("synod/api.ErrSeal", laid_synod_api_ErrSeal), ("synod/api.ErrPast", laid_synod_api_ErrPast), ("synod/api.ErrFar", laid_synod_api_ErrFar), ("synod/api.ErrOutsider", laid_synod_api_ErrOutsider), ("synod/api.ErrKnown", laid_synod_api_ErrKnown), ("synod/api.ErrMany", laid_synod_api_ErrMany), ("synod/api.ErrFull", laid_synod_api_ErrFull), ("synod/api.ErrCert", laid_synod_api_ErrCert), ("synod/api.ErrNone", laid_synod_api_ErrNone), ("synod/api.ErrRecord", laid_synod_api_ErrRecord), ("unicode/utf8.first", laid_unicode_utf8_first)] }
def NodesSaid : Prop := nodesRow.holds Tryz.pinned (OpenSpec.ofChange nodesSpec)

/-- ITS FALSE NEIGHBOUR: 'it returns false'. Refute it at one input. -/
def nodesWrong : ChangeSpec := { name := "nodes", fn := fun _ => fun
  | [d1, d2, d3] => { results := [.lit (.bool false)], args := [d1, d2, d3] }
  | _ => none }
def NodesWrongFalsely : Prop := nodesRow.holds Tryz.pinned (OpenSpec.ofChange nodesWrong)

/-- 'synodkeep.Stray': WHATEVER THE INPUT: true; the input reads as it did. -/
def straySpec : ChangeSpec := { name := "stray", fn := fun _ => fun
  | [d1, d2, d3, d4] => { results := [.lit (.bool true)], args := [d1, d2, d3, d4] }
  | _ => none }
def strayRow : OpenClaim := { program := "ytcfjhbcpjpgodaagreatdoor", sum := "42415bad5513b9f2339b0c50088afe4a01e449d4a21a45484c92d617751d1180", func := "synod/synodkeep.Stray", spec := "stray", inPlace := ["internal/bytealg.CountString", "internal/bytealg.IndexByteString", "internal/bytealg.IndexString", "internal/reflectlite.TypeOf"], unfollowed := true, recurses := true, named := ["synod/api.ErrPast", "synod/api.ErrArg", "synod/api.ErrRecord", "unicode/utf8.first", "unicode/utf8.acceptRanges", "internal/bytealg.MaxLen", "synod/api.ErrForm", "synod/api.ErrSeal", "synod/api.ErrFar", "synod/api.ErrOutsider", "synod/api.ErrKnown", "synod/api.ErrMany", "synod/api.ErrFull"], plainKeys := false, apart := false, laid := [("unicode/utf8.acceptRanges", laid_unicode_utf8_acceptRanges), ("synod/api.ErrArg", laid_synod_api_ErrArg), ("synod/api.ErrForm", laid_synod_api_ErrForm), ("synod/api.ErrSeal", laid_synod_api_ErrSeal), ("synod/api.ErrPast", laid_synod_api_ErrPast), ("synod/api.ErrFar", laid_synod_api_ErrFar), ("synod/api.ErrOutsider", laid_synod_api_ErrOutsider), ("synod/api.ErrKnown", laid_synod_api_ErrKnown), ("synod/api.ErrMany", laid_synod_api_ErrMany), ("synod/api.ErrFull", laid_synod_api_ErrFull), ("synod/api.ErrRecord", laid_synod_api_ErrRecord), ("unicode/utf8.first", laid_unicode_utf8_first)] }
def StraySaid : Prop := strayRow.holds Tryz.pinned (OpenSpec.ofChange straySpec)

/-- ITS FALSE NEIGHBOUR: 'it returns false'. Refute it at one input. -/
def strayWrong : ChangeSpec := { name := "stray", fn := fun _ => fun
  | [d1, d2, d3, d4] => { results := [.lit (.bool false)], args := [d1, d2, d3, d4] }
  | _ => none }
def StrayWrongFalsely : Prop := strayRow.holds Tryz.pinned (OpenSpec.ofChange strayWrong)

/-- 'synodkeep.Agreed': WHATEVER THE INPUT: true; the input reads as it did. -/
def agreedSpec : ChangeSpec := { name := "agreed", fn := fun _ => fun
  | [d1, d2, d3, d4] => { results := [.lit (.bool true)], args := [d1, d2, d3, d4] }
  | _ => none }
def agreedRow : OpenClaim := { program := "ytcfjhbcpjpgodaagreatdoor", sum := "42415bad5513b9f2339b0c50088afe4a01e449d4a21a45484c92d617751d1180", func := "synod/synodkeep.Agreed", spec := "agreed", inPlace := ["internal/bytealg.CountString", "internal/bytealg.IndexByteString", "internal/bytealg.IndexString", "internal/reflectlite.TypeOf", "internal/reflectlite.ValueOf", "(internal/reflectlite.Value).Type", "(internal/reflectlite.Value).IsNil", "(internal/reflectlite.Value).Elem", "(internal/reflectlite.Value).Set"], unfollowed := true, recurses := true, named := ["synod/api.ErrArg", "synod/api.ErrRecord", "unicode/utf8.first", "unicode/utf8.acceptRanges", "internal/bytealg.MaxLen", "synod/api.ErrForm", "synod/api.ErrNone", "synod/api.ErrPast", "synod/api.ErrSeal", "synod/api.ErrFar", "synod/api.ErrOutsider", "synod/api.ErrKnown", "synod/api.ErrMany", "synod/api.ErrFull", "synod/api.ErrCert", "errors.errorType"], plainKeys := false, apart := false, laid := [("unicode/utf8.acceptRanges", laid_unicode_utf8_acceptRanges), ("errors.errorType", laid_errors_errorType), ("synod/api.ErrArg", laid_synod_api_ErrArg), ("synod/api.ErrForm", laid_synod_api_ErrForm), ("synod/api.ErrSeal", laid_synod_api_ErrSeal), ("synod/api.ErrPast", laid_synod_api_ErrPast), ("synod/api.ErrFar", laid_synod_api_ErrFar), ("synod/api.ErrOutsider", laid_synod_api_ErrOutsider), ("synod/api.ErrKnown", laid_synod_api_ErrKnown), ("synod/api.ErrMany", laid_synod_api_ErrMany), ("synod/api.ErrFull", laid_synod_api_ErrFull), ("synod/api.ErrCert", laid_synod_api_ErrCert), ("synod/api.ErrNone", laid_synod_api_ErrNone), ("synod/api.ErrRecord", laid_synod_api_ErrRecord), ("unicode/utf8.first", laid_unicode_utf8_first)] }
def AgreedSaid : Prop := agreedRow.holds Tryz.pinned (OpenSpec.ofChange agreedSpec)

/-- ITS FALSE NEIGHBOUR: 'it returns false'. Refute it at one input. -/
def agreedWrong : ChangeSpec := { name := "agreed", fn := fun _ => fun
  | [d1, d2, d3, d4] => { results := [.lit (.bool false)], args := [d1, d2, d3, d4] }
  | _ => none }
def AgreedWrongFalsely : Prop := agreedRow.holds Tryz.pinned (OpenSpec.ofChange agreedWrong)

/-- 'synodkeep.Live': WHATEVER THE INPUT: true; the input reads as it did. -/
def liveSpec : ChangeSpec := { name := "live", fn := fun _ => fun
  | [d1, d2, d3] => { results := [.lit (.bool true)], args := [d1, d2, d3] }
  | _ => none }
def liveRow : OpenClaim := { program := "ytcfjhbcpjpgodaagreatdoor", sum := "42415bad5513b9f2339b0c50088afe4a01e449d4a21a45484c92d617751d1180", func := "synod/synodkeep.Live", spec := "live", inPlace := ["internal/bytealg.CountString", "internal/bytealg.IndexByteString", "internal/bytealg.IndexString", "internal/reflectlite.TypeOf", "internal/reflectlite.ValueOf", "(internal/reflectlite.Value).Type", "(internal/reflectlite.Value).IsNil", "(internal/reflectlite.Value).Elem", "(internal/reflectlite.Value).Set"], unfollowed := true, recurses := true, named := ["synod/api.ErrArg", "synod/api.ErrRecord", "unicode/utf8.first", "unicode/utf8.acceptRanges", "internal/bytealg.MaxLen", "synod/api.ErrForm", "synod/api.ErrPast", "synod/api.ErrSeal", "synod/api.ErrFar", "synod/api.ErrOutsider", "synod/api.ErrKnown", "synod/api.ErrMany", "synod/api.ErrFull", "synod/api.ErrNone", "synod/api.ErrCert", "errors.errorType"], plainKeys := false, apart := false, laid := [("unicode/utf8.acceptRanges", laid_unicode_utf8_acceptRanges), ("errors.errorType", laid_errors_errorType), ("synod/api.ErrArg", laid_synod_api_ErrArg), ("synod/api.ErrForm", laid_synod_api_ErrForm), ("synod/api.ErrSeal", laid_synod_api_ErrSeal), ("synod/api.ErrPast", laid_synod_api_ErrPast), ("synod/api.ErrFar", laid_synod_api_ErrFar), ("synod/api.ErrOutsider", laid_synod_api_ErrOutsider), ("synod/api.ErrKnown", laid_synod_api_ErrKnown), ("synod/api.ErrMany", laid_synod_api_ErrMany), ("synod/api.ErrFull", laid_synod_api_ErrFull), ("synod/api.ErrCert", laid_synod_api_ErrCert), ("synod/api.ErrNone", laid_synod_api_ErrNone), ("synod/api.ErrRecord", laid_synod_api_ErrRecord), ("unicode/utf8.first", laid_unicode_utf8_first)] }
def LiveSaid : Prop := liveRow.holds Tryz.pinned (OpenSpec.ofChange liveSpec)

/-- ITS FALSE NEIGHBOUR: 'it returns false'. Refute it at one input. -/
def liveWrong : ChangeSpec := { name := "live", fn := fun _ => fun
  | [d1, d2, d3] => { results := [.lit (.bool false)], args := [d1, d2, d3] }
  | _ => none }
def LiveWrongFalsely : Prop := liveRow.holds Tryz.pinned (OpenSpec.ofChange liveWrong)

/-- 'synodkeep.Blamed': WHATEVER THE INPUT: true; the input reads as it did. -/
def blamedSpec : ChangeSpec := { name := "blamed", fn := fun _ => fun
  | [d1, d2, d3, d4, d5] => { results := [.lit (.bool true)], args := [d1, d2, d3, d4, d5] }
  | _ => none }
def blamedRow : OpenClaim := { program := "ytcfjhbcpjpgodaagreatdoor", sum := "42415bad5513b9f2339b0c50088afe4a01e449d4a21a45484c92d617751d1180", func := "synod/synodkeep.Blamed", spec := "blamed", inPlace := ["internal/bytealg.CountString", "internal/bytealg.IndexByteString", "internal/bytealg.IndexString", "internal/reflectlite.TypeOf", "internal/reflectlite.ValueOf", "(internal/reflectlite.Value).Type", "(internal/reflectlite.Value).IsNil", "(internal/reflectlite.Value).Elem", "(internal/reflectlite.Value).Set"], unfollowed := true, recurses := true, named := ["synod/api.ErrForm", "synod/api.ErrArg", "synod/api.ErrRecord", "unicode/utf8.first", "unicode/utf8.acceptRanges", "internal/bytealg.MaxLen", "synod/api.ErrCert", "synod/api.ErrSeal", "errors.errorType"], plainKeys := false, apart := false, laid := [("unicode/utf8.acceptRanges", laid_unicode_utf8_acceptRanges), ("errors.errorType", laid_errors_errorType), ("synod/api.ErrArg", laid_synod_api_ErrArg), ("synod/api.ErrForm", laid_synod_api_ErrForm), ("synod/api.ErrSeal", laid_synod_api_ErrSeal), ("synod/api.ErrCert", laid_synod_api_ErrCert), ("synod/api.ErrRecord", laid_synod_api_ErrRecord), ("unicode/utf8.first", laid_unicode_utf8_first)] }
def BlamedSaid : Prop := blamedRow.holds Tryz.pinned (OpenSpec.ofChange blamedSpec)

/-- ITS FALSE NEIGHBOUR: 'it returns false'. Refute it at one input. -/
def blamedWrong : ChangeSpec := { name := "blamed", fn := fun _ => fun
  | [d1, d2, d3, d4, d5] => { results := [.lit (.bool false)], args := [d1, d2, d3, d4, d5] }
  | _ => none }
def BlamedWrongFalsely : Prop := blamedRow.holds Tryz.pinned (OpenSpec.ofChange blamedWrong)

/- THE SECOND FORM. 'bulk': how many values and letters a reading holds, each counted each time it is reached (what is shared counts as often as it is met; a slice's spare places count too). A statement '..UptoSaid' is the law's where the arguments, and the package variables that the reading takes, are together of bulk at most 1048576: NARROWER than '..Said'. Prove '..Said' where nothing that the law and all that it calls make is longer than what came in: it says more and counts as full. Else prove '..UptoSaid'. A law counts once. -/
mutual
def uptoBulk {H : Type} : DataW H → Nat
  | .lit (.string bytes) => bytes.length + 1
  | .lit _ => 1
  | .nil => 1
  | .ptr d => uptoBulk d + 1
  | .slice elems spare => uptoBulkAll elems + uptoBulkAll spare + 1
  | .agg parts => uptoBulkAll parts + 1
  | .iface _ d => uptoBulk d + 1
  | .map entries => uptoBulkEntries entries + 1
  | .held _ => 1
def uptoBulkAll {H : Type} : List (DataW H) → Nat
  | [] => 0
  | d :: r => uptoBulk d + uptoBulkAll r
def uptoBulkEntries {H : Type} : List (Lit × DataW H) → Nat
  | [] => 0
  | x :: r => uptoBulkEntry x + uptoBulkEntries r
def uptoBulkEntry {H : Type} : Lit × DataW H → Nat
  | (.string bytes, d) => bytes.length + uptoBulk d + 1
  | (_, d) => uptoBulk d + 1
 end
def uptoSmall : (H : Type) → List (DataW H) → Bool := fun _ ds => decide (uptoBulkAll ds ≤ 1048576)
def OpenSpec.upto (s : _root_.Go.ChangeSpec) : _root_.Go.OpenSpec := { _root_.Go.OpenSpec.ofChange s with cond := some uptoSmall }

/-- 'synodlaw.Nodes', WHERE WHAT IT READS IS OF BULK AT MOST 1048576: true; the input reads as it did. -/
def nodesUptoRow : OpenClaim := { program := "ytcfjhbcpjpgodaagreatdoor", sum := "42415bad5513b9f2339b0c50088afe4a01e449d4a21a45484c92d617751d1180", func := "synod/synodlaw.Nodes", spec := "nodes", inPlace := ["internal/bytealg.CountString", "internal/bytealg.IndexByteString", "internal/bytealg.IndexString", "internal/reflectlite.TypeOf", "internal/reflectlite.ValueOf", "(internal/reflectlite.Value).Type", "(internal/reflectlite.Value).IsNil", "(internal/reflectlite.Value).Elem", "(internal/reflectlite.Value).Set"], unfollowed := true, recurses := true, named := ["synod/api.ErrForm", "synod/api.ErrArg", "synod/api.ErrRecord", "unicode/utf8.first", "unicode/utf8.acceptRanges", "internal/bytealg.MaxLen", "synod/api.ErrSeal", "synod/api.ErrPast", "synod/api.ErrFar", "synod/api.ErrOutsider", "synod/api.ErrKnown", "synod/api.ErrMany", "synod/api.ErrFull", "synod/api.ErrCert", "synod/api.ErrNone", "errors.errorType"], plainKeys := false, apart := false, laid := [("unicode/utf8.acceptRanges", laid_unicode_utf8_acceptRanges), ("errors.errorType", laid_errors_errorType), ("synod/api.ErrArg", laid_synod_api_ErrArg), ("synod/api.ErrForm", laid_synod_api_ErrForm), ("synod/api.ErrSeal", laid_synod_api_ErrSeal), ("synod/api.ErrPast", laid_synod_api_ErrPast), ("synod/api.ErrFar", laid_synod_api_ErrFar), ("synod/api.ErrOutsider", laid_synod_api_ErrOutsider), ("synod/api.ErrKnown", laid_synod_api_ErrKnown), ("synod/api.ErrMany", laid_synod_api_ErrMany), ("synod/api.ErrFull", laid_synod_api_ErrFull), ("synod/api.ErrCert", laid_synod_api_ErrCert), ("synod/api.ErrNone", laid_synod_api_ErrNone), ("synod/api.ErrRecord", laid_synod_api_ErrRecord), ("unicode/utf8.first", laid_unicode_utf8_first)], narrowed := true }
def NodesUptoSaid : Prop := nodesUptoRow.holds Tryz.pinned (OpenSpec.upto nodesSpec)

/-- 'synodkeep.Stray', WHERE WHAT IT READS IS OF BULK AT MOST 1048576: true; the input reads as it did. -/
def strayUptoRow : OpenClaim := { program := "ytcfjhbcpjpgodaagreatdoor", sum := "42415bad5513b9f2339b0c50088afe4a01e449d4a21a45484c92d617751d1180", func := "synod/synodkeep.Stray", spec := "stray", inPlace := ["internal/bytealg.CountString", "internal/bytealg.IndexByteString", "internal/bytealg.IndexString", "internal/reflectlite.TypeOf"], unfollowed := true, recurses := true, named := ["synod/api.ErrPast", "synod/api.ErrArg", "synod/api.ErrRecord", "unicode/utf8.first", "unicode/utf8.acceptRanges", "internal/bytealg.MaxLen", "synod/api.ErrForm", "synod/api.ErrSeal", "synod/api.ErrFar", "synod/api.ErrOutsider", "synod/api.ErrKnown", "synod/api.ErrMany", "synod/api.ErrFull"], plainKeys := false, apart := false, laid := [("unicode/utf8.acceptRanges", laid_unicode_utf8_acceptRanges), ("synod/api.ErrArg", laid_synod_api_ErrArg), ("synod/api.ErrForm", laid_synod_api_ErrForm), ("synod/api.ErrSeal", laid_synod_api_ErrSeal), ("synod/api.ErrPast", laid_synod_api_ErrPast), ("synod/api.ErrFar", laid_synod_api_ErrFar), ("synod/api.ErrOutsider", laid_synod_api_ErrOutsider), ("synod/api.ErrKnown", laid_synod_api_ErrKnown), ("synod/api.ErrMany", laid_synod_api_ErrMany), ("synod/api.ErrFull", laid_synod_api_ErrFull), ("synod/api.ErrRecord", laid_synod_api_ErrRecord), ("unicode/utf8.first", laid_unicode_utf8_first)], narrowed := true }
def StrayUptoSaid : Prop := strayUptoRow.holds Tryz.pinned (OpenSpec.upto straySpec)

/-- 'synodkeep.Agreed', WHERE WHAT IT READS IS OF BULK AT MOST 1048576: true; the input reads as it did. -/
def agreedUptoRow : OpenClaim := { program := "ytcfjhbcpjpgodaagreatdoor", sum := "42415bad5513b9f2339b0c50088afe4a01e449d4a21a45484c92d617751d1180", func := "synod/synodkeep.Agreed", spec := "agreed", inPlace := ["internal/bytealg.CountString", "internal/bytealg.IndexByteString", "internal/bytealg.IndexString", "internal/reflectlite.TypeOf", "internal/reflectlite.ValueOf", "(internal/reflectlite.Value).Type", "(internal/reflectlite.Value).IsNil", "(internal/reflectlite.Value).Elem", "(internal/reflectlite.Value).Set"], unfollowed := true, recurses := true, named := ["synod/api.ErrArg", "synod/api.ErrRecord", "unicode/utf8.first", "unicode/utf8.acceptRanges", "internal/bytealg.MaxLen", "synod/api.ErrForm", "synod/api.ErrNone", "synod/api.ErrPast", "synod/api.ErrSeal", "synod/api.ErrFar", "synod/api.ErrOutsider", "synod/api.ErrKnown", "synod/api.ErrMany", "synod/api.ErrFull", "synod/api.ErrCert", "errors.errorType"], plainKeys := false, apart := false, laid := [("unicode/utf8.acceptRanges", laid_unicode_utf8_acceptRanges), ("errors.errorType", laid_errors_errorType), ("synod/api.ErrArg", laid_synod_api_ErrArg), ("synod/api.ErrForm", laid_synod_api_ErrForm), ("synod/api.ErrSeal", laid_synod_api_ErrSeal), ("synod/api.ErrPast", laid_synod_api_ErrPast), ("synod/api.ErrFar", laid_synod_api_ErrFar), ("synod/api.ErrOutsider", laid_synod_api_ErrOutsider), ("synod/api.ErrKnown", laid_synod_api_ErrKnown), ("synod/api.ErrMany", laid_synod_api_ErrMany), ("synod/api.ErrFull", laid_synod_api_ErrFull), ("synod/api.ErrCert", laid_synod_api_ErrCert), ("synod/api.ErrNone", laid_synod_api_ErrNone), ("synod/api.ErrRecord", laid_synod_api_ErrRecord), ("unicode/utf8.first", laid_unicode_utf8_first)], narrowed := true }
def AgreedUptoSaid : Prop := agreedUptoRow.holds Tryz.pinned (OpenSpec.upto agreedSpec)

/-- 'synodkeep.Live', WHERE WHAT IT READS IS OF BULK AT MOST 1048576: true; the input reads as it did. -/
def liveUptoRow : OpenClaim := { program := "ytcfjhbcpjpgodaagreatdoor", sum := "42415bad5513b9f2339b0c50088afe4a01e449d4a21a45484c92d617751d1180", func := "synod/synodkeep.Live", spec := "live", inPlace := ["internal/bytealg.CountString", "internal/bytealg.IndexByteString", "internal/bytealg.IndexString", "internal/reflectlite.TypeOf", "internal/reflectlite.ValueOf", "(internal/reflectlite.Value).Type", "(internal/reflectlite.Value).IsNil", "(internal/reflectlite.Value).Elem", "(internal/reflectlite.Value).Set"], unfollowed := true, recurses := true, named := ["synod/api.ErrArg", "synod/api.ErrRecord", "unicode/utf8.first", "unicode/utf8.acceptRanges", "internal/bytealg.MaxLen", "synod/api.ErrForm", "synod/api.ErrPast", "synod/api.ErrSeal", "synod/api.ErrFar", "synod/api.ErrOutsider", "synod/api.ErrKnown", "synod/api.ErrMany", "synod/api.ErrFull", "synod/api.ErrNone", "synod/api.ErrCert", "errors.errorType"], plainKeys := false, apart := false, laid := [("unicode/utf8.acceptRanges", laid_unicode_utf8_acceptRanges), ("errors.errorType", laid_errors_errorType), ("synod/api.ErrArg", laid_synod_api_ErrArg), ("synod/api.ErrForm", laid_synod_api_ErrForm), ("synod/api.ErrSeal", laid_synod_api_ErrSeal), ("synod/api.ErrPast", laid_synod_api_ErrPast), ("synod/api.ErrFar", laid_synod_api_ErrFar), ("synod/api.ErrOutsider", laid_synod_api_ErrOutsider), ("synod/api.ErrKnown", laid_synod_api_ErrKnown), ("synod/api.ErrMany", laid_synod_api_ErrMany), ("synod/api.ErrFull", laid_synod_api_ErrFull), ("synod/api.ErrCert", laid_synod_api_ErrCert), ("synod/api.ErrNone", laid_synod_api_ErrNone), ("synod/api.ErrRecord", laid_synod_api_ErrRecord), ("unicode/utf8.first", laid_unicode_utf8_first)], narrowed := true }
def LiveUptoSaid : Prop := liveUptoRow.holds Tryz.pinned (OpenSpec.upto liveSpec)

/-- 'synodkeep.Blamed', WHERE WHAT IT READS IS OF BULK AT MOST 1048576: true; the input reads as it did. -/
def blamedUptoRow : OpenClaim := { program := "ytcfjhbcpjpgodaagreatdoor", sum := "42415bad5513b9f2339b0c50088afe4a01e449d4a21a45484c92d617751d1180", func := "synod/synodkeep.Blamed", spec := "blamed", inPlace := ["internal/bytealg.CountString", "internal/bytealg.IndexByteString", "internal/bytealg.IndexString", "internal/reflectlite.TypeOf", "internal/reflectlite.ValueOf", "(internal/reflectlite.Value).Type", "(internal/reflectlite.Value).IsNil", "(internal/reflectlite.Value).Elem", "(internal/reflectlite.Value).Set"], unfollowed := true, recurses := true, named := ["synod/api.ErrForm", "synod/api.ErrArg", "synod/api.ErrRecord", "unicode/utf8.first", "unicode/utf8.acceptRanges", "internal/bytealg.MaxLen", "synod/api.ErrCert", "synod/api.ErrSeal", "errors.errorType"], plainKeys := false, apart := false, laid := [("unicode/utf8.acceptRanges", laid_unicode_utf8_acceptRanges), ("errors.errorType", laid_errors_errorType), ("synod/api.ErrArg", laid_synod_api_ErrArg), ("synod/api.ErrForm", laid_synod_api_ErrForm), ("synod/api.ErrSeal", laid_synod_api_ErrSeal), ("synod/api.ErrCert", laid_synod_api_ErrCert), ("synod/api.ErrRecord", laid_synod_api_ErrRecord), ("unicode/utf8.first", laid_unicode_utf8_first)], narrowed := true }
def BlamedUptoSaid : Prop := blamedUptoRow.holds Tryz.pinned (OpenSpec.upto blamedSpec)

end Rows
end Go.Proofs.YtcfjhbcpjpgodaaGreatDoor
