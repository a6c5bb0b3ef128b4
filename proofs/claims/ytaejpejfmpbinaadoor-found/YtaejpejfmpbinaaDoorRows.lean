/-
  NARROWER THAN 'FOR EVERY INPUT', by the rows' own cells (each row's printed sentence says how): Found: laid · Alike: laid.
  DERIVED. THE GIVEN ROWS OF THIS SEAT. 2 by the template 'for every input the law returns true; each argument reads behind the call as it read before'; 0 by the template 'total and deterministic' (their statements: YtaejpejfmpbinaaDoorTotals.lean).
  GIVEN WITH THE SEED: the statements are not yours to turn. If you find one false, say at which input.
  Laid BY PROGRAM, IN A SANDBOX (cutbox-rows.mjs): the forced cells as the released guide's own fill.sh prints them over the translation cc93d91b95d90ed0… (all of the seat's roots in one cut). By AI agents, Wed Nov 11 2026. No macro, syntax, notation, axiom, sorry.
-/
import Derived.Test.YtaejpejfmpbinaaDoorChecked
import GoSem.Claim
import GoSem.ClaimJoined
import GoSem.ClaimMapViews
import Derived.JoinedTies
import Derived.KernelRfl
namespace Go.Proofs.YtaejpejfmpbinaaDoor
/- THE CELL 'sum', in the pinned program and in every row, IS THE sha256 OF THE DUMP (.gsa) THAT YtaejpejfmpbinaaDoorProg.lean LOADS. Nothing in Lean hashes anything: it is a label: what it is worth is what the hold of that sum in a sandbox is worth. -/
noncomputable def Tryd.pinned : Pinned := { name := "ytaejpejfmpbinaadoor", sum := "cc93d91b95d90ed0e631b6bcbada8559aca6af277aaa6df7e9ebaee966c67450", checked := Tryd.checked }
namespace Rows
def none {H : Type} : Left H := { results := [], args := [] }

/- WHAT THE LISTED PACKAGE-LEVEL VARIABLES READ AS WHEN THE CALL BEGINS. Each datum BY PROGRAM (the guide's laid-datum.mjs) off the statement by which the dump's own 'gosem.cut.vars' lays the variable. In a bare row this is a premise. The card (YtaejpejfmpbinaaDoorCards.lean) ties it to the program's text. -/
def laid_portico_table_fields {H : Type} : DataW H := .agg [.agg [.lit (.int .i64 32), .agg [.lit (.int .i64 0), .lit (.int .i64 4294967295)]], .agg [.lit (.int .i64 32), .agg [.lit (.int .i64 0), .lit (.int .i64 4294967295)]], .agg [.lit (.int .i64 8), .agg [.lit (.int .i64 0), .lit (.int .i64 255)]], .agg [.lit (.int .i64 16), .agg [.lit (.int .i64 0), .lit (.int .i64 65535)]], .agg [.lit (.int .i64 16), .agg [.lit (.int .i64 0), .lit (.int .i64 65535)]]]

/-- 'porticokeep.Found': WHATEVER THE INPUT: true; the input reads as it did. -/
def foundSpec : ChangeSpec := { name := "found", fn := fun _ => fun
  | [d1, d2, d3] => { results := [.lit (.bool true)], args := [d1, d2, d3] }
  | _ => none }
def foundRow : OpenClaim := { program := "ytaejpejfmpbinaadoor", sum := "cc93d91b95d90ed0e631b6bcbada8559aca6af277aaa6df7e9ebaee966c67450", func := "portico/porticokeep.Found", spec := "found", inPlace := ["slices.overlaps[portico/ordered.entry[int, *portico/table.entry]]", "slices.overlaps[portico/ordered.entry[portico/table.rank, *portico/table.entry]]"], unfollowed := true, recurses := true, named := ["portico/table.fields"], apart := false, laid := [("portico/table.fields", laid_portico_table_fields)] }
def FoundSaid : Prop := foundRow.holds Tryd.pinned (OpenSpec.ofChange foundSpec)

/-- ITS FALSE NEIGHBOUR: 'it returns false'. Refute it at one input. -/
def foundWrong : ChangeSpec := { name := "found", fn := fun _ => fun
  | [d1, d2, d3] => { results := [.lit (.bool false)], args := [d1, d2, d3] }
  | _ => none }
def FoundWrongFalsely : Prop := foundRow.holds Tryd.pinned (OpenSpec.ofChange foundWrong)

/-- 'porticokeep.Alike': WHATEVER THE INPUT: true; the input reads as it did. -/
def alikeSpec : ChangeSpec := { name := "alike", fn := fun _ => fun
  | [d1, d2, d3] => { results := [.lit (.bool true)], args := [d1, d2, d3] }
  | _ => none }
def alikeRow : OpenClaim := { program := "ytaejpejfmpbinaadoor", sum := "cc93d91b95d90ed0e631b6bcbada8559aca6af277aaa6df7e9ebaee966c67450", func := "portico/porticokeep.Alike", spec := "alike", inPlace := ["slices.overlaps[portico/ordered.entry[int, *portico/table.entry]]", "slices.overlaps[portico/ordered.entry[portico/table.rank, *portico/table.entry]]"], unfollowed := true, recurses := true, named := ["portico/table.fields"], apart := false, laid := [("portico/table.fields", laid_portico_table_fields)] }
def AlikeSaid : Prop := alikeRow.holds Tryd.pinned (OpenSpec.ofChange alikeSpec)

/-- ITS FALSE NEIGHBOUR: 'it returns false'. Refute it at one input. -/
def alikeWrong : ChangeSpec := { name := "alike", fn := fun _ => fun
  | [d1, d2, d3] => { results := [.lit (.bool false)], args := [d1, d2, d3] }
  | _ => none }
def AlikeWrongFalsely : Prop := alikeRow.holds Tryd.pinned (OpenSpec.ofChange alikeWrong)

/- THE SECOND FORM. 'bulk': how many values and letters a reading holds, each counted each time it is reached (what is shared counts as often as it is met; a slice's spare places count too). A statement '..UptoSaid' is the law's where the arguments, and the package variables that the reading takes, are together of bulk at most 1048576: NARROWER than '..Said'. Prove '..Said' where nothing that the law and all that it calls make is longer than what came in: it says more and counts as full. Else prove '..UptoSaid'. A law counts once. -/
mutual
def uptoBulk {H : Type} : DataW H → Nat
  | .lit (.string bytes) => bytes.length + 1
  | .lit _ => 1
  | .nil => 1
  | .ptr d => uptoBulk d + 1
  | .slice elems spare => uptoBulkAll elems + uptoBulkAll spare + 1
  | .agg parts => uptoBulkAll parts + 1
  | .iface _ d => uptoBulk d + 1
  | .map entries => uptoBulkEntries entries + 1
  | .held _ => 1
def uptoBulkAll {H : Type} : List (DataW H) → Nat
  | [] => 0
  | d :: r => uptoBulk d + uptoBulkAll r
def uptoBulkEntries {H : Type} : List (Lit × DataW H) → Nat
  | [] => 0
  | x :: r => uptoBulkEntry x + uptoBulkEntries r
def uptoBulkEntry {H : Type} : Lit × DataW H → Nat
  | (.string bytes, d) => bytes.length + uptoBulk d + 1
  | (_, d) => uptoBulk d + 1
 end
def uptoSmall : (H : Type) → List (DataW H) → Bool := fun _ ds => decide (uptoBulkAll ds ≤ 1048576)
def OpenSpec.upto (s : _root_.Go.ChangeSpec) : _root_.Go.OpenSpec := { _root_.Go.OpenSpec.ofChange s with cond := some uptoSmall }

/-- 'porticokeep.Found', WHERE WHAT IT READS IS OF BULK AT MOST 1048576: true; the input reads as it did. -/
def foundUptoRow : OpenClaim := { program := "ytaejpejfmpbinaadoor", sum := "cc93d91b95d90ed0e631b6bcbada8559aca6af277aaa6df7e9ebaee966c67450", func := "portico/porticokeep.Found", spec := "found", inPlace := ["slices.overlaps[portico/ordered.entry[int, *portico/table.entry]]", "slices.overlaps[portico/ordered.entry[portico/table.rank, *portico/table.entry]]"], unfollowed := true, recurses := true, named := ["portico/table.fields"], apart := false, laid := [("portico/table.fields", laid_portico_table_fields)], narrowed := true }
def FoundUptoSaid : Prop := foundUptoRow.holds Tryd.pinned (OpenSpec.upto foundSpec)

/-- 'porticokeep.Alike', WHERE WHAT IT READS IS OF BULK AT MOST 1048576: true; the input reads as it did. -/
def alikeUptoRow : OpenClaim := { program := "ytaejpejfmpbinaadoor", sum := "cc93d91b95d90ed0e631b6bcbada8559aca6af277aaa6df7e9ebaee966c67450", func := "portico/porticokeep.Alike", spec := "alike", inPlace := ["slices.overlaps[portico/ordered.entry[int, *portico/table.entry]]", "slices.overlaps[portico/ordered.entry[portico/table.rank, *portico/table.entry]]"], unfollowed := true, recurses := true, named := ["portico/table.fields"], apart := false, laid := [("portico/table.fields", laid_portico_table_fields)], narrowed := true }
def AlikeUptoSaid : Prop := alikeUptoRow.holds Tryd.pinned (OpenSpec.upto alikeSpec)

end Rows
end Go.Proofs.YtaejpejfmpbinaaDoor
