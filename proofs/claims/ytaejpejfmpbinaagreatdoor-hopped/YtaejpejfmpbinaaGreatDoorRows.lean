/-
  NARROWER THAN 'FOR EVERY INPUT', by the rows' own cells (each row's printed sentence says how): Learned: laid · Apart: laid · Hopped: laid · Judged: laid.
  DERIVED. THE GIVEN ROWS OF THIS SEAT. 4 by the template 'for every input the law returns true; each argument reads behind the call as it read before'; 0 by the template 'total and deterministic' (their statements: YtaejpejfmpbinaaGreatDoorTotals.lean).
  GIVEN WITH THE SEED: the statements are not yours to turn. If you find one false, say at which input.
  Laid BY PROGRAM, IN A SANDBOX (cutbox-rows.mjs): the forced cells as the released guide's own fill.sh prints them over the translation 2bcdec98e57c9775… (all of the seat's roots in one cut). By AI agents, Wed Nov 11 2026. No macro, syntax, notation, axiom, sorry.
-/
import Derived.Test.YtaejpejfmpbinaaGreatDoorChecked
import GoSem.Claim
import GoSem.ClaimJoined
import GoSem.ClaimMapViews
import Derived.JoinedTies
import Derived.KernelRfl
namespace Go.Proofs.YtaejpejfmpbinaaGreatDoor
/- THE CELL 'sum', in the pinned program and in every row, IS THE sha256 OF THE DUMP (.gsa) THAT YtaejpejfmpbinaaGreatDoorProg.lean LOADS. Nothing in Lean hashes anything: it is a label: what it is worth is what the hold of that sum in a sandbox is worth. -/
noncomputable def Tryz.pinned : Pinned := { name := "ytaejpejfmpbinaagreatdoor", sum := "2bcdec98e57c977526a66bd964b7dafb7e16c6ce73528fe1ecf02cb53c1106b1", checked := Tryz.checked }
namespace Rows
def none {H : Type} : Left H := { results := [], args := [] }

/- WHAT THE LISTED PACKAGE-LEVEL VARIABLES READ AS WHEN THE CALL BEGINS. Each datum BY PROGRAM (the guide's laid-datum.mjs) off the statement by which the dump's own 'gosem.cut.vars' lays the variable. In a bare row this is a premise. The card (YtaejpejfmpbinaaGreatDoorCards.lean) ties it to the program's text. -/
def laid_portico_frame_meanings {H : Type} : DataW H := .agg [.agg [.lit (.string [129, 0]), .lit (.int .i64 1)], .agg [.lit (.string [8, 0]), .lit (.int .i64 2)]]
def laid_portico_table_fields {H : Type} : DataW H := .agg [.agg [.lit (.int .i64 32), .agg [.lit (.int .i64 0), .lit (.int .i64 4294967295)]], .agg [.lit (.int .i64 32), .agg [.lit (.int .i64 0), .lit (.int .i64 4294967295)]], .agg [.lit (.int .i64 8), .agg [.lit (.int .i64 0), .lit (.int .i64 255)]], .agg [.lit (.int .i64 16), .agg [.lit (.int .i64 0), .lit (.int .i64 65535)]], .agg [.lit (.int .i64 16), .agg [.lit (.int .i64 0), .lit (.int .i64 65535)]]]

/-- 'porticokeep.Learned': WHATEVER THE INPUT: true; the input reads as it did. -/
def learnedSpec : ChangeSpec := { name := "learned", fn := fun _ => fun
  | [d1, d2, d3, d4] => { results := [.lit (.bool true)], args := [d1, d2, d3, d4] }
  | _ => none }
def learnedRow : OpenClaim := { program := "ytaejpejfmpbinaagreatdoor", sum := "2bcdec98e57c977526a66bd964b7dafb7e16c6ce73528fe1ecf02cb53c1106b1", func := "portico/porticokeep.Learned", spec := "learned", inPlace := ["slices.overlaps[portico/ordered.entry[portico/macs.place, portico/macs.seen]]"], unfollowed := true, recurses := true, named := ["portico/table.fields", "portico/frame.meanings"], apart := false, laid := [("portico/frame.meanings", laid_portico_frame_meanings), ("portico/table.fields", laid_portico_table_fields)] }
def LearnedSaid : Prop := learnedRow.holds Tryz.pinned (OpenSpec.ofChange learnedSpec)

/-- ITS FALSE NEIGHBOUR: 'it returns false'. Refute it at one input. -/
def learnedWrong : ChangeSpec := { name := "learned", fn := fun _ => fun
  | [d1, d2, d3, d4] => { results := [.lit (.bool false)], args := [d1, d2, d3, d4] }
  | _ => none }
def LearnedWrongFalsely : Prop := learnedRow.holds Tryz.pinned (OpenSpec.ofChange learnedWrong)

/-- 'porticokeep.Apart': WHATEVER THE INPUT: true; the input reads as it did. -/
def apartSpec : ChangeSpec := { name := "apart", fn := fun _ => fun
  | [d1, d2, d3, d4] => { results := [.lit (.bool true)], args := [d1, d2, d3, d4] }
  | _ => none }
def apartRow : OpenClaim := { program := "ytaejpejfmpbinaagreatdoor", sum := "2bcdec98e57c977526a66bd964b7dafb7e16c6ce73528fe1ecf02cb53c1106b1", func := "portico/porticokeep.Apart", spec := "apart", inPlace := ["slices.overlaps[portico/ordered.entry[portico/macs.place, portico/macs.seen]]"], unfollowed := true, recurses := true, named := ["portico/table.fields", "portico/frame.meanings"], apart := false, laid := [("portico/frame.meanings", laid_portico_frame_meanings), ("portico/table.fields", laid_portico_table_fields)] }
def ApartSaid : Prop := apartRow.holds Tryz.pinned (OpenSpec.ofChange apartSpec)

/-- ITS FALSE NEIGHBOUR: 'it returns false'. Refute it at one input. -/
def apartWrong : ChangeSpec := { name := "apart", fn := fun _ => fun
  | [d1, d2, d3, d4] => { results := [.lit (.bool false)], args := [d1, d2, d3, d4] }
  | _ => none }
def ApartWrongFalsely : Prop := apartRow.holds Tryz.pinned (OpenSpec.ofChange apartWrong)

/-- 'porticokeep.Hopped': WHATEVER THE INPUT: true; the input reads as it did. -/
def hoppedSpec : ChangeSpec := { name := "hopped", fn := fun _ => fun
  | [d1, d2, d3, d4, d5] => { results := [.lit (.bool true)], args := [d1, d2, d3, d4, d5] }
  | _ => none }
def hoppedRow : OpenClaim := { program := "ytaejpejfmpbinaagreatdoor", sum := "2bcdec98e57c977526a66bd964b7dafb7e16c6ce73528fe1ecf02cb53c1106b1", func := "portico/porticokeep.Hopped", spec := "hopped", inPlace := ["slices.overlaps[portico/ordered.entry[portico/macs.place, portico/macs.seen]]", "slices.overlaps[portico/ordered.entry[int, string]]", "slices.overlaps[portico/ordered.entry[portico/routes.Prefix, portico/routes.Hop]]"], unfollowed := true, recurses := true, named := ["portico/table.fields", "portico/frame.meanings"], apart := false, laid := [("portico/frame.meanings", laid_portico_frame_meanings), ("portico/table.fields", laid_portico_table_fields)] }
def HoppedSaid : Prop := hoppedRow.holds Tryz.pinned (OpenSpec.ofChange hoppedSpec)

/-- ITS FALSE NEIGHBOUR: 'it returns false'. Refute it at one input. -/
def hoppedWrong : ChangeSpec := { name := "hopped", fn := fun _ => fun
  | [d1, d2, d3, d4, d5] => { results := [.lit (.bool false)], args := [d1, d2, d3, d4, d5] }
  | _ => none }
def HoppedWrongFalsely : Prop := hoppedRow.holds Tryz.pinned (OpenSpec.ofChange hoppedWrong)

/-- 'porticokeep.Judged': WHATEVER THE INPUT: true; the input reads as it did. -/
def judgedSpec : ChangeSpec := { name := "judged", fn := fun _ => fun
  | [d1, d2, d3, d4] => { results := [.lit (.bool true)], args := [d1, d2, d3, d4] }
  | _ => none }
def judgedRow : OpenClaim := { program := "ytaejpejfmpbinaagreatdoor", sum := "2bcdec98e57c977526a66bd964b7dafb7e16c6ce73528fe1ecf02cb53c1106b1", func := "portico/porticokeep.Judged", spec := "judged", inPlace := ["slices.overlaps[portico/ordered.entry[portico/macs.place, portico/macs.seen]]", "slices.overlaps[portico/ordered.entry[int, *portico/table.entry]]", "slices.overlaps[portico/ordered.entry[portico/table.rank, *portico/table.entry]]"], unfollowed := true, recurses := true, named := ["portico/table.fields", "portico/frame.meanings"], apart := false, laid := [("portico/frame.meanings", laid_portico_frame_meanings), ("portico/table.fields", laid_portico_table_fields)] }
def JudgedSaid : Prop := judgedRow.holds Tryz.pinned (OpenSpec.ofChange judgedSpec)

/-- ITS FALSE NEIGHBOUR: 'it returns false'. Refute it at one input. -/
def judgedWrong : ChangeSpec := { name := "judged", fn := fun _ => fun
  | [d1, d2, d3, d4] => { results := [.lit (.bool false)], args := [d1, d2, d3, d4] }
  | _ => none }
def JudgedWrongFalsely : Prop := judgedRow.holds Tryz.pinned (OpenSpec.ofChange judgedWrong)

/- THE SECOND FORM. 'bulk': how many values and letters a reading holds, each counted each time it is reached (what is shared counts as often as it is met; a slice's spare places count too). A statement '..UptoSaid' is the law's where the arguments, and the package variables that the reading takes, are together of bulk at most 1048576: NARROWER than '..Said'. Prove '..Said' where nothing that the law and all that it calls make is longer than what came in: it says more and counts as full. Else prove '..UptoSaid'. A law counts once. -/
mutual
def uptoBulk {H : Type} : DataW H → Nat
  | .lit (.string bytes) => bytes.length + 1
  | .lit _ => 1
  | .nil => 1
  | .ptr d => uptoBulk d + 1
  | .slice elems spare => uptoBulkAll elems + uptoBulkAll spare + 1
  | .agg parts => uptoBulkAll parts + 1
  | .iface _ d => uptoBulk d + 1
  | .map entries => uptoBulkEntries entries + 1
  | .held _ => 1
def uptoBulkAll {H : Type} : List (DataW H) → Nat
  | [] => 0
  | d :: r => uptoBulk d + uptoBulkAll r
def uptoBulkEntries {H : Type} : List (Lit × DataW H) → Nat
  | [] => 0
  | x :: r => uptoBulkEntry x + uptoBulkEntries r
def uptoBulkEntry {H : Type} : Lit × DataW H → Nat
  | (.string bytes, d) => bytes.length + uptoBulk d + 1
  | (_, d) => uptoBulk d + 1
 end
def uptoSmall : (H : Type) → List (DataW H) → Bool := fun _ ds => decide (uptoBulkAll ds ≤ 1048576)
def OpenSpec.upto (s : _root_.Go.ChangeSpec) : _root_.Go.OpenSpec := { _root_.Go.OpenSpec.ofChange s with cond := some uptoSmall }

/-- 'porticokeep.Learned', WHERE WHAT IT READS IS OF BULK AT MOST 1048576: true; the input reads as it did. -/
def learnedUptoRow : OpenClaim := { program := "ytaejpejfmpbinaagreatdoor", sum := "2bcdec98e57c977526a66bd964b7dafb7e16c6ce73528fe1ecf02cb53c1106b1", func := "portico/porticokeep.Learned", spec := "learned", inPlace := ["slices.overlaps[portico/ordered.entry[portico/macs.place, portico/macs.seen]]"], unfollowed := true, recurses := true, named := ["portico/table.fields", "portico/frame.meanings"], apart := false, laid := [("portico/frame.meanings", laid_portico_frame_meanings), ("portico/table.fields", laid_portico_table_fields)], narrowed := true }
def LearnedUptoSaid : Prop := learnedUptoRow.holds Tryz.pinned (OpenSpec.upto learnedSpec)

/-- 'porticokeep.Apart', WHERE WHAT IT READS IS OF BULK AT MOST 1048576: true; the input reads as it did. -/
def apartUptoRow : OpenClaim := { program := "ytaejpejfmpbinaagreatdoor", sum := "2bcdec98e57c977526a66bd964b7dafb7e16c6ce73528fe1ecf02cb53c1106b1", func := "portico/porticokeep.Apart", spec := "apart", inPlace := ["slices.overlaps[portico/ordered.entry[portico/macs.place, portico/macs.seen]]"], unfollowed := true, recurses := true, named := ["portico/table.fields", "portico/frame.meanings"], apart := false, laid := [("portico/frame.meanings", laid_portico_frame_meanings), ("portico/table.fields", laid_portico_table_fields)], narrowed := true }
def ApartUptoSaid : Prop := apartUptoRow.holds Tryz.pinned (OpenSpec.upto apartSpec)

/-- 'porticokeep.Hopped', WHERE WHAT IT READS IS OF BULK AT MOST 1048576: true; the input reads as it did. -/
def hoppedUptoRow : OpenClaim := { program := "ytaejpejfmpbinaagreatdoor", sum := "2bcdec98e57c977526a66bd964b7dafb7e16c6ce73528fe1ecf02cb53c1106b1", func := "portico/porticokeep.Hopped", spec := "hopped", inPlace := ["slices.overlaps[portico/ordered.entry[portico/macs.place, portico/macs.seen]]", "slices.overlaps[portico/ordered.entry[int, string]]", "slices.overlaps[portico/ordered.entry[portico/routes.Prefix, portico/routes.Hop]]"], unfollowed := true, recurses := true, named := ["portico/table.fields", "portico/frame.meanings"], apart := false, laid := [("portico/frame.meanings", laid_portico_frame_meanings), ("portico/table.fields", laid_portico_table_fields)], narrowed := true }
def HoppedUptoSaid : Prop := hoppedUptoRow.holds Tryz.pinned (OpenSpec.upto hoppedSpec)

/-- 'porticokeep.Judged', WHERE WHAT IT READS IS OF BULK AT MOST 1048576: true; the input reads as it did. -/
def judgedUptoRow : OpenClaim := { program := "ytaejpejfmpbinaagreatdoor", sum := "2bcdec98e57c977526a66bd964b7dafb7e16c6ce73528fe1ecf02cb53c1106b1", func := "portico/porticokeep.Judged", spec := "judged", inPlace := ["slices.overlaps[portico/ordered.entry[portico/macs.place, portico/macs.seen]]", "slices.overlaps[portico/ordered.entry[int, *portico/table.entry]]", "slices.overlaps[portico/ordered.entry[portico/table.rank, *portico/table.entry]]"], unfollowed := true, recurses := true, named := ["portico/table.fields", "portico/frame.meanings"], apart := false, laid := [("portico/frame.meanings", laid_portico_frame_meanings), ("portico/table.fields", laid_portico_table_fields)], narrowed := true }
def JudgedUptoSaid : Prop := judgedUptoRow.holds Tryz.pinned (OpenSpec.upto judgedSpec)

end Rows
end Go.Proofs.YtaejpejfmpbinaaGreatDoor
