/-
  NARROWER THAN 'FOR EVERY INPUT', by the rows' own cells (each row's printed sentence says how): Tables: laid · Bridges: laid · Switches: laid · All: laid.
  DERIVED. THE GIVEN ROWS OF THIS SEAT. 4 by the template 'for every input the law returns true; each argument reads behind the call as it read before'; 0 by the template 'total and deterministic' (their statements: YtnjalelblbjfiaaGreatDoorTotals.lean).
  GIVEN WITH THE SEED: the statements are not yours to turn. If you find one false, say at which input.
  Laid BY PROGRAM, IN A SANDBOX (cutbox-rows.mjs): the forced cells as the released guide's own fill.sh prints them over the translation 2af6db8f698e8469… (all of the seat's roots in one cut). By AI agents, Wed Nov 11 2026. No macro, syntax, notation, axiom, sorry.
-/
import Derived.Test.YtnjalelblbjfiaaGreatDoorChecked
import GoSem.Claim
import GoSem.ClaimJoined
import GoSem.ClaimMapViews
import Derived.JoinedTies
import Derived.KernelRfl
namespace Go.Proofs.YtnjalelblbjfiaaGreatDoor
/- THE CELL 'sum', in the pinned program and in every row, IS THE sha256 OF THE DUMP (.gsa) THAT YtnjalelblbjfiaaGreatDoorProg.lean LOADS. Nothing in Lean hashes anything: it is a label: what it is worth is what the hold of that sum in a sandbox is worth. -/
noncomputable def Tryz.pinned : Pinned := { name := "ytnjalelblbjfiaagreatdoor", sum := "2af6db8f698e84694c808e3ecd4b451c0bcee72dfe56e3527d3d4523bf1ea737", checked := Tryz.checked }
namespace Rows
def none {H : Type} : Left H := { results := [], args := [] }

/- WHAT THE LISTED PACKAGE-LEVEL VARIABLES READ AS WHEN THE CALL BEGINS. Each datum BY PROGRAM (the guide's laid-datum.mjs) off the statement by which the dump's own 'gosem.cut.vars' lays the variable. In a bare row this is a premise. The card (YtnjalelblbjfiaaGreatDoorCards.lean) ties it to the program's text. -/
def laid_portico_frame_meanings {H : Type} : DataW H := .agg [.agg [.lit (.string [129, 0]), .lit (.int .i64 1)], .agg [.lit (.string [8, 0]), .lit (.int .i64 2)]]
def laid_portico_table_fields {H : Type} : DataW H := .agg [.agg [.lit (.int .i64 32), .agg [.lit (.int .i64 0), .lit (.int .i64 4294967295)]], .agg [.lit (.int .i64 32), .agg [.lit (.int .i64 0), .lit (.int .i64 4294967295)]], .agg [.lit (.int .i64 8), .agg [.lit (.int .i64 0), .lit (.int .i64 255)]], .agg [.lit (.int .i64 16), .agg [.lit (.int .i64 0), .lit (.int .i64 65535)]], .agg [.lit (.int .i64 16), .agg [.lit (.int .i64 0), .lit (.int .i64 65535)]]]

/-- 'porticolaw.Tables': WHATEVER THE INPUT: true; the input reads as it did. -/
def tablesSpec : ChangeSpec := { name := "tables", fn := fun _ => fun
  | [d] => { results := [.lit (.bool true)], args := [d] }
  | _ => none }
def tablesRow : OpenClaim := { program := "ytnjalelblbjfiaagreatdoor", sum := "2af6db8f698e84694c808e3ecd4b451c0bcee72dfe56e3527d3d4523bf1ea737", func := "portico/porticolaw.Tables", spec := "tables", inPlace := ["slices.overlaps[portico/ordered.entry[int, *portico/table.entry]]", "slices.overlaps[portico/ordered.entry[portico/table.rank, *portico/table.entry]]", "slices.overlaps[portico/ordered.entry[portico/macs.place, portico/macs.seen]]", "slices.overlaps[portico/ordered.entry[int, string]]", "slices.overlaps[portico/ordered.entry[portico/routes.Prefix, portico/routes.Hop]]"], unfollowed := true, recurses := true, named := ["portico/table.fields", "portico/frame.meanings"], apart := false, laid := [("portico/frame.meanings", laid_portico_frame_meanings), ("portico/table.fields", laid_portico_table_fields)] }
def TablesSaid : Prop := tablesRow.holds Tryz.pinned (OpenSpec.ofChange tablesSpec)

/-- ITS FALSE NEIGHBOUR: 'it returns false'. Refute it at one input. -/
def tablesWrong : ChangeSpec := { name := "tables", fn := fun _ => fun
  | [d] => { results := [.lit (.bool false)], args := [d] }
  | _ => none }
def TablesWrongFalsely : Prop := tablesRow.holds Tryz.pinned (OpenSpec.ofChange tablesWrong)

/-- 'porticolaw.Bridges': WHATEVER THE INPUT: true; the input reads as it did. -/
def bridgesSpec : ChangeSpec := { name := "bridges", fn := fun _ => fun
  | [d] => { results := [.lit (.bool true)], args := [d] }
  | _ => none }
def bridgesRow : OpenClaim := { program := "ytnjalelblbjfiaagreatdoor", sum := "2af6db8f698e84694c808e3ecd4b451c0bcee72dfe56e3527d3d4523bf1ea737", func := "portico/porticolaw.Bridges", spec := "bridges", inPlace := ["slices.overlaps[portico/ordered.entry[portico/macs.place, portico/macs.seen]]", "slices.overlaps[portico/ordered.entry[int, *portico/table.entry]]", "slices.overlaps[portico/ordered.entry[portico/table.rank, *portico/table.entry]]", "slices.overlaps[portico/ordered.entry[int, string]]", "slices.overlaps[portico/ordered.entry[portico/routes.Prefix, portico/routes.Hop]]"], unfollowed := true, recurses := true, named := ["portico/table.fields", "portico/frame.meanings"], apart := false, laid := [("portico/frame.meanings", laid_portico_frame_meanings), ("portico/table.fields", laid_portico_table_fields)] }
def BridgesSaid : Prop := bridgesRow.holds Tryz.pinned (OpenSpec.ofChange bridgesSpec)

/-- ITS FALSE NEIGHBOUR: 'it returns false'. Refute it at one input. -/
def bridgesWrong : ChangeSpec := { name := "bridges", fn := fun _ => fun
  | [d] => { results := [.lit (.bool false)], args := [d] }
  | _ => none }
def BridgesWrongFalsely : Prop := bridgesRow.holds Tryz.pinned (OpenSpec.ofChange bridgesWrong)

/-- 'porticolaw.Switches': WHATEVER THE INPUT: true; the input reads as it did. -/
def switchesSpec : ChangeSpec := { name := "switches", fn := fun _ => fun
  | [d] => { results := [.lit (.bool true)], args := [d] }
  | _ => none }
def switchesRow : OpenClaim := { program := "ytnjalelblbjfiaagreatdoor", sum := "2af6db8f698e84694c808e3ecd4b451c0bcee72dfe56e3527d3d4523bf1ea737", func := "portico/porticolaw.Switches", spec := "switches", inPlace := ["slices.overlaps[portico/ordered.entry[portico/macs.place, portico/macs.seen]]", "slices.overlaps[portico/ordered.entry[int, *portico/table.entry]]", "slices.overlaps[portico/ordered.entry[portico/table.rank, *portico/table.entry]]", "slices.overlaps[portico/ordered.entry[int, string]]", "slices.overlaps[portico/ordered.entry[portico/routes.Prefix, portico/routes.Hop]]"], unfollowed := true, recurses := true, named := ["portico/table.fields", "portico/frame.meanings"], apart := false, laid := [("portico/frame.meanings", laid_portico_frame_meanings), ("portico/table.fields", laid_portico_table_fields)] }
def SwitchesSaid : Prop := switchesRow.holds Tryz.pinned (OpenSpec.ofChange switchesSpec)

/-- ITS FALSE NEIGHBOUR: 'it returns false'. Refute it at one input. -/
def switchesWrong : ChangeSpec := { name := "switches", fn := fun _ => fun
  | [d] => { results := [.lit (.bool false)], args := [d] }
  | _ => none }
def SwitchesWrongFalsely : Prop := switchesRow.holds Tryz.pinned (OpenSpec.ofChange switchesWrong)

/-- 'porticolaw.All': WHATEVER THE INPUT: true; the input reads as it did. -/
def allSpec : ChangeSpec := { name := "all", fn := fun _ => fun
  | [d] => { results := [.lit (.bool true)], args := [d] }
  | _ => none }
def allRow : OpenClaim := { program := "ytnjalelblbjfiaagreatdoor", sum := "2af6db8f698e84694c808e3ecd4b451c0bcee72dfe56e3527d3d4523bf1ea737", func := "portico/porticolaw.All", spec := "all", inPlace := ["slices.overlaps[portico/ordered.entry[int, *portico/table.entry]]", "slices.overlaps[portico/ordered.entry[portico/table.rank, *portico/table.entry]]", "slices.overlaps[portico/ordered.entry[portico/macs.place, portico/macs.seen]]", "slices.overlaps[portico/ordered.entry[int, string]]", "slices.overlaps[portico/ordered.entry[portico/routes.Prefix, portico/routes.Hop]]"], unfollowed := true, recurses := true, named := ["portico/table.fields", "portico/frame.meanings"], apart := false, laid := [("portico/frame.meanings", laid_portico_frame_meanings), ("portico/table.fields", laid_portico_table_fields)] }
def AllSaid : Prop := allRow.holds Tryz.pinned (OpenSpec.ofChange allSpec)

/-- ITS FALSE NEIGHBOUR: 'it returns false'. Refute it at one input. -/
def allWrong : ChangeSpec := { name := "all", fn := fun _ => fun
  | [d] => { results := [.lit (.bool false)], args := [d] }
  | _ => none }
def AllWrongFalsely : Prop := allRow.holds Tryz.pinned (OpenSpec.ofChange allWrong)

/- THE SECOND FORM. 'bulk': how many values and letters a reading holds, each counted each time it is reached (what is shared counts as often as it is met; a slice's spare places count too). A statement '..UptoSaid' is the law's where the arguments, and the package variables that the reading takes, are together of bulk at most 1048576: NARROWER than '..Said'. Prove '..Said' where nothing that the law and all that it calls make is longer than what came in: it says more and counts as full. Else prove '..UptoSaid'. A law counts once. -/
mutual
def uptoBulk {H : Type} : DataW H → Nat
  | .lit (.string bytes) => bytes.length + 1
  | .lit _ => 1
  | .nil => 1
  | .ptr d => uptoBulk d + 1
  | .slice elems spare => uptoBulkAll elems + uptoBulkAll spare + 1
  | .agg parts => uptoBulkAll parts + 1
  | .iface _ d => uptoBulk d + 1
  | .map entries => uptoBulkEntries entries + 1
  | .held _ => 1
def uptoBulkAll {H : Type} : List (DataW H) → Nat
  | [] => 0
  | d :: r => uptoBulk d + uptoBulkAll r
def uptoBulkEntries {H : Type} : List (Lit × DataW H) → Nat
  | [] => 0
  | x :: r => uptoBulkEntry x + uptoBulkEntries r
def uptoBulkEntry {H : Type} : Lit × DataW H → Nat
  | (.string bytes, d) => bytes.length + uptoBulk d + 1
  | (_, d) => uptoBulk d + 1
 end
def uptoSmall : (H : Type) → List (DataW H) → Bool := fun _ ds => decide (uptoBulkAll ds ≤ 1048576)
def OpenSpec.upto (s : _root_.Go.ChangeSpec) : _root_.Go.OpenSpec := { _root_.Go.OpenSpec.ofChange s with cond := some uptoSmall }

/-- 'porticolaw.Tables', WHERE WHAT IT READS IS OF BULK AT MOST 1048576: true; the input reads as it did. -/
def tablesUptoRow : OpenClaim := { program := "ytnjalelblbjfiaagreatdoor", sum := "2af6db8f698e84694c808e3ecd4b451c0bcee72dfe56e3527d3d4523bf1ea737", func := "portico/porticolaw.Tables", spec := "tables", inPlace := ["slices.overlaps[portico/ordered.entry[int, *portico/table.entry]]", "slices.overlaps[portico/ordered.entry[portico/table.rank, *portico/table.entry]]", "slices.overlaps[portico/ordered.entry[portico/macs.place, portico/macs.seen]]", "slices.overlaps[portico/ordered.entry[int, string]]", "slices.overlaps[portico/ordered.entry[portico/routes.Prefix, portico/routes.Hop]]"], unfollowed := true, recurses := true, named := ["portico/table.fields", "portico/frame.meanings"], apart := false, laid := [("portico/frame.meanings", laid_portico_frame_meanings), ("portico/table.fields", laid_portico_table_fields)], narrowed := true }
def TablesUptoSaid : Prop := tablesUptoRow.holds Tryz.pinned (OpenSpec.upto tablesSpec)

/-- 'porticolaw.Bridges', WHERE WHAT IT READS IS OF BULK AT MOST 1048576: true; the input reads as it did. -/
def bridgesUptoRow : OpenClaim := { program := "ytnjalelblbjfiaagreatdoor", sum := "2af6db8f698e84694c808e3ecd4b451c0bcee72dfe56e3527d3d4523bf1ea737", func := "portico/porticolaw.Bridges", spec := "bridges", inPlace := ["slices.overlaps[portico/ordered.entry[portico/macs.place, portico/macs.seen]]", "slices.overlaps[portico/ordered.entry[int, *portico/table.entry]]", "slices.overlaps[portico/ordered.entry[portico/table.rank, *portico/table.entry]]", "slices.overlaps[portico/ordered.entry[int, string]]", "slices.overlaps[portico/ordered.entry[portico/routes.Prefix, portico/routes.Hop]]"], unfollowed := true, recurses := true, named := ["portico/table.fields", "portico/frame.meanings"], apart := false, laid := [("portico/frame.meanings", laid_portico_frame_meanings), ("portico/table.fields", laid_portico_table_fields)], narrowed := true }
def BridgesUptoSaid : Prop := bridgesUptoRow.holds Tryz.pinned (OpenSpec.upto bridgesSpec)

/-- 'porticolaw.Switches', WHERE WHAT IT READS IS OF BULK AT MOST 1048576: true; the input reads as it did. -/
def switchesUptoRow : OpenClaim := { program := "ytnjalelblbjfiaagreatdoor", sum := "2af6db8f698e84694c808e3ecd4b451c0bcee72dfe56e3527d3d4523bf1ea737", func := "portico/porticolaw.Switches", spec := "switches", inPlace := ["slices.overlaps[portico/ordered.entry[portico/macs.place, portico/macs.seen]]", "slices.overlaps[portico/ordered.entry[int, *portico/table.entry]]", "slices.overlaps[portico/ordered.entry[portico/table.rank, *portico/table.entry]]", "slices.overlaps[portico/ordered.entry[int, string]]", "slices.overlaps[portico/ordered.entry[portico/routes.Prefix, portico/routes.Hop]]"], unfollowed := true, recurses := true, named := ["portico/table.fields", "portico/frame.meanings"], apart := false, laid := [("portico/frame.meanings", laid_portico_frame_meanings), ("portico/table.fields", laid_portico_table_fields)], narrowed := true }
def SwitchesUptoSaid : Prop := switchesUptoRow.holds Tryz.pinned (OpenSpec.upto switchesSpec)

/-- 'porticolaw.All', WHERE WHAT IT READS IS OF BULK AT MOST 1048576: true; the input reads as it did. -/
def allUptoRow : OpenClaim := { program := "ytnjalelblbjfiaagreatdoor", sum := "2af6db8f698e84694c808e3ecd4b451c0bcee72dfe56e3527d3d4523bf1ea737", func := "portico/porticolaw.All", spec := "all", inPlace := ["slices.overlaps[portico/ordered.entry[int, *portico/table.entry]]", "slices.overlaps[portico/ordered.entry[portico/table.rank, *portico/table.entry]]", "slices.overlaps[portico/ordered.entry[portico/macs.place, portico/macs.seen]]", "slices.overlaps[portico/ordered.entry[int, string]]", "slices.overlaps[portico/ordered.entry[portico/routes.Prefix, portico/routes.Hop]]"], unfollowed := true, recurses := true, named := ["portico/table.fields", "portico/frame.meanings"], apart := false, laid := [("portico/frame.meanings", laid_portico_frame_meanings), ("portico/table.fields", laid_portico_table_fields)], narrowed := true }
def AllUptoSaid : Prop := allUptoRow.holds Tryz.pinned (OpenSpec.upto allSpec)

end Rows
end Go.Proofs.YtnjalelblbjfiaaGreatDoor
