/-
  DERIVED. GIVEN WITH THE SEED: THE CARDS: each row of YtnjalelblbjfiaaGreatDoorRows.lean that lists a variable, with what it lists TIED to the program's text (the seventh form; the later family's looks); each row that meets fmt, with fmt's text TOLD by the authors' own Lean function (tested against real Go, not proved from fmt's source: count such statements apart). THE CARD IS WHAT COUNTS. Prove the row's statement (the work); the ties are given (YtnjalelblbjfiaaGreatDoorTie.lean); close each card by the builder's one call (the guide's Derived/Test/ToyasCard.lean, 'card_holds'). Laid BY PROGRAM, IN A SANDBOX (cutbox-door.mjs). By AI agents, Wed Nov 11 2026. No macro, syntax, notation, axiom, sorry.
-/
import Derived.Test.YtnjalelblbjfiaaGreatDoorRows
import GoSem.ClaimSeven
namespace Go.Proofs.YtnjalelblbjfiaaGreatDoor
namespace Rows

/-- THE TIED CARD OF 'porticolaw.Tables'. -/
def tablesCard : Claim7 := { stood := { row := tablesRow, standIns := [], harness := (true, "d157ef39ae0fd30e60c07e5d5a7ab69c04785f84db5af68db6cf20ba3d7ed198"), looks := false }, kinds := [], alts := [], laidByText := true, laidKinds := [.data, .called], laidTests := true, laidLooks := .later }
def TablesCardSaid : Prop := Claim7.holds Tryz.pinned (.plain (OpenSpec.ofChange tablesSpec)) tablesCard

/-- THE TIED CARD OF 'porticolaw.Bridges'. -/
def bridgesCard : Claim7 := { stood := { row := bridgesRow, standIns := [], harness := (true, "d157ef39ae0fd30e60c07e5d5a7ab69c04785f84db5af68db6cf20ba3d7ed198"), looks := false }, kinds := [], alts := [], laidByText := true, laidKinds := [.data, .called], laidTests := true, laidLooks := .later }
def BridgesCardSaid : Prop := Claim7.holds Tryz.pinned (.plain (OpenSpec.ofChange bridgesSpec)) bridgesCard

/-- THE TIED CARD OF 'porticolaw.Switches'. -/
def switchesCard : Claim7 := { stood := { row := switchesRow, standIns := [], harness := (true, "d157ef39ae0fd30e60c07e5d5a7ab69c04785f84db5af68db6cf20ba3d7ed198"), looks := false }, kinds := [], alts := [], laidByText := true, laidKinds := [.data, .called], laidTests := true, laidLooks := .later }
def SwitchesCardSaid : Prop := Claim7.holds Tryz.pinned (.plain (OpenSpec.ofChange switchesSpec)) switchesCard

/-- THE TIED CARD OF 'porticolaw.All'. -/
def allCard : Claim7 := { stood := { row := allRow, standIns := [], harness := (true, "d157ef39ae0fd30e60c07e5d5a7ab69c04785f84db5af68db6cf20ba3d7ed198"), looks := false }, kinds := [], alts := [], laidByText := true, laidKinds := [.data, .called], laidTests := true, laidLooks := .later }
def AllCardSaid : Prop := Claim7.holds Tryz.pinned (.plain (OpenSpec.ofChange allSpec)) allCard

/-- THE SECOND FORM's CARD OF 'porticolaw.Tables'. -/
def tablesUptoCard : Claim7 := { stood := { row := tablesUptoRow, standIns := [], harness := (true, "d157ef39ae0fd30e60c07e5d5a7ab69c04785f84db5af68db6cf20ba3d7ed198"), looks := false }, kinds := [], alts := [], laidByText := true, laidKinds := [.data, .called], laidTests := true, laidLooks := .later }
def TablesUptoCardSaid : Prop := Claim7.holds Tryz.pinned (.plain (OpenSpec.upto tablesSpec)) tablesUptoCard

/-- THE SECOND FORM's CARD OF 'porticolaw.Bridges'. -/
def bridgesUptoCard : Claim7 := { stood := { row := bridgesUptoRow, standIns := [], harness := (true, "d157ef39ae0fd30e60c07e5d5a7ab69c04785f84db5af68db6cf20ba3d7ed198"), looks := false }, kinds := [], alts := [], laidByText := true, laidKinds := [.data, .called], laidTests := true, laidLooks := .later }
def BridgesUptoCardSaid : Prop := Claim7.holds Tryz.pinned (.plain (OpenSpec.upto bridgesSpec)) bridgesUptoCard

/-- THE SECOND FORM's CARD OF 'porticolaw.Switches'. -/
def switchesUptoCard : Claim7 := { stood := { row := switchesUptoRow, standIns := [], harness := (true, "d157ef39ae0fd30e60c07e5d5a7ab69c04785f84db5af68db6cf20ba3d7ed198"), looks := false }, kinds := [], alts := [], laidByText := true, laidKinds := [.data, .called], laidTests := true, laidLooks := .later }
def SwitchesUptoCardSaid : Prop := Claim7.holds Tryz.pinned (.plain (OpenSpec.upto switchesSpec)) switchesUptoCard

/-- THE SECOND FORM's CARD OF 'porticolaw.All'. -/
def allUptoCard : Claim7 := { stood := { row := allUptoRow, standIns := [], harness := (true, "d157ef39ae0fd30e60c07e5d5a7ab69c04785f84db5af68db6cf20ba3d7ed198"), looks := false }, kinds := [], alts := [], laidByText := true, laidKinds := [.data, .called], laidTests := true, laidLooks := .later }
def AllUptoCardSaid : Prop := Claim7.holds Tryz.pinned (.plain (OpenSpec.upto allSpec)) allUptoCard
end Rows
end Go.Proofs.YtnjalelblbjfiaaGreatDoor
