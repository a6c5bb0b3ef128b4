/-
  DERIVED. GIVEN WITH THE SEED: THE CARDS: each row of YtaejpejfmpbinaaDoorRows.lean that lists a variable, with what it lists TIED to the program's text (the seventh form; the later family's looks); each row that meets fmt, with fmt's text TOLD by the authors' own Lean function (tested against real Go, not proved from fmt's source: count such statements apart). THE CARD IS WHAT COUNTS. Prove the row's statement (the work); the ties are given (YtaejpejfmpbinaaDoorTie.lean); close each card by the builder's one call (the guide's Derived/Test/ToyasCard.lean, 'card_holds'). Laid BY PROGRAM, IN A SANDBOX (cutbox-door.mjs). By AI agents, Wed Nov 11 2026. No macro, syntax, notation, axiom, sorry.
-/
import Derived.Test.YtaejpejfmpbinaaDoorRows
import GoSem.ClaimSeven
namespace Go.Proofs.YtaejpejfmpbinaaDoor
namespace Rows

/-- THE TIED CARD OF 'porticokeep.Found'. -/
def foundCard : Claim7 := { stood := { row := foundRow, standIns := [], harness := (true, "fc15a367d9681c1160ac54bb9d67e9fb9adb8440760b851d4ed64d4a61d9aaf1"), looks := false }, kinds := [], alts := [], laidByText := true, laidKinds := [.called], laidTests := true, laidLooks := .later }
def FoundCardSaid : Prop := Claim7.holds Tryd.pinned (.plain (OpenSpec.ofChange foundSpec)) foundCard

/-- THE TIED CARD OF 'porticokeep.Alike'. -/
def alikeCard : Claim7 := { stood := { row := alikeRow, standIns := [], harness := (true, "fc15a367d9681c1160ac54bb9d67e9fb9adb8440760b851d4ed64d4a61d9aaf1"), looks := false }, kinds := [], alts := [], laidByText := true, laidKinds := [.called], laidTests := true, laidLooks := .later }
def AlikeCardSaid : Prop := Claim7.holds Tryd.pinned (.plain (OpenSpec.ofChange alikeSpec)) alikeCard

/-- THE SECOND FORM's CARD OF 'porticokeep.Found'. -/
def foundUptoCard : Claim7 := { stood := { row := foundUptoRow, standIns := [], harness := (true, "fc15a367d9681c1160ac54bb9d67e9fb9adb8440760b851d4ed64d4a61d9aaf1"), looks := false }, kinds := [], alts := [], laidByText := true, laidKinds := [.called], laidTests := true, laidLooks := .later }
def FoundUptoCardSaid : Prop := Claim7.holds Tryd.pinned (.plain (OpenSpec.upto foundSpec)) foundUptoCard

/-- THE SECOND FORM's CARD OF 'porticokeep.Alike'. -/
def alikeUptoCard : Claim7 := { stood := { row := alikeUptoRow, standIns := [], harness := (true, "fc15a367d9681c1160ac54bb9d67e9fb9adb8440760b851d4ed64d4a61d9aaf1"), looks := false }, kinds := [], alts := [], laidByText := true, laidKinds := [.called], laidTests := true, laidLooks := .later }
def AlikeUptoCardSaid : Prop := Claim7.holds Tryd.pinned (.plain (OpenSpec.upto alikeSpec)) alikeUptoCard
end Rows
end Go.Proofs.YtaejpejfmpbinaaDoor
