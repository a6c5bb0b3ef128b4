/-
  DERIVED. GIVEN WITH THE SEED: THE CARDS: each row of YtaejpejfmpbinaaGreatDoorRows.lean that lists a variable, with what it lists TIED to the program's text (the seventh form; the later family's looks); each row that meets fmt, with fmt's text TOLD by the authors' own Lean function (tested against real Go, not proved from fmt's source: count such statements apart). THE CARD IS WHAT COUNTS. Prove the row's statement (the work); the ties are given (YtaejpejfmpbinaaGreatDoorTie.lean); close each card by the builder's one call (the guide's Derived/Test/ToyasCard.lean, 'card_holds'). Laid BY PROGRAM, IN A SANDBOX (cutbox-door.mjs). By AI agents, Wed Nov 11 2026. No macro, syntax, notation, axiom, sorry.
-/
import Derived.Test.YtaejpejfmpbinaaGreatDoorRows
import GoSem.ClaimSeven
namespace Go.Proofs.YtaejpejfmpbinaaGreatDoor
namespace Rows

/-- THE TIED CARD OF 'porticokeep.Learned'. -/
def learnedCard : Claim7 := { stood := { row := learnedRow, standIns := [], harness := (true, "e03822e7c928dcfa2d362656a8ef6eb5d8c7ecb6f7dce65d3ca3641f76c2d9db"), looks := false }, kinds := [], alts := [], laidByText := true, laidKinds := [.data, .called], laidTests := true, laidLooks := .later }
def LearnedCardSaid : Prop := Claim7.holds Tryz.pinned (.plain (OpenSpec.ofChange learnedSpec)) learnedCard

/-- THE TIED CARD OF 'porticokeep.Apart'. -/
def apartCard : Claim7 := { stood := { row := apartRow, standIns := [], harness := (true, "e03822e7c928dcfa2d362656a8ef6eb5d8c7ecb6f7dce65d3ca3641f76c2d9db"), looks := false }, kinds := [], alts := [], laidByText := true, laidKinds := [.data, .called], laidTests := true, laidLooks := .later }
def ApartCardSaid : Prop := Claim7.holds Tryz.pinned (.plain (OpenSpec.ofChange apartSpec)) apartCard

/-- THE TIED CARD OF 'porticokeep.Hopped'. -/
def hoppedCard : Claim7 := { stood := { row := hoppedRow, standIns := [], harness := (true, "e03822e7c928dcfa2d362656a8ef6eb5d8c7ecb6f7dce65d3ca3641f76c2d9db"), looks := false }, kinds := [], alts := [], laidByText := true, laidKinds := [.data, .called], laidTests := true, laidLooks := .later }
def HoppedCardSaid : Prop := Claim7.holds Tryz.pinned (.plain (OpenSpec.ofChange hoppedSpec)) hoppedCard

/-- THE TIED CARD OF 'porticokeep.Judged'. -/
def judgedCard : Claim7 := { stood := { row := judgedRow, standIns := [], harness := (true, "e03822e7c928dcfa2d362656a8ef6eb5d8c7ecb6f7dce65d3ca3641f76c2d9db"), looks := false }, kinds := [], alts := [], laidByText := true, laidKinds := [.data, .called], laidTests := true, laidLooks := .later }
def JudgedCardSaid : Prop := Claim7.holds Tryz.pinned (.plain (OpenSpec.ofChange judgedSpec)) judgedCard

/-- THE SECOND FORM's CARD OF 'porticokeep.Learned'. -/
def learnedUptoCard : Claim7 := { stood := { row := learnedUptoRow, standIns := [], harness := (true, "e03822e7c928dcfa2d362656a8ef6eb5d8c7ecb6f7dce65d3ca3641f76c2d9db"), looks := false }, kinds := [], alts := [], laidByText := true, laidKinds := [.data, .called], laidTests := true, laidLooks := .later }
def LearnedUptoCardSaid : Prop := Claim7.holds Tryz.pinned (.plain (OpenSpec.upto learnedSpec)) learnedUptoCard

/-- THE SECOND FORM's CARD OF 'porticokeep.Apart'. -/
def apartUptoCard : Claim7 := { stood := { row := apartUptoRow, standIns := [], harness := (true, "e03822e7c928dcfa2d362656a8ef6eb5d8c7ecb6f7dce65d3ca3641f76c2d9db"), looks := false }, kinds := [], alts := [], laidByText := true, laidKinds := [.data, .called], laidTests := true, laidLooks := .later }
def ApartUptoCardSaid : Prop := Claim7.holds Tryz.pinned (.plain (OpenSpec.upto apartSpec)) apartUptoCard

/-- THE SECOND FORM's CARD OF 'porticokeep.Hopped'. -/
def hoppedUptoCard : Claim7 := { stood := { row := hoppedUptoRow, standIns := [], harness := (true, "e03822e7c928dcfa2d362656a8ef6eb5d8c7ecb6f7dce65d3ca3641f76c2d9db"), looks := false }, kinds := [], alts := [], laidByText := true, laidKinds := [.data, .called], laidTests := true, laidLooks := .later }
def HoppedUptoCardSaid : Prop := Claim7.holds Tryz.pinned (.plain (OpenSpec.upto hoppedSpec)) hoppedUptoCard

/-- THE SECOND FORM's CARD OF 'porticokeep.Judged'. -/
def judgedUptoCard : Claim7 := { stood := { row := judgedUptoRow, standIns := [], harness := (true, "e03822e7c928dcfa2d362656a8ef6eb5d8c7ecb6f7dce65d3ca3641f76c2d9db"), looks := false }, kinds := [], alts := [], laidByText := true, laidKinds := [.data, .called], laidTests := true, laidLooks := .later }
def JudgedUptoCardSaid : Prop := Claim7.holds Tryz.pinned (.plain (OpenSpec.upto judgedSpec)) judgedUptoCard
end Rows
end Go.Proofs.YtaejpejfmpbinaaGreatDoor
