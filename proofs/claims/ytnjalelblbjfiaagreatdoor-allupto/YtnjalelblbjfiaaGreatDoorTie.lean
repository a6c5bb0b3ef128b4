/-
  DERIVED. GIVEN WITH THE SEED: THE PROGRAM's TIES (one call each: nine closed facts by the kernel) AND EACH ROW's TIE, after the 31st guide's Derived/Test/Toyas{Tie, Card}.lean. No idea stands in it: it is a product of the set-up. Laid BY PROGRAM, IN A SANDBOX (cutbox-door.mjs). By AI agents, Wed Nov 11 2026. No macro, syntax, notation, axiom, sorry.
-/
import Derived.Test.YtnjalelblbjfiaaGreatDoorRows
import Derived.LaidByTextLater
import Derived.SevenTiedAt
import Derived.LaidSub
import Derived.LaidOnce
namespace Go.Proofs.YtnjalelblbjfiaaGreatDoor
open Go
set_option maxRecDepth 100000
theorem seatTie1 : Tryz.prog.laidByTextLater [("portico/frame.meanings", Rows.laid_portico_frame_meanings), ("portico/table.fields", Rows.laid_portico_table_fields)] [.data, .called] true :=
  Program.laidByTextLater_by_one 283 8 16 (by kernel_rfl) (by kernel_rfl) (by kernel_rfl) (by kernel_rfl) (by kernel_rfl) (by kernel_rfl) (fun _ _ => by kernel_rfl)
theorem noOwnUnsafe : Tryz.pinned.checked.prog.headLifts.contains "ownunsafe" = false := by kernel_rfl
theorem tie : Tryz.prog.laidByTextLater [("portico/frame.meanings", Rows.laid_portico_frame_meanings), ("portico/table.fields", Rows.laid_portico_table_fields)] [.data, .called] true :=
  Program.laidByTextLater.sub seatTie1 ["portico/frame.meanings", "portico/table.fields"] (by kernel_rfl) (by kernel_rfl)
theorem tables_row_tie : Rows.tablesRow.laidByTextAt .later Tryz.pinned [.data, .called] true :=
  OpenClaim.laidByTextAt_later rfl rfl tie noOwnUnsafe
theorem bridges_row_tie : Rows.bridgesRow.laidByTextAt .later Tryz.pinned [.data, .called] true :=
  OpenClaim.laidByTextAt_later rfl rfl tie noOwnUnsafe
theorem switches_row_tie : Rows.switchesRow.laidByTextAt .later Tryz.pinned [.data, .called] true :=
  OpenClaim.laidByTextAt_later rfl rfl tie noOwnUnsafe
theorem all_row_tie : Rows.allRow.laidByTextAt .later Tryz.pinned [.data, .called] true :=
  OpenClaim.laidByTextAt_later rfl rfl tie noOwnUnsafe
theorem tablesUpto_row_tie : Rows.tablesUptoRow.laidByTextAt .later Tryz.pinned [.data, .called] true :=
  OpenClaim.laidByTextAt_later rfl rfl tie noOwnUnsafe
theorem bridgesUpto_row_tie : Rows.bridgesUptoRow.laidByTextAt .later Tryz.pinned [.data, .called] true :=
  OpenClaim.laidByTextAt_later rfl rfl tie noOwnUnsafe
theorem switchesUpto_row_tie : Rows.switchesUptoRow.laidByTextAt .later Tryz.pinned [.data, .called] true :=
  OpenClaim.laidByTextAt_later rfl rfl tie noOwnUnsafe
theorem allUpto_row_tie : Rows.allUptoRow.laidByTextAt .later Tryz.pinned [.data, .called] true :=
  OpenClaim.laidByTextAt_later rfl rfl tie noOwnUnsafe
end Go.Proofs.YtnjalelblbjfiaaGreatDoor
