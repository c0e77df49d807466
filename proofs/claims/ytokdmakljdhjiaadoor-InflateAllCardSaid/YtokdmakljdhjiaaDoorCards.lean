/-
  DERIVED. GIVEN WITH THE SEED: THE CARDS: each row of YtokdmakljdhjiaaDoorRows.lean that lists a variable, with what it lists TIED to the program's text (the seventh form; the later family's looks); each row that meets fmt, with fmt's text TOLD by the authors' own Lean function (tested against real Go, not proved from fmt's source: count such statements apart). THE CARD IS WHAT COUNTS. Prove the row's statement (the work); the ties are given (YtokdmakljdhjiaaDoorTie.lean); close each card by the builder's one call (the guide's Derived/Test/ToyasCard.lean, 'card_holds'). Laid BY PROGRAM, IN A SANDBOX (cutbox-door.mjs). By AI agents, Wed Nov 11 2026. No macro, syntax, notation, axiom, sorry.
-/
import Derived.Test.YtokdmakljdhjiaaDoorRows
import GoSem.ClaimSeven
namespace Go.Proofs.YtokdmakljdhjiaaDoor
namespace Rows

/-- THE TIED CARD OF 'drayagelaw04.InflateAll'. -/
def inflateAllCard : Claim7 := { stood := { row := inflateAllRow, standIns := [], harness := (true, "d2bd37c796e38519266347ea02ff2942ef6ce302f3bf7d451f52ee3681a0d66d"), looks := false }, kinds := [], alts := [], laidByText := true, laidKinds := [.data], laidTests := true, laidLooks := .later }
def InflateAllCardSaid : Prop := Claim7.holds Tryd.pinned (.plain (OpenSpec.ofChange inflateAllSpec)) inflateAllCard

/-- THE TIED CARD OF 'drayagelaw04.InflateMost'. -/
def inflateMostCard : Claim7 := { stood := { row := inflateMostRow, standIns := [], harness := (true, "d2bd37c796e38519266347ea02ff2942ef6ce302f3bf7d451f52ee3681a0d66d"), looks := false }, kinds := [], alts := [], laidByText := true, laidKinds := [.data], laidTests := true, laidLooks := .later }
def InflateMostCardSaid : Prop := Claim7.holds Tryd.pinned (.plain (OpenSpec.ofChange inflateMostSpec)) inflateMostCard

/-- THE TIED CARD OF 'drayagelaw04.InflateShort'. -/
def inflateShortCard : Claim7 := { stood := { row := inflateShortRow, standIns := [], harness := (true, "d2bd37c796e38519266347ea02ff2942ef6ce302f3bf7d451f52ee3681a0d66d"), looks := false }, kinds := [], alts := [], laidByText := true, laidKinds := [.data], laidTests := true, laidLooks := .later }
def InflateShortCardSaid : Prop := Claim7.holds Tryd.pinned (.plain (OpenSpec.ofChange inflateShortSpec)) inflateShortCard

/-- THE SECOND FORM's CARD OF 'drayagelaw04.InflateAll'. -/
def inflateAllUptoCard : Claim7 := { stood := { row := inflateAllUptoRow, standIns := [], harness := (true, "d2bd37c796e38519266347ea02ff2942ef6ce302f3bf7d451f52ee3681a0d66d"), looks := false }, kinds := [], alts := [], laidByText := true, laidKinds := [.data], laidTests := true, laidLooks := .later }
def InflateAllUptoCardSaid : Prop := Claim7.holds Tryd.pinned (.plain (OpenSpec.upto inflateAllSpec)) inflateAllUptoCard

/-- THE SECOND FORM's CARD OF 'drayagelaw04.InflateMost'. -/
def inflateMostUptoCard : Claim7 := { stood := { row := inflateMostUptoRow, standIns := [], harness := (true, "d2bd37c796e38519266347ea02ff2942ef6ce302f3bf7d451f52ee3681a0d66d"), looks := false }, kinds := [], alts := [], laidByText := true, laidKinds := [.data], laidTests := true, laidLooks := .later }
def InflateMostUptoCardSaid : Prop := Claim7.holds Tryd.pinned (.plain (OpenSpec.upto inflateMostSpec)) inflateMostUptoCard

/-- THE SECOND FORM's CARD OF 'drayagelaw04.InflateShort'. -/
def inflateShortUptoCard : Claim7 := { stood := { row := inflateShortUptoRow, standIns := [], harness := (true, "d2bd37c796e38519266347ea02ff2942ef6ce302f3bf7d451f52ee3681a0d66d"), looks := false }, kinds := [], alts := [], laidByText := true, laidKinds := [.data], laidTests := true, laidLooks := .later }
def InflateShortUptoCardSaid : Prop := Claim7.holds Tryd.pinned (.plain (OpenSpec.upto inflateShortSpec)) inflateShortUptoCard
end Rows
end Go.Proofs.YtokdmakljdhjiaaDoor
