/-
  DERIVED. GIVEN WITH THE SEED: THE CARDS: each row of YtbmppmdklappiaaDoorRows.lean that lists a variable, with what it lists TIED to the program's text (the seventh form; the later family's looks); each row that meets fmt, with fmt's text TOLD by the authors' own Lean function (tested against real Go, not proved from fmt's source: count such statements apart). THE CARD IS WHAT COUNTS. Prove the row's statement (the work); the ties are given (YtbmppmdklappiaaDoorTie.lean); close each card by the builder's one call (the guide's Derived/Test/ToyasCard.lean, 'card_holds'). Laid BY PROGRAM, IN A SANDBOX (cutbox-door.mjs). By AI agents, Wed Nov 11 2026. No macro, syntax, notation, axiom, sorry.
-/
import Derived.Test.YtbmppmdklappiaaDoorRows
import GoSem.ClaimSeven
namespace Go.Proofs.YtbmppmdklappiaaDoor
namespace Rows

/-- THE TIED CARD OF 'drayagelaw04.InflateAll'. -/
def inflateAllCard : Claim7 := { stood := { row := inflateAllRow, standIns := [], harness := (true, "6c1d7cbc39f02c93c7be4d08027a010446b70bdfe8045c794252a6e97fde07e3"), looks := false }, kinds := [], alts := [], laidByText := true, laidKinds := [.data], laidTests := true, laidLooks := .later }
def InflateAllCardSaid : Prop := Claim7.holds Tryd.pinned (.plain (OpenSpec.ofChange inflateAllSpec)) inflateAllCard

/-- THE TIED CARD OF 'drayagelaw05.DeflateForms'. -/
def deflateFormsCard : Claim7 := { stood := { row := deflateFormsRow, standIns := [], harness := (true, "6c1d7cbc39f02c93c7be4d08027a010446b70bdfe8045c794252a6e97fde07e3"), looks := false }, kinds := [], alts := [], laidByText := true, laidKinds := [.data], laidTests := true, laidLooks := .later }
def DeflateFormsCardSaid : Prop := Claim7.holds Tryd.pinned (.plain (OpenSpec.ofChange deflateFormsSpec)) deflateFormsCard

/-- THE SECOND FORM's CARD OF 'drayagelaw04.InflateAll'. -/
def inflateAllUptoCard : Claim7 := { stood := { row := inflateAllUptoRow, standIns := [], harness := (true, "6c1d7cbc39f02c93c7be4d08027a010446b70bdfe8045c794252a6e97fde07e3"), looks := false }, kinds := [], alts := [], laidByText := true, laidKinds := [.data], laidTests := true, laidLooks := .later }
def InflateAllUptoCardSaid : Prop := Claim7.holds Tryd.pinned (.plain (OpenSpec.upto inflateAllSpec)) inflateAllUptoCard

/-- THE SECOND FORM's CARD OF 'drayagelaw05.DeflateForms'. -/
def deflateFormsUptoCard : Claim7 := { stood := { row := deflateFormsUptoRow, standIns := [], harness := (true, "6c1d7cbc39f02c93c7be4d08027a010446b70bdfe8045c794252a6e97fde07e3"), looks := false }, kinds := [], alts := [], laidByText := true, laidKinds := [.data], laidTests := true, laidLooks := .later }
def DeflateFormsUptoCardSaid : Prop := Claim7.holds Tryd.pinned (.plain (OpenSpec.upto deflateFormsSpec)) deflateFormsUptoCard
end Rows
end Go.Proofs.YtbmppmdklappiaaDoor
