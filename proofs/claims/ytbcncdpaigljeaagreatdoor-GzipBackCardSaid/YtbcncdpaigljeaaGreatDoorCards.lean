/-
  DERIVED. GIVEN WITH THE SEED: THE CARDS: each row of YtbcncdpaigljeaaGreatDoorRows.lean that lists a variable, with what it lists TIED to the program's text (the seventh form; the later family's looks); each row that meets fmt, with fmt's text TOLD by the authors' own Lean function (tested against real Go, not proved from fmt's source: count such statements apart). THE CARD IS WHAT COUNTS. Prove the row's statement (the work); the ties are given (YtbcncdpaigljeaaGreatDoorTie.lean); close each card by the builder's one call (the guide's Derived/Test/ToyasCard.lean, 'card_holds'). Laid BY PROGRAM, IN A SANDBOX (cutbox-door.mjs). By AI agents, Wed Nov 11 2026. No macro, syntax, notation, axiom, sorry.
-/
import Derived.Test.YtbcncdpaigljeaaGreatDoorRows
import GoSem.ClaimSeven
namespace Go.Proofs.YtbcncdpaigljeaaGreatDoor
namespace Rows

/-- THE TIED CARD OF 'drayagelaw05.DeflateBack'. -/
def deflateBackCard : Claim7 := { stood := { row := deflateBackRow, standIns := [], harness := (true, "8d89c8e55f325375cec503904324b2abfcd9d35b8f90daebcf02fe9df83aea06"), looks := false }, kinds := [], alts := [], laidByText := true, laidKinds := [.data, .data], laidTests := true, laidLooks := .later }
def DeflateBackCardSaid : Prop := Claim7.holds Tryz.pinned (.plain (OpenSpec.ofChange deflateBackSpec)) deflateBackCard

/-- THE TIED CARD OF 'drayagelaw06.GzipPacks'. -/
def gzipPacksCard : Claim7 := { stood := { row := gzipPacksRow, standIns := [], harness := (true, "8d89c8e55f325375cec503904324b2abfcd9d35b8f90daebcf02fe9df83aea06"), looks := false }, kinds := [], alts := [], laidByText := true, laidKinds := [.data, .data], laidTests := true, laidLooks := .later }
def GzipPacksCardSaid : Prop := Claim7.holds Tryz.pinned (.plain (OpenSpec.ofChange gzipPacksSpec)) gzipPacksCard

/-- THE TIED CARD OF 'drayagelaw06.GzipUnpacks'. -/
def gzipUnpacksCard : Claim7 := { stood := { row := gzipUnpacksRow, standIns := [], harness := (true, "8d89c8e55f325375cec503904324b2abfcd9d35b8f90daebcf02fe9df83aea06"), looks := false }, kinds := [], alts := [], laidByText := true, laidKinds := [.data, .data], laidTests := true, laidLooks := .later }
def GzipUnpacksCardSaid : Prop := Claim7.holds Tryz.pinned (.plain (OpenSpec.ofChange gzipUnpacksSpec)) gzipUnpacksCard

/-- THE TIED CARD OF 'drayagelaw06.GzipBack'. -/
def gzipBackCard : Claim7 := { stood := { row := gzipBackRow, standIns := [], harness := (true, "8d89c8e55f325375cec503904324b2abfcd9d35b8f90daebcf02fe9df83aea06"), looks := false }, kinds := [], alts := [], laidByText := true, laidKinds := [.data, .data], laidTests := true, laidLooks := .later }
def GzipBackCardSaid : Prop := Claim7.holds Tryz.pinned (.plain (OpenSpec.ofChange gzipBackSpec)) gzipBackCard

/-- THE TIED CARD OF 'drayagelaw06.GzipTells'. -/
def gzipTellsCard : Claim7 := { stood := { row := gzipTellsRow, standIns := [], harness := (true, "8d89c8e55f325375cec503904324b2abfcd9d35b8f90daebcf02fe9df83aea06"), looks := false }, kinds := [], alts := [], laidByText := true, laidKinds := [.data, .data], laidTests := true, laidLooks := .later }
def GzipTellsCardSaid : Prop := Claim7.holds Tryz.pinned (.plain (OpenSpec.ofChange gzipTellsSpec)) gzipTellsCard

/-- THE SECOND FORM's CARD OF 'drayagelaw05.DeflateBack'. -/
def deflateBackUptoCard : Claim7 := { stood := { row := deflateBackUptoRow, standIns := [], harness := (true, "8d89c8e55f325375cec503904324b2abfcd9d35b8f90daebcf02fe9df83aea06"), looks := false }, kinds := [], alts := [], laidByText := true, laidKinds := [.data, .data], laidTests := true, laidLooks := .later }
def DeflateBackUptoCardSaid : Prop := Claim7.holds Tryz.pinned (.plain (OpenSpec.upto deflateBackSpec)) deflateBackUptoCard

/-- THE SECOND FORM's CARD OF 'drayagelaw06.GzipPacks'. -/
def gzipPacksUptoCard : Claim7 := { stood := { row := gzipPacksUptoRow, standIns := [], harness := (true, "8d89c8e55f325375cec503904324b2abfcd9d35b8f90daebcf02fe9df83aea06"), looks := false }, kinds := [], alts := [], laidByText := true, laidKinds := [.data, .data], laidTests := true, laidLooks := .later }
def GzipPacksUptoCardSaid : Prop := Claim7.holds Tryz.pinned (.plain (OpenSpec.upto gzipPacksSpec)) gzipPacksUptoCard

/-- THE SECOND FORM's CARD OF 'drayagelaw06.GzipUnpacks'. -/
def gzipUnpacksUptoCard : Claim7 := { stood := { row := gzipUnpacksUptoRow, standIns := [], harness := (true, "8d89c8e55f325375cec503904324b2abfcd9d35b8f90daebcf02fe9df83aea06"), looks := false }, kinds := [], alts := [], laidByText := true, laidKinds := [.data, .data], laidTests := true, laidLooks := .later }
def GzipUnpacksUptoCardSaid : Prop := Claim7.holds Tryz.pinned (.plain (OpenSpec.upto gzipUnpacksSpec)) gzipUnpacksUptoCard

/-- THE SECOND FORM's CARD OF 'drayagelaw06.GzipBack'. -/
def gzipBackUptoCard : Claim7 := { stood := { row := gzipBackUptoRow, standIns := [], harness := (true, "8d89c8e55f325375cec503904324b2abfcd9d35b8f90daebcf02fe9df83aea06"), looks := false }, kinds := [], alts := [], laidByText := true, laidKinds := [.data, .data], laidTests := true, laidLooks := .later }
def GzipBackUptoCardSaid : Prop := Claim7.holds Tryz.pinned (.plain (OpenSpec.upto gzipBackSpec)) gzipBackUptoCard

/-- THE SECOND FORM's CARD OF 'drayagelaw06.GzipTells'. -/
def gzipTellsUptoCard : Claim7 := { stood := { row := gzipTellsUptoRow, standIns := [], harness := (true, "8d89c8e55f325375cec503904324b2abfcd9d35b8f90daebcf02fe9df83aea06"), looks := false }, kinds := [], alts := [], laidByText := true, laidKinds := [.data, .data], laidTests := true, laidLooks := .later }
def GzipTellsUptoCardSaid : Prop := Claim7.holds Tryz.pinned (.plain (OpenSpec.upto gzipTellsSpec)) gzipTellsUptoCard
end Rows
end Go.Proofs.YtbcncdpaigljeaaGreatDoor
