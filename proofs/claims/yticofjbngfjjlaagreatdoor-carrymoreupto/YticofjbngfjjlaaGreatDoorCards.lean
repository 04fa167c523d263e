/-
  DERIVED. GIVEN WITH THE SEED: THE CARDS: each row of YticofjbngfjjlaaGreatDoorRows.lean that lists a variable, with what it lists TIED to the program's text (the seventh form; the later family's looks); each row that meets fmt, with fmt's text TOLD by the authors' own Lean function (tested against real Go, not proved from fmt's source: count such statements apart). THE CARD IS WHAT COUNTS. Prove the row's statement (the work); the ties are given (YticofjbngfjjlaaGreatDoorTie.lean); close each card by the builder's one call (the guide's Derived/Test/ToyasCard.lean, 'card_holds'). Laid BY PROGRAM, IN A SANDBOX (cutbox-door.mjs). By AI agents, Wed Nov 11 2026. No macro, syntax, notation, axiom, sorry.
-/
import Derived.Test.YticofjbngfjjlaaGreatDoorRows
import GoSem.ClaimSeven
namespace Go.Proofs.YticofjbngfjjlaaGreatDoor
namespace Rows

/-- THE TIED CARD OF 'legatelaw09.CarryPacks'. -/
def carryPacksCard : Claim7 := { stood := { row := carryPacksRow, standIns := [], harness := (true, "df5631fd09dab76cbec563b5baca51e4ce24917a5001cb2c2cf92824ab08f065"), looks := false }, kinds := [], alts := [], laidByText := true, laidKinds := [.data, .data, .data, .data, .data], laidTests := true, laidLooks := .later }
def CarryPacksCardSaid : Prop := Claim7.holds Tryz.pinned (.plain (OpenSpec.ofChange carryPacksSpec)) carryPacksCard

/-- THE TIED CARD OF 'legatelaw09.CarryUnpacks'. -/
def carryUnpacksCard : Claim7 := { stood := { row := carryUnpacksRow, standIns := [], harness := (true, "df5631fd09dab76cbec563b5baca51e4ce24917a5001cb2c2cf92824ab08f065"), looks := false }, kinds := [], alts := [], laidByText := true, laidKinds := [.data, .data, .data, .data, .data], laidTests := true, laidLooks := .later }
def CarryUnpacksCardSaid : Prop := Claim7.holds Tryz.pinned (.plain (OpenSpec.ofChange carryUnpacksSpec)) carryUnpacksCard

/-- THE TIED CARD OF 'legatelaw09.CarryBack'. -/
def carryBackCard : Claim7 := { stood := { row := carryBackRow, standIns := [], harness := (true, "df5631fd09dab76cbec563b5baca51e4ce24917a5001cb2c2cf92824ab08f065"), looks := false }, kinds := [], alts := [], laidByText := true, laidKinds := [.data, .data, .data, .data, .data], laidTests := true, laidLooks := .later }
def CarryBackCardSaid : Prop := Claim7.holds Tryz.pinned (.plain (OpenSpec.ofChange carryBackSpec)) carryBackCard

/-- THE TIED CARD OF 'legatelaw09.CarryNames'. -/
def carryNamesCard : Claim7 := { stood := { row := carryNamesRow, standIns := [], harness := (true, "df5631fd09dab76cbec563b5baca51e4ce24917a5001cb2c2cf92824ab08f065"), looks := false }, kinds := [], alts := [], laidByText := true, laidKinds := [.data, .data, .data, .data, .data], laidTests := true, laidLooks := .later }
def CarryNamesCardSaid : Prop := Claim7.holds Tryz.pinned (.plain (OpenSpec.ofChange carryNamesSpec)) carryNamesCard

/-- THE TIED CARD OF 'legatelaw09.CarryMore'. -/
def carryMoreCard : Claim7 := { stood := { row := carryMoreRow, standIns := [], harness := (true, "df5631fd09dab76cbec563b5baca51e4ce24917a5001cb2c2cf92824ab08f065"), looks := false }, kinds := [], alts := [], laidByText := true, laidKinds := [.data, .data, .data, .data, .data], laidTests := true, laidLooks := .later }
def CarryMoreCardSaid : Prop := Claim7.holds Tryz.pinned (.plain (OpenSpec.ofChange carryMoreSpec)) carryMoreCard

/-- THE TIED CARD OF 'legatelaw09.CarryBytes'. -/
def carryBytesCard : Claim7 := { stood := { row := carryBytesRow, standIns := [], harness := (true, "df5631fd09dab76cbec563b5baca51e4ce24917a5001cb2c2cf92824ab08f065"), looks := false }, kinds := [], alts := [], laidByText := true, laidKinds := [.data, .data, .data, .data, .data], laidTests := true, laidLooks := .later }
def CarryBytesCardSaid : Prop := Claim7.holds Tryz.pinned (.plain (OpenSpec.ofChange carryBytesSpec)) carryBytesCard

/-- THE SECOND FORM's CARD OF 'legatelaw09.CarryPacks'. -/
def carryPacksUptoCard : Claim7 := { stood := { row := carryPacksUptoRow, standIns := [], harness := (true, "df5631fd09dab76cbec563b5baca51e4ce24917a5001cb2c2cf92824ab08f065"), looks := false }, kinds := [], alts := [], laidByText := true, laidKinds := [.data, .data, .data, .data, .data], laidTests := true, laidLooks := .later }
def CarryPacksUptoCardSaid : Prop := Claim7.holds Tryz.pinned (.plain (OpenSpec.upto carryPacksSpec)) carryPacksUptoCard

/-- THE SECOND FORM's CARD OF 'legatelaw09.CarryUnpacks'. -/
def carryUnpacksUptoCard : Claim7 := { stood := { row := carryUnpacksUptoRow, standIns := [], harness := (true, "df5631fd09dab76cbec563b5baca51e4ce24917a5001cb2c2cf92824ab08f065"), looks := false }, kinds := [], alts := [], laidByText := true, laidKinds := [.data, .data, .data, .data, .data], laidTests := true, laidLooks := .later }
def CarryUnpacksUptoCardSaid : Prop := Claim7.holds Tryz.pinned (.plain (OpenSpec.upto carryUnpacksSpec)) carryUnpacksUptoCard

/-- THE SECOND FORM's CARD OF 'legatelaw09.CarryBack'. -/
def carryBackUptoCard : Claim7 := { stood := { row := carryBackUptoRow, standIns := [], harness := (true, "df5631fd09dab76cbec563b5baca51e4ce24917a5001cb2c2cf92824ab08f065"), looks := false }, kinds := [], alts := [], laidByText := true, laidKinds := [.data, .data, .data, .data, .data], laidTests := true, laidLooks := .later }
def CarryBackUptoCardSaid : Prop := Claim7.holds Tryz.pinned (.plain (OpenSpec.upto carryBackSpec)) carryBackUptoCard

/-- THE SECOND FORM's CARD OF 'legatelaw09.CarryNames'. -/
def carryNamesUptoCard : Claim7 := { stood := { row := carryNamesUptoRow, standIns := [], harness := (true, "df5631fd09dab76cbec563b5baca51e4ce24917a5001cb2c2cf92824ab08f065"), looks := false }, kinds := [], alts := [], laidByText := true, laidKinds := [.data, .data, .data, .data, .data], laidTests := true, laidLooks := .later }
def CarryNamesUptoCardSaid : Prop := Claim7.holds Tryz.pinned (.plain (OpenSpec.upto carryNamesSpec)) carryNamesUptoCard

/-- THE SECOND FORM's CARD OF 'legatelaw09.CarryMore'. -/
def carryMoreUptoCard : Claim7 := { stood := { row := carryMoreUptoRow, standIns := [], harness := (true, "df5631fd09dab76cbec563b5baca51e4ce24917a5001cb2c2cf92824ab08f065"), looks := false }, kinds := [], alts := [], laidByText := true, laidKinds := [.data, .data, .data, .data, .data], laidTests := true, laidLooks := .later }
def CarryMoreUptoCardSaid : Prop := Claim7.holds Tryz.pinned (.plain (OpenSpec.upto carryMoreSpec)) carryMoreUptoCard

/-- THE SECOND FORM's CARD OF 'legatelaw09.CarryBytes'. -/
def carryBytesUptoCard : Claim7 := { stood := { row := carryBytesUptoRow, standIns := [], harness := (true, "df5631fd09dab76cbec563b5baca51e4ce24917a5001cb2c2cf92824ab08f065"), looks := false }, kinds := [], alts := [], laidByText := true, laidKinds := [.data, .data, .data, .data, .data], laidTests := true, laidLooks := .later }
def CarryBytesUptoCardSaid : Prop := Claim7.holds Tryz.pinned (.plain (OpenSpec.upto carryBytesSpec)) carryBytesUptoCard
end Rows
end Go.Proofs.YticofjbngfjjlaaGreatDoor
