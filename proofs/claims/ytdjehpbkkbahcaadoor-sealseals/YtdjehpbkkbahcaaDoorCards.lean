/-
  DERIVED. GIVEN WITH THE SEED: THE CARDS: each row of YtdjehpbkkbahcaaDoorRows.lean that lists a variable, with what it lists TIED to the program's text (the seventh form; the later family's looks); each row that meets fmt, with fmt's text TOLD by the authors' own Lean function (tested against real Go, not proved from fmt's source: count such statements apart). THE CARD IS WHAT COUNTS. Prove the row's statement (the work); the ties are given (YtdjehpbkkbahcaaDoorTie.lean); close each card by the builder's one call (the guide's Derived/Test/ToyasCard.lean, 'card_holds'). Laid BY PROGRAM, IN A SANDBOX (cutbox-door.mjs). By AI agents, Wed Nov 11 2026. No macro, syntax, notation, axiom, sorry.
-/
import Derived.Test.YtdjehpbkkbahcaaDoorRows
import GoSem.ClaimSeven
namespace Go.Proofs.YtdjehpbkkbahcaaDoor
namespace Rows

/-- THE TIED CARD OF 'legatelaw07.SealSeals'. -/
def sealSealsCard : Claim7 := { stood := { row := sealSealsRow, standIns := [], harness := (true, "e3a2c39e2e4bb01e5517480e118f9f18ae6ee8c066a931059d70eeefba3ce0c9"), looks := false }, kinds := [], alts := [], laidByText := true, laidKinds := [.data, .data], laidTests := true, laidLooks := .later }
def SealSealsCardSaid : Prop := Claim7.holds Tryd.pinned (.plain (OpenSpec.ofChange sealSealsSpec)) sealSealsCard

/-- THE TIED CARD OF 'legatelaw07.SealSums'. -/
def sealSumsCard : Claim7 := { stood := { row := sealSumsRow, standIns := [], harness := (true, "e3a2c39e2e4bb01e5517480e118f9f18ae6ee8c066a931059d70eeefba3ce0c9"), looks := false }, kinds := [], alts := [], laidByText := true, laidKinds := [.data, .data], laidTests := true, laidLooks := .later }
def SealSumsCardSaid : Prop := Claim7.holds Tryd.pinned (.plain (OpenSpec.ofChange sealSumsSpec)) sealSumsCard

/-- THE TIED CARD OF 'legatelaw07.SealBack'. -/
def sealBackCard : Claim7 := { stood := { row := sealBackRow, standIns := [], harness := (true, "e3a2c39e2e4bb01e5517480e118f9f18ae6ee8c066a931059d70eeefba3ce0c9"), looks := false }, kinds := [], alts := [], laidByText := true, laidKinds := [.data, .data], laidTests := true, laidLooks := .later }
def SealBackCardSaid : Prop := Claim7.holds Tryd.pinned (.plain (OpenSpec.ofChange sealBackSpec)) sealBackCard

/-- THE TIED CARD OF 'legatelaw07.SealEnds'. -/
def sealEndsCard : Claim7 := { stood := { row := sealEndsRow, standIns := [], harness := (true, "e3a2c39e2e4bb01e5517480e118f9f18ae6ee8c066a931059d70eeefba3ce0c9"), looks := false }, kinds := [], alts := [], laidByText := true, laidKinds := [.data, .data], laidTests := true, laidLooks := .later }
def SealEndsCardSaid : Prop := Claim7.holds Tryd.pinned (.plain (OpenSpec.ofChange sealEndsSpec)) sealEndsCard

/-- THE TIED CARD OF 'legatelaw07.SealNonce'. -/
def sealNonceCard : Claim7 := { stood := { row := sealNonceRow, standIns := [], harness := (true, "e3a2c39e2e4bb01e5517480e118f9f18ae6ee8c066a931059d70eeefba3ce0c9"), looks := false }, kinds := [], alts := [], laidByText := true, laidKinds := [.data, .data], laidTests := true, laidLooks := .later }
def SealNonceCardSaid : Prop := Claim7.holds Tryd.pinned (.plain (OpenSpec.ofChange sealNonceSpec)) sealNonceCard

/-- THE SECOND FORM's CARD OF 'legatelaw07.SealSeals'. -/
def sealSealsUptoCard : Claim7 := { stood := { row := sealSealsUptoRow, standIns := [], harness := (true, "e3a2c39e2e4bb01e5517480e118f9f18ae6ee8c066a931059d70eeefba3ce0c9"), looks := false }, kinds := [], alts := [], laidByText := true, laidKinds := [.data, .data], laidTests := true, laidLooks := .later }
def SealSealsUptoCardSaid : Prop := Claim7.holds Tryd.pinned (.plain (OpenSpec.upto sealSealsSpec)) sealSealsUptoCard

/-- THE SECOND FORM's CARD OF 'legatelaw07.SealSums'. -/
def sealSumsUptoCard : Claim7 := { stood := { row := sealSumsUptoRow, standIns := [], harness := (true, "e3a2c39e2e4bb01e5517480e118f9f18ae6ee8c066a931059d70eeefba3ce0c9"), looks := false }, kinds := [], alts := [], laidByText := true, laidKinds := [.data, .data], laidTests := true, laidLooks := .later }
def SealSumsUptoCardSaid : Prop := Claim7.holds Tryd.pinned (.plain (OpenSpec.upto sealSumsSpec)) sealSumsUptoCard

/-- THE SECOND FORM's CARD OF 'legatelaw07.SealBack'. -/
def sealBackUptoCard : Claim7 := { stood := { row := sealBackUptoRow, standIns := [], harness := (true, "e3a2c39e2e4bb01e5517480e118f9f18ae6ee8c066a931059d70eeefba3ce0c9"), looks := false }, kinds := [], alts := [], laidByText := true, laidKinds := [.data, .data], laidTests := true, laidLooks := .later }
def SealBackUptoCardSaid : Prop := Claim7.holds Tryd.pinned (.plain (OpenSpec.upto sealBackSpec)) sealBackUptoCard

/-- THE SECOND FORM's CARD OF 'legatelaw07.SealEnds'. -/
def sealEndsUptoCard : Claim7 := { stood := { row := sealEndsUptoRow, standIns := [], harness := (true, "e3a2c39e2e4bb01e5517480e118f9f18ae6ee8c066a931059d70eeefba3ce0c9"), looks := false }, kinds := [], alts := [], laidByText := true, laidKinds := [.data, .data], laidTests := true, laidLooks := .later }
def SealEndsUptoCardSaid : Prop := Claim7.holds Tryd.pinned (.plain (OpenSpec.upto sealEndsSpec)) sealEndsUptoCard

/-- THE SECOND FORM's CARD OF 'legatelaw07.SealNonce'. -/
def sealNonceUptoCard : Claim7 := { stood := { row := sealNonceUptoRow, standIns := [], harness := (true, "e3a2c39e2e4bb01e5517480e118f9f18ae6ee8c066a931059d70eeefba3ce0c9"), looks := false }, kinds := [], alts := [], laidByText := true, laidKinds := [.data, .data], laidTests := true, laidLooks := .later }
def SealNonceUptoCardSaid : Prop := Claim7.holds Tryd.pinned (.plain (OpenSpec.upto sealNonceSpec)) sealNonceUptoCard
end Rows
end Go.Proofs.YtdjehpbkkbahcaaDoor
