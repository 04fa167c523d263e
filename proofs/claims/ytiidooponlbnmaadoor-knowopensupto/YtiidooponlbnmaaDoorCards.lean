/-
  DERIVED. GIVEN WITH THE SEED: THE CARDS: each row of YtiidooponlbnmaaDoorRows.lean that lists a variable, with what it lists TIED to the program's text (the seventh form; the later family's looks); each row that meets fmt, with fmt's text TOLD by the authors' own Lean function (tested against real Go, not proved from fmt's source: count such statements apart). THE CARD IS WHAT COUNTS. Prove the row's statement (the work); the ties are given (YtiidooponlbnmaaDoorTie.lean); close each card by the builder's one call (the guide's Derived/Test/ToyasCard.lean, 'card_holds'). Laid BY PROGRAM, IN A SANDBOX (cutbox-door.mjs). By AI agents, Wed Nov 11 2026. No macro, syntax, notation, axiom, sorry.
-/
import Derived.Test.YtiidooponlbnmaaDoorRows
import GoSem.ClaimSeven
namespace Go.Proofs.YtiidooponlbnmaaDoor
namespace Rows

/-- THE TIED CARD OF 'legatelaw11.KnowTells'. -/
def knowTellsCard : Claim7 := { stood := { row := knowTellsRow, standIns := [], harness := (true, "1894e7760e0a0b48b4f3b407dc2e3fd19358d2380a1074852519b8943605c49c"), looks := false }, kinds := [], alts := [], laidByText := true, laidKinds := [.data, .data, .data], laidTests := true, laidLooks := .later }
def KnowTellsCardSaid : Prop := Claim7.holds Tryd.pinned (.plain (OpenSpec.ofChange knowTellsSpec)) knowTellsCard

/-- THE TIED CARD OF 'legatelaw11.KnowOrder'. -/
def knowOrderCard : Claim7 := { stood := { row := knowOrderRow, standIns := [], harness := (true, "1894e7760e0a0b48b4f3b407dc2e3fd19358d2380a1074852519b8943605c49c"), looks := false }, kinds := [], alts := [], laidByText := true, laidKinds := [.data, .data, .data], laidTests := true, laidLooks := .later }
def KnowOrderCardSaid : Prop := Claim7.holds Tryd.pinned (.plain (OpenSpec.ofChange knowOrderSpec)) knowOrderCard

/-- THE TIED CARD OF 'legatelaw11.KnowMore'. -/
def knowMoreCard : Claim7 := { stood := { row := knowMoreRow, standIns := [], harness := (true, "1894e7760e0a0b48b4f3b407dc2e3fd19358d2380a1074852519b8943605c49c"), looks := false }, kinds := [], alts := [], laidByText := true, laidKinds := [.data, .data, .data], laidTests := true, laidLooks := .later }
def KnowMoreCardSaid : Prop := Claim7.holds Tryd.pinned (.plain (OpenSpec.ofChange knowMoreSpec)) knowMoreCard

/-- THE TIED CARD OF 'legatelaw11.KnowSecret'. -/
def knowSecretCard : Claim7 := { stood := { row := knowSecretRow, standIns := [], harness := (true, "1894e7760e0a0b48b4f3b407dc2e3fd19358d2380a1074852519b8943605c49c"), looks := false }, kinds := [], alts := [], laidByText := true, laidKinds := [.data, .data, .data], laidTests := true, laidLooks := .later }
def KnowSecretCardSaid : Prop := Claim7.holds Tryd.pinned (.plain (OpenSpec.ofChange knowSecretSpec)) knowSecretCard

/-- THE TIED CARD OF 'legatelaw11.KnowOpens'. -/
def knowOpensCard : Claim7 := { stood := { row := knowOpensRow, standIns := [], harness := (true, "1894e7760e0a0b48b4f3b407dc2e3fd19358d2380a1074852519b8943605c49c"), looks := false }, kinds := [], alts := [], laidByText := true, laidKinds := [.data, .data, .data], laidTests := true, laidLooks := .later }
def KnowOpensCardSaid : Prop := Claim7.holds Tryd.pinned (.plain (OpenSpec.ofChange knowOpensSpec)) knowOpensCard

/-- THE SECOND FORM's CARD OF 'legatelaw11.KnowTells'. -/
def knowTellsUptoCard : Claim7 := { stood := { row := knowTellsUptoRow, standIns := [], harness := (true, "1894e7760e0a0b48b4f3b407dc2e3fd19358d2380a1074852519b8943605c49c"), looks := false }, kinds := [], alts := [], laidByText := true, laidKinds := [.data, .data, .data], laidTests := true, laidLooks := .later }
def KnowTellsUptoCardSaid : Prop := Claim7.holds Tryd.pinned (.plain (OpenSpec.upto knowTellsSpec)) knowTellsUptoCard

/-- THE SECOND FORM's CARD OF 'legatelaw11.KnowOrder'. -/
def knowOrderUptoCard : Claim7 := { stood := { row := knowOrderUptoRow, standIns := [], harness := (true, "1894e7760e0a0b48b4f3b407dc2e3fd19358d2380a1074852519b8943605c49c"), looks := false }, kinds := [], alts := [], laidByText := true, laidKinds := [.data, .data, .data], laidTests := true, laidLooks := .later }
def KnowOrderUptoCardSaid : Prop := Claim7.holds Tryd.pinned (.plain (OpenSpec.upto knowOrderSpec)) knowOrderUptoCard

/-- THE SECOND FORM's CARD OF 'legatelaw11.KnowMore'. -/
def knowMoreUptoCard : Claim7 := { stood := { row := knowMoreUptoRow, standIns := [], harness := (true, "1894e7760e0a0b48b4f3b407dc2e3fd19358d2380a1074852519b8943605c49c"), looks := false }, kinds := [], alts := [], laidByText := true, laidKinds := [.data, .data, .data], laidTests := true, laidLooks := .later }
def KnowMoreUptoCardSaid : Prop := Claim7.holds Tryd.pinned (.plain (OpenSpec.upto knowMoreSpec)) knowMoreUptoCard

/-- THE SECOND FORM's CARD OF 'legatelaw11.KnowSecret'. -/
def knowSecretUptoCard : Claim7 := { stood := { row := knowSecretUptoRow, standIns := [], harness := (true, "1894e7760e0a0b48b4f3b407dc2e3fd19358d2380a1074852519b8943605c49c"), looks := false }, kinds := [], alts := [], laidByText := true, laidKinds := [.data, .data, .data], laidTests := true, laidLooks := .later }
def KnowSecretUptoCardSaid : Prop := Claim7.holds Tryd.pinned (.plain (OpenSpec.upto knowSecretSpec)) knowSecretUptoCard

/-- THE SECOND FORM's CARD OF 'legatelaw11.KnowOpens'. -/
def knowOpensUptoCard : Claim7 := { stood := { row := knowOpensUptoRow, standIns := [], harness := (true, "1894e7760e0a0b48b4f3b407dc2e3fd19358d2380a1074852519b8943605c49c"), looks := false }, kinds := [], alts := [], laidByText := true, laidKinds := [.data, .data, .data], laidTests := true, laidLooks := .later }
def KnowOpensUptoCardSaid : Prop := Claim7.holds Tryd.pinned (.plain (OpenSpec.upto knowOpensSpec)) knowOpensUptoCard
end Rows
end Go.Proofs.YtiidooponlbnmaaDoor
