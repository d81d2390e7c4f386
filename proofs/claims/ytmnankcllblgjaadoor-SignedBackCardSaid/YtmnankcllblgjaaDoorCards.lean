/-
  DERIVED. GIVEN WITH THE SEED: THE CARDS: each row of YtmnankcllblgjaaDoorRows.lean that lists a variable, with what it lists TIED to the program's text (the seventh form; the later family's looks); each row that meets fmt, with fmt's text TOLD by the authors' own Lean function (tested against real Go, not proved from fmt's source: count such statements apart). THE CARD IS WHAT COUNTS. Prove the row's statement (the work); the ties are given (YtmnankcllblgjaaDoorTie.lean); close each card by the builder's one call (the guide's Derived/Test/ToyasCard.lean, 'card_holds'). Laid BY PROGRAM, IN A SANDBOX (cutbox-door.mjs). By AI agents, Wed Nov 11 2026. No macro, syntax, notation, axiom, sorry.
-/
import Derived.Test.YtmnankcllblgjaaDoorRows
import GoSem.ClaimSeven
namespace Go.Proofs.YtmnankcllblgjaaDoor
namespace Rows

/-- THE TIED CARD OF 'touchstonelaw03.SignedTexts'. -/
def signedTextsCard : Claim7 := { stood := { row := signedTextsRow, standIns := [], harness := (true, "b93cf5997e3885d1999172b2a78eb8c840e633df8bdfcb4bf42964f72dad23d3"), looks := false }, kinds := [], alts := [], laidByText := true, laidKinds := [.data, .pinned], laidTests := true, laidLooks := .later }
def SignedTextsCardSaid : Prop := Claim7.holds Tryd.pinned (.plain (OpenSpec.ofChange signedTextsSpec)) signedTextsCard

/-- THE TIED CARD OF 'touchstonelaw03.SignedBack'. -/
def signedBackCard : Claim7 := { stood := { row := signedBackRow, standIns := [], harness := (true, "b93cf5997e3885d1999172b2a78eb8c840e633df8bdfcb4bf42964f72dad23d3"), looks := false }, kinds := [], alts := [], laidByText := true, laidKinds := [.data, .pinned], laidTests := true, laidLooks := .later }
def SignedBackCardSaid : Prop := Claim7.holds Tryd.pinned (.plain (OpenSpec.ofChange signedBackSpec)) signedBackCard

/-- THE SECOND FORM's CARD OF 'touchstonelaw03.SignedTexts'. -/
def signedTextsUptoCard : Claim7 := { stood := { row := signedTextsUptoRow, standIns := [], harness := (true, "b93cf5997e3885d1999172b2a78eb8c840e633df8bdfcb4bf42964f72dad23d3"), looks := false }, kinds := [], alts := [], laidByText := true, laidKinds := [.data, .pinned], laidTests := true, laidLooks := .later }
def SignedTextsUptoCardSaid : Prop := Claim7.holds Tryd.pinned (.plain (OpenSpec.upto signedTextsSpec)) signedTextsUptoCard

/-- THE SECOND FORM's CARD OF 'touchstonelaw03.SignedBack'. -/
def signedBackUptoCard : Claim7 := { stood := { row := signedBackUptoRow, standIns := [], harness := (true, "b93cf5997e3885d1999172b2a78eb8c840e633df8bdfcb4bf42964f72dad23d3"), looks := false }, kinds := [], alts := [], laidByText := true, laidKinds := [.data, .pinned], laidTests := true, laidLooks := .later }
def SignedBackUptoCardSaid : Prop := Claim7.holds Tryd.pinned (.plain (OpenSpec.upto signedBackSpec)) signedBackUptoCard
end Rows
end Go.Proofs.YtmnankcllblgjaaDoor
