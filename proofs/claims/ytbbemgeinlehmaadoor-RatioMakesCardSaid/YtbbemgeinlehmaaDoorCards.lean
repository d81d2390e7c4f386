/-
  DERIVED. GIVEN WITH THE SEED: THE CARDS: each row of YtbbemgeinlehmaaDoorRows.lean that lists a variable, with what it lists TIED to the program's text (the seventh form; the later family's looks); each row that meets fmt, with fmt's text TOLD by the authors' own Lean function (tested against real Go, not proved from fmt's source: count such statements apart). THE CARD IS WHAT COUNTS. Prove the row's statement (the work); the ties are given (YtbbemgeinlehmaaDoorTie.lean); close each card by the builder's one call (the guide's Derived/Test/ToyasCard.lean, 'card_holds'). Laid BY PROGRAM, IN A SANDBOX (cutbox-door.mjs). By AI agents, Wed Nov 11 2026. No macro, syntax, notation, axiom, sorry.
-/
import Derived.Test.YtbbemgeinlehmaaDoorRows
import GoSem.ClaimSeven
namespace Go.Proofs.YtbbemgeinlehmaaDoor
namespace Rows

/-- THE TIED CARD OF 'touchstonelaw04.RatioMakes'. -/
def ratioMakesCard : Claim7 := { stood := { row := ratioMakesRow, standIns := [], harness := (true, "83f703c67f407523a6fdf1251f564fb42c39e2b99aa66b5b94e9b75e55f62e65"), looks := false }, kinds := [], alts := [], laidByText := true, laidKinds := [.data, .pinned], laidTests := true, laidLooks := .later }
def RatioMakesCardSaid : Prop := Claim7.holds Tryd.pinned (.plain (OpenSpec.ofChange ratioMakesSpec)) ratioMakesCard

/-- THE TIED CARD OF 'touchstonelaw04.RatioWhole'. -/
def ratioWholeCard : Claim7 := { stood := { row := ratioWholeRow, standIns := [], harness := (true, "83f703c67f407523a6fdf1251f564fb42c39e2b99aa66b5b94e9b75e55f62e65"), looks := false }, kinds := [], alts := [], laidByText := true, laidKinds := [.data, .pinned], laidTests := true, laidLooks := .later }
def RatioWholeCardSaid : Prop := Claim7.holds Tryd.pinned (.plain (OpenSpec.ofChange ratioWholeSpec)) ratioWholeCard

/-- THE SECOND FORM's CARD OF 'touchstonelaw04.RatioMakes'. -/
def ratioMakesUptoCard : Claim7 := { stood := { row := ratioMakesUptoRow, standIns := [], harness := (true, "83f703c67f407523a6fdf1251f564fb42c39e2b99aa66b5b94e9b75e55f62e65"), looks := false }, kinds := [], alts := [], laidByText := true, laidKinds := [.data, .pinned], laidTests := true, laidLooks := .later }
def RatioMakesUptoCardSaid : Prop := Claim7.holds Tryd.pinned (.plain (OpenSpec.upto ratioMakesSpec)) ratioMakesUptoCard

/-- THE SECOND FORM's CARD OF 'touchstonelaw04.RatioWhole'. -/
def ratioWholeUptoCard : Claim7 := { stood := { row := ratioWholeUptoRow, standIns := [], harness := (true, "83f703c67f407523a6fdf1251f564fb42c39e2b99aa66b5b94e9b75e55f62e65"), looks := false }, kinds := [], alts := [], laidByText := true, laidKinds := [.data, .pinned], laidTests := true, laidLooks := .later }
def RatioWholeUptoCardSaid : Prop := Claim7.holds Tryd.pinned (.plain (OpenSpec.upto ratioWholeSpec)) ratioWholeUptoCard
end Rows
end Go.Proofs.YtbbemgeinlehmaaDoor
