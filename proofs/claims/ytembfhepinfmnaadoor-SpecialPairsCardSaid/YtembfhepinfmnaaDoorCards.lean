/-
  DERIVED. GIVEN WITH THE SEED: THE CARDS: each row of YtembfhepinfmnaaDoorRows.lean that lists a variable, with what it lists TIED to the program's text (the seventh form; the later family's looks); each row that meets fmt, with fmt's text TOLD by the authors' own Lean function (tested against real Go, not proved from fmt's source: count such statements apart). THE CARD IS WHAT COUNTS. Prove the row's statement (the work); the ties are given (YtembfhepinfmnaaDoorTie.lean); close each card by the builder's one call (the guide's Derived/Test/ToyasCard.lean, 'card_holds'). Laid BY PROGRAM, IN A SANDBOX (cutbox-door.mjs). By AI agents, Wed Nov 11 2026. No macro, syntax, notation, axiom, sorry.
-/
import Derived.Test.YtembfhepinfmnaaDoorRows
import GoSem.ClaimSeven
namespace Go.Proofs.YtembfhepinfmnaaDoor
namespace Rows

/-- THE TIED CARD OF 'volvellelaw13.SpecialTold'. -/
def specialToldCard : Claim7 := { stood := { row := specialToldRow, standIns := [], harness := (true, "de9b1c4e9d6694a7692f1b4f2b3bfe0e3e03c8fb34eae02d0cfdbb02f7ab2cdf"), looks := false }, kinds := [], alts := [], laidByText := true, laidKinds := [.data], laidTests := true, laidLooks := .later }
def SpecialToldCardSaid : Prop := Claim7.holds Tryd.pinned (.plain (OpenSpec.ofChange specialToldSpec)) specialToldCard

/-- THE TIED CARD OF 'volvellelaw13.SpecialOne'. -/
def specialOneCard : Claim7 := { stood := { row := specialOneRow, standIns := [], harness := (true, "de9b1c4e9d6694a7692f1b4f2b3bfe0e3e03c8fb34eae02d0cfdbb02f7ab2cdf"), looks := false }, kinds := [], alts := [], laidByText := true, laidKinds := [.data], laidTests := true, laidLooks := .later }
def SpecialOneCardSaid : Prop := Claim7.holds Tryd.pinned (.plain (OpenSpec.ofChange specialOneSpec)) specialOneCard

/-- THE TIED CARD OF 'volvellelaw13.SpecialPairs'. -/
def specialPairsCard : Claim7 := { stood := { row := specialPairsRow, standIns := [], harness := (true, "de9b1c4e9d6694a7692f1b4f2b3bfe0e3e03c8fb34eae02d0cfdbb02f7ab2cdf"), looks := false }, kinds := [], alts := [], laidByText := true, laidKinds := [.data], laidTests := true, laidLooks := .later }
def SpecialPairsCardSaid : Prop := Claim7.holds Tryd.pinned (.plain (OpenSpec.ofChange specialPairsSpec)) specialPairsCard

/-- THE SECOND FORM's CARD OF 'volvellelaw13.SpecialTold'. -/
def specialToldUptoCard : Claim7 := { stood := { row := specialToldUptoRow, standIns := [], harness := (true, "de9b1c4e9d6694a7692f1b4f2b3bfe0e3e03c8fb34eae02d0cfdbb02f7ab2cdf"), looks := false }, kinds := [], alts := [], laidByText := true, laidKinds := [.data], laidTests := true, laidLooks := .later }
def SpecialToldUptoCardSaid : Prop := Claim7.holds Tryd.pinned (.plain (OpenSpec.upto specialToldSpec)) specialToldUptoCard

/-- THE SECOND FORM's CARD OF 'volvellelaw13.SpecialOne'. -/
def specialOneUptoCard : Claim7 := { stood := { row := specialOneUptoRow, standIns := [], harness := (true, "de9b1c4e9d6694a7692f1b4f2b3bfe0e3e03c8fb34eae02d0cfdbb02f7ab2cdf"), looks := false }, kinds := [], alts := [], laidByText := true, laidKinds := [.data], laidTests := true, laidLooks := .later }
def SpecialOneUptoCardSaid : Prop := Claim7.holds Tryd.pinned (.plain (OpenSpec.upto specialOneSpec)) specialOneUptoCard

/-- THE SECOND FORM's CARD OF 'volvellelaw13.SpecialPairs'. -/
def specialPairsUptoCard : Claim7 := { stood := { row := specialPairsUptoRow, standIns := [], harness := (true, "de9b1c4e9d6694a7692f1b4f2b3bfe0e3e03c8fb34eae02d0cfdbb02f7ab2cdf"), looks := false }, kinds := [], alts := [], laidByText := true, laidKinds := [.data], laidTests := true, laidLooks := .later }
def SpecialPairsUptoCardSaid : Prop := Claim7.holds Tryd.pinned (.plain (OpenSpec.upto specialPairsSpec)) specialPairsUptoCard
end Rows
end Go.Proofs.YtembfhepinfmnaaDoor
