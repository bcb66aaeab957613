/-
  DERIVED. GIVEN WITH THE SEED: THE CARDS: each row of YtilmbdbcgbndmaaDoorRows.lean that lists a variable, with what it lists TIED to the program's text (the seventh form; the later family's looks); each row that meets fmt, with fmt's text TOLD by the authors' own Lean function (tested against real Go, not proved from fmt's source: count such statements apart). THE CARD IS WHAT COUNTS. Prove the row's statement (the work); the ties are given (YtilmbdbcgbndmaaDoorTie.lean); close each card by the builder's one call (the guide's Derived/Test/ToyasCard.lean, 'card_holds'). Laid BY PROGRAM, IN A SANDBOX (cutbox-door.mjs). By AI agents, Wed Nov 11 2026. No macro, syntax, notation, axiom, sorry.
-/
import Derived.Test.YtilmbdbcgbndmaaDoorRows
import GoSem.ClaimSeven
namespace Go.Proofs.YtilmbdbcgbndmaaDoor
namespace Rows

/-- THE TIED CARD OF 'volvellelaw10.RoundExact'. -/
def roundExactCard : Claim7 := { stood := { row := roundExactRow, standIns := [], harness := (true, "63c797c8bceca10241941facc8444659380c25ffd3381bc9377f35a4aba35bd9"), looks := false }, kinds := [], alts := [], laidByText := true, laidKinds := [.data], laidTests := true, laidLooks := .later }
def RoundExactCardSaid : Prop := Claim7.holds Tryd.pinned (.plain (OpenSpec.ofChange roundExactSpec)) roundExactCard

/-- THE TIED CARD OF 'volvellelaw10.RoundAmong'. -/
def roundAmongCard : Claim7 := { stood := { row := roundAmongRow, standIns := [], harness := (true, "63c797c8bceca10241941facc8444659380c25ffd3381bc9377f35a4aba35bd9"), looks := false }, kinds := [], alts := [], laidByText := true, laidKinds := [.data], laidTests := true, laidLooks := .later }
def RoundAmongCardSaid : Prop := Claim7.holds Tryd.pinned (.plain (OpenSpec.ofChange roundAmongSpec)) roundAmongCard

/-- THE TIED CARD OF 'volvellelaw10.RoundStays'. -/
def roundStaysCard : Claim7 := { stood := { row := roundStaysRow, standIns := [], harness := (true, "63c797c8bceca10241941facc8444659380c25ffd3381bc9377f35a4aba35bd9"), looks := false }, kinds := [], alts := [], laidByText := true, laidKinds := [.data], laidTests := true, laidLooks := .later }
def RoundStaysCardSaid : Prop := Claim7.holds Tryd.pinned (.plain (OpenSpec.ofChange roundStaysSpec)) roundStaysCard

/-- THE TIED CARD OF 'volvellelaw10.RoundOrder'. -/
def roundOrderCard : Claim7 := { stood := { row := roundOrderRow, standIns := [], harness := (true, "63c797c8bceca10241941facc8444659380c25ffd3381bc9377f35a4aba35bd9"), looks := false }, kinds := [], alts := [], laidByText := true, laidKinds := [.data], laidTests := true, laidLooks := .later }
def RoundOrderCardSaid : Prop := Claim7.holds Tryd.pinned (.plain (OpenSpec.ofChange roundOrderSpec)) roundOrderCard

/-- THE SECOND FORM's CARD OF 'volvellelaw10.RoundExact'. -/
def roundExactUptoCard : Claim7 := { stood := { row := roundExactUptoRow, standIns := [], harness := (true, "63c797c8bceca10241941facc8444659380c25ffd3381bc9377f35a4aba35bd9"), looks := false }, kinds := [], alts := [], laidByText := true, laidKinds := [.data], laidTests := true, laidLooks := .later }
def RoundExactUptoCardSaid : Prop := Claim7.holds Tryd.pinned (.plain (OpenSpec.upto roundExactSpec)) roundExactUptoCard

/-- THE SECOND FORM's CARD OF 'volvellelaw10.RoundAmong'. -/
def roundAmongUptoCard : Claim7 := { stood := { row := roundAmongUptoRow, standIns := [], harness := (true, "63c797c8bceca10241941facc8444659380c25ffd3381bc9377f35a4aba35bd9"), looks := false }, kinds := [], alts := [], laidByText := true, laidKinds := [.data], laidTests := true, laidLooks := .later }
def RoundAmongUptoCardSaid : Prop := Claim7.holds Tryd.pinned (.plain (OpenSpec.upto roundAmongSpec)) roundAmongUptoCard

/-- THE SECOND FORM's CARD OF 'volvellelaw10.RoundStays'. -/
def roundStaysUptoCard : Claim7 := { stood := { row := roundStaysUptoRow, standIns := [], harness := (true, "63c797c8bceca10241941facc8444659380c25ffd3381bc9377f35a4aba35bd9"), looks := false }, kinds := [], alts := [], laidByText := true, laidKinds := [.data], laidTests := true, laidLooks := .later }
def RoundStaysUptoCardSaid : Prop := Claim7.holds Tryd.pinned (.plain (OpenSpec.upto roundStaysSpec)) roundStaysUptoCard

/-- THE SECOND FORM's CARD OF 'volvellelaw10.RoundOrder'. -/
def roundOrderUptoCard : Claim7 := { stood := { row := roundOrderUptoRow, standIns := [], harness := (true, "63c797c8bceca10241941facc8444659380c25ffd3381bc9377f35a4aba35bd9"), looks := false }, kinds := [], alts := [], laidByText := true, laidKinds := [.data], laidTests := true, laidLooks := .later }
def RoundOrderUptoCardSaid : Prop := Claim7.holds Tryd.pinned (.plain (OpenSpec.upto roundOrderSpec)) roundOrderUptoCard
end Rows
end Go.Proofs.YtilmbdbcgbndmaaDoor
