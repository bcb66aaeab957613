/-
  DERIVED. GIVEN WITH THE SEED: THE CARDS: each row of YtijdpmhcgmkjgaaDoorRows.lean that lists a variable, with what it lists TIED to the program's text (the seventh form; the later family's looks); each row that meets fmt, with fmt's text TOLD by the authors' own Lean function (tested against real Go, not proved from fmt's source: count such statements apart). THE CARD IS WHAT COUNTS. Prove the row's statement (the work); the ties are given (YtijdpmhcgmkjgaaDoorTie.lean); close each card by the builder's one call (the guide's Derived/Test/ToyasCard.lean, 'card_holds'). Laid BY PROGRAM, IN A SANDBOX (cutbox-door.mjs). By AI agents, Wed Nov 11 2026. No macro, syntax, notation, axiom, sorry.
-/
import Derived.Test.YtijdpmhcgmkjgaaDoorRows
import GoSem.ClaimSeven
namespace Go.Proofs.YtijdpmhcgmkjgaaDoor
namespace Rows

/-- THE TIED CARD OF 'volvellelaw02.DyadMakes'. -/
def dyadMakesCard : Claim7 := { stood := { row := dyadMakesRow, standIns := [], harness := (true, "6676eeb122f15c23d43552514e6334794b603703eba030d70f08780f91204016"), looks := false }, kinds := [], alts := [], laidByText := true, laidKinds := [.data], laidTests := true, laidLooks := .later }
def DyadMakesCardSaid : Prop := Claim7.holds Tryd.pinned (.plain (OpenSpec.ofChange dyadMakesSpec)) dyadMakesCard

/-- THE TIED CARD OF 'volvellelaw02.DyadOrders'. -/
def dyadOrdersCard : Claim7 := { stood := { row := dyadOrdersRow, standIns := [], harness := (true, "6676eeb122f15c23d43552514e6334794b603703eba030d70f08780f91204016"), looks := false }, kinds := [], alts := [], laidByText := true, laidKinds := [.data], laidTests := true, laidLooks := .later }
def DyadOrdersCardSaid : Prop := Claim7.holds Tryd.pinned (.plain (OpenSpec.ofChange dyadOrdersSpec)) dyadOrdersCard

/-- THE TIED CARD OF 'volvellelaw02.DyadSums'. -/
def dyadSumsCard : Claim7 := { stood := { row := dyadSumsRow, standIns := [], harness := (true, "6676eeb122f15c23d43552514e6334794b603703eba030d70f08780f91204016"), looks := false }, kinds := [], alts := [], laidByText := true, laidKinds := [.data], laidTests := true, laidLooks := .later }
def DyadSumsCardSaid : Prop := Claim7.holds Tryd.pinned (.plain (OpenSpec.ofChange dyadSumsSpec)) dyadSumsCard

/-- THE TIED CARD OF 'volvellelaw02.DyadCuts'. -/
def dyadCutsCard : Claim7 := { stood := { row := dyadCutsRow, standIns := [], harness := (true, "6676eeb122f15c23d43552514e6334794b603703eba030d70f08780f91204016"), looks := false }, kinds := [], alts := [], laidByText := true, laidKinds := [.data], laidTests := true, laidLooks := .later }
def DyadCutsCardSaid : Prop := Claim7.holds Tryd.pinned (.plain (OpenSpec.ofChange dyadCutsSpec)) dyadCutsCard

/-- THE TIED CARD OF 'volvellelaw02.DyadRoots'. -/
def dyadRootsCard : Claim7 := { stood := { row := dyadRootsRow, standIns := [], harness := (true, "6676eeb122f15c23d43552514e6334794b603703eba030d70f08780f91204016"), looks := false }, kinds := [], alts := [], laidByText := true, laidKinds := [.data], laidTests := true, laidLooks := .later }
def DyadRootsCardSaid : Prop := Claim7.holds Tryd.pinned (.plain (OpenSpec.ofChange dyadRootsSpec)) dyadRootsCard

/-- THE TIED CARD OF 'volvellelaw02.DyadEnclose'. -/
def dyadEncloseCard : Claim7 := { stood := { row := dyadEncloseRow, standIns := [], harness := (true, "6676eeb122f15c23d43552514e6334794b603703eba030d70f08780f91204016"), looks := false }, kinds := [], alts := [], laidByText := true, laidKinds := [.data], laidTests := true, laidLooks := .later }
def DyadEncloseCardSaid : Prop := Claim7.holds Tryd.pinned (.plain (OpenSpec.ofChange dyadEncloseSpec)) dyadEncloseCard

/-- THE TIED CARD OF 'volvellelaw03.SpanOthers'. -/
def spanOthersCard : Claim7 := { stood := { row := spanOthersRow, standIns := [], harness := (true, "6676eeb122f15c23d43552514e6334794b603703eba030d70f08780f91204016"), looks := false }, kinds := [], alts := [], laidByText := true, laidKinds := [.data], laidTests := true, laidLooks := .later }
def SpanOthersCardSaid : Prop := Claim7.holds Tryd.pinned (.plain (OpenSpec.ofChange spanOthersSpec)) spanOthersCard

/-- THE SECOND FORM's CARD OF 'volvellelaw02.DyadMakes'. -/
def dyadMakesUptoCard : Claim7 := { stood := { row := dyadMakesUptoRow, standIns := [], harness := (true, "6676eeb122f15c23d43552514e6334794b603703eba030d70f08780f91204016"), looks := false }, kinds := [], alts := [], laidByText := true, laidKinds := [.data], laidTests := true, laidLooks := .later }
def DyadMakesUptoCardSaid : Prop := Claim7.holds Tryd.pinned (.plain (OpenSpec.upto dyadMakesSpec)) dyadMakesUptoCard

/-- THE SECOND FORM's CARD OF 'volvellelaw02.DyadOrders'. -/
def dyadOrdersUptoCard : Claim7 := { stood := { row := dyadOrdersUptoRow, standIns := [], harness := (true, "6676eeb122f15c23d43552514e6334794b603703eba030d70f08780f91204016"), looks := false }, kinds := [], alts := [], laidByText := true, laidKinds := [.data], laidTests := true, laidLooks := .later }
def DyadOrdersUptoCardSaid : Prop := Claim7.holds Tryd.pinned (.plain (OpenSpec.upto dyadOrdersSpec)) dyadOrdersUptoCard

/-- THE SECOND FORM's CARD OF 'volvellelaw02.DyadSums'. -/
def dyadSumsUptoCard : Claim7 := { stood := { row := dyadSumsUptoRow, standIns := [], harness := (true, "6676eeb122f15c23d43552514e6334794b603703eba030d70f08780f91204016"), looks := false }, kinds := [], alts := [], laidByText := true, laidKinds := [.data], laidTests := true, laidLooks := .later }
def DyadSumsUptoCardSaid : Prop := Claim7.holds Tryd.pinned (.plain (OpenSpec.upto dyadSumsSpec)) dyadSumsUptoCard

/-- THE SECOND FORM's CARD OF 'volvellelaw02.DyadCuts'. -/
def dyadCutsUptoCard : Claim7 := { stood := { row := dyadCutsUptoRow, standIns := [], harness := (true, "6676eeb122f15c23d43552514e6334794b603703eba030d70f08780f91204016"), looks := false }, kinds := [], alts := [], laidByText := true, laidKinds := [.data], laidTests := true, laidLooks := .later }
def DyadCutsUptoCardSaid : Prop := Claim7.holds Tryd.pinned (.plain (OpenSpec.upto dyadCutsSpec)) dyadCutsUptoCard

/-- THE SECOND FORM's CARD OF 'volvellelaw02.DyadRoots'. -/
def dyadRootsUptoCard : Claim7 := { stood := { row := dyadRootsUptoRow, standIns := [], harness := (true, "6676eeb122f15c23d43552514e6334794b603703eba030d70f08780f91204016"), looks := false }, kinds := [], alts := [], laidByText := true, laidKinds := [.data], laidTests := true, laidLooks := .later }
def DyadRootsUptoCardSaid : Prop := Claim7.holds Tryd.pinned (.plain (OpenSpec.upto dyadRootsSpec)) dyadRootsUptoCard

/-- THE SECOND FORM's CARD OF 'volvellelaw02.DyadEnclose'. -/
def dyadEncloseUptoCard : Claim7 := { stood := { row := dyadEncloseUptoRow, standIns := [], harness := (true, "6676eeb122f15c23d43552514e6334794b603703eba030d70f08780f91204016"), looks := false }, kinds := [], alts := [], laidByText := true, laidKinds := [.data], laidTests := true, laidLooks := .later }
def DyadEncloseUptoCardSaid : Prop := Claim7.holds Tryd.pinned (.plain (OpenSpec.upto dyadEncloseSpec)) dyadEncloseUptoCard

/-- THE SECOND FORM's CARD OF 'volvellelaw03.SpanOthers'. -/
def spanOthersUptoCard : Claim7 := { stood := { row := spanOthersUptoRow, standIns := [], harness := (true, "6676eeb122f15c23d43552514e6334794b603703eba030d70f08780f91204016"), looks := false }, kinds := [], alts := [], laidByText := true, laidKinds := [.data], laidTests := true, laidLooks := .later }
def SpanOthersUptoCardSaid : Prop := Claim7.holds Tryd.pinned (.plain (OpenSpec.upto spanOthersSpec)) spanOthersUptoCard
end Rows
end Go.Proofs.YtijdpmhcgmkjgaaDoor
