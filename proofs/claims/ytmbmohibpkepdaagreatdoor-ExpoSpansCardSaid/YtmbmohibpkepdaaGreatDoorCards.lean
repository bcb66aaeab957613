/-
  DERIVED. GIVEN WITH THE SEED: THE CARDS: each row of YtmbmohibpkepdaaGreatDoorRows.lean that lists a variable, with what it lists TIED to the program's text (the seventh form; the later family's looks); each row that meets fmt, with fmt's text TOLD by the authors' own Lean function (tested against real Go, not proved from fmt's source: count such statements apart). THE CARD IS WHAT COUNTS. Prove the row's statement (the work); the ties are given (YtmbmohibpkepdaaGreatDoorTie.lean); close each card by the builder's one call (the guide's Derived/Test/ToyasCard.lean, 'card_holds'). Laid BY PROGRAM, IN A SANDBOX (cutbox-door.mjs). By AI agents, Wed Nov 11 2026. No macro, syntax, notation, axiom, sorry.
-/
import Derived.Test.YtmbmohibpkepdaaGreatDoorRows
import GoSem.ClaimSeven
namespace Go.Proofs.YtmbmohibpkepdaaGreatDoor
namespace Rows

/-- THE TIED CARD OF 'volvellelaw05.ExpoAlone'. -/
def expoAloneCard : Claim7 := { stood := { row := expoAloneRow, standIns := [], harness := (true, "eb449a5fc1e8d401323e3f6fa2e0e3fab66bae1aa4bc65f5f74a92c1b3edbd84"), looks := false }, kinds := [], alts := [], laidByText := true, laidKinds := [.data], laidTests := true, laidLooks := .later }
def ExpoAloneCardSaid : Prop := Claim7.holds Tryz.pinned (.plain (OpenSpec.ofChange expoAloneSpec)) expoAloneCard

/-- THE TIED CARD OF 'volvellelaw05.ExpoSpans'. -/
def expoSpansCard : Claim7 := { stood := { row := expoSpansRow, standIns := [], harness := (true, "eb449a5fc1e8d401323e3f6fa2e0e3fab66bae1aa4bc65f5f74a92c1b3edbd84"), looks := false }, kinds := [], alts := [], laidByText := true, laidKinds := [.data], laidTests := true, laidLooks := .later }
def ExpoSpansCardSaid : Prop := Claim7.holds Tryz.pinned (.plain (OpenSpec.ofChange expoSpansSpec)) expoSpansCard

/-- THE TIED CARD OF 'volvellelaw05.ExpoRules'. -/
def expoRulesCard : Claim7 := { stood := { row := expoRulesRow, standIns := [], harness := (true, "eb449a5fc1e8d401323e3f6fa2e0e3fab66bae1aa4bc65f5f74a92c1b3edbd84"), looks := false }, kinds := [], alts := [], laidByText := true, laidKinds := [.data], laidTests := true, laidLooks := .later }
def ExpoRulesCardSaid : Prop := Claim7.holds Tryz.pinned (.plain (OpenSpec.ofChange expoRulesSpec)) expoRulesCard

/-- THE TIED CARD OF 'volvellelaw06.LogaAlone'. -/
def logaAloneCard : Claim7 := { stood := { row := logaAloneRow, standIns := [], harness := (true, "eb449a5fc1e8d401323e3f6fa2e0e3fab66bae1aa4bc65f5f74a92c1b3edbd84"), looks := false }, kinds := [], alts := [], laidByText := true, laidKinds := [.data], laidTests := true, laidLooks := .later }
def LogaAloneCardSaid : Prop := Claim7.holds Tryz.pinned (.plain (OpenSpec.ofChange logaAloneSpec)) logaAloneCard

/-- THE TIED CARD OF 'volvellelaw06.LogaSpans'. -/
def logaSpansCard : Claim7 := { stood := { row := logaSpansRow, standIns := [], harness := (true, "eb449a5fc1e8d401323e3f6fa2e0e3fab66bae1aa4bc65f5f74a92c1b3edbd84"), looks := false }, kinds := [], alts := [], laidByText := true, laidKinds := [.data], laidTests := true, laidLooks := .later }
def LogaSpansCardSaid : Prop := Claim7.holds Tryz.pinned (.plain (OpenSpec.ofChange logaSpansSpec)) logaSpansCard

/-- THE TIED CARD OF 'volvellelaw06.LogaRules'. -/
def logaRulesCard : Claim7 := { stood := { row := logaRulesRow, standIns := [], harness := (true, "eb449a5fc1e8d401323e3f6fa2e0e3fab66bae1aa4bc65f5f74a92c1b3edbd84"), looks := false }, kinds := [], alts := [], laidByText := true, laidKinds := [.data], laidTests := true, laidLooks := .later }
def LogaRulesCardSaid : Prop := Claim7.holds Tryz.pinned (.plain (OpenSpec.ofChange logaRulesSpec)) logaRulesCard

/-- THE SECOND FORM's CARD OF 'volvellelaw05.ExpoAlone'. -/
def expoAloneUptoCard : Claim7 := { stood := { row := expoAloneUptoRow, standIns := [], harness := (true, "eb449a5fc1e8d401323e3f6fa2e0e3fab66bae1aa4bc65f5f74a92c1b3edbd84"), looks := false }, kinds := [], alts := [], laidByText := true, laidKinds := [.data], laidTests := true, laidLooks := .later }
def ExpoAloneUptoCardSaid : Prop := Claim7.holds Tryz.pinned (.plain (OpenSpec.upto expoAloneSpec)) expoAloneUptoCard

/-- THE SECOND FORM's CARD OF 'volvellelaw05.ExpoSpans'. -/
def expoSpansUptoCard : Claim7 := { stood := { row := expoSpansUptoRow, standIns := [], harness := (true, "eb449a5fc1e8d401323e3f6fa2e0e3fab66bae1aa4bc65f5f74a92c1b3edbd84"), looks := false }, kinds := [], alts := [], laidByText := true, laidKinds := [.data], laidTests := true, laidLooks := .later }
def ExpoSpansUptoCardSaid : Prop := Claim7.holds Tryz.pinned (.plain (OpenSpec.upto expoSpansSpec)) expoSpansUptoCard

/-- THE SECOND FORM's CARD OF 'volvellelaw05.ExpoRules'. -/
def expoRulesUptoCard : Claim7 := { stood := { row := expoRulesUptoRow, standIns := [], harness := (true, "eb449a5fc1e8d401323e3f6fa2e0e3fab66bae1aa4bc65f5f74a92c1b3edbd84"), looks := false }, kinds := [], alts := [], laidByText := true, laidKinds := [.data], laidTests := true, laidLooks := .later }
def ExpoRulesUptoCardSaid : Prop := Claim7.holds Tryz.pinned (.plain (OpenSpec.upto expoRulesSpec)) expoRulesUptoCard

/-- THE SECOND FORM's CARD OF 'volvellelaw06.LogaAlone'. -/
def logaAloneUptoCard : Claim7 := { stood := { row := logaAloneUptoRow, standIns := [], harness := (true, "eb449a5fc1e8d401323e3f6fa2e0e3fab66bae1aa4bc65f5f74a92c1b3edbd84"), looks := false }, kinds := [], alts := [], laidByText := true, laidKinds := [.data], laidTests := true, laidLooks := .later }
def LogaAloneUptoCardSaid : Prop := Claim7.holds Tryz.pinned (.plain (OpenSpec.upto logaAloneSpec)) logaAloneUptoCard

/-- THE SECOND FORM's CARD OF 'volvellelaw06.LogaSpans'. -/
def logaSpansUptoCard : Claim7 := { stood := { row := logaSpansUptoRow, standIns := [], harness := (true, "eb449a5fc1e8d401323e3f6fa2e0e3fab66bae1aa4bc65f5f74a92c1b3edbd84"), looks := false }, kinds := [], alts := [], laidByText := true, laidKinds := [.data], laidTests := true, laidLooks := .later }
def LogaSpansUptoCardSaid : Prop := Claim7.holds Tryz.pinned (.plain (OpenSpec.upto logaSpansSpec)) logaSpansUptoCard

/-- THE SECOND FORM's CARD OF 'volvellelaw06.LogaRules'. -/
def logaRulesUptoCard : Claim7 := { stood := { row := logaRulesUptoRow, standIns := [], harness := (true, "eb449a5fc1e8d401323e3f6fa2e0e3fab66bae1aa4bc65f5f74a92c1b3edbd84"), looks := false }, kinds := [], alts := [], laidByText := true, laidKinds := [.data], laidTests := true, laidLooks := .later }
def LogaRulesUptoCardSaid : Prop := Claim7.holds Tryz.pinned (.plain (OpenSpec.upto logaRulesSpec)) logaRulesUptoCard
end Rows
end Go.Proofs.YtmbmohibpkepdaaGreatDoor
