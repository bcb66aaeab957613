/-
  volvellelaw02.awake: 1 over 3, and 1 and 3.
-/
import Derived.Test.YtodjldhppbbhdaaGreatDoorPlSerGDy2
import Derived.Test.YtodjldhppbbhdaaGreatDoorPlSerGDy4
import Derived.Test.YtodjldhppbbhdaaGreatDoorPlSerGDy5
namespace Go.Proofs.YtodjldhppbbhdaaGreatDoor
open Go.RowKit

theorem nb1 : nb 1 = 1 := nb_of (B := 0) (by decide) (by decide)
abbrev cd3 (a b c : Value) : Obj := .cells #[a, b, c] 27
end Go.Proofs.YtodjldhppbbhdaaGreatDoor
