/-
 volvelleref02: away, cutting, Cut.
 volvelleref02.Over, volvelleref02.Root.
-/
import Derived.Test.YtmbmohibpkepdaaGreatDoorPlEGDy5
import Derived.Test.YtmbmohibpkepdaaGreatDoorPlEGDy8
import Derived.Test.YtmbmohibpkepdaaGreatDoorPlEGDy9
import Derived.Test.YtmbmohibpkepdaaGreatDoorPlEGDy7
namespace Go.Proofs.YtmbmohibpkepdaaGreatDoor
open Go.RowKit
theorem nb_succ_le (V:Nat):nb (V+1)≤nb V+1:=by
 have:=nb_lt V
 refine (nb_le_iff _ _).2 ?_
 rw [Nat.pow_succ];omega
end Go.Proofs.YtmbmohibpkepdaaGreatDoor
namespace Go.Proofs.YtmbmohibpkepdaaGreatDoor
open Go.RowKit
theorem nb_mono {V U:Nat} (h:V≤U):nb V≤nb U:=(nb_le_iff _ _).2 (Nat.lt_of_le_of_lt h (nb_lt U))
end Go.Proofs.YtmbmohibpkepdaaGreatDoor
