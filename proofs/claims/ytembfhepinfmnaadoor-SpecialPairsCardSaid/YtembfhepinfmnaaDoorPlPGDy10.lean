/-
  volvelleref02.Over, volvelleref02.Root.
-/
import Derived.Deep.QuietTactic
import Derived.BigQuiet
import Derived.Test.YtembfhepinfmnaaDoorPlPGNumbers
import Derived.Test.YtembfhepinfmnaaDoorPlPGDy2
import Derived.Test.YtembfhepinfmnaaDoorPlPGDy4
import Derived.Test.YtembfhepinfmnaaDoorPlPGDy5
import Derived.Test.YtembfhepinfmnaaDoorPlPGDy8
import Derived.Test.YtembfhepinfmnaaDoorPlPGDy9
namespace Go.Proofs.YtembfhepinfmnaaDoor
open Go.RowKit

theorem nb_mono {V U : Nat} (h : V ≤ U) : nb V ≤ nb U := (nb_le_iff _ _).2 (Nat.lt_of_le_of_lt h (nb_lt U))
end Go.Proofs.YtembfhepinfmnaaDoor
