/-
  volvelleref02.Over, volvelleref02.Root.
-/
import Derived.Test.YtkjlkgfnjbickaaDoorPlBGNumbers
import Derived.Test.YtkjlkgfnjbickaaDoorPlBGDy2
import Derived.Test.YtkjlkgfnjbickaaDoorPlBGDy7
import Derived.Test.YtkjlkgfnjbickaaDoorPlBGDy8
import Derived.Test.YtkjlkgfnjbickaaDoorPlBGDy9
namespace Go.Proofs.YtkjlkgfnjbickaaDoor
open Go.RowKit

theorem nb_mono {V U : Nat} (h : V ≤ U) : nb V ≤ nb U := (nb_le_iff _ _).2 (Nat.lt_of_le_of_lt h (nb_lt U))
end Go.Proofs.YtkjlkgfnjbickaaDoor
