/-
  volvelleref02: away, cutting, Cut.
  volvelleref02.Over, volvelleref02.Root.
-/
import Derived.Test.YtilmbdbcgbndmaaDoorPlOGNumbers
import Derived.Test.YtilmbdbcgbndmaaDoorPlOGDy2
import Derived.Test.YtilmbdbcgbndmaaDoorPlOGDy7
import Derived.Test.YtilmbdbcgbndmaaDoorPlOGDy8
import Derived.Test.YtilmbdbcgbndmaaDoorPlOGDy9
namespace Go.Proofs.YtilmbdbcgbndmaaDoor
open Go.RowKit

theorem rmakeN {v : Value} {V : Nat} (neg : Bool) (e : Int) (w : World) (h : Num w v V) (hV : nb V ≤ 1000000) (hT : Tab w) (he1 : -9223372036854775808 ≤ e) (he2 : e ≤ 9223372036854775807) :
    Calls Tryd.prog 29 #[.bool neg, v, .int .i64 e] w (DPost w (mkD neg V e)) := by
  obtain ⟨A, n, c, f, rfl, hs, hn, _, rfl⟩ := h.raw 15625 (by omega)
  exact rmake_any neg A n c f e w hs (by omega) hT he1 he2
theorem nb_succ_le (V : Nat) : nb (V + 1) ≤ nb V + 1 := by
  have := nb_lt V
  refine (nb_le_iff _ _).2 ?_
  rw [Nat.pow_succ]; omega

end Go.Proofs.YtilmbdbcgbndmaaDoor

namespace Go.Proofs.YtilmbdbcgbndmaaDoor
open Go.RowKit

theorem nb_mono {V U : Nat} (h : V ≤ U) : nb V ≤ nb U := (nb_le_iff _ _).2 (Nat.lt_of_le_of_lt h (nb_lt U))
end Go.Proofs.YtilmbdbcgbndmaaDoor
