/-
  volvelleref01.Sqrt: the root, bit by bit.
-/
import Derived.Test.YtembfhepinfmnaaDoorPlPGNumbers
import Derived.Test.YtembfhepinfmnaaDoorPlPGNat1
import Derived.Test.YtembfhepinfmnaaDoorPlPGNat2
import Derived.Test.YtembfhepinfmnaaDoorPlPGNat7
import Derived.Test.YtembfhepinfmnaaDoorPlPGRef1
import Derived.Test.YtembfhepinfmnaaDoorPlPGRef2
namespace Go.Proofs.YtembfhepinfmnaaDoor
open Go.RowKit

/-- The root lies from S on, below S and 2 to the k. -/
def Near (V S k : Nat) : Prop := S * S ≤ V ∧ V < (S + 2 ^ k) * (S + 2 ^ k)
theorem Near.start {V B : Nat} (h : IsBits V B) : Near V 0 ((B + 1) / 2 + 1) := by
  refine ⟨by omega, Nat.lt_of_lt_of_le h.1 ?_⟩
  rw [Nat.zero_add, ← Nat.pow_add]
  exact Nat.pow_le_pow_right (by omega) (by omega)
theorem Near.no {V S k : Nat} (h : Near V S (k + 1)) (hlt : V < (S + 2 ^ k) * (S + 2 ^ k)) : Near V S k := ⟨h.1, hlt⟩
end Go.Proofs.YtembfhepinfmnaaDoor
