/-
  volvelleref01.power: 2 to the n.
  volvelleref01.Sqrt: the root, bit by bit.
-/
import Derived.Test.YtmadojejafbpjaaGreatDoorPkNumbers
import Derived.Test.YtmadojejafbpjaaGreatDoorPkNat2
import Derived.Test.YtmadojejafbpjaaGreatDoorPkNat7
import Derived.Test.YtmadojejafbpjaaGreatDoorPkRef1
import Derived.Test.YtmadojejafbpjaaGreatDoorPkRef2
namespace Go.Proofs.YtmadojejafbpjaaGreatDoor
open Go.RowKit

theorem vs_single (W P : Nat) : vs B64 (upd (fun _ => 0) W P) (W + 1) = P * B64 ^ W := by
  rw [vs_succ, upd_same, vs_upd_ge _ _ _ _ _ (Nat.le_refl _)]
  have : ∀ k, vs B64 (fun _ => 0) k = 0 := fun k => by
    induction k with
    | zero => rfl
    | succ k ih => rw [vs_succ, ih, Nat.zero_mul]
  rw [this, Nat.zero_add]

end Go.Proofs.YtmadojejafbpjaaGreatDoor

namespace Go.Proofs.YtmadojejafbpjaaGreatDoor
open Go.RowKit

/-- The root lies from S on, below S and 2 to the k. -/
def Near (V S k : Nat) : Prop := S * S ≤ V ∧ V < (S + 2 ^ k) * (S + 2 ^ k)
theorem Near.start {V B : Nat} (h : IsBits V B) : Near V 0 ((B + 1) / 2 + 1) := by
  refine ⟨by omega, Nat.lt_of_lt_of_le h.1 ?_⟩
  rw [Nat.zero_add, ← Nat.pow_add]
  exact Nat.pow_le_pow_right (by omega) (by omega)
theorem Near.yes {V S k : Nat} (h : Near V S (k + 1)) (hle : (S + 2 ^ k) * (S + 2 ^ k) ≤ V) : Near V (S + 2 ^ k) k := by
  refine ⟨hle, ?_⟩
  have := h.2
  rw [Nat.pow_succ] at this
  rw [show S + 2 ^ k + 2 ^ k = S + 2 ^ k * 2 by omega]; exact this
theorem Near.no {V S k : Nat} (h : Near V S (k + 1)) (hlt : V < (S + 2 ^ k) * (S + 2 ^ k)) : Near V S k := ⟨h.1, hlt⟩
theorem Near.fin {V S : Nat} (h : Near V S 0) : IsRoot V S (V - S * S) := IsRoot.one h.1 h.2

end Go.Proofs.YtmadojejafbpjaaGreatDoor
