/-
  nat.guess: the word that a quotient seems to be.
  nat.DivMod where the divisor is 0, is the greater one, or has one word.
-/
import Derived.Test.YtembfhepinfmnaaDoorShelf
import Derived.Deep.QuietTactic
import Derived.BigQuiet
import Derived.Deep.DeepCutAuto
import Derived.Deep.CutBlock
import Derived.Test.YtembfhepinfmnaaDoorPlPGNumbers
import Derived.Test.YtembfhepinfmnaaDoorPlPGLists
import Derived.Test.YtembfhepinfmnaaDoorPlPGNat1
import Derived.Test.YtembfhepinfmnaaDoorPlPGNat3
namespace Go.Proofs.YtembfhepinfmnaaDoor
open Go.RowKit

theorem GuessIs.mk {l0 l1 l2 d0 d1 q : Nat} (h1 : l2 < d1) (h2 : q < B64) (h3 : q = ((l2 * B64 + l1) * B64 + l0) / (d1 * B64 + d0)) : GuessIs l0 l1 l2 d0 d1 q := ⟨h2, .inr ⟨h1, h3⟩⟩
end Go.Proofs.YtembfhepinfmnaaDoor

namespace Go.Proofs.YtembfhepinfmnaaDoor
open Go.RowKit

/-- One word in a block of its own. -/
theorem one_sl (t : TypeId) (w : World) (r : Nat) (hr : r < B64) : Sl (w.alloc (.cells #[.int .u64 ((r : Nat) : Int)] t)) (some ⟨w.heap.size, 0, none⟩) 1 1 (fun _ => r) :=
  ⟨Nat.le_refl _, fun _ _ => hr, fun _ => ⟨_, rfl, by simp, fun j hj => by
    obtain rfl : j = 0 := by omega
    rw [add_mk, World.cell?_alloc_at _ _ _ _ rfl]; rfl⟩⟩
theorem vs_one (b r : Nat) : vs b (fun _ => r) 1 = r := by simp [vs]

end Go.Proofs.YtembfhepinfmnaaDoor
