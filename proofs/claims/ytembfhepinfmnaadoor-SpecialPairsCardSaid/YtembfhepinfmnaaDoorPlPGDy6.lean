/-
  volvellelaw02.awake: 1 over 3, and 1 and 3.
-/
import Derived.Test.YtembfhepinfmnaaDoorPlPGDy2
import Derived.Test.YtembfhepinfmnaaDoorPlPGDy4
namespace Go.Proofs.YtembfhepinfmnaaDoor
open Go.RowKit

theorem fit_small {e : Int} (h : -100 ≤ e ∧ e ≤ 100) : fitE e := ⟨by omega, by omega⟩
abbrev cw (r : Nat) : Obj := .cells #[.int .u64 ((r : Nat) : Int)] 22
abbrev cd3 (a b c : Value) : Obj := .cells #[a, b, c] 52
end Go.Proofs.YtembfhepinfmnaaDoor
