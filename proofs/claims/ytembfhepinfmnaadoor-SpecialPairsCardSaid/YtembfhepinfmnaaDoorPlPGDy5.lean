/-
  dyad.Neg and volvelleref02.Neg.
-/
import Derived.Test.YtembfhepinfmnaaDoorPlPGDy2
namespace Go.Proofs.YtembfhepinfmnaaDoor
open Go.RowKit

theorem Blk3.other {w : World} {g g' i : Nat} {a b c : Value} (h : Blk3 w g' a b c) (u : Value) (hne : g' ≠ g) : Blk3 (w.setCell ⟨g, i, none⟩ u) g' a b c :=
  (Below.heap_setCell w _ u g' (by simpa using hne)).trans h
end Go.Proofs.YtembfhepinfmnaaDoor
