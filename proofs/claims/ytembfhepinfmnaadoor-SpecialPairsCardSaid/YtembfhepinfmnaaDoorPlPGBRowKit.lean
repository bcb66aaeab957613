/-
  A word as it comes in through a row.
-/
import Derived.Test.YtembfhepinfmnaaDoorPlPGRowKits
namespace Go.Proofs.YtembfhepinfmnaaDoor
open Go.ChangeShapes Go.WideShapes Go.ChangeAt Go.RowKit Go.Joins

theorem word_wf {z : Int} (h : (Lit.int .u64 z).wf = true) : ∃ b : Nat, z = (b : Int) ∧ b < B64 := by
  have h2 : 0 ≤ z ∧ z ≤ 18446744073709551615 := by simpa [Lit.wf, IntKind.min, IntKind.max, IntKind.signed, IntKind.bits] using h
  exact ⟨z.toNat, by omega, by unfold B64; omega⟩
end Go.Proofs.YtembfhepinfmnaaDoor
