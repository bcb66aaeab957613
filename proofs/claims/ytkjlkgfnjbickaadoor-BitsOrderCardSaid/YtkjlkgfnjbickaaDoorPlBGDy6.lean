/-
  volvellelaw02.awake: 1 over 3, and 1 and 3.
-/
import Derived.Test.YtkjlkgfnjbickaaDoorPlBGDy2
import Derived.Test.YtkjlkgfnjbickaaDoorPlBGDy4
namespace Go.Proofs.YtkjlkgfnjbickaaDoor
open Go.RowKit

theorem nb3 : nb 3 = 2 := nb_of (B := 1) (by decide) (by decide)
theorem fit_small {e : Int} (h : -100 ≤ e ∧ e ≤ 100) : fitE e := ⟨by omega, by omega⟩
abbrev cw (r : Nat) : Obj := .cells #[.int .u64 ((r : Nat) : Int)] 22
abbrev cd3 (a b c : Value) : Obj := .cells #[a, b, c] 26
theorem num_one {w : World} {A : Option Addr} {c r : Nat} (h : Sl w A 1 c (fun _ => r)) (h0 : r ≠ 0) : Num w (.slice A 1 c) r := ⟨A, 1, c, _, rfl, h, .inr h0, vs_one _ _⟩

end Go.Proofs.YtkjlkgfnjbickaaDoor
