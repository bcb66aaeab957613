/-
  volvellelaw02.awake: 1 over 3, and 1 and 3.
-/
import Derived.Test.YtilmbdbcgbndmaaDoorPlOGDy2
import Derived.Test.YtilmbdbcgbndmaaDoorPlOGDy4
namespace Go.Proofs.YtilmbdbcgbndmaaDoor
open Go.RowKit

theorem nb1 : nb 1 = 1 := nb_of (B := 0) (by decide) (by decide)
theorem fit_small {e : Int} (h : -100 ≤ e ∧ e ≤ 100) : fitE e := ⟨by omega, by omega⟩
theorem plain_one (r : Nat) (hr : r % 2 = 1) (hb : nb r ≤ 16384) : plainB false 1 (fun _ => r) 0 = true := by
  unfold plainB
  rw [if_neg (by omega)]
  have h0 : r ≠ 0 := by omega
  simp [hr, h0, vs_one, fit_small, hb, MB_eq]
abbrev cw (r : Nat) : Obj := .cells #[.int .u64 ((r : Nat) : Int)] 27
abbrev cd3 (a b c : Value) : Obj := .cells #[a, b, c] 24
theorem num_one {w : World} {A : Option Addr} {c r : Nat} (h : Sl w A 1 c (fun _ => r)) (h0 : r ≠ 0) : Num w (.slice A 1 c) r := ⟨A, 1, c, _, rfl, h, .inr h0, vs_one _ _⟩

end Go.Proofs.YtilmbdbcgbndmaaDoor
