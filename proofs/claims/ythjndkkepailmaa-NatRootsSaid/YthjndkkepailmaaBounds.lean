/-
  Sizes of sums and products; how many words a number has.
-/
import Derived.Test.YthjndkkepailmaaCmp
namespace Go.Proofs.Ythjndkkepailmaa
open Go.RowKit

theorem sum_bound {X Y K : Nat} (hX : X < B64 ^ K) (hY : Y < B64 ^ K) : X + Y < B64 ^ (K + 1) := by
  rw [Nat.pow_succ]
  have h1 : B64 ^ K * 2 ≤ B64 ^ K * B64 := Nat.mul_le_mul_left _ B64_gt
  omega

theorem mul_bound {X Y K : Nat} (hX : X < B64 ^ K) (hY : Y < B64 ^ K) : X * Y < B64 ^ (2 * K) := by
  rw [show 2 * K = K + K by omega, Nat.pow_add]
  exact Nat.mul_lt_mul'' hX hY

theorem Num.sl {w : World} {v : Value} {V K : Nat} (h : Num w v V) (hK : V < B64 ^ K) : ∃ A n c f, v = .slice A n c ∧ Sl w A n c f ∧ n ≤ K ∧ vs B64 f n = V := by
  obtain ⟨A, n, c, f, hv, hs, hc, he⟩ := h
  exact ⟨A, n, c, f, hv, hs, cn_le B64_gt hc (by rw [he]; exact hK), he⟩
end Go.Proofs.Ythjndkkepailmaa
