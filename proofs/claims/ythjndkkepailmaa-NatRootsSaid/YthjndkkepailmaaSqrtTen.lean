/-
  The first test of the laws on roots: nat.Sqrt of 10.
-/
import Derived.Test.YthjndkkepailmaaRoot4
import Derived.Test.YthjndkkepailmaaFew
namespace Go.Proofs.Ythjndkkepailmaa
open Go.RowKit

theorem only_cells (w : World) (t : TypeId) (A : Option Addr) (n c : Nat) : ∀ j, j < 1 → (w.alloc (.cells #[.slice A n c] t)).cell? ⟨w.heap.size, j, none⟩ = some (.slice A n c) := fun j hj => by
  obtain rfl : j = 0 := by omega
  rw [World.cell?_alloc_at _ _ _ _ rfl]
  rfl
theorem root_ten {s r : Nat} (h : IsRoot 10 s r) : s = 3 := (h.unique (s' := 3) (r' := 1) ⟨rfl, by omega⟩).1
def TenPost (w : World) (e : Ending) (w' : World) : Prop := ∃ A c u, e = .returned (.tuple #[.slice A 1 c, u]) ∧ Sl w' A 1 c (fun _ => 3) ∧ Below w.heap.size w w'
theorem sqrt_ten (w : World) : Calls Try.prog 5 #[.slice (some ⟨w.heap.size, 0, none⟩) 1 1] (w.alloc (.cells #[.int .u64 10] 25)) (TenPost w) := by
  have o := one_sl 25 w 10 (by unfold B64; omega)
  have S := sqrt_any _ 1 1 _ _ o (by omega)
  rw [vs_one] at S
  refine S.mono ?_
  rintro e w1 ⟨v, u, s, r, rfl, n1, n2, hr, b1⟩
  obtain rfl := root_ten hr
  obtain ⟨A, c, rfl, hs⟩ := n1.one (by omega) (by unfold B64; omega)
  exact ⟨A, c, u, rfl, hs, ((Below.refl _ w).alloc (Nat.le_refl _) _).trans (b1.mono (by simp))⟩
end Go.Proofs.Ythjndkkepailmaa
