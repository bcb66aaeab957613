/-
  dyad.Sum: the sum of a list of dyads.
-/
import Derived.RegionTactic
import Derived.Test.YtodjldhppbbhdaaGreatDoorPlSerGDy2
import Derived.Test.YtodjldhppbbhdaaGreatDoorPlSerGDy3
namespace Go.Proofs.YtodjldhppbbhdaaGreatDoor
open Go.RowKit

/-- Are the first k plain? -/
def allP (l : DL) : Nat → Bool
  | 0 => true
  | k + 1 => allP l k && plainB (l.ng k) (l.n k) (l.x k) (l.e k)
theorem allP_true {l : DL} {k : Nat} (h : allP l k = true) : ∀ j, j < k → plainB (l.ng j) (l.n j) (l.x j) (l.e j) = true := by
  induction k with
  | zero => intro j hj; omega
  | succ k ih =>
    intro j hj
    simp only [allP, Bool.and_eq_true] at h
    rcases Nat.lt_or_ge j k with h1 | h1
    · exact ih h.1 j h1
    · obtain rfl : j = k := by omega
      exact h.2
theorem allP_false {l : DL} {k j : Nat} (hj : j < k) (h : plainB (l.ng j) (l.n j) (l.x j) (l.e j) = false) : allP l k = false := by
  cases hp : allP l k with
  | false => rfl
  | true => rw [allP_true hp j hj] at h; cases h

/-- The world of a call with nothing but the place of its answer. -/
structure F1 (w w1 : World) : Prop where
  bel : Below w.heap.size w w1
  kr : Blk3 w1 w.heap.size (.bool false) (.slice none 0 0) (.int .i64 0)
  sz : w.heap.size + 1 ≤ w1.heap.size
  tab0 : Tab w
theorem F1.tab {w w1 : World} (h : F1 w w1) : Tab w1 := h.tab0.below h.bel
theorem F1.adv {w w1 w2 : World} (h : F1 w w1) {B : Nat} (b : Below B w1 w2) (hB : w.heap.size + 1 ≤ B) : F1 w w2 := by
  have h1 : Below (w.heap.size + 1) w1 w2 := b.mono hB
  exact ⟨h.bel.trans (h1.mono (by omega)), h.kr.below h1 (by omega), Nat.le_trans h.sz b.size, h.tab0⟩
theorem F1.start (w : World) (hT : Tab w) : F1 w (w.alloc (.cells #[.bool false, .slice none 0 0, .int .i64 0] 27)) := by
  have b : Below w.heap.size w (w.alloc (.cells #[.bool false, .slice none 0 0, .int .i64 0] 27)) := (Below.refl _ w).alloc (Nat.le_refl _) _
  exact ⟨b, Blk3.made w _ _ _, by simp, hT⟩

end Go.Proofs.YtodjldhppbbhdaaGreatDoor
