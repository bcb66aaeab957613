/-
  dyad.Sum: the sum of a list of dyads.
-/
import Derived.RegionTactic
import Derived.Test.YtembfhepinfmnaaDoorPlPGDy2
import Derived.Test.YtembfhepinfmnaaDoorPlPGDy3
namespace Go.Proofs.YtembfhepinfmnaaDoor
open Go.RowKit

/-- The world of a call with nothing but the place of its answer. -/
structure F1 (w w1 : World) : Prop where
  bel : Below w.heap.size w w1
  kr : Blk3 w1 w.heap.size (.bool false) (.slice none 0 0) (.int .i64 0)
  sz : w.heap.size + 1 ≤ w1.heap.size
  tab0 : Tab w
theorem F1.tab {w w1 : World} (h : F1 w w1) : Tab w1 := h.tab0.below h.bel
theorem F1.adv {w w1 w2 : World} (h : F1 w w1) {B : Nat} (b : Below B w1 w2) (hB : w.heap.size + 1 ≤ B) : F1 w w2 := by
  have h1 : Below (w.heap.size + 1) w1 w2 := b.mono hB
  exact ⟨h.bel.trans (h1.mono (by omega)), h.kr.below h1 (by omega), Nat.le_trans h.sz b.size, h.tab0⟩
theorem F1.start (w : World) (hT : Tab w) : F1 w (w.alloc (.cells #[.bool false, .slice none 0 0, .int .i64 0] 52)) := by
  have b : Below w.heap.size w (w.alloc (.cells #[.bool false, .slice none 0 0, .int .i64 0] 52)) := (Below.refl _ w).alloc (Nat.le_refl _) _
  exact ⟨b, Blk3.made w _ _ _, by simp, hT⟩

end Go.Proofs.YtembfhepinfmnaaDoor
