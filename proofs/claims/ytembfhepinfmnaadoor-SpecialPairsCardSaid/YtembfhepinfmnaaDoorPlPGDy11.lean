/-
  volvellelaw02.Few: numbers of up to 40 words, with exponents of up to 20000 either way.
  What a law's walk keeps: structs in blocks of their own; bounds of what is answered.
-/
import Derived.Test.YtembfhepinfmnaaDoorPlPGDy3
import Derived.Test.YtembfhepinfmnaaDoorPlPGDy6
import Derived.Test.YtembfhepinfmnaaDoorPlPGDy10
namespace Go.Proofs.YtembfhepinfmnaaDoor
open Go.RowKit

abbrev c6 (na nb' : Bool) (A B : Option Addr) (n m c d : Nat) (ea eb : Int) : Obj := .cells #[.bool na, .slice A n c, .int .i64 ea, .bool nb', .slice B m d, .int .i64 eb] 52
end Go.Proofs.YtembfhepinfmnaaDoor

namespace Go.Proofs.YtembfhepinfmnaaDoor
open Go.RowKit

/-- A dyad (a job) in a block of its own, in memory. -/
def K3 (w : World) (g : Nat) (a b c : Value) : Prop := Blk3 w g a b c ∧ g < w.heap.size
theorem K3.adv {w w' : World} {g : Nat} {a b c : Value} (h : K3 w g a b c) (hb : Below w.heap.size w w') : K3 w' g a b c := ⟨h.1.below hb h.2, Nat.lt_of_lt_of_le h.2 hb.size⟩
theorem K3.cell {w : World} {g : Nat} {a b c : Value} (h : K3 w g a b c) : w.cell? ⟨g, 0, none⟩ = some a ∧ w.cell? ⟨g, 1, none⟩ = some b ∧ w.cell? ⟨g, 2, none⟩ = some c ∧ g < w.heap.size := ⟨h.1.cell.1, h.1.cell.2.1, h.1.cell.2.2, h.2⟩
theorem K3.made (w : World) (a b c : Value) : K3 (w.alloc (cd3 a b c)) w.heap.size a b c := ⟨Blk3.made w a b c, by simp⟩
theorem alloc_bel (w : World) (o : Obj) : Below w.heap.size w (w.alloc o) := (Below.refl _ w).alloc (Nat.le_refl _) _
theorem below_step {w w1 w2 : World} (h : Below w.heap.size w w1) (b : Below w1.heap.size w1 w2) : Below w.heap.size w w2 := h.trans (b.mono h.size)

/-- What a call answers, with the list of words named. -/
def DP (w : World) (r : DR) (e : Ending) (w' : World) : Prop := ∃ A p c, e = .returned (.tuple #[.agg #[.bool r.neg, .slice A p c, .int .i64 r.e], .bool r.ok]) ∧ Num w' (.slice A p c) r.m ∧ Below w.heap.size w w'
theorem DPost.dp {w w' : World} {r : DR} {e : Ending} (h : DPost w r e w') : DP w r e w' := by
  obtain ⟨v, rfl, ⟨A, n, c, f, rfl, hm⟩, b⟩ := h
  exact ⟨A, n, c, rfl, ⟨A, n, c, f, rfl, hm⟩, b⟩
end Go.Proofs.YtembfhepinfmnaaDoor
