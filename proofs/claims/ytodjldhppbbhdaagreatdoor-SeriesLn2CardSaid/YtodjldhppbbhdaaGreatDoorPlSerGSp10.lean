/-
  products of two spans.
  Mul of the code.
-/
import Derived.Test.YtodjldhppbbhdaaGreatDoorPlSerGDy12
import Derived.Test.YtodjldhppbbhdaaGreatDoorPlSerGSp4
import Derived.Test.YtodjldhppbbhdaaGreatDoorPlSerGSp9
import Derived.Test.YtodjldhppbbhdaaGreatDoorPlSerGSp6
namespace Go.Proofs.YtodjldhppbbhdaaGreatDoor
open Go.RowKit

theorem KC.bel {T : TypeId} {w w' : World} {g B : Nat} {cs : Array Value} (h : KC T w g cs) (b : Below B w w') (hg : g < B) : KC T w' g cs := ⟨(b.block g hg).trans h.1, Nat.lt_of_lt_of_le h.2 b.size⟩
/-- A dyad in memory, plain. -/
structure DN (w : World) (A : Option Addr) (n c : Nat) (r : DR) : Prop where
  num : Num w (.slice A n c) r.m
  pl : PlainR r
theorem DN.below {w w' : World} {A : Option Addr} {n c : Nat} {r : DR} (h : DN w A n c r) (b : Below w.heap.size w w') : DN w' A n c r := ⟨h.num.below b, h.pl⟩
end Go.Proofs.YtodjldhppbbhdaaGreatDoor

namespace Go.Proofs.YtodjldhppbbhdaaGreatDoor
open Go.RowKit
variable {TW : TypeId}

/-- A product of two plain dyads: its size. -/
structure ProdB (r : DR) : Prop where
  bits : nb r.m ≤ 32768
  e1 : -524288 ≤ r.e
  e2 : r.e ≤ 524288
theorem ProdB.wide {r : DR} (h : ProdB r) : WideR r := ⟨by have := h.bits; omega, by have := h.e1; omega, by have := h.e2; omega⟩
end Go.Proofs.YtodjldhppbbhdaaGreatDoor
