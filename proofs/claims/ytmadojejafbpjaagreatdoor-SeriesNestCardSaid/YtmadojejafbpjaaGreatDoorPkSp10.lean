/-
  product, either, above.
  top, greaterSize.
  products of two spans.
  products of any two spans.
  Mul of the code.
-/
import Derived.Test.YtmadojejafbpjaaGreatDoorPkDy12
import Derived.Test.YtmadojejafbpjaaGreatDoorPkSp4
import Derived.Test.YtmadojejafbpjaaGreatDoorPkSp9
import Derived.Test.YtmadojejafbpjaaGreatDoorPkSp6
namespace Go.Proofs.YtmadojejafbpjaaGreatDoor
open Go.RowKit

/-- The product of two dyads, with all its bits. -/
def prodN (r s : DR) : DR := ⟨true, r.neg != s.neg, r.m * s.m, r.e + s.e⟩
theorem pu33 (T T' U : TypeId) (w : World) (x y z : Array Value) : Pu w (((w.alloc (.cells x T)).alloc (.cells y T')).alloc (.cells z U)) [(U, w.heap.size + 1 + 1, z), (T', w.heap.size + 1, y), (T, w.heap.size, x)] [] := by
  have h := ((Pu.alloc (⟨Below.refl _ w, trivial, trivial⟩ : Pu w w [] []) T x).alloc T' y).alloc U z
  rw [show ((w.alloc (.cells x T)).alloc (.cells y T')).heap.size = w.heap.size + 1 + 1 by simp, show (w.alloc (.cells x T)).heap.size = w.heap.size + 1 by simp] at h
  exact h
/-- Is a dyad above 0? -/
def aboveI (r : DR) : Bool := !r.neg && decide (r.m ≠ 0)
end Go.Proofs.YtmadojejafbpjaaGreatDoor

namespace Go.Proofs.YtmadojejafbpjaaGreatDoor
open Go.RowKit

/-- Of two the one that is farther from 0. -/
def grN (r s : DR) : DR := if onE r.m r.e s.e < onE s.m s.e r.e then s else r
end Go.Proofs.YtmadojejafbpjaaGreatDoor

namespace Go.Proofs.YtmadojejafbpjaaGreatDoor
open Go.RowKit

/-- The least and the greatest product, where 0 isn't inside the other span. -/
def prods1 (lo hi lo' hi' : DR) : DR × DR :=
  if lo'.neg then (prodN hi (pickS hi.neg hi' lo'), prodN lo (pickS lo.neg lo' hi')) else (prodN lo (pickS lo.neg hi' lo'), prodN hi (pickS hi.neg lo' hi'))
def prodsN (lo hi lo' hi' : DR) : DR × DR :=
  if !lo'.neg || !aboveI hi' then prods1 lo hi lo' hi' else if !lo.neg || !aboveI hi then prods1 lo' hi' lo hi else (grN (prodN lo hi') (prodN hi lo'), grN (prodN lo lo') (prodN hi hi'))
def PrP (w : World) (x : DR × DR) (e : Ending) (w' : World) : Prop := ∃ A n c B m d, e = .returned (.tuple #[.agg #[.bool x.1.neg, .slice A n c, .int .i64 x.1.e], .agg #[.bool x.2.neg, .slice B m d, .int .i64 x.2.e]]) ∧ Num w' (.slice A n c) x.1.m ∧ Num w' (.slice B m d) x.2.m ∧ Below w.heap.size w w'
theorem KC.bel {T : TypeId} {w w' : World} {g B : Nat} {cs : Array Value} (h : KC T w g cs) (b : Below B w w') (hg : g < B) : KC T w' g cs := ⟨(b.block g hg).trans h.1, Nat.lt_of_lt_of_le h.2 b.size⟩
/-- Two numbers are written into blocks of their own. -/
theorem Pu.give2 {w wi : World} {ks : List (TypeId × Nat × Array Value)} {ns : List (Value × Nat)} (h : Pu w wi ks ns) {T U : TypeId} {g1 g2 : Nat} (k1 : KC T wi g1 zd) (k2 : KC U wi g2 zd) (h1 : w.heap.size ≤ g1) (h2 : w.heap.size ≤ g2) (hne : g2 ≠ g1) {v u : Value} {V U' : Nat} (n : Num wi v V) (n' : Num wi u U') (x y z a b c : Value) :
    Num (put3 (put3 wi g1 x y z) g2 a b c) v V ∧ Num (put3 (put3 wi g1 x y z) g2 a b c) u U' ∧ Below w.heap.size w (put3 (put3 wi g1 x y z) g2 a b c) := by
  have k2' := k2.only (only_put3 wi g1 x y z) hne
  exact ⟨num_put3 (num_put3 n k1 x y z) k2' a b c, num_put3 (num_put3 n' k1 x y z) k2' a b c, below_only (below_only h.bel (only_put3 _ _ _ _ _) h1) (only_put3 _ _ _ _ _) h2⟩
theorem pu66 (w : World) (x y : Array Value) : Pu w ((((w.alloc (.cells x 29)).alloc (.cells y 29)).alloc (.cells zd 94)).alloc (.cells zd 94))
    [(94, w.heap.size + 1 + 1 + 1, zd), (94, w.heap.size + 1 + 1, zd), (29, w.heap.size + 1, y), (29, w.heap.size, x)] [] := by
  have h := (pu33 29 29 94 w x y zd).alloc 94 zd
  rw [show (((w.alloc (.cells x 29)).alloc (.cells y 29)).alloc (.cells zd 94)).heap.size = w.heap.size + 1 + 1 + 1 by simp] at h
  exact h
/-- A dyad in memory, plain. -/
structure DN (w : World) (A : Option Addr) (n c : Nat) (r : DR) : Prop where
  num : Num w (.slice A n c) r.m
  pl : PlainR r
theorem DN.below {w w' : World} {A : Option Addr} {n c : Nat} {r : DR} (h : DN w A n c r) (b : Below w.heap.size w w') : DN w' A n c r := ⟨h.num.below b, h.pl⟩
theorem pick_pl {b : Bool} {r s : DR} (h1 : PlainR r) (h2 : PlainR s) : PlainR (pickS b r s) := by unfold pickS; split <;> assumption
end Go.Proofs.YtmadojejafbpjaaGreatDoor

namespace Go.Proofs.YtmadojejafbpjaaGreatDoor
open Go.RowKit

theorem Pu.put4 {w wi : World} {T U T1 T2 : TypeId} {g4 g5 b a : Nat} {c5 B A : Array Value} {ns : List (Value × Nat)} (h : Pu w wi [(U, g5, c5), (T, g4, zd), (T1, b, B), (T2, a, A)] ns) (hg : w.heap.size ≤ g4) (h1 : g5 ≠ g4) (h2 : b ≠ g4) (h3 : a ≠ g4) (x y z : Value) :
    Pu w (put3 wi g4 x y z) [(U, g5, c5), (T, g4, #[x, y, z]), (T1, b, B), (T2, a, A)] ns := by
  have o := only_put3 wi g4 x y z
  exact ⟨below_only h.bel o hg, ⟨h.ks.1.only o h1, h.ks.2.1.put3 x y z, h.ks.2.2.1.only o h2, h.ks.2.2.2.1.only o h3, trivial⟩, h.ns.put3 h.ks.2.1 x y z⟩
theorem Pu.put5 {w wi : World} {T U T1 T2 : TypeId} {g4 g5 b a : Nat} {c4 B A : Array Value} {ns : List (Value × Nat)} (h : Pu w wi [(U, g5, zd), (T, g4, c4), (T1, b, B), (T2, a, A)] ns) (hg : w.heap.size ≤ g5) (h1 : g4 ≠ g5) (h2 : b ≠ g5) (h3 : a ≠ g5) (x y z : Value) :
    Pu w (put3 wi g5 x y z) [(U, g5, #[x, y, z]), (T, g4, c4), (T1, b, B), (T2, a, A)] ns := by
  have o := only_put3 wi g5 x y z
  exact ⟨below_only h.bel o hg, ⟨h.ks.1.put3 x y z, h.ks.2.1.only o h1, h.ks.2.2.1.only o h2, h.ks.2.2.2.1.only o h3, trivial⟩, h.ns.put3 h.ks.1 x y z⟩
theorem Pu.give3 {w wi : World} {ks : List (TypeId × Nat × Array Value)} {ns : List (Value × Nat)} (h : Pu w wi ks ns) {T U : TypeId} {g1 g2 : Nat} {na nb' : Bool} {A B : Option Addr} {n c m d : Nat} {e f : Int} (k1 : KC T wi g1 #[.bool na, .slice A n c, .int .i64 e]) (k2 : KC U wi g2 #[.bool nb', .slice B m d, .int .i64 f]) (h1 : w.heap.size ≤ g1) (h2 : w.heap.size ≤ g2) (hne : g2 ≠ g1) {v u : Value} {V U' : Nat} (n : Num wi v V) (n' : Num wi u U') (x y z a b c : Value) :
    Num (put3 (put3 wi g1 x y z) g2 a b c) v V ∧ Num (put3 (put3 wi g1 x y z) g2 a b c) u U' ∧ Below w.heap.size w (put3 (put3 wi g1 x y z) g2 a b c) := by
  have k2' := k2.only (only_put3 wi g1 x y z) hne
  exact ⟨num_put3 (num_put3 n k1 x y z) k2' a b c, num_put3 (num_put3 n' k1 x y z) k2' a b c, below_only (below_only h.bel (only_put3 _ _ _ _ _) h1) (only_put3 _ _ _ _ _) h2⟩
theorem neg_pos {r : DR} (h : PlainR r) (hn : r.neg = true) : 0 < r.m := by
  rcases Nat.eq_zero_or_pos r.m with h0 | h0
  · have := (h.zero h0).2; rw [this] at hn; cases hn
  · exact h0
theorem above_pos {r : DR} (h : aboveI r = true) : 0 < r.m ∧ r.neg = false := by
  unfold aboveI at h
  simp at h
  exact ⟨by omega, h.1⟩
end Go.Proofs.YtmadojejafbpjaaGreatDoor

namespace Go.Proofs.YtmadojejafbpjaaGreatDoor
open Go.RowKit
variable {TW : TypeId}

/-- A product of two plain dyads: its size. -/
structure ProdB (r : DR) : Prop where
  bits : nb r.m ≤ 32768
  e1 : -524288 ≤ r.e
  e2 : r.e ≤ 524288
theorem prod_b {r s : DR} (h1 : PlainR r) (h2 : PlainR s) : ProdB (prodN r s) := by
  have b1 := nb_mul r.m s.m
  have := h1.bits
  have := h2.bits
  have := h1.e1
  have := h1.e2
  have := h2.e1
  have := h2.e2
  exact ⟨by show nb (r.m * s.m) ≤ _; omega, by show _ ≤ r.e + s.e; omega, by show r.e + s.e ≤ _; omega⟩
theorem gr_b {r s : DR} (h1 : ProdB r) (h2 : ProdB s) : ProdB (grN r s) := by unfold grN; split <;> assumption
theorem prods1_b {lo hi lo' hi' : DR} (h1 : PlainR lo) (h2 : PlainR hi) (h3 : PlainR lo') (h4 : PlainR hi') : ProdB (prods1 lo hi lo' hi').1 ∧ ProdB (prods1 lo hi lo' hi').2 := by
  unfold prods1
  split
  · exact ⟨prod_b h2 (pick_pl h4 h3), prod_b h1 (pick_pl h3 h4)⟩
  · exact ⟨prod_b h1 (pick_pl h4 h3), prod_b h2 (pick_pl h3 h4)⟩
theorem prods_b {lo hi lo' hi' : DR} (h1 : PlainR lo) (h2 : PlainR hi) (h3 : PlainR lo') (h4 : PlainR hi') : ProdB (prodsN lo hi lo' hi').1 ∧ ProdB (prodsN lo hi lo' hi').2 := by
  unfold prodsN
  split
  · exact prods1_b h1 h2 h3 h4
  · split
    · exact prods1_b h3 h4 h1 h2
    · exact ⟨gr_b (prod_b h1 h4) (prod_b h2 h3), gr_b (prod_b h1 h3) (prod_b h2 h4)⟩
theorem ProdB.wide {r : DR} (h : ProdB r) : WideR r := ⟨by have := h.bits; omega, by have := h.e1; omega, by have := h.e2; omega⟩
/-- What the code answers for a product. -/
def mulC (p : Int) (bad : Bool) (lo hi lo' hi' : DR) : SRes := if bad2 p bad lo hi lo' hi' then SRes.no else outwS p.toNat (prodsN lo hi lo' hi').1 (prodsN lo hi lo' hi').2
end Go.Proofs.YtmadojejafbpjaaGreatDoor
