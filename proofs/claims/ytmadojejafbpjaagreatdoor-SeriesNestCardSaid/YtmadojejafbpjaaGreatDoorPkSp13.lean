/-
  More of a law's state.
-/
import Derived.Test.YtmadojejafbpjaaGreatDoorPkSp9
import Derived.Test.YtmadojejafbpjaaGreatDoorPkSp11
import Derived.Test.YtmadojejafbpjaaGreatDoorPkSp8
namespace Go.Proofs.YtmadojejafbpjaaGreatDoor
open Go.RowKit

theorem KS2.re {w : World} {g h g' h' : Nat} : ∀ {ks : List (TypeId × Nat × Array Value)}, KS2 w g h ks → NeS g' ks → NeS h' ks → KS2 w g' h' ks
  | [], _, _, _ => trivial
  | (_, _, _) :: _, k, h1, h2 => ⟨⟨k.1.1, h1.1, h2.1⟩, KS2.re k.2 h1.2 h2.2⟩
section
variable {w wi : World} {g h : Nat} {p : Int} {bv bw : Bool} {ks : List (TypeId × Nat × Array Value)} {ns : List (Value × Nat)}
theorem L2.blk (L : L2 w g h p bv bw wi ks ns) {T : TypeId} {a : Nat} {cs : Array Value} (k : KC T wi a cs) (h1 : a ≠ g) (h2 : a ≠ h) : L2 w g h p bv bw wi ((T, a, cs) :: ks) ns := ⟨L.bel, L.W, L.V, L.hg, L.hh, L.ne, ⟨⟨k, h1, h2⟩, L.ks⟩, L.ns⟩
/-- The next two works; the two that were are not needed any more. -/
theorem L2.turn {x y : Nat} {bx by' : Bool} (L : L2 w g h p bv bw wi ((41, y, #[.int .i64 p, .bool by']) :: (32, x, #[.int .i64 p, .bool bx]) :: ks) ns) (hx : w.heap.size ≤ x) (hy : w.heap.size ≤ y) (hne : x ≠ y) (h1 : NeS x ks) (h2 : NeS y ks) : L2 w x y p bx by' wi ks [] :=
  ⟨L.bel, L.ks.2.1.1, L.ks.1.1, hx, hy, hne, L.ks.2.2.re h1 h2, trivial⟩
end
/-- What few words and no great exponent make of a plain dyad. -/
theorem bd_few {w : World} {A : Option Addr} {n c : Nat} {r : DR} (h : DIn w A n c r) (hn : n ≤ 20) (e1 : -20000 ≤ r.e) (e2 : r.e ≤ 20000) (hok : r.ok = true) : Bd r ∧ PlainR r := by
  have P := h.plain hok
  obtain ⟨x, h1, _, h3, _⟩ := h
  refine ⟨⟨?_, by omega, by omega, fun h0 => (P.zero h0).2⟩, P⟩
  have hv : vs B64 x n < B64 ^ n := vs_lt h1.2.1
  rw [h3]
  have key : ∀ k, 64 * n ≤ k → nb (vs B64 x n) ≤ k := fun k hk => (nb_le_iff _ _).2 (Nat.lt_of_lt_of_le hv (by rw [B64_pow, ← Nat.pow_mul]; exact Nat.pow_le_pow_right (by omega) hk))
  exact key 3000 (by omega)
theorem sgood_mul {p : Int} {bad : Bool} {lo hi lo' hi' : DR} : SGood (mulC p bad lo hi lo' hi') := by
  unfold mulC
  split
  · exact sgood_no
  · exact sgood_keep (plIf_cut _ _ _ _ _ _) (plIf_cut _ _ _ _ _ _)
theorem sgood_div {p : Int} {bad : Bool} {lo hi lo' hi' : DR} : SGood (divC p bad lo hi lo' hi') := by
  unfold divC
  split
  · exact sgood_no
  · split
    · exact sgood_no
    · split
      · exact sgood_keep (plIf_overI _ _ _ _) (plIf_overI _ _ _ _)
      · exact sgood_keep (plIf_overI _ _ _ _) (plIf_overI _ _ _ _)
theorem few_two (na nb' na2 nb2 : Bool) (A B A2 B2 : Option Addr) (n c m d n2 c2 m2 d2 : Nat) (x y x2 y2 : Nat → Nat) (ea eb ea2 eb2 : Int) : few3L (two na nb' na2 nb2 A B A2 B2 n c m d n2 c2 m2 d2 x y x2 y2 ea eb ea2 eb2) 2 = (few3 n m ea eb && few3 n2 m2 ea2 eb2) := by
  simp [few3L, two]
/-- The mark of a work, as it stands. -/
def bdOf (w : World) (g : Nat) : Bool := match w.cell? ⟨g, 1, none⟩ with
  | some (.bool b) => b
  | _ => false
theorem bd_eq {T : TypeId} {w : World} {g : Nat} {p : Int} {b : Bool} (h : KC T w g #[.int .i64 p, .bool b]) : bdOf w g = b := by
  unfold bdOf
  rw [h.at_ 1 (.bool b) rfl]
theorem bd_at {T : TypeId} {w : World} {g : Nat} {p : Int} {b : Bool} (h : KC T w g #[.int .i64 p, .bool b]) : w.cell? ⟨g, 1, none⟩ = some (.bool (bdOf w g)) := by
  rw [bd_eq h]
  exact h.at_ 1 _ rfl
/-- A region's condition may become sharper on the way. -/
theorem held_more {P : Program} {md : Region.Mode} {ops : Array Oper} {Q : Exit → Act → World → Prop} {S S' : World → Prop} (hsub : ∀ w, S' w → S w) : ∀ (fuel : Nat) (listed : Array Bool) (a : Act) (w : World), wpAnyH P md ops Q S' fuel listed a w → wpAnyH P md ops Q S fuel listed a w
  | 0, _, _, _, h => h
  | fuel + 1, _, _, _, h => ⟨h.1, fun i hi => wpOp_mono (fun a' w' h' => ⟨hsub w' h'.1, held_more hsub fuel _ a' w' h'.2⟩) (h.2 i hi)⟩
end Go.Proofs.YtmadojejafbpjaaGreatDoor
