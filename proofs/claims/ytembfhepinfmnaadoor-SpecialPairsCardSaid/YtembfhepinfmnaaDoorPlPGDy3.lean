/-
  dyad.extent: the least and the greatest exponent, and the greatest top, of a list of dyads in memory.
  Sums of dyads in plain numbers.
-/
import Derived.Test.YtembfhepinfmnaaDoorPlPGDy2
namespace Go.Proofs.YtembfhepinfmnaaDoor
open Go.RowKit

/-- A list of dyads: sign, list of words, exponent of each. -/
structure DL where
  ng : Nat → Bool
  A : Nat → Option Addr
  n : Nat → Nat
  c : Nat → Nat
  x : Nat → Nat → Nat
  e : Nat → Int
def DL.v (l : DL) (j : Nat) : Nat := vs B64 (l.x j) (l.n j)
/-- It lies in memory from L on, k of them. -/
def Ls (w : World) (L : Option Addr) (k cp : Nat) (l : DL) : Prop :=
  k ≤ cp ∧ (0 < k → ∃ ad, L = some ad ∧ ad.block < w.heap.size ∧ ∀ j, j < k → w.cell? (ad.add (j * 3)) = some (.bool (l.ng j)) ∧ w.cell? ⟨(ad.add (j * 3)).block, (ad.add (j * 3)).off + 1, none⟩ = some (.slice (l.A j) (l.n j) (l.c j)) ∧ w.cell? ⟨(ad.add (j * 3)).block, (ad.add (j * 3)).off + 2, none⟩ = some (.int .i64 (l.e j))) ∧
    ∀ j, j < k → Sl w (l.A j) (l.n j) (l.c j) (l.x j)
theorem Ls.below {w w' : World} {L : Option Addr} {k cp : Nat} {l : DL} (h : Ls w L k cp l) (b : Below w.heap.size w w') : Ls w' L k cp l := by
  obtain ⟨h1, h2, h3⟩ := h
  refine ⟨h1, fun hk => ?_, fun j hj => (h3 j hj).below b⟩
  obtain ⟨ad, e, hb, hc⟩ := h2 hk
  refine ⟨ad, e, Nat.lt_of_lt_of_le hb b.size, fun j hj => ?_⟩
  obtain ⟨c0, c1, c2⟩ := hc j hj
  exact ⟨(b.cell (by rw [block_of_add]; exact hb)).trans c0, (b.cell (by simp only [block_of_add]; exact hb)).trans c1, (b.cell (by simp only [block_of_add]; exact hb)).trans c2⟩

/-- Least and greatest exponent of the first k that aren't 0. -/
def ext (l : DL) : Nat → Option (Int × Int)
  | 0 => none
  | k + 1 => if l.n k = 0 then ext l k else match ext l k with
    | none => some (l.e k, l.e k)
    | some (a, b) => some (min a (l.e k), max b (l.e k))

/-- What extent knows of the first j: least and greatest exponent, a bound on the tops; whether there is one. -/
def EInv (l : DL) (j : Nat) (lo hi en : Int) (fd : Bool) : Prop := match ext l j with
  | none => fd = false ∧ lo = 0 ∧ hi = 0 ∧ en = 0
  | some (a, b) => fd = true ∧ lo = a ∧ hi = b ∧ en ≤ b + 16384 ∧ ∀ i, i < j → l.n i ≠ 0 → a ≤ l.e i ∧ l.e i ≤ b ∧ l.e i + (nb (l.v i) : Int) ≤ en
theorem ext_none {l : DL} {j : Nat} (h : ext l j = none) : ∀ i, i < j → l.n i = 0 := by
  induction j with
  | zero => intro i hi; omega
  | succ j ih =>
    intro i hi
    unfold ext at h
    by_cases h0 : l.n j = 0
    · rw [if_pos h0] at h
      rcases Nat.lt_or_ge i j with h1 | h1
      · exact ih h i h1
      · obtain rfl : i = j := by omega
        exact h0
    · rw [if_neg h0] at h
      cases h2 : ext l j with
      | none => rw [h2] at h; cases h
      | some p => rw [h2] at h; cases h
theorem EInv.start (l : DL) : EInv l 0 0 0 0 false := ⟨rfl, rfl, rfl, rfl⟩
theorem EInv.zero {l : DL} {j : Nat} {lo hi en : Int} {fd : Bool} (h : EInv l j lo hi en fd) (h0 : l.n j = 0) : EInv l (j + 1) lo hi en fd := by
  unfold EInv at *
  rw [ext, if_pos h0]
  cases he : ext l j with
  | none => rw [he] at h; exact h
  | some p =>
    rw [he] at h
    obtain ⟨a, b⟩ := p
    obtain ⟨h1, h2, h3, h4, h5⟩ := h
    refine ⟨h1, h2, h3, h4, fun i hi hn => ?_⟩
    rcases Nat.lt_or_ge i j with h' | h'
    · exact h5 i h' hn
    · obtain rfl : i = j := by omega
      exact absurd h0 hn
theorem EInv.first {l : DL} {j : Nat} {lo hi en : Int} (h : EInv l j lo hi en false) (h0 : l.n j ≠ 0) (hb : nb (l.v j) ≤ 16384) : EInv l (j + 1) (l.e j) (l.e j) (l.e j + (nb (l.v j) : Int)) true := by
  unfold EInv at *
  rw [ext, if_neg h0]
  cases he : ext l j with
  | none =>
    refine ⟨rfl, rfl, rfl, by omega, fun i hi hn => ?_⟩
    rcases Nat.lt_or_ge i j with h' | h'
    · exact absurd (ext_none he i h') hn
    · obtain rfl : i = j := by omega
      exact ⟨Int.le_refl _, Int.le_refl _, Int.le_refl _⟩
  | some p => rw [he] at h; obtain ⟨a, b⟩ := p; exact absurd h.1 (by decide)
theorem EInv.more {l : DL} {j : Nat} {lo hi en : Int} (h : EInv l j lo hi en true) (h0 : l.n j ≠ 0) (hb : nb (l.v j) ≤ 16384) : EInv l (j + 1) (min lo (l.e j)) (max hi (l.e j)) (max en (l.e j + (nb (l.v j) : Int))) true := by
  unfold EInv at *
  rw [ext, if_neg h0]
  cases he : ext l j with
  | none => rw [he] at h; exact absurd h.1 (by decide)
  | some p =>
    rw [he] at h
    obtain ⟨a, b⟩ := p
    obtain ⟨_, rfl, rfl, h4, h5⟩ := h
    refine ⟨rfl, rfl, rfl, by omega, fun i hi' hn => ?_⟩
    rcases Nat.lt_or_ge i j with h' | h'
    · obtain ⟨g1, g2, g3⟩ := h5 i h' hn
      exact ⟨by omega, by omega, by omega⟩
    · obtain rfl : i = j := by omega
      exact ⟨by omega, by omega, by omega⟩

end Go.Proofs.YtembfhepinfmnaaDoor

namespace Go.Proofs.YtembfhepinfmnaaDoor
open Go.RowKit

/-- What the first k of one sign are together, in units of 2 to the lo. -/
def part (l : DL) (sg : Bool) (lo : Int) : Nat → Nat
  | 0 => 0
  | k + 1 => part l sg lo k + (if l.ng k = sg then l.v k * 2 ^ (l.e k - lo).toNat else 0)
theorem EInv.en {l : DL} {k : Nat} {lo hi en : Int} {fd : Bool} (h : EInv l k lo hi en fd) : en ≤ hi + 16384 := by
  unfold EInv at h
  cases he : ext l k with
  | none => rw [he] at h; obtain ⟨_, rfl, rfl, rfl⟩ := h; omega
  | some p => rw [he] at h; obtain ⟨a, b⟩ := p; obtain ⟨_, _, rfl, h4, _⟩ := h; exact h4
theorem ext_lo_le (l : DL) (k : Nat) (a b : Int) (h : ext l k = some (a, b)) : (∃ i, i < k ∧ l.n i ≠ 0) ∧ (∀ E : Int, (∀ i, i < k → l.n i ≠ 0 → -E ≤ l.e i ∧ l.e i ≤ E) → -E ≤ a ∧ b ≤ E ∧ a ≤ b) := by
  induction k generalizing a b with
  | zero => cases h
  | succ k ih =>
    unfold ext at h
    by_cases h0 : l.n k = 0
    · rw [if_pos h0] at h
      obtain ⟨⟨i, hi, hn⟩, h2⟩ := ih a b h
      exact ⟨⟨i, by omega, hn⟩, fun E hE => h2 E fun i hi hn => hE i (by omega) hn⟩
    · rw [if_neg h0] at h
      refine ⟨⟨k, by omega, h0⟩, fun E hE => ?_⟩
      have hk := hE k (by omega) h0
      cases he : ext l k with
      | none => rw [he] at h; simp at h; obtain ⟨rfl, rfl⟩ := h; exact ⟨hk.1, hk.2, Int.le_refl _⟩
      | some p =>
        obtain ⟨c, d⟩ := p
        rw [he] at h
        simp at h
        obtain ⟨rfl, rfl⟩ := h
        obtain ⟨h3, h4, h5⟩ := (ih c d he).2 E fun i hi hn => hE i (by omega) hn
        exact ⟨by omega, by omega, by omega⟩
/-- Bounds of the least exponent. -/
theorem EInv.bound {l : DL} {k : Nat} {lo hi en : Int} {fd : Bool} (h : EInv l k lo hi en fd) (hP : ∀ j, j < k → PlainF (l.ng j) (l.n j) (l.x j) (l.e j)) : -262144 ≤ lo ∧ hi ≤ 262144 ∧ lo ≤ hi ∧ lo ≤ en := by
  have hE : ∀ i, i < k → l.n i ≠ 0 → -262144 ≤ l.e i ∧ l.e i ≤ 262144 := fun i hi _ => ⟨(hP i hi).e1, (hP i hi).e2⟩
  have h' := h
  unfold EInv at h'
  cases he : ext l k with
  | none => rw [he] at h'; obtain ⟨_, rfl, rfl, rfl⟩ := h'; omega
  | some p =>
    obtain ⟨a, b⟩ := p
    rw [he] at h'
    obtain ⟨_, rfl, rfl, h4, h5⟩ := h'
    obtain ⟨⟨i, hi, hn⟩, h6⟩ := ext_lo_le l k lo hi he
    obtain ⟨g1, g2, g3⟩ := h6 262144 hE
    have := h5 i hi hn
    exact ⟨g1, g2, g3, by omega⟩
end Go.Proofs.YtembfhepinfmnaaDoor
