/-
  nat.rootWord, nat.join: the root of a word; two numbers as one.
  nat.root, nat.Sqrt: the root of a number, and what is left.
-/
import Derived.Deep.RegionWith
import Derived.Test.YtembfhepinfmnaaDoorShelf
import Derived.Test.YtembfhepinfmnaaDoorPlPGNumbers
import Derived.Test.YtembfhepinfmnaaDoorPlPGLists
import Derived.Test.YtembfhepinfmnaaDoorPlPGNat1
import Derived.Test.YtembfhepinfmnaaDoorPlPGNat2
import Derived.Test.YtembfhepinfmnaaDoorPlPGNat6
namespace Go.Proofs.YtembfhepinfmnaaDoor
open Go.RowKit

/-- The bits of a's root above k are in r. -/
def RW (a r b k : Nat) : Prop := b = 2 ^ k / 2 ∧ r % 2 ^ k = 0 ∧ r + 2 ^ k ≤ 4294967296 ∧ r * r ≤ a ∧ a < (r + 2 ^ k) * (r + 2 ^ k)
theorem RW.pos {a r b k : Nat} (h : RW a r b k) (hb : 0 < b) : ∃ m, k = m + 1 ∧ b = 2 ^ m := by
  rcases k with _ | m
  · have := h.1; simp at this; omega
  · refine ⟨m, rfl, ?_⟩
    rw [h.1, Nat.pow_succ]; omega
theorem RW.or {a r b k : Nat} (h : RW a r b k) (hb : 0 < b) : r ||| b = r + b := by
  obtain ⟨m, rfl, rfl⟩ := h.pos hb
  obtain ⟨_, h2, _⟩ := h
  have hlt : 2 ^ m < 2 ^ (m + 1) := by rw [Nat.pow_succ]; have := Nat.two_pow_pos m; omega
  have e : r = 2 ^ (m + 1) * (r / 2 ^ (m + 1)) := by have := Nat.div_add_mod r (2 ^ (m + 1)); omega
  rw [e, Nat.two_pow_add_eq_or_of_lt hlt]
theorem RW.two {a r b k : Nat} (h : RW a r b k) (hb : 0 < b) : r + b + b ≤ 4294967296 := by
  obtain ⟨m, rfl, rfl⟩ := h.pos hb
  have := h.2.2.1
  rw [Nat.pow_succ] at this
  omega
theorem RW.no {a r b k : Nat} (h : RW a r b k) (hb : 0 < b) (hp : a < (r + b) * (r + b)) : ∃ m, RW a r (b / 2) m := by
  obtain ⟨m, rfl, rfl⟩ := h.pos hb
  obtain ⟨_, h2, h3, h4, _⟩ := h
  refine ⟨m, rfl, ?_, by rw [Nat.pow_succ] at h3; omega, h4, hp⟩
  have : r % (2 ^ m * 2) = 0 := by rw [← Nat.pow_succ]; exact h2
  exact Nat.mod_eq_zero_of_dvd (Nat.dvd_trans (Nat.dvd_mul_right _ _) (Nat.dvd_of_mod_eq_zero this))
theorem RW.start {a : Nat} (h : a < B64) : RW a 0 2147483648 32 := by
  refine ⟨by decide, by decide, by decide, by omega, ?_⟩
  have e : B64 = (0 + 2 ^ 32) * (0 + 2 ^ 32) := by unfold B64; decide
  omega

/-- A number's words: no more than its size asks. -/
theorem Num.sl' {w : World} {v : Value} {V K : Nat} (h : Num w v V) (hK : V < B64 ^ K) : ∃ A n c f, v = .slice A n c ∧ Sl w A n c f ∧ n ≤ K ∧ Cn n f ∧ vs B64 f n = V := by
  obtain ⟨A, n, c, f, hv, hs, hc, he⟩ := h
  exact ⟨A, n, c, f, hv, hs, cn_le B64_gt hc (by rw [he]; exact hK), hc, he⟩
end Go.Proofs.YtembfhepinfmnaaDoor

namespace Go.Proofs.YtembfhepinfmnaaDoor
open Go.RowKit

theorem bits_le {V B n : Nat} (hB : IsBits V B) (hV : V < B64 ^ n) : B ≤ 64 * n := by
  rcases Nat.eq_zero_or_pos V with h0 | h0
  · have := hB.2.1 h0; omega
  · have h1 := (hB.2.2 (by omega)).2
    rw [B64_pow, ← Nat.pow_mul] at hV
    have := (Nat.pow_lt_pow_iff_right (by omega : 1 < 2)).1 (Nat.lt_of_le_of_lt h1 hV)
    omega

end Go.Proofs.YtembfhepinfmnaaDoor
