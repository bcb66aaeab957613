/-
  The root by halves, in plain numbers. No program is named here.
-/
import Derived.Test.YthjndkkepailmaaMath
namespace Go.Proofs.Ythjndkkepailmaa

/-- s is the root of a, and r is left. -/
def IsRoot (a s r : Nat) : Prop := s * s + r = a ∧ r ≤ 2 * s
theorem IsRoot.one {a s : Nat} (h1 : s * s ≤ a) (h2 : a < (s + 1) * (s + 1)) : IsRoot a s (a - s * s) := by
  have e : (s + 1) * (s + 1) = s * s + 2 * s + 1 := by rw [Nat.add_mul, Nat.mul_add, Nat.mul_one, Nat.one_mul]; omega
  exact ⟨by omega, by omega⟩
theorem IsRoot.zero : IsRoot 0 0 0 := ⟨rfl, Nat.le_refl _⟩
/-- It is the only one. -/
theorem IsRoot.unique {a s r s' r' : Nat} (h : IsRoot a s r) (h' : IsRoot a s' r') : s = s' ∧ r = r' := by
  have key : ∀ {s r s' r' : Nat}, IsRoot a s r → IsRoot a s' r' → ¬ s < s' := fun {s r s' r'} h h' hlt => by
    have h1 : (s + 1) * (s + 1) ≤ s' * s' := Nat.mul_le_mul hlt hlt
    have e : (s + 1) * (s + 1) = s * s + 2 * s + 1 := by rw [Nat.add_mul, Nat.mul_add, Nat.mul_one, Nat.one_mul]; omega
    have := h.1; have := h.2; have := h'.1
    omega
  have e : s = s' := by have := key h h'; have := key h' h; omega
  subst e
  exact ⟨rfl, by have := h.1; have := h'.1; omega⟩
theorem root_eq {a a' b m l s' r' q u : Nat} (hA : a = a' * (b * b) + m * b + l) (h' : s' * s' + r' = a') (hq : r' * b + m = 2 * s' * q + u) : a + q * q = (s' * b + q) * (s' * b + q) + (u * b + l) := by
  have e1 : a' * (b * b) = s' * s' * (b * b) + r' * (b * b) := by rw [← h', Nat.add_mul]
  have e2 : (r' * b + m) * b = r' * (b * b) + m * b := by rw [Nat.add_mul, Nat.mul_assoc]
  have e3 : (2 * s' * q + u) * b = 2 * (s' * b * q) + u * b := by
    rw [Nat.add_mul]
    have : 2 * s' * q * b = 2 * (s' * b * q) := by ac_rfl
    omega
  have e4 : (s' * b + q) * (s' * b + q) = s' * s' * (b * b) + 2 * (s' * b * q) + q * q := by
    rw [Nat.add_mul, Nat.mul_add, Nat.mul_add]
    have h1 : s' * b * (s' * b) = s' * s' * (b * b) := by ac_rfl
    have h2 : q * (s' * b) = s' * b * q := Nat.mul_comm _ _
    omega
  rw [hq] at e2
  omega
theorem root_q {b m s' r' q u : Nat} (hr : r' ≤ 2 * s') (hm : m < b) (hs : b ≤ s') (hq : r' * b + m = 2 * s' * q + u) : q ≤ b := by
  have h1 : r' * b ≤ 2 * s' * b := Nat.mul_le_mul_right _ hr
  have h2 : 2 * s' * q < 2 * s' * (b + 1) := by rw [Nat.mul_add, Nat.mul_one]; omega
  have h3 := Nat.lt_of_mul_lt_mul_left h2
  omega
theorem root_q2 {b s' q : Nat} (hs : b ≤ s') (hqb : q ≤ b) : q * q ≤ s' * b + q := by
  have h1 : q * q ≤ s' * b := Nat.mul_le_mul (by omega) hqb
  omega
theorem root_rest {b l s' u q : Nat} (hu : u < 2 * s') (hl : l < b) : u * b + l ≤ 2 * (s' * b + q) := by
  have h1 : (u + 1) * b ≤ 2 * s' * b := Nat.mul_le_mul_right _ hu
  rw [Nat.add_mul, Nat.one_mul, Nat.mul_assoc] at h1
  omega
/-- The root is the sum of both halves .. -/
theorem root_yes {a s q R : Nat} (h : a + q * q = s * s + R) (hR : R ≤ 2 * s) (hle : q * q ≤ R) : IsRoot a s (R - q * q) := ⟨by omega, by omega⟩
/-- .. or one less. -/
theorem root_no {a s q R : Nat} (h : a + q * q = s * s + R) (hlt : R < q * q) (hq : q * q ≤ s) : 1 ≤ s ∧ q * q ≤ R + (s + (s - 1)) ∧ IsRoot a (s - 1) (R + (s + (s - 1)) - q * q) := by
  obtain ⟨t, rfl⟩ : ∃ t, s = t + 1 := ⟨s - 1, by omega⟩
  have e : (t + 1) * (t + 1) = t * t + 2 * t + 1 := by rw [Nat.add_mul, Nat.mul_add, Nat.mul_one, Nat.one_mul]; omega
  rw [Nat.add_sub_cancel]
  exact ⟨by omega, by omega, by omega, by omega⟩
end Go.Proofs.Ythjndkkepailmaa
