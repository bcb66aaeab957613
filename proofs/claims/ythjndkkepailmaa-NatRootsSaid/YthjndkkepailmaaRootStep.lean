/-
  One step of the root by halves: all of its numbers, and their sizes. No program is named here.
-/
import Derived.Test.YthjndkkepailmaaRootMath
import Derived.Test.YthjndkkepailmaaShiftMath
namespace Go.Proofs.Ythjndkkepailmaa

theorem two_half (V k : Nat) : V = V / 2 ^ (2 * k) * (2 ^ k * 2 ^ k) + V / 2 ^ k % 2 ^ k * 2 ^ k + V % 2 ^ k := by
  have e : (2 : Nat) ^ (2 * k) = 2 ^ k * 2 ^ k := by rw [← Nat.pow_add]; congr 1; omega
  rw [e, ← Nat.div_div_eq_div_mul]
  generalize 2 ^ k = b
  have h1 := Nat.div_add_mod V b
  have h2 := Nat.div_add_mod (V / b) b
  have h3 : (b * (V / b / b) + V / b % b) * b = V / b * b := by rw [h2]
  rw [Nat.add_mul] at h3
  have h4 : b * (V / b / b) * b = V / b / b * (b * b) := by ac_rfl
  have h5 : b * (V / b) = V / b * b := Nat.mul_comm _ _
  omega
theorem upper_ge {V B k : Nat} (hB : IsBits V B) (h : 65 ≤ B) (hk : k = (B - 1) / 4) : 2 ^ k * 2 ^ k ≤ V / 2 ^ (2 * k) := by
  have hV : V ≠ 0 := fun e => by have := hB.2.1 e; omega
  have h1 := (hB.2.2 hV).2
  rw [Nat.le_div_iff_mul_le (Nat.two_pow_pos _), ← Nat.pow_add, ← Nat.pow_add]
  exact Nat.le_trans (Nat.pow_le_pow_right (by omega) (by omega)) h1
theorem root_ge {a s r b : Nat} (h : IsRoot a s r) (hb : b * b ≤ a) : b ≤ s := by
  rcases Nat.lt_or_ge s b with hlt | hge
  · have h1 : (s + 1) * (s + 1) ≤ b * b := Nat.mul_le_mul hlt hlt
    have e : (s + 1) * (s + 1) = s * s + 2 * s + 1 := by rw [Nat.add_mul, Nat.mul_add, Nat.mul_one, Nat.one_mul]; omega
    have := h.1; have := h.2
    omega
  · exact hge
theorem pow_lt_upper {V B k : Nat} (hB : IsBits V B) (h : 65 ≤ B) (hk : k = (B - 1) / 4) : V / 2 ^ (2 * k) < V := by
  have hV : V ≠ 0 := fun e => by have := hB.2.1 e; omega
  exact Nat.div_lt_self (by omega) (Nat.one_lt_two_pow (by omega))
theorem sum2 {V W n m : Nat} (h1 : V < B64 ^ n) (h2 : W < B64 ^ m) : V * W + V < B64 ^ (n + m) := by
  rw [Nat.pow_add]
  have h3 : V * (W + 1) ≤ V * B64 ^ m := Nat.mul_le_mul_left _ h2
  have h4 : V * B64 ^ m < B64 ^ n * B64 ^ m := Nat.mul_lt_mul_of_pos_right h1 (by omega)
  rw [Nat.mul_add, Nat.mul_one] at h3
  omega
theorem few_lt {V n : Nat} (c : Nat) (hc : c ≤ 1000) (h : V < B64 ^ n) : c * V + 1000 < B64 ^ (n + 1) := by
  rw [Nat.pow_succ]
  have h0 : 1 ≤ B64 ^ n := by omega
  have h1 : c * V ≤ 1000 * V := Nat.mul_le_mul_right _ hc
  have h2 : B64 ^ n * 2001 ≤ B64 ^ n * B64 := Nat.mul_le_mul_left _ (by unfold B64; omega)
  omega

/-- All that one step needs, of the root s' and the rest r' of the upper half. -/
theorem root_step {V B k n s' r' q u : Nat} (hB : IsBits V B) (h65 : 65 ≤ B) (hk : k = (B - 1) / 4) (hV : V < B64 ^ n) (h : IsRoot (V / 2 ^ (2 * k)) s' r')
    (hq : s' * 2 ^ 1 * q + u = r' * 2 ^ k + V / 2 ^ k % 2 ^ k) (hu : u < s' * 2 ^ 1) :
    q < B64 ^ n ∧ s' * 2 ^ k + q < B64 ^ (2 * n) ∧ u < B64 ^ (n + 1) ∧ u * 2 ^ k + V % 2 ^ k < B64 ^ (2 * n + 1) ∧ u * 2 ^ k + V % 2 ^ k + (s' * 2 ^ k + q + (s' * 2 ^ k + q - 1)) < B64 ^ (2 * n + 1) ∧
    (q * q ≤ u * 2 ^ k + V % 2 ^ k → IsRoot V (s' * 2 ^ k + q) (u * 2 ^ k + V % 2 ^ k - q * q)) ∧
    (u * 2 ^ k + V % 2 ^ k < q * q → 1 ≤ s' * 2 ^ k + q ∧ q * q ≤ u * 2 ^ k + V % 2 ^ k + (s' * 2 ^ k + q + (s' * 2 ^ k + q - 1)) ∧
      IsRoot V (s' * 2 ^ k + q - 1) (u * 2 ^ k + V % 2 ^ k + (s' * 2 ^ k + q + (s' * 2 ^ k + q - 1)) - q * q)) := by
  have hA := two_half V k
  have hge := upper_ge hB h65 hk
  have hm : V / 2 ^ k % 2 ^ k < 2 ^ k := Nat.mod_lt _ (Nat.two_pow_pos _)
  have hl : V % 2 ^ k < 2 ^ k := Nat.mod_lt _ (Nat.two_pow_pos _)
  have hb1 : 1 ≤ 2 ^ k := Nat.two_pow_pos _
  have ha' : V / 2 ^ (2 * k) ≤ V := Nat.div_le_self _ _
  generalize V / 2 ^ (2 * k) = a' at *
  generalize V / 2 ^ k % 2 ^ k = m at *
  generalize V % 2 ^ k = l at *
  generalize 2 ^ k = b at *
  have hs := root_ge h hge
  rw [Nat.pow_one, Nat.mul_comm s' 2] at hq hu
  have hq' : r' * b + m = 2 * s' * q + u := hq.symm
  have hqb := root_q h.2 hm hs hq'
  have hq2 := root_q2 hs hqb
  have hR := root_rest (q := q) hu hl
  have heq := root_eq hA h.1 hq'
  have hsV : s' ≤ V := by
    have h1 : s' * 1 ≤ s' * s' := Nat.mul_le_mul_left _ (by omega)
    have := h.1; omega
  have hbV : b ≤ V := by omega
  have e1 : s' * b + q ≤ V * V + V := Nat.add_le_add (Nat.mul_le_mul hsV hbV) (by omega)
  have e2 := sum2 hV hV
  rw [← Nat.two_mul] at e2
  have e3 := few_lt 1000 (by omega) e2
  have e4 := few_lt 1000 (by omega) hV
  generalize V * V = VV at *
  refine ⟨by omega, by omega, by omega, by omega, by omega, fun hle => root_yes heq hR hle, fun hlt => root_no heq hlt hq2⟩
end Go.Proofs.Ythjndkkepailmaa
