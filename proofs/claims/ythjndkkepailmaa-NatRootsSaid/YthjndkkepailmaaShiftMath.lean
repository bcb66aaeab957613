/-
  Shifts of numbers that are written as words; how many bits a number has. No program is named here.
-/
import Derived.Test.YthjndkkepailmaaBitMath
namespace Go.Proofs.Ythjndkkepailmaa

theorem shl_div (x r : Nat) (hr : r ≤ 64) : x * 2 ^ r / B64 = x / 2 ^ (64 - r) := by
  rw [B64_pow, show (2 : Nat) ^ 64 = 2 ^ (64 - r) * 2 ^ r by rw [← Nat.pow_add]; congr 1; omega, Nat.mul_div_mul_right _ _ (Nat.two_pow_pos r)]
theorem shl_split (x r : Nat) (hr : r ≤ 64) : x * 2 ^ r % B64 + x / 2 ^ (64 - r) * B64 = x * 2 ^ r := by
  rw [← shl_div x r hr, Nat.mul_comm (x * 2 ^ r / B64)]; exact Nat.mod_add_div _ _
theorem shr_lt (x r : Nat) (hr : r ≤ 64) (hx : x < B64) : x / 2 ^ (64 - r) < 2 ^ r := by
  apply Nat.div_lt_of_lt_mul
  rw [← Nat.pow_add, show 64 - r + r = 64 by omega, ← B64_pow]; exact hx
theorem shl_mod (x r : Nat) (hr : r ≤ 64) : x * 2 ^ r % B64 = 2 ^ r * (x % 2 ^ (64 - r)) := by
  rw [B64_pow, show (2 : Nat) ^ 64 = 2 ^ r * 2 ^ (64 - r) by rw [← Nat.pow_add]; congr 1; omega, Nat.mul_comm x, Nat.mul_mod_mul_left]
/-- The low bits s and a word shifted up don't meet. -/
theorem low_or (s x r : Nat) (hr : r ≤ 64) (hs : s < 2 ^ r) : s ||| x * 2 ^ r % B64 = s + x * 2 ^ r % B64 := by
  rw [shl_mod x r hr, Nat.or_comm, ← Nat.two_pow_add_eq_or_of_lt hs, Nat.add_comm]
theorem low_add_lt (s x r : Nat) (hr : r ≤ 64) (hs : s < 2 ^ r) : s + x * 2 ^ r % B64 < B64 := by
  rw [shl_mod x r hr]
  have h3 : x % 2 ^ (64 - r) < 2 ^ (64 - r) := Nat.mod_lt _ (Nat.two_pow_pos _)
  have h4 : 2 ^ r * (x % 2 ^ (64 - r) + 1) ≤ 2 ^ r * 2 ^ (64 - r) := Nat.mul_le_mul_left _ h3
  rw [← Nat.pow_add, show r + (64 - r) = 64 by omega, ← B64_pow, Nat.mul_add, Nat.mul_one] at h4
  omega
theorem low_or_int (s x r : Nat) (hr : r ≤ 64) (hs : s < 2 ^ r) (hs' : s < B64) : bits .or .u64 (s : Int) ((x * 2 ^ r % B64 : Nat) : Int) = ((s + x * 2 ^ r % B64 : Nat) : Int) := by
  have h1 : x * 2 ^ r % B64 < B64 := Nat.mod_lt _ B64_pos
  rw [u64_or_nat s (x * 2 ^ r % B64) hs' h1, low_or s x r hr hs]
theorem pow_le_B64 (r : Nat) (hr : r ≤ 64) : 2 ^ r ≤ B64 := by rw [B64_pow]; exact Nat.pow_le_pow_right (by omega) hr

theorem or64 (a b : Nat) (ha : a < B64) (hb : b < B64) : bits .or .u64 (a : Int) (b : Int) = ((a ||| b : Nat) : Int) := u64_or_nat a b ha hb

/-- One step of a shift up: the words below i are right, s is what came over. -/
theorem step_shl {V X i s x r : Nat} (hr : r ≤ 64) (h : V + s * B64 ^ i = X * 2 ^ r) : V + (s + x * 2 ^ r % B64) * B64 ^ i + x / 2 ^ (64 - r) * B64 ^ (i + 1) = (X + x * B64 ^ i) * 2 ^ r := by
  have h1 := shl_split x r hr
  have h2 : (x * 2 ^ r % B64 + x / 2 ^ (64 - r) * B64) * B64 ^ i = x * 2 ^ r * B64 ^ i := by rw [h1]
  rw [Nat.add_mul] at h2
  have e1 : x / 2 ^ (64 - r) * B64 ^ (i + 1) = x / 2 ^ (64 - r) * B64 * B64 ^ i := by rw [Nat.pow_succ]; ac_rfl
  have e2 : (X + x * B64 ^ i) * 2 ^ r = X * 2 ^ r + x * 2 ^ r * B64 ^ i := by rw [Nat.add_mul]; congr 1; ac_rfl
  rw [e1, e2, Nat.add_mul]
  omega

/-- Word i of y over 2 to the r. -/
def lw (y : Nat → Nat) (r i : Nat) : Nat := y i / 2 ^ r + y (i + 1) * 2 ^ (64 - r) % B64
theorem lw_or (y z r : Nat) (hr : r ≤ 64) (hy : y < B64) : y / 2 ^ r ||| z * 2 ^ (64 - r) % B64 = y / 2 ^ r + z * 2 ^ (64 - r) % B64 := by
  have h := shr_lt y (64 - r) (by omega) hy
  rw [show 64 - (64 - r) = r by omega] at h
  exact low_or _ z (64 - r) (by omega) h
theorem lw_lt (y z r : Nat) (hr : r ≤ 64) (hy : y < B64) : y / 2 ^ r + z * 2 ^ (64 - r) % B64 < B64 := by
  have h := shr_lt y (64 - r) (by omega) hy
  rw [show 64 - (64 - r) = r by omega] at h
  exact low_add_lt _ z (64 - r) (by omega) h
theorem vs_lw (y : Nat → Nat) (r : Nat) (hr : r ≤ 64) (k : Nat) : 2 ^ r * vs B64 (lw y r) k + y 0 % 2 ^ r = vs B64 y k + y k % 2 ^ r * B64 ^ k := by
  induction k with
  | zero => simp [vs_zero]
  | succ k ih =>
    rw [vs_succ, vs_succ, Nat.mul_add]
    have h1 : 2 ^ r * (y (k + 1) * 2 ^ (64 - r) % B64) = y (k + 1) % 2 ^ r * B64 := by
      rw [shl_mod _ _ (by omega), show 64 - (64 - r) = r by omega, ← Nat.mul_assoc, ← Nat.pow_add, show r + (64 - r) = 64 by omega, ← B64_pow, Nat.mul_comm]
    have h2 := Nat.div_add_mod (y k) (2 ^ r)
    have e : 2 ^ r * (lw y r k * B64 ^ k) = (2 ^ r * (y k / 2 ^ r) + y (k + 1) % 2 ^ r * B64) * B64 ^ k := by
      unfold lw
      rw [← Nat.mul_assoc, Nat.mul_add, h1]
    have e2 : (2 ^ r * (y k / 2 ^ r) + y k % 2 ^ r) * B64 ^ k = y k * B64 ^ k := by rw [h2]
    rw [Nat.add_mul] at e2
    rw [e, Nat.add_mul]
    have e3 : y (k + 1) % 2 ^ r * B64 * B64 ^ k = y (k + 1) % 2 ^ r * B64 ^ (k + 1) := by rw [Nat.pow_succ]; ac_rfl
    omega
theorem vs_lw_div (y : Nat → Nat) (r L : Nat) (hr : r ≤ 64) (h0 : y L = 0) : vs B64 (lw y r) L = vs B64 y L / 2 ^ r := by
  have h := vs_lw y r hr L
  rw [h0] at h
  simp only [Nat.zero_mod, Nat.zero_mul, Nat.add_zero] at h
  have hlt : y 0 % 2 ^ r < 2 ^ r := Nat.mod_lt _ (Nat.two_pow_pos _)
  rw [← h, Nat.mul_comm, Nat.add_comm, Nat.add_mul_div_right _ _ (Nat.two_pow_pos _), Nat.div_eq_of_lt hlt, Nat.zero_add]

theorem pow_split (n : Nat) : 2 ^ n = B64 ^ (n / 64) * 2 ^ (n % 64) := by
  rw [B64_pow, ← Nat.pow_mul, ← Nat.pow_add]; congr 1; omega
/-- The words from W on. -/
theorem vs_from (x : Nat → Nat) (n W : Nat) (hx : ∀ j, j < n → x j < B64) (hW : W ≤ n) : vs B64 (fun j => x (W + j)) (n - W) = vs B64 x n / B64 ^ W := by
  have h := vs_add B64 x W (n - W)
  rw [Nat.add_sub_cancel' hW] at h
  have hlt := vs_lt (fun j hj => hx j (by omega) : ∀ j, j < W → x j < B64)
  rw [h, Nat.mul_comm, Nat.add_mul_div_right _ _ (Nat.pow_pos B64_pos), Nat.div_eq_of_lt hlt, Nat.zero_add]
theorem shr_small (x : Nat → Nat) (n W : Nat) (hx : ∀ j, j < n → x j < B64) (hW : n ≤ W) (r : Nat) : vs B64 x n / (B64 ^ W * 2 ^ r) = 0 := by
  apply Nat.div_eq_of_lt
  have h1 := vs_lt hx
  have h2 : B64 ^ n ≤ B64 ^ W := Nat.pow_le_pow_right B64_pos hW
  have h3 : B64 ^ W * 1 ≤ B64 ^ W * 2 ^ r := Nat.mul_le_mul_left _ (Nat.two_pow_pos r)
  omega

/-- V has just B bits. -/
def IsBits (V B : Nat) : Prop := V < 2 ^ B ∧ (V = 0 → B = 0) ∧ (V ≠ 0 → 0 < B ∧ 2 ^ (B - 1) ≤ V)
theorem IsBits.unique {V B C : Nat} (h : IsBits V B) (k : IsBits V C) : B = C := by
  obtain ⟨h1, h2, h3⟩ := h
  obtain ⟨k1, k2, k3⟩ := k
  rcases Nat.eq_zero_or_pos V with h0 | h0
  · rw [h2 h0, k2 h0]
  · obtain ⟨p1, p2⟩ := h3 (by omega)
    obtain ⟨q1, q2⟩ := k3 (by omega)
    have a := (Nat.pow_lt_pow_iff_right (by omega : 1 < 2)).1 (Nat.lt_of_le_of_lt p2 k1)
    have b := (Nat.pow_lt_pow_iff_right (by omega : 1 < 2)).1 (Nat.lt_of_le_of_lt q2 h1)
    omega
theorem IsBits.zero : IsBits 0 0 := ⟨by simp, fun _ => rfl, fun h => absurd rfl h⟩
/-- The bits of a trimmed number, by its highest word. -/
theorem bits_top {f : Nat → Nat} {n L : Nat} (hf : ∀ j, j < n + 1 → f j < B64) (h1 : 1 ≤ L) (h2 : 2 ^ (L - 1) ≤ f n) (h3 : f n < 2 ^ L) : IsBits (vs B64 f (n + 1)) (64 * n + L) := by
  have hlow := vs_lt (fun j hj => hf j (by omega) : ∀ j, j < n → f j < B64)
  have hB : B64 ^ n = 2 ^ (64 * n) := by rw [B64_pow, ← Nat.pow_mul]
  rw [vs_succ]
  have hge : 2 ^ (64 * n + L - 1) ≤ vs B64 f n + f n * B64 ^ n := by
    rw [show 64 * n + L - 1 = (L - 1) + 64 * n by omega, Nat.pow_add, ← hB]
    have := Nat.mul_le_mul_right (B64 ^ n) h2
    omega
  have hlt : vs B64 f n + f n * B64 ^ n < 2 ^ (64 * n + L) := by
    rw [show 64 * n + L = L + 64 * n by omega, Nat.pow_add, ← hB]
    have := Nat.mul_le_mul_right (B64 ^ n) h3
    rw [Nat.succ_mul] at this
    omega
  refine ⟨hlt, fun h => ?_, fun _ => ⟨by omega, hge⟩⟩
  have : 0 < 2 ^ (64 * n + L - 1) := Nat.two_pow_pos _
  omega
end Go.Proofs.Ythjndkkepailmaa
