/-
  Shifts, masks and the length of words, in plain numbers; the division of a half by trial. No program is named here.
-/
import Derived.Test.YthjndkkepailmaaMath
import Derived.Laws.BitsAllLaws
import Derived.Laws.Bits64
import Derived.IntWalk
import Derived.Lib.ItoaNum
namespace Go.Proofs.Ythjndkkepailmaa

theorem B64_pow : B64 = 2 ^ 64 := by unfold B64; decide
theorem len_bounds (x : Nat) (h0 : 0 < x) (h : x < B64) : 1 ≤ Lib.bitLen x ∧ Lib.bitLen x ≤ 64 ∧ 2 ^ (Lib.bitLen x - 1) ≤ x ∧ x < 2 ^ Lib.bitLen x := by
  rw [B64_pow] at h
  obtain ⟨h1, h2, h3⟩ := Lib.bitLenAux_bounds 64 x h (by omega)
  refine ⟨h1, ?_, h2, h3⟩
  have h4 : 2 ^ (Lib.bitLenAux 64 x - 1) < 2 ^ 64 := Nat.lt_of_le_of_lt h2 h
  have h5 := (Nat.pow_lt_pow_iff_right (by omega)).1 h4
  show Lib.bitLenAux 64 x ≤ 64
  omega

theorem shl_word (x s : Nat) : IntKind.u64.wrap ((x : Int) * 2 ^ s) = ((x * 2 ^ s % B64 : Nat) : Int) := by
  rw [IntKind.wrap_u64]
  have e : ((x : Int) * 2 ^ s) = ((x * 2 ^ s : Nat) : Int) := by simp
  rw [e]
  unfold B64
  omega
theorem shr_word (x s : Nat) : ((x : Int)) / 2 ^ s = ((x / 2 ^ s : Nat) : Int) := by simp
theorem and_mask (x : Nat) (h : x < B64) : bits .and .u64 (x : Int) 4294967295 = ((x % 4294967296 : Nat) : Int) := by
  have e := u64_and_nat x 4294967295 h (by omega)
  rw [show (((4294967295 : Nat)) : Int) = 4294967295 from rfl] at e
  rw [e, show (4294967295 : Nat) = 2 ^ 32 - 1 from rfl, Nat.and_two_pow_sub_one_eq_mod]
/-- The high part of x shifted up, with y's high bits under it: they don't meet. -/
theorem or_word (x y s : Nat) (hy : y < B64) (hs : s ≤ 64) : (x * 2 ^ s % B64) ||| (y / 2 ^ (64 - s)) = x * 2 ^ s % B64 + y / 2 ^ (64 - s) := by
  have e : x * 2 ^ s % B64 = 2 ^ s * (x % 2 ^ (64 - s)) := by
    rw [B64_pow, show (2 : Nat) ^ 64 = 2 ^ s * 2 ^ (64 - s) by rw [← Nat.pow_add]; congr 1; omega, Nat.mul_comm x, Nat.mul_mod_mul_left]
  have hlt : y / 2 ^ (64 - s) < 2 ^ s := by
    apply Nat.div_lt_of_lt_mul
    rw [← Nat.pow_add, show 64 - s + s = 64 by omega, ← B64_pow]
    exact hy
  rw [e, ← Nat.two_pow_add_eq_or_of_lt hlt]
theorem or_word_int (x y s : Nat) (hy : y < B64) (hs : s ≤ 64) : bits .or .u64 ((x * 2 ^ s % B64 : Nat) : Int) ((y / 2 ^ (64 - s) : Nat) : Int) = ((x * 2 ^ s % B64 + y / 2 ^ (64 - s) : Nat) : Int) := by
  have h1 : x * 2 ^ s % B64 < B64 := Nat.mod_lt _ B64_pos
  have h2 : y / 2 ^ (64 - s) < B64 := Nat.lt_of_le_of_lt (Nat.div_le_self _ _) hy
  rw [u64_or_nat _ _ h1 h2, or_word x y s hy hs]
theorem or_word_sum (x y s : Nat) (hy : y < B64) (hs : s ≤ 64) : x * 2 ^ s % B64 + y / 2 ^ (64 - s) = (x * B64 + y) * 2 ^ s / B64 % B64 := by
  have e : (x * B64 + y) * 2 ^ s / B64 = x * 2 ^ s + y / 2 ^ (64 - s) := by
    have h1 : (x * B64 + y) * 2 ^ s = x * 2 ^ s * B64 + y * 2 ^ s := by rw [Nat.add_mul]; congr 1; ac_rfl
    have h2 : y * 2 ^ s / B64 = y / 2 ^ (64 - s) := by
      rw [B64_pow, show (2 : Nat) ^ 64 = 2 ^ (64 - s) * 2 ^ s by rw [← Nat.pow_add]; congr 1; omega, Nat.mul_div_mul_right _ _ (Nat.two_pow_pos s)]
    rw [h1, Nat.add_comm, Nat.add_mul_div_right _ _ B64_pos, h2, Nat.add_comm]
  rw [e]
  have h1 : x * 2 ^ s % B64 < B64 := Nat.mod_lt _ B64_pos
  have e2 : x * 2 ^ s % B64 = 2 ^ s * (x % 2 ^ (64 - s)) := by
    rw [B64_pow, show (2 : Nat) ^ 64 = 2 ^ s * 2 ^ (64 - s) by rw [← Nat.pow_add]; congr 1; omega, Nat.mul_comm x, Nat.mul_mod_mul_left]
  have hlt : y / 2 ^ (64 - s) < 2 ^ s := by
    apply Nat.div_lt_of_lt_mul
    rw [← Nat.pow_add, show 64 - s + s = 64 by omega, ← B64_pow]
    exact hy
  have hsum : x * 2 ^ s % B64 + y / 2 ^ (64 - s) < B64 := by
    have h3 : x % 2 ^ (64 - s) < 2 ^ (64 - s) := Nat.mod_lt _ (Nat.two_pow_pos _)
    have h4 : 2 ^ s * (x % 2 ^ (64 - s) + 1) ≤ 2 ^ s * 2 ^ (64 - s) := Nat.mul_le_mul_left _ h3
    rw [← Nat.pow_add, show s + (64 - s) = 64 by omega, ← B64_pow, Nat.mul_add, Nat.mul_one] at h4
    rw [e2]; omega
  rw [Nat.add_mod, ← Nat.add_mod, Nat.add_mod]
  have h5 : y / 2 ^ (64 - s) % B64 = y / 2 ^ (64 - s) := Nat.mod_eq_of_lt (Nat.lt_of_le_of_lt (Nat.div_le_self _ _) hy)
  rw [h5, Nat.mod_eq_of_lt hsum]

/-- The quotient of one half is looked for: q isn't below it. -/
def Half (U a1 a0 u q r : Nat) : Prop := q * a1 + r = U ∧ (U * 4294967296 + u) / (a1 * 4294967296 + a0) ≤ q

section
variable {U a1 a0 u q r : Nat}
theorem Half.start (ha : 2147483648 ≤ a1) (hu : u < 4294967296) : Half U a1 a0 u (U / a1) (U % a1) := by
  refine ⟨by rw [Nat.mul_comm]; exact Nat.div_add_mod U a1, ?_⟩
  rw [Nat.le_div_iff_mul_le (by omega)]
  generalize hQ : (U * 4294967296 + u) / (a1 * 4294967296 + a0) = Q
  have h1 : Q * (a1 * 4294967296 + a0) ≤ U * 4294967296 + u := by rw [← hQ]; exact Nat.div_mul_le_self _ _
  rw [Nat.mul_add, ← Nat.mul_assoc] at h1
  omega
theorem Half.down (h : Half U a1 a0 u q r) (hU : U < a1 * 4294967296 + a0) (hu : u < 4294967296) (hc : 4294967296 ≤ q ∨ 4294967296 * r + u < q * a0) : 0 < q ∧ Half U a1 a0 u (q - 1) (r + a1) := by
  obtain ⟨h1, h2⟩ := h
  have hlt : (U * 4294967296 + u) / (a1 * 4294967296 + a0) < q := by
    rcases hc with hc | hc
    · refine Nat.lt_of_lt_of_le (Nat.div_lt_of_lt_mul ?_) hc
      have : (U + 1) * 4294967296 ≤ (a1 * 4294967296 + a0) * 4294967296 := Nat.mul_le_mul_right _ hU
      omega
    · apply Nat.div_lt_of_lt_mul
      have e : (a1 * 4294967296 + a0) * q = q * a1 * 4294967296 + q * a0 := by rw [Nat.add_mul]; congr 1 <;> ac_rfl
      rw [e]; omega
  have hq : 0 < q := Nat.lt_of_le_of_lt (Nat.zero_le _) hlt
  refine ⟨hq, ?_, Nat.le_sub_one_of_lt hlt⟩
  clear hlt h2
  obtain ⟨k, rfl⟩ : ∃ k, q = k + 1 := ⟨q - 1, by omega⟩
  rw [Nat.add_mul, Nat.one_mul] at h1
  simp only [Nat.add_sub_cancel]
  omega
theorem Half.done (h : Half U a1 a0 u q r) (ha : 2147483648 ≤ a1) (hc : q * a0 ≤ 4294967296 * r + u) : q = (U * 4294967296 + u) / (a1 * 4294967296 + a0) := by
  obtain ⟨h1, h2⟩ := h
  apply Nat.le_antisymm _ h2
  rw [Nat.le_div_iff_mul_le (by omega)]
  have e : q * (a1 * 4294967296 + a0) = q * a1 * 4294967296 + q * a0 := by rw [Nat.mul_add]; congr 1; ac_rfl
  rw [e]; omega
theorem Half.far (h : Half U a1 a0 u q r) (ha : 2147483648 ≤ a1) (ha0 : a0 < 4294967296) (hU : U < a1 * 4294967296 + a0) (hr : 4294967296 ≤ r) : q = (U * 4294967296 + u) / (a1 * 4294967296 + a0) := by
  have hq : q < 4294967296 := by
    rcases Nat.lt_or_ge q 4294967296 with h5 | h5
    · exact h5
    · have : 4294967296 * a1 ≤ q * a1 := Nat.mul_le_mul_right _ h5
      have := h.1
      omega
  refine h.done ha ?_
  have : q * a0 ≤ 4294967295 * 4294967295 := Nat.mul_le_mul (by omega) (by omega)
  omega
end
/-- What is left of one half, reckoned in wrapped words. -/
theorem left_word {U u p V : Nat} (h : U * 4294967296 + u = p + V) (hV : V < B64) :
    IntKind.u64.wrap (IntKind.u64.wrap (IntKind.u64.wrap ((U : Int) * 4294967296) + (u : Int)) - IntKind.u64.wrap (p : Int)) = (V : Int) := by
  simp only [IntKind.wrap_u64]
  unfold B64 at hV
  omega
end Go.Proofs.Ythjndkkepailmaa
