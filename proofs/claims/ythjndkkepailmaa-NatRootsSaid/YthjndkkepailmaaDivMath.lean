/-
  The division of long numbers word by word, in plain numbers: a guess by the highest words, set right. No program is named here.
-/
import Derived.Test.YthjndkkepailmaaShiftMath
namespace Go.Proofs.Ythjndkkepailmaa

/-- A quotient's word is looked for in base D: q isn't below it. -/
def HalfD (D U a1 a0 u q r : Nat) : Prop := q * a1 + r = U ∧ (U * D + u) / (a1 * D + a0) ≤ q
section
variable {D U a1 a0 u q r : Nat}
theorem HalfD.start (ha : 0 < a1) (hu : u < D) : HalfD D U a1 a0 u (U / a1) (U % a1) := by
  refine ⟨by rw [Nat.mul_comm]; exact Nat.div_add_mod U a1, ?_⟩
  rw [Nat.le_div_iff_mul_le ha]
  generalize hQ : (U * D + u) / (a1 * D + a0) = Q
  have h1 : Q * (a1 * D + a0) ≤ U * D + u := by rw [← hQ]; exact Nat.div_mul_le_self _ _
  rw [Nat.mul_add, ← Nat.mul_assoc] at h1
  rcases Nat.lt_or_ge U (Q * a1) with h | h
  · have h2 : (U + 1) * D ≤ Q * a1 * D := Nat.mul_le_mul_right _ h
    rw [Nat.add_mul, Nat.one_mul] at h2
    omega
  · exact h
theorem HalfD.down (h : HalfD D U a1 a0 u q r) (hc : D * r + u < q * a0) : 0 < q ∧ HalfD D U a1 a0 u (q - 1) (r + a1) := by
  obtain ⟨h1, h2⟩ := h
  have hlt : (U * D + u) / (a1 * D + a0) < q := by
    apply Nat.div_lt_of_lt_mul
    have e : (a1 * D + a0) * q = q * a1 * D + q * a0 := by rw [Nat.add_mul]; congr 1 <;> ac_rfl
    have e2 : U * D = q * a1 * D + D * r := by rw [← h1, Nat.add_mul, Nat.mul_comm r]
    rw [e]; omega
  have hq : 0 < q := Nat.lt_of_le_of_lt (Nat.zero_le _) hlt
  refine ⟨hq, ?_, Nat.le_sub_one_of_lt hlt⟩
  clear hlt h2
  obtain ⟨k, rfl⟩ : ∃ k, q = k + 1 := ⟨q - 1, by omega⟩
  rw [Nat.add_mul, Nat.one_mul] at h1
  simp only [Nat.add_sub_cancel]
  omega
theorem HalfD.done (h : HalfD D U a1 a0 u q r) (hp : 0 < a1 * D + a0) (hc : q * a0 ≤ D * r + u) : q = (U * D + u) / (a1 * D + a0) := by
  obtain ⟨h1, h2⟩ := h
  apply Nat.le_antisymm _ h2
  rw [Nat.le_div_iff_mul_le hp]
  have e : q * (a1 * D + a0) = q * a1 * D + q * a0 := by rw [Nat.mul_add]; congr 1; ac_rfl
  have e2 : U * D = q * a1 * D + D * r := by rw [← h1, Nat.add_mul, Nat.mul_comm r]
  rw [e]; omega
theorem HalfD.far (h : HalfD D U a1 a0 u q r) (hp : 0 < a1 * D + a0) (hq : q < D) (ha : a0 < D) (hr : D ≤ r) : q = (U * D + u) / (a1 * D + a0) := by
  refine h.done hp ?_
  have h1 : q * a0 ≤ D * D := Nat.mul_le_mul (by omega) (by omega)
  have h2 : D * D ≤ D * r := Nat.mul_le_mul_left _ hr
  omega
end
/-- The product of two words against two words. -/
theorem over_gt {x y r u o v : Nat} (h : o * B64 + v = x * y) (hu : u < B64) (hv : v < B64) : B64 * r + u < x * y ↔ (r < o ∨ (o = r ∧ u < v)) := by
  rw [← h, Nat.mul_comm B64]
  constructor
  · intro hlt
    rcases Nat.lt_or_ge r o with h1 | h1
    · exact .inl h1
    · rcases Nat.lt_or_ge o r with h2 | h2
      · have : (o + 1) * B64 ≤ r * B64 := Nat.mul_le_mul_right _ h2
        rw [Nat.add_mul, Nat.one_mul] at this
        omega
      · have : o = r := by omega
        subst this
        exact .inr ⟨rfl, by omega⟩
  · rintro (h1 | ⟨rfl, h1⟩)
    · have : (r + 1) * B64 ≤ o * B64 := Nat.mul_le_mul_right _ h1
      rw [Nat.add_mul, Nat.one_mul] at this
      omega
    · omega

/-- What guess answers of the three highest words of what is left and the two highest of the divisor. -/
def GuessIs (l0 l1 l2 d0 d1 q : Nat) : Prop := q < B64 ∧ ((d1 ≤ l2 ∧ q = B64 - 1) ∨ (l2 < d1 ∧ q = ((l2 * B64 + l1) * B64 + l0) / (d1 * B64 + d0)))

/-- The guess is right, or one too high. P is the base's power below the words that were looked at. -/
theorem guess_near {l0 l1 l2 d0 d1 q P a v : Nat} (h : GuessIs l0 l1 l2 d0 d1 q) (hd : B64 ≤ 2 * d1) (hd0 : d0 < B64) (ha : a < P) (hv : v < P)
    (hlt : a + P * ((l2 * B64 + l1) * B64 + l0) < (v + P * (d1 * B64 + d0)) * B64) :
    ∃ R, R < v + P * (d1 * B64 + d0) ∧ ((a + P * ((l2 * B64 + l1) * B64 + l0) = q * (v + P * (d1 * B64 + d0)) + R) ∨ (0 < q ∧ a + P * ((l2 * B64 + l1) * B64 + l0) = (q - 1) * (v + P * (d1 * B64 + d0)) + R ∧ a + P * ((l2 * B64 + l1) * B64 + l0) < q * (v + P * (d1 * B64 + d0)))) := by
  have hB := B64_pos
  have hP : 0 < P := by omega
  have hd1 : 0 < d1 := by omega
  have hD2 : B64 ≤ d1 * B64 + d0 := by have : 1 * B64 ≤ d1 * B64 := Nat.mul_le_mul_right _ hd1; omega
  obtain ⟨hqB, hq⟩ := h
  -- never below, and one less isn't above
  have key : (q - 1) * (v + P * (d1 * B64 + d0)) ≤ a + P * ((l2 * B64 + l1) * B64 + l0) ∧ a + P * ((l2 * B64 + l1) * B64 + l0) < (q + 1) * (v + P * (d1 * B64 + d0)) := by
    rcases hq with ⟨hge, rfl⟩ | ⟨hl, hqe⟩
    · refine ⟨?_, ?_⟩
      · have h1 : (v + P * (d1 * B64 + d0)) ≤ P * (d1 * B64 + d0 + 1) := by rw [Nat.mul_add P (d1 * B64 + d0)]; omega
        have h2 : (B64 - 1 - 1) * (d1 * B64 + d0 + 1) ≤ l2 * B64 * B64 := by
          have h3 : d1 * B64 + d0 + 1 ≤ (d1 + 1) * B64 := by rw [Nat.add_mul, Nat.one_mul]; omega
          have h4 : (B64 - 1 - 1) * (d1 * B64 + d0 + 1) ≤ (B64 - 1 - 1) * ((d1 + 1) * B64) := Nat.mul_le_mul_left _ h3
          have h5 : (B64 - 1 - 1) * (d1 + 1) ≤ d1 * B64 := by
            obtain ⟨k, hk⟩ : ∃ k, B64 = k + 2 := ⟨B64 - 2, by unfold B64; omega⟩
            rw [hk]; simp only [show k + 2 - 1 - 1 = k by omega]
            rw [Nat.mul_add, Nat.mul_add, Nat.mul_comm k d1]; omega
          have h6 : (B64 - 1 - 1) * ((d1 + 1) * B64) ≤ d1 * B64 * B64 := by rw [← Nat.mul_assoc]; exact Nat.mul_le_mul_right _ h5
          have h7 : d1 * B64 * B64 ≤ l2 * B64 * B64 := Nat.mul_le_mul_right _ (Nat.mul_le_mul_right _ hge)
          omega
        have h8 : (B64 - 1 - 1) * (v + P * (d1 * B64 + d0)) ≤ (B64 - 1 - 1) * (P * (d1 * B64 + d0 + 1)) := Nat.mul_le_mul_left _ h1
        have h9 : (B64 - 1 - 1) * (P * (d1 * B64 + d0 + 1)) = P * ((B64 - 1 - 1) * (d1 * B64 + d0 + 1)) := by ac_rfl
        have h10 : P * ((B64 - 1 - 1) * (d1 * B64 + d0 + 1)) ≤ P * ((l2 * B64 + l1) * B64 + l0) := by
          apply Nat.mul_le_mul_left
          rw [Nat.add_mul]; omega
        omega
      · rw [show B64 - 1 + 1 = B64 by omega, Nat.mul_comm B64]; exact hlt
    · have hdm := Nat.div_add_mod ((l2 * B64 + l1) * B64 + l0) (d1 * B64 + d0)
      have hm : ((l2 * B64 + l1) * B64 + l0) % (d1 * B64 + d0) < d1 * B64 + d0 := Nat.mod_lt _ (by omega)
      rw [← hqe] at hdm
      generalize ((l2 * B64 + l1) * B64 + l0) % (d1 * B64 + d0) = m at *
      generalize (l2 * B64 + l1) * B64 + l0 = T at *
      generalize d1 * B64 + d0 = D2 at *
      refine ⟨?_, ?_⟩
      · rcases Nat.eq_zero_or_pos q with h0 | h0
        · subst h0; simp
        · obtain ⟨k, rfl⟩ : ∃ k, q = k + 1 := ⟨q - 1, by omega⟩
          simp only [Nat.add_sub_cancel]
          have h1 : k * (v + P * D2) ≤ k * (P + P * D2) := Nat.mul_le_mul_left _ (by omega)
          have h2 : k * (P + P * D2) = P * (k * (1 + D2)) := by rw [show P + P * D2 = P * (1 + D2) by rw [Nat.mul_add, Nat.mul_one]]; ac_rfl
          have h3 : k * (1 + D2) ≤ T := by
            rw [Nat.mul_add, Nat.mul_one]
            have : D2 * (k + 1) = k * D2 + D2 := by rw [Nat.mul_add, Nat.mul_one, Nat.mul_comm]
            omega
          have h4 : P * (k * (1 + D2)) ≤ P * T := Nat.mul_le_mul_left _ h3
          omega
      · have h1 : P * (T + 1) ≤ P * (D2 * q + D2) := Nat.mul_le_mul_left _ (by omega)
        have h2 : P * (D2 * q + D2) = (q + 1) * (P * D2) := by rw [show D2 * q + D2 = D2 * (q + 1) by rw [Nat.mul_add, Nat.mul_one]]; ac_rfl
        have h3 : (q + 1) * (P * D2) ≤ (q + 1) * (v + P * D2) := Nat.mul_le_mul_left _ (by omega)
        rw [Nat.mul_add, Nat.mul_one] at h1
        omega
  generalize v + P * (d1 * B64 + d0) = V at *
  generalize a + P * ((l2 * B64 + l1) * B64 + l0) = Z at *
  obtain ⟨k1, k2⟩ := key
  rw [Nat.add_mul, Nat.one_mul] at k2
  rcases Nat.lt_or_ge Z (q * V) with h1 | h1
  · have hq0 : 0 < q := by
      rcases Nat.eq_zero_or_pos q with h0 | h0
      · subst h0; omega
      · exact h0
    refine ⟨Z - (q - 1) * V, ?_, .inr ⟨hq0, by omega, h1⟩⟩
    have e : q * V = (q - 1) * V + V := by
      obtain ⟨k, rfl⟩ : ∃ k, q = k + 1 := ⟨q - 1, by omega⟩
      rw [Nat.add_mul, Nat.one_mul]; simp
    omega
  · exact ⟨Z - q * V, by omega, .inl (by omega)⟩
end Go.Proofs.Ythjndkkepailmaa
