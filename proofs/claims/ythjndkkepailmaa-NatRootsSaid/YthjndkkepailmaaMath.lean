/-
  Plain lemmas on numbers that are written as digits of some base: f 0 is the lowest digit.
-/
namespace Go.Proofs.Ythjndkkepailmaa

/-- The base of the words: 2 to the 64. -/
def B64 : Nat := 18446744073709551616
theorem B64_pos : 0 < B64 := by unfold B64; omega

/-- The number that the first n digits of f stand for. -/
def vs (b : Nat) (f : Nat → Nat) : Nat → Nat
  | 0 => 0
  | n + 1 => vs b f n + f n * b ^ n

/-- The highest of n digits isn't 0. -/
def Cn (n : Nat) (f : Nat → Nat) : Prop := n = 0 ∨ f (n - 1) ≠ 0

/-- How many digits are left when the zeros at the high end are cut. -/
def tl (f : Nat → Nat) : Nat → Nat
  | 0 => 0
  | k + 1 => if f k = 0 then tl f k else k + 1

def upd (f : Nat → Nat) (i x : Nat) : Nat → Nat := fun j => if j = i then x else f j
theorem upd_same (f : Nat → Nat) (i x : Nat) : upd f i x i = x := by simp [upd]
theorem upd_other (f : Nat → Nat) (i x j : Nat) (h : j ≠ i) : upd f i x j = f j := by simp [upd, h]

theorem vs_zero (b : Nat) (f : Nat → Nat) : vs b f 0 = 0 := rfl
theorem vs_succ (b : Nat) (f : Nat → Nat) (n : Nat) : vs b f (n + 1) = vs b f n + f n * b ^ n := rfl
theorem vs_congr {b : Nat} {f g : Nat → Nat} {n : Nat} (h : ∀ j, j < n → f j = g j) : vs b f n = vs b g n := by
  induction n with
  | zero => rfl
  | succ n ih => rw [vs_succ, vs_succ, ih (fun j hj => h j (by omega)), h n (by omega)]
theorem vs_lt {b : Nat} {f : Nat → Nat} {n : Nat} (h : ∀ j, j < n → f j < b) : vs b f n < b ^ n := by
  induction n with
  | zero => simp [vs_zero]
  | succ n ih =>
    have h1 := ih (fun j hj => h j (by omega))
    have h2 := h n (by omega)
    rw [vs_succ, Nat.pow_succ]
    have h3 : (f n + 1) * b ^ n ≤ b * b ^ n := Nat.mul_le_mul_right _ h2
    rw [Nat.add_mul, Nat.one_mul] at h3
    rw [Nat.mul_comm (b ^ n) b]
    omega
theorem vs_add (b : Nat) (f : Nat → Nat) (m n : Nat) : vs b f (m + n) = vs b f m + b ^ m * vs b (fun j => f (m + j)) n := by
  induction n with
  | zero => simp [vs_zero]
  | succ n ih =>
    rw [← Nat.add_assoc, vs_succ, ih, vs_succ, Nat.mul_add, Nat.pow_add]
    have : f (m + n) * (b ^ m * b ^ n) = b ^ m * (f (m + n) * b ^ n) := by ac_rfl
    omega
theorem vs_upd_ge (b : Nat) (f : Nat → Nat) (i x n : Nat) (h : n ≤ i) : vs b (upd f i x) n = vs b f n :=
  vs_congr fun j hj => upd_other f i x j (by omega)
theorem vs_tl (b : Nat) (f : Nat → Nat) (n : Nat) : vs b f (tl f n) = vs b f n := by
  induction n with
  | zero => rfl
  | succ n ih =>
    unfold tl
    by_cases h : f n = 0
    · rw [if_pos h, ih, vs_succ, h, Nat.zero_mul, Nat.add_zero]
    · rw [if_neg h]
theorem tl_le (f : Nat → Nat) (n : Nat) : tl f n ≤ n := by
  induction n with
  | zero => exact Nat.le_refl _
  | succ n ih => unfold tl; split <;> omega
theorem tl_cn (f : Nat → Nat) (n : Nat) : Cn (tl f n) f := by
  induction n with
  | zero => exact .inl rfl
  | succ n ih =>
    unfold tl
    by_cases h : f n = 0
    · rw [if_pos h]; exact ih
    · rw [if_neg h]; exact .inr (by simpa using h)
theorem vs_ge {b n : Nat} {f : Nat → Nat} (h : Cn n f) (hn : 0 < n) : b ^ (n - 1) ≤ vs b f n := by
  rcases h with h | h
  · omega
  · obtain ⟨k, rfl⟩ : ∃ k, n = k + 1 := ⟨n - 1, by omega⟩
    rw [vs_succ]
    have : 1 * b ^ k ≤ f k * b ^ k := Nat.mul_le_mul_right _ (by simp only [Nat.add_sub_cancel] at h; omega)
    simp only [Nat.add_sub_cancel]
    omega
theorem vs_eq_zero {b n : Nat} {f : Nat → Nat} (hb : 0 < b) (h : Cn n f) (hv : vs b f n = 0) : n = 0 := by
  rcases Nat.eq_zero_or_pos n with h0 | h0
  · exact h0
  · have h1 := vs_ge (b := b) h h0
    have h2 : 0 < b ^ (n - 1) := Nat.pow_pos hb
    omega
/-- A number of m digits at most has no more of them. -/
theorem cn_le {b n m : Nat} {f : Nat → Nat} (hb : 1 < b) (h : Cn n f) (hv : vs b f n < b ^ m) : n ≤ m := by
  rcases Nat.eq_zero_or_pos n with h0 | h0
  · omega
  · have h1 := vs_ge (b := b) h h0
    have h2 : b ^ (n - 1) < b ^ m := by omega
    have h3 := (Nat.pow_lt_pow_iff_right hb).1 h2
    omega
/-- One way to write a number. -/
theorem digits_eq {b : Nat} {f g : Nat → Nat} {n : Nat} (hf : ∀ j, j < n → f j < b) (hg : ∀ j, j < n → g j < b) (hv : vs b f n = vs b g n) : ∀ j, j < n → f j = g j := by
  induction n with
  | zero => intro j hj; omega
  | succ n ih =>
    have h1 := vs_lt (fun j hj => hf j (by omega) : ∀ j, j < n → f j < b)
    have h2 := vs_lt (fun j hj => hg j (by omega) : ∀ j, j < n → g j < b)
    rw [vs_succ, vs_succ] at hv
    have hp : 0 < b ^ n := by omega
    have e1 : f n = g n := by
      have a1 : (vs b f n + f n * b ^ n) / b ^ n = f n := by rw [Nat.add_mul_div_right _ _ hp, Nat.div_eq_of_lt h1, Nat.zero_add]
      have a2 : (vs b g n + g n * b ^ n) / b ^ n = g n := by rw [Nat.add_mul_div_right _ _ hp, Nat.div_eq_of_lt h2, Nat.zero_add]
      rw [← a1, ← a2, hv]
    have e2 : vs b f n = vs b g n := by rw [e1] at hv; omega
    intro j hj
    rcases Nat.lt_or_ge j n with hlt | hge
    · exact ih (fun j hj => hf j (by omega)) (fun j hj => hg j (by omega)) e2 j hlt
    · have : j = n := by omega
      subst this; exact e1
theorem canon_eq {b n m : Nat} {f g : Nat → Nat} (hb : 1 < b) (hf : ∀ j, j < n → f j < b) (hg : ∀ j, j < m → g j < b) (cf : Cn n f) (cg : Cn m g) (hv : vs b f n = vs b g m) :
    n = m ∧ ∀ j, j < n → f j = g j := by
  have h1 := cn_le hb cf (hv ▸ vs_lt hg)
  have h2 := cn_le hb cg (hv ▸ vs_lt hf)
  have : n = m := by omega
  subst this
  exact ⟨rfl, digits_eq hf hg hv⟩
theorem vs_mul (b x : Nat) (y : Nat → Nat) (n : Nat) : vs b (fun j => x * y j) n = x * vs b y n := by
  induction n with
  | zero => simp [vs_zero]
  | succ n ih => rw [vs_succ, vs_succ, ih, Nat.mul_add, Nat.mul_assoc]
/-- One step of a sum: the digits below are right, and a carry c goes in. -/
theorem step_add {V S Y c b n s y r d : Nat} (h : V + c * b ^ n = S + Y) (hr : r + d * b = s + y + c) : V + r * b ^ n + d * b ^ (n + 1) = S + s * b ^ n + (Y + y * b ^ n) := by
  have h1 : (r + d * b) * b ^ n = (s + y + c) * b ^ n := by rw [hr]
  rw [Nat.add_mul, Nat.add_mul, Nat.add_mul] at h1
  have h2 : d * b ^ (n + 1) = d * b * b ^ n := by rw [Nat.pow_succ]; ac_rfl
  omega
end Go.Proofs.Ythjndkkepailmaa
