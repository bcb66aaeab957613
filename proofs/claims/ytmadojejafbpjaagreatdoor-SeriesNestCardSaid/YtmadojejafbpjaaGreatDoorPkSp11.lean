/-
  The least and the greatest of a list of dyads, in numbers.
  The least and the greatest product of two spans, in plain numbers.
  Quotients of dyads, on numbers.
  The least and the greatest of some dyads, in numbers (no memory is named).
  The reference's product of two spans, in numbers, and that it is the code's.
  The reference's quotient of two spans, in numbers, and that it is the code's.
-/
import Derived.Test.YtmadojejafbpjaaGreatDoorPkNumbers
import Derived.Test.YtmadojejafbpjaaGreatDoorPkDy12
import Derived.Test.YtmadojejafbpjaaGreatDoorPkSp4
import Derived.Test.YtmadojejafbpjaaGreatDoorPkSp6
import Derived.Test.YtmadojejafbpjaaGreatDoorPkSp10
import Derived.Test.YtmadojejafbpjaaGreatDoorPkSp7
namespace Go.Proofs.YtmadojejafbpjaaGreatDoor
open Go.RowKit

/-- Where a number tells the order of the list, the one that is kept has the least number, or the greatest. -/
theorem bestL_is (l : DL) (most : Bool) (k : Nat) (f : Nat → Int) (hc : ∀ i j, i < k → j < k → betterL l most i j = if most then decide (f j < f i) else decide (f i < f j)) (n : Nat) (hn : n < k) :
    ∀ i, i ≤ n → if most then f i ≤ f (bestL l most n) else f (bestL l most n) ≤ f i := by
  induction n with
  | zero =>
    intro i hi
    obtain rfl : i = 0 := by omega
    cases most <;> exact Int.le_refl _
  | succ n ih =>
    intro i hi
    have h0 := ih (by omega)
    have hb := bestL_le l most n
    have h1 := hc (n + 1) (bestL l most n) hn (by omega)
    rw [bestL]
    generalize bestL l most n = b at *
    rw [h1]
    cases most
    · simp only [Bool.false_eq_true, if_false, decide_eq_true_eq] at h0 ⊢
      rcases Nat.lt_or_ge n i with h | h
      · obtain rfl : i = n + 1 := by omega
        split <;> omega
      · have := h0 i h
        split <;> omega
    · simp only [if_true, decide_eq_true_eq] at h0 ⊢
      rcases Nat.lt_or_ge n i with h | h
      · obtain rfl : i = n + 1 := by omega
        split <;> omega
      · have := h0 i h
        split <;> omega
end Go.Proofs.YtmadojejafbpjaaGreatDoor

namespace Go.Proofs.YtmadojejafbpjaaGreatDoor
open Go.RowKit

/-- What a dyad (or a number) stands for, in units of 2 to the g. -/
def val (r : DR) (g : Int) : Int := valI r.neg r.m r.e g
theorem val_zero {r : DR} {g : Int} (h : r.m = 0) : val r g = 0 := by
  unfold val valI mag
  rw [h, Nat.zero_mul]
  split <;> rfl
theorem mag_pos {V : Nat} {e g : Int} (h : 0 < V) : 0 < mag V e g := Nat.mul_pos h (Nat.two_pow_pos _)
theorem val_neg {r : DR} {g : Int} (h : r.neg = true) : val r g ≤ 0 ∧ (0 < r.m → val r g < 0) := by
  unfold val valI
  rw [if_pos h]
  exact ⟨by omega, fun h0 => by have := mag_pos (e := r.e) (g := g) h0; omega⟩
theorem val_pos {r : DR} {g : Int} (h : r.neg = false) : 0 ≤ val r g ∧ (0 < r.m → 0 < val r g) := by
  unfold val valI
  rw [if_neg (by rw [h]; decide)]
  exact ⟨by omega, fun h0 => by have := mag_pos (e := r.e) (g := g) h0; omega⟩
/-- Numbers that stand for the same are cut to the same. -/
theorem cut_val {r s : DR} {g : Int} (hr : r.m = 0 ∨ g ≤ r.e) (hs : s.m = 0 ∨ g ≤ s.e) (h : val r g = val s g) (p : Nat) (up : Bool) : cutD r.neg r.m r.e false p up = cutD s.neg s.m s.e false p up := by
  rcases Nat.eq_zero_or_pos r.m with h0 | h0
  · have h1 : s.m = 0 := by
      rcases Nat.eq_zero_or_pos s.m with h1 | h1
      · exact h1
      · exfalso
        rw [val_zero h0] at h
        cases hn : s.neg
        · have := (val_pos (g := g) hn).2 h1; omega
        · have := (val_neg (g := g) hn).2 h1; omega
    rw [h0, h1, cut_zero, cut_zero]
  · have h1 : 0 < s.m := by
      rcases Nat.eq_zero_or_pos s.m with h1 | h1
      · exfalso
        rw [val_zero h1] at h
        cases hn : r.neg
        · have := (val_pos (g := g) hn).2 h0; omega
        · have := (val_neg (g := g) hn).2 h0; omega
      · exact h1
    have hr' : g ≤ r.e := by rcases hr with h | h <;> omega
    have hs' : g ≤ s.e := by rcases hs with h | h <;> omega
    have hn : r.neg = s.neg := by
      cases hr1 : r.neg <;> cases hs1 : s.neg
      · rfl
      · have := (val_pos (g := g) hr1).2 h0; have := (val_neg (g := g) hs1).2 h1; omega
      · have := (val_neg (g := g) hr1).2 h0; have := (val_pos (g := g) hs1).2 h1; omega
      · rfl
    have hm : mag r.m r.e g = mag s.m s.e g := by
      unfold val valI at h
      rw [hn] at h
      split at h <;> omega
    obtain ⟨j, hj⟩ : ∃ j : Nat, r.e - g = (j : Int) := ⟨(r.e - g).toNat, by omega⟩
    obtain ⟨k, hk⟩ : ∃ k : Nat, s.e - g = (k : Int) := ⟨(s.e - g).toNat, by omega⟩
    have c1 := cut_shift r.neg up r.m j p r.e
    have c2 := cut_shift s.neg up s.m k p s.e
    unfold mag at hm
    rw [hj, hk, Int.toNat_natCast, Int.toNat_natCast] at hm
    rw [show r.e - (j : Int) = g by omega] at c1
    rw [show s.e - (k : Int) = g by omega] at c2
    rw [← c1, ← c2, hm, hn]
theorem val_prod {r s : DR} {g g' : Int} (hr : g ≤ r.e) (hs : g' ≤ s.e) : val (prodN r s) (g + g') = val r g * val s g' := by
  have hm : (mag (r.m * s.m) (r.e + s.e) (g + g') : Int) = (mag r.m r.e g : Int) * (mag s.m s.e g' : Int) := by
    rw [← Int.natCast_mul]
    congr 1
    unfold mag
    rw [show (r.e + s.e - (g + g')).toNat = (r.e - g).toNat + (s.e - g').toNat by omega, Nat.pow_add]
    simp only [Nat.mul_assoc, Nat.mul_left_comm]
  unfold val valI prodN
  simp only
  rw [hm]
  cases r.neg <;> cases s.neg <;> simp [Int.neg_mul, Int.mul_neg]
theorem ord_val {r s : DR} {g : Int} (hr : g ≤ r.e) (hs : g ≤ s.e) (h : ordD r.neg s.neg r.m s.m r.e s.e ≤ 0) : val r g ≤ val s g := by
  have m1 := mag_on (Va := r.m) hr hs
  have m2 := mag_on (Va := s.m) hs hr
  rw [show min s.e r.e = min r.e s.e by omega] at m2
  have key : ∀ {X Y : Nat}, X ≤ Y → X * 2 ^ (min r.e s.e - g).toNat ≤ Y * 2 ^ (min r.e s.e - g).toNat := fun h => Nat.mul_le_mul_right _ h
  unfold ordD sizeC at h
  unfold val valI
  have hc : ∀ {X Y : Nat}, cmpN X Y ≤ 0 → X ≤ Y := fun {X Y} h => by
    rcases Nat.lt_or_ge Y X with h1 | h1
    · rw [cmpN_gt h1] at h; omega
    · exact h1
  cases hr1 : r.neg <;> cases hs1 : s.neg <;> rw [hr1, hs1] at h
  · simp only [if_true, Bool.false_eq_true, if_false] at h ⊢
    have := key (hc h)
    omega
  · simp at h
  · simp only [if_true, Bool.false_eq_true, if_false]; omega
  · simp only [if_true] at h ⊢
    rw [cmpN_anti] at h
    have := key (hc (X := onE s.m s.e r.e) (Y := onE r.m r.e s.e) (by omega))
    omega
theorem gr_val {r s : DR} {g : Int} (hr : g ≤ r.e) (hs : g ≤ s.e) : (grN r s = s ∧ mag r.m r.e g < mag s.m s.e g) ∨ (grN r s = r ∧ mag s.m s.e g ≤ mag r.m r.e g) := by
  have m1 := mag_on (Va := r.m) hr hs
  have m2 := mag_on (Va := s.m) hs hr
  rw [show min s.e r.e = min r.e s.e by omega] at m2
  unfold grN
  by_cases h : onE r.m r.e s.e < onE s.m s.e r.e
  · rw [if_pos h]
    exact .inl ⟨rfl, by rw [m1, m2]; exact Nat.mul_lt_mul_of_pos_right h (Nat.two_pow_pos _)⟩
  · rw [if_neg h]
    exact .inr ⟨rfl, by rw [m1, m2]; exact Nat.mul_le_mul_right _ (by omega)⟩

structure IsMin (x a1 a2 b1 b2 : Int) : Prop where
  l1 : x ≤ a1 * b1
  l2 : x ≤ a1 * b2
  l3 : x ≤ a2 * b1
  l4 : x ≤ a2 * b2
  one : x = a1 * b1 ∨ x = a1 * b2 ∨ x = a2 * b1 ∨ x = a2 * b2
structure IsMax (x a1 a2 b1 b2 : Int) : Prop where
  l1 : a1 * b1 ≤ x
  l2 : a1 * b2 ≤ x
  l3 : a2 * b1 ≤ x
  l4 : a2 * b2 ≤ x
  one : x = a1 * b1 ∨ x = a1 * b2 ∨ x = a2 * b1 ∨ x = a2 * b2
/-- How products of ends lie to each other, by the signs. -/
structure Prods (a1 a2 b1 b2 : Int) : Prop where
  r1 : 0 ≤ a1 → a1 * b1 ≤ a1 * b2
  r2 : a1 ≤ 0 → a1 * b2 ≤ a1 * b1
  r3 : 0 ≤ a2 → a2 * b1 ≤ a2 * b2
  r4 : a2 ≤ 0 → a2 * b2 ≤ a2 * b1
  c1 : 0 ≤ b1 → a1 * b1 ≤ a2 * b1
  c2 : b1 ≤ 0 → a2 * b1 ≤ a1 * b1
  c3 : 0 ≤ b2 → a1 * b2 ≤ a2 * b2
  c4 : b2 ≤ 0 → a2 * b2 ≤ a1 * b2
theorem prods_of {a1 a2 b1 b2 : Int} (ha : a1 ≤ a2) (hb : b1 ≤ b2) : Prods a1 a2 b1 b2 :=
  ⟨fun h => Int.mul_le_mul_of_nonneg_left hb h, fun h => Int.mul_le_mul_of_nonpos_left h hb, fun h => Int.mul_le_mul_of_nonneg_left hb h, fun h => Int.mul_le_mul_of_nonpos_left h hb,
    fun h => Int.mul_le_mul_of_nonneg_right ha h, fun h => Int.mul_le_mul_of_nonpos_right ha h, fun h => Int.mul_le_mul_of_nonneg_right ha h, fun h => Int.mul_le_mul_of_nonpos_right ha h⟩
theorem IsMin.swap {x a1 a2 b1 b2 : Int} (h : IsMin x b1 b2 a1 a2) : IsMin x a1 a2 b1 b2 := by
  obtain ⟨h1, h2, h3, h4, h5⟩ := h
  rw [Int.mul_comm b1 a1] at h1 h5
  rw [Int.mul_comm b1 a2] at h2 h5
  rw [Int.mul_comm b2 a1] at h3 h5
  rw [Int.mul_comm b2 a2] at h4 h5
  exact ⟨h1, h3, h2, h4, by omega⟩
theorem IsMax.swap {x a1 a2 b1 b2 : Int} (h : IsMax x b1 b2 a1 a2) : IsMax x a1 a2 b1 b2 := by
  obtain ⟨h1, h2, h3, h4, h5⟩ := h
  rw [Int.mul_comm b1 a1] at h1 h5
  rw [Int.mul_comm b1 a2] at h2 h5
  rw [Int.mul_comm b2 a1] at h3 h5
  rw [Int.mul_comm b2 a2] at h4 h5
  exact ⟨h1, h3, h2, h4, by omega⟩
/-- By the signs of dyads. -/
structure SignV (r : DR) (a : Int) : Prop where
  neg : r.neg = true → a < 0
  pos : r.neg = false → 0 ≤ a
theorem sign_v {r : DR} {g : Int} (h : PlainR r) : SignV r (val r g) := by
  refine ⟨fun hn => (val_neg hn).2 ?_, fun hn => (val_pos hn).1⟩
  rcases Nat.eq_zero_or_pos r.m with h0 | h0
  · have := (h.zero h0).2; rw [this] at hn; cases hn
  · exact h0
theorem above_v {r : DR} {g : Int} (h : aboveI r = false) : val r g ≤ 0 := by
  unfold aboveI at h
  cases hn : r.neg
  · rw [hn] at h
    have : r.m = 0 := by simpa using h
    rw [val_zero this]; exact Int.le_refl 0
  · exact (val_neg hn).1
theorem prods1_val {lo hi lo' hi' : DR} {g g' : Int} (h1 : PlainR lo) (h2 : PlainR hi) (h3 : PlainR lo') (e1 : g ≤ lo.e) (e2 : g ≤ hi.e) (e3 : g' ≤ lo'.e) (e4 : g' ≤ hi'.e)
    (ha : val lo g ≤ val hi g) (hb : val lo' g' ≤ val hi' g') (h0 : lo'.neg = true → aboveI hi' = false) :
    IsMin (val (prods1 lo hi lo' hi').1 (g + g')) (val lo g) (val hi g) (val lo' g') (val hi' g') ∧ IsMax (val (prods1 lo hi lo' hi').2 (g + g')) (val lo g) (val hi g) (val lo' g') (val hi' g') := by
  have s1 := sign_v (g := g) h1
  have s2 := sign_v (g := g) h2
  have s3 := sign_v (g := g') h3
  have P := prods_of ha hb
  obtain ⟨q1, q2, q3, q4, q5, q6, q7, q8⟩ := P
  have v11 := val_prod (r := lo) (s := lo') e1 e3
  have v12 := val_prod (r := lo) (s := hi') e1 e4
  have v21 := val_prod (r := hi) (s := lo') e2 e3
  have v22 := val_prod (r := hi) (s := hi') e2 e4
  have hab := fun h => above_v (g := g') (h0 h)
  unfold prods1 pickS
  generalize val lo g = a1 at *
  generalize val hi g = a2 at *
  generalize val lo' g' = b1 at *
  generalize val hi' g' = b2 at *
  cases hs : lo'.neg <;> cases hl : lo.neg <;> cases hh : hi.neg <;> simp only [Bool.false_eq_true, if_true, if_false, v11, v12, v21, v22]
  all_goals
    have t1 := s1.neg
    have t2 := s1.pos
    have t3 := s2.neg
    have t4 := s2.pos
    have t5 := s3.neg
    have t6 := s3.pos
    rw [hl] at t1 t2
    rw [hh] at t3 t4
    rw [hs] at t5 t6 hab
    simp at t1 t2 t3 t4 t5 t6 hab
    exact ⟨⟨by omega, by omega, by omega, by omega, by omega⟩, ⟨by omega, by omega, by omega, by omega, by omega⟩⟩
theorem above_gt {r : DR} {g : Int} (h : aboveI r = true) : 0 < val r g := (val_pos (above_pos h).2).2 (above_pos h).1
/-- The least and the greatest product are what they are called. -/
theorem prods_val {lo hi lo' hi' : DR} {g g' : Int} (h1 : PlainR lo) (h2 : PlainR hi) (h3 : PlainR lo') (h4 : PlainR hi') (e1 : g ≤ lo.e) (e2 : g ≤ hi.e) (e3 : g' ≤ lo'.e) (e4 : g' ≤ hi'.e)
    (ha : val lo g ≤ val hi g) (hb : val lo' g' ≤ val hi' g') :
    IsMin (val (prodsN lo hi lo' hi').1 (g + g')) (val lo g) (val hi g) (val lo' g') (val hi' g') ∧ IsMax (val (prodsN lo hi lo' hi').2 (g + g')) (val lo g) (val hi g) (val lo' g') (val hi' g') := by
  unfold prodsN
  cases hs : lo'.neg
  · simp only [Bool.not_false, Bool.true_or, if_true]
    exact prods1_val h1 h2 h3 e1 e2 e3 e4 ha hb (fun h => by rw [hs] at h; cases h)
  · cases hh' : aboveI hi'
    · simp only [Bool.not_false, Bool.or_true, if_true]
      exact prods1_val h1 h2 h3 e1 e2 e3 e4 ha hb (fun _ => hh')
    · cases hl : lo.neg
      · simp only [Bool.not_true, Bool.or_self, Bool.false_eq_true, if_false, Bool.not_false, Bool.true_or, if_true]
        have := prods1_val h3 h4 h1 e3 e4 e1 e2 hb ha (fun h => by rw [hl] at h; cases h)
        rw [Int.add_comm g' g] at this
        exact ⟨this.1.swap, this.2.swap⟩
      · cases hh : aboveI hi
        · simp only [Bool.not_true, Bool.or_self, Bool.false_eq_true, if_false, Bool.not_false, Bool.or_true, if_true]
          have := prods1_val h3 h4 h1 e3 e4 e1 e2 hb ha (fun _ => hh)
          rw [Int.add_comm g' g] at this
          exact ⟨this.1.swap, this.2.swap⟩
        · simp only [Bool.not_true, Bool.or_self, Bool.false_eq_true, if_false]
          have a1 := (sign_v (g := g) h1).neg hl
          have b1 := (sign_v (g := g') h3).neg hs
          have a2 := above_gt (g := g) hh
          have b2 := above_gt (g := g') hh'
          have v11 := val_prod (r := lo) (s := lo') e1 e3
          have v12 := val_prod (r := lo) (s := hi') e1 e4
          have v21 := val_prod (r := hi) (s := lo') e2 e3
          have v22 := val_prod (r := hi) (s := hi') e2 e4
          have n11 : (prodN lo lo').neg = false := by unfold prodN; rw [hl, hs]; rfl
          have n12 : (prodN lo hi').neg = true := by unfold prodN; rw [hl, (above_pos hh').2]; rfl
          have n21 : (prodN hi lo').neg = true := by unfold prodN; rw [hs, (above_pos hh).2]; rfl
          have n22 : (prodN hi hi').neg = false := by unfold prodN; rw [(above_pos hh).2, (above_pos hh').2]; rfl
          have m11 : val (prodN lo lo') (g + g') = (mag (prodN lo lo').m (prodN lo lo').e (g + g') : Int) := by unfold val valI; rw [n11]; rfl
          have m12 : val (prodN lo hi') (g + g') = -(mag (prodN lo hi').m (prodN lo hi').e (g + g') : Int) := by unfold val valI; rw [n12]; rfl
          have m21 : val (prodN hi lo') (g + g') = -(mag (prodN hi lo').m (prodN hi lo').e (g + g') : Int) := by unfold val valI; rw [n21]; rfl
          have m22 : val (prodN hi hi') (g + g') = (mag (prodN hi hi').m (prodN hi hi').e (g + g') : Int) := by unfold val valI; rw [n22]; rfl
          have x11 : 0 ≤ val lo g * val lo' g' := Int.mul_nonneg_of_nonpos_of_nonpos (by omega) (by omega)
          have x22 : 0 ≤ val hi g * val hi' g' := Int.mul_nonneg (by omega) (by omega)
          have x12 : val lo g * val hi' g' ≤ 0 := Int.mul_nonpos_of_nonpos_of_nonneg (by omega) (by omega)
          have x21 : val hi g * val lo' g' ≤ 0 := Int.mul_nonpos_of_nonneg_of_nonpos (by omega) (by omega)
          have g1 := gr_val (r := prodN lo hi') (s := prodN hi lo') (g := g + g') (by show _ ≤ lo.e + hi'.e; omega) (by show _ ≤ hi.e + lo'.e; omega)
          have g2 := gr_val (r := prodN lo lo') (s := prodN hi hi') (g := g + g') (by show _ ≤ lo.e + lo'.e; omega) (by show _ ≤ hi.e + hi'.e; omega)
          constructor
          · rcases g1 with ⟨e, h⟩ | ⟨e, h⟩ <;> rw [e]
            · exact ⟨by omega, by omega, by omega, by omega, by omega⟩
            · exact ⟨by omega, by omega, by omega, by omega, by omega⟩
          · rcases g2 with ⟨e, h⟩ | ⟨e, h⟩ <;> rw [e]
            · exact ⟨by omega, by omega, by omega, by omega, by omega⟩
            · exact ⟨by omega, by omega, by omega, by omega, by omega⟩
end Go.Proofs.YtmadojejafbpjaaGreatDoor

namespace Go.Proofs.YtmadojejafbpjaaGreatDoor
open Go.RowKit

theorem overI_zero {r s : DR} (p : Int) (up : Bool) (h : r.m = 0) : overI r s p up = if r.ok && s.ok && !decide (s.m = 0) && bitsFitB p then DR.zero else DR.no := by
  unfold overI overD
  split
  · unfold quoD
    rw [h, Nat.zero_mul, Nat.zero_div, Nat.zero_mod, show decide (0 ≠ 0) = false from rfl, cut_zero]
  · rfl
/-- A quotient of two numbers with their signs turned. -/
theorem overI_neg (r s : DR) (p : Int) (up : Bool) : overI (negI r) (negI s) p up = overI r s p up := by
  have hno : ∀ x y : DR, (x.ok = false ∨ y.ok = false ∨ y.m = 0) → overI x y p up = DR.no := by
    intro x y h
    unfold overI overD
    rcases h with h | h | h
    · rw [h]; rfl
    · rw [h, Bool.and_false]; rfl
    · rw [h, show (!decide ((0 : Nat) = 0)) = false from rfl, Bool.and_false]; rfl
  cases hr : r.ok
  · rw [hno r s (Or.inl hr), hno _ _ (Or.inl (by unfold negI; rw [hr]; rfl))]
  · cases hs : s.ok
    · rw [hno r s (Or.inr (Or.inl hs)), hno _ _ (Or.inr (Or.inl (by unfold negI; rw [hs]; rfl)))]
    · by_cases hm : s.m = 0
      · rw [hno r s (Or.inr (Or.inr hm)), hno _ _ (Or.inr (Or.inr (by unfold negI; rw [hs, if_pos rfl, if_pos hm]; rfl)))]
      · have es : negI s = ⟨true, !s.neg, s.m, s.e⟩ := by unfold negI; rw [hs, if_pos rfl, if_neg hm]
        by_cases hz : r.m = 0
        · have er : negI r = DR.zero := by unfold negI; rw [hr, if_pos rfl, if_pos hz]
          rw [overI_zero p up hz, overI_zero (r := negI r) p up (by rw [er]; rfl), es, er, hr, hs]
          rfl
        · have er : negI r = ⟨true, !r.neg, r.m, r.e⟩ := by unfold negI; rw [hr, if_pos rfl, if_neg hz]
          unfold overI
          rw [es, er, hr, hs]
          dsimp only
          unfold overD quoD
          rw [show ((!r.neg) != (!s.neg)) = (r.neg != s.neg) by cases r.neg <;> cases s.neg <;> rfl]
/-- What is cut down from the whole part: no less than half a power. -/
theorem trunc_half {V p : Nat} (hp : p ≤ nb V) (h1 : 1 ≤ p) (hV : 0 < V) : 2 ^ (nb V - 1) ≤ V / 2 ^ (nb V - p) * 2 ^ (nb V - p) := by
  have he : 2 ^ (nb V - 1) = 2 ^ (p - 1) * 2 ^ (nb V - p) := by rw [← Nat.pow_add]; congr 1; omega
  rw [he]
  refine Nat.mul_le_mul_right _ ((Nat.le_div_iff_mul_le (Nat.two_pow_pos _)).2 ?_)
  rw [← he]
  exact nb_ge hV
/-- Cut down: the greatest number of p bits that isn't above the quotient. -/
theorem trunc_max {A B V p k j m : Nat} (hB : 0 < B) (hVe : V = A / B) (hp : p ≤ nb V) (h1 : 1 ≤ p) (hV : 0 < V) (hm : m < 2 ^ p) (h : m * 2 ^ k * B ≤ A * 2 ^ j) : m * 2 ^ k ≤ V / 2 ^ (nb V - p) * 2 ^ (nb V - p) * 2 ^ j := by
  by_cases hk : j + (nb V - p) ≤ k
  · obtain ⟨t, rfl⟩ : ∃ t, k = t + (nb V - p) + j := ⟨k - (j + (nb V - p)), by omega⟩
    rw [Nat.pow_add, Nat.pow_add] at h ⊢
    have h2 : m * 2 ^ t * 2 ^ (nb V - p) * B ≤ A := by
      refine Nat.le_of_mul_le_mul_right (c := 2 ^ j) ?_ (Nat.two_pow_pos _)
      calc m * 2 ^ t * 2 ^ (nb V - p) * B * 2 ^ j = m * (2 ^ t * 2 ^ (nb V - p) * 2 ^ j) * B := by simp only [Nat.mul_assoc, Nat.mul_comm B]
        _ ≤ A * 2 ^ j := h
    have h3 : m * 2 ^ t * 2 ^ (nb V - p) ≤ V := Nat.le_trans ((Nat.le_div_iff_mul_le hB).2 h2) (Nat.le_of_eq hVe.symm)
    have h4 : m * 2 ^ t ≤ V / 2 ^ (nb V - p) := (Nat.le_div_iff_mul_le (Nat.two_pow_pos _)).2 h3
    calc m * (2 ^ t * 2 ^ (nb V - p) * 2 ^ j) = m * 2 ^ t * 2 ^ (nb V - p) * 2 ^ j := by simp only [Nat.mul_assoc]
      _ ≤ _ := Nat.mul_le_mul_right _ (Nat.mul_le_mul_right _ h4)
  · have h2 : m * 2 ^ k ≤ 2 ^ (p + k) := by rw [Nat.pow_add]; exact Nat.mul_le_mul_right _ (Nat.le_of_lt hm)
    have h3 : 2 ^ (p + k) ≤ 2 ^ (nb V - 1 + j) := Nat.pow_le_pow_right (by omega) (by omega)
    rw [Nat.pow_add 2 (nb V - 1) j] at h3
    exact Nat.le_trans h2 (Nat.le_trans h3 (Nat.mul_le_mul_right _ (trunc_half hp h1 hV)))
/-- Cut up: the least number of p bits that isn't below the quotient. -/
theorem ceil_min {A B V p k j m : Nat} (hB : 0 < B) (hVe : V = A / B) (hp : p ≤ nb V) (h1 : 1 ≤ p) (hV : 0 < V) (hm : m ≤ 2 ^ p) (h : A * 2 ^ j ≤ m * 2 ^ k * B) :
    (V / 2 ^ (nb V - p) + (if (decide (A % B ≠ 0) || decide (V / 2 ^ (nb V - p) * 2 ^ (nb V - p) ≠ V)) then 1 else 0)) * 2 ^ (nb V - p) * 2 ^ j ≤ m * 2 ^ k := by
  have hT : V / 2 ^ (nb V - p) * 2 ^ (nb V - p) ≤ V := Nat.div_mul_le_self _ _
  have hVB : V * B ≤ A := by rw [hVe]; exact Nat.div_mul_le_self _ _
  have hAm : A = V * B + A % B := by have := Nat.div_add_mod A B; rw [← hVe, Nat.mul_comm] at this; exact this.symm
  by_cases hex : A % B = 0 ∧ V / 2 ^ (nb V - p) * 2 ^ (nb V - p) = V
  · rw [show (decide (A % B ≠ 0) || decide (V / 2 ^ (nb V - p) * 2 ^ (nb V - p) ≠ V)) = false by simp [hex.1, hex.2], if_neg (by decide), Nat.add_zero, hex.2]
    refine Nat.le_of_mul_le_mul_right (c := B) ?_ hB
    rw [hex.1, Nat.add_zero] at hAm
    rw [Nat.mul_right_comm, ← hAm]
    exact h
  · rw [show (decide (A % B ≠ 0) || decide (V / 2 ^ (nb V - p) * 2 ^ (nb V - p) ≠ V)) = true by
      by_cases ha : A % B = 0
      · have : V / 2 ^ (nb V - p) * 2 ^ (nb V - p) ≠ V := fun hh => hex ⟨ha, hh⟩
        simp [this]
      · simp [ha], if_pos rfl]
    have hlt : V / 2 ^ (nb V - p) * 2 ^ (nb V - p) * B < A := by
      rcases Nat.lt_or_ge (V / 2 ^ (nb V - p) * 2 ^ (nb V - p)) V with hl | hl
      · exact Nat.lt_of_lt_of_le (Nat.mul_lt_mul_of_pos_right hl hB) hVB
      · have e1 : V / 2 ^ (nb V - p) * 2 ^ (nb V - p) = V := Nat.le_antisymm hT hl
        have e2 : A % B ≠ 0 := fun hh => hex ⟨hh, e1⟩
        rw [e1]; omega
    by_cases hk : j + (nb V - p) ≤ k
    · obtain ⟨t, rfl⟩ : ∃ t, k = t + (nb V - p) + j := ⟨k - (j + (nb V - p)), by omega⟩
      rw [Nat.pow_add, Nat.pow_add] at h ⊢
      have h2 : A ≤ m * 2 ^ t * 2 ^ (nb V - p) * B := by
        refine Nat.le_of_mul_le_mul_right (c := 2 ^ j) ?_ (Nat.two_pow_pos _)
        calc A * 2 ^ j ≤ m * (2 ^ t * 2 ^ (nb V - p) * 2 ^ j) * B := h
          _ = m * 2 ^ t * 2 ^ (nb V - p) * B * 2 ^ j := by simp only [Nat.mul_assoc, Nat.mul_comm B]
      have h3 : V / 2 ^ (nb V - p) * 2 ^ (nb V - p) < m * 2 ^ t * 2 ^ (nb V - p) := Nat.lt_of_mul_lt_mul_right (Nat.lt_of_lt_of_le hlt h2)
      have h4 : V / 2 ^ (nb V - p) < m * 2 ^ t := Nat.lt_of_mul_lt_mul_right h3
      calc (V / 2 ^ (nb V - p) + 1) * 2 ^ (nb V - p) * 2 ^ j ≤ m * 2 ^ t * 2 ^ (nb V - p) * 2 ^ j := Nat.mul_le_mul_right _ (Nat.mul_le_mul_right _ h4)
        _ = m * (2 ^ t * 2 ^ (nb V - p) * 2 ^ j) := by simp only [Nat.mul_assoc]
    · exfalso
      have h2 : m * 2 ^ k ≤ 2 ^ (p + k) := by rw [Nat.pow_add]; exact Nat.mul_le_mul_right _ hm
      have h3 : 2 ^ (p + k) ≤ 2 ^ (nb V - 1 + j) := Nat.pow_le_pow_right (by omega) (by omega)
      rw [Nat.pow_add 2 (nb V - 1) j] at h3
      have h4 : m * 2 ^ k ≤ V / 2 ^ (nb V - p) * 2 ^ (nb V - p) * 2 ^ j := Nat.le_trans h2 (Nat.le_trans h3 (Nat.mul_le_mul_right _ (trunc_half hp h1 hV)))
      have h5 : m * 2 ^ k * B < A * 2 ^ j := by
        calc m * 2 ^ k * B ≤ V / 2 ^ (nb V - p) * 2 ^ (nb V - p) * 2 ^ j * B := Nat.mul_le_mul_right _ h4
          _ = V / 2 ^ (nb V - p) * 2 ^ (nb V - p) * B * 2 ^ j := Nat.mul_right_comm _ _ _
          _ < A * 2 ^ j := Nat.mul_lt_mul_of_pos_right hlt (Nat.two_pow_pos _)
      omega
/-- What a quotient with a rest is cut up by. -/
def upD (A B V p : Nat) : Nat := if (decide (A % B ≠ 0) || decide (V / 2 ^ (nb V - p) * 2 ^ (nb V - p) ≠ V)) then 1 else 0
theorem cut_lt {V p : Nat} (hp : p ≤ nb V) : V / 2 ^ (nb V - p) < 2 ^ p := by
  have h := nb_lt (V / 2 ^ (nb V - p))
  rw [nb_div_pow, show nb V - (nb V - p) = p by omega] at h
  exact h
theorem cut_up_ge {A B V p : Nat} (hB : 0 < B) (hVe : V = A / B) : A ≤ (V / 2 ^ (nb V - p) + upD A B V p) * 2 ^ (nb V - p) * B := by
  have hAm : A = V * B + A % B := by have := Nat.div_add_mod A B; rw [← hVe, Nat.mul_comm] at this; exact this.symm
  unfold upD
  by_cases hex : A % B = 0 ∧ V / 2 ^ (nb V - p) * 2 ^ (nb V - p) = V
  · rw [show (decide (A % B ≠ 0) || decide (V / 2 ^ (nb V - p) * 2 ^ (nb V - p) ≠ V)) = false by simp [hex.1, hex.2], if_neg (by decide), Nat.add_zero, hex.2]
    rw [hex.1, Nat.add_zero] at hAm
    exact Nat.le_of_eq hAm
  · rw [show (decide (A % B ≠ 0) || decide (V / 2 ^ (nb V - p) * 2 ^ (nb V - p) ≠ V)) = true by
      by_cases ha : A % B = 0
      · have : V / 2 ^ (nb V - p) * 2 ^ (nb V - p) ≠ V := fun hh => hex ⟨ha, hh⟩
        simp [this]
      · simp [ha], if_pos rfl]
    have h1 : V < (V / 2 ^ (nb V - p) + 1) * 2 ^ (nb V - p) := by
      have h := Nat.lt_mul_div_succ V (Nat.two_pow_pos (nb V - p))
      rwa [Nat.mul_comm] at h
    have h2 : A % B < B := Nat.mod_lt _ hB
    have h3 : (V + 1) * B ≤ (V / 2 ^ (nb V - p) + 1) * 2 ^ (nb V - p) * B := Nat.mul_le_mul_right _ h1
    rw [Nat.add_mul, Nat.one_mul] at h3
    omega
/-- Quotients cut down rise with the quotient. -/
theorem down_mono {A B V A' B' V' p a a' : Nat} (hB : 0 < B) (hB' : 0 < B') (hVe : V = A / B) (hVe' : V' = A' / B') (hp : p ≤ nb V) (hp' : p ≤ nb V') (h1 : 1 ≤ p) (hV' : 0 < V') (h : A * 2 ^ a * B' ≤ A' * 2 ^ a' * B) :
    V / 2 ^ (nb V - p) * 2 ^ (nb V - p) * 2 ^ a ≤ V' / 2 ^ (nb V' - p) * 2 ^ (nb V' - p) * 2 ^ a' := by
  have hm := trunc_max (A := A') (B := B') (V := V') (p := p) (k := nb V - p + a) (j := a') (m := V / 2 ^ (nb V - p)) hB' hVe' hp' h1 hV' (cut_lt hp) ?_
  · rwa [Nat.pow_add, ← Nat.mul_assoc] at hm
  · have hT : V / 2 ^ (nb V - p) * 2 ^ (nb V - p) ≤ V := Nat.div_mul_le_self _ _
    have hVB : V * B ≤ A := by rw [hVe]; exact Nat.div_mul_le_self _ _
    refine Nat.le_of_mul_le_mul_right (c := B) ?_ hB
    rw [Nat.pow_add, ← Nat.mul_assoc]
    calc V / 2 ^ (nb V - p) * 2 ^ (nb V - p) * 2 ^ a * B' * B ≤ V * 2 ^ a * B' * B := Nat.mul_le_mul_right _ (Nat.mul_le_mul_right _ (Nat.mul_le_mul_right _ hT))
      _ = V * B * (2 ^ a * B') := by simp only [Nat.mul_assoc, Nat.mul_comm B]
      _ ≤ A * (2 ^ a * B') := Nat.mul_le_mul_right _ hVB
      _ = A * 2 ^ a * B' := (Nat.mul_assoc _ _ _).symm
      _ ≤ A' * 2 ^ a' * B := h
/-- And so do quotients cut up. -/
theorem up_mono {A B V A' B' V' p a a' : Nat} (hB : 0 < B) (hB' : 0 < B') (hVe : V = A / B) (hVe' : V' = A' / B') (hp : p ≤ nb V) (hp' : p ≤ nb V') (h1 : 1 ≤ p) (hV : 0 < V) (h : A * 2 ^ a * B' ≤ A' * 2 ^ a' * B) :
    (V / 2 ^ (nb V - p) + upD A B V p) * 2 ^ (nb V - p) * 2 ^ a ≤ (V' / 2 ^ (nb V' - p) + upD A' B' V' p) * 2 ^ (nb V' - p) * 2 ^ a' := by
  have hle : V' / 2 ^ (nb V' - p) + upD A' B' V' p ≤ 2 ^ p := by
    have h1 := cut_lt (V := V') hp'
    have h2 : upD A' B' V' p ≤ 1 := by unfold upD; split <;> omega
    omega
  have hm := ceil_min (A := A) (B := B) (V := V) (p := p) (k := nb V' - p + a') (j := a) (m := V' / 2 ^ (nb V' - p) + upD A' B' V' p) hB hVe hp h1 hV hle ?_
  · rwa [Nat.pow_add 2 (nb V' - p) a', ← Nat.mul_assoc (V' / 2 ^ (nb V' - p) + upD A' B' V' p)] at hm
  · have hg := cut_up_ge (p := p) hB' hVe'
    refine Nat.le_of_mul_le_mul_right (c := B') ?_ hB'
    rw [Nat.pow_add 2 (nb V' - p) a', ← Nat.mul_assoc (V' / 2 ^ (nb V' - p) + upD A' B' V' p)]
    calc A * 2 ^ a * B' ≤ A' * 2 ^ a' * B := h
      _ ≤ (V' / 2 ^ (nb V' - p) + upD A' B' V' p) * 2 ^ (nb V' - p) * B' * 2 ^ a' * B := Nat.mul_le_mul_right _ (Nat.mul_le_mul_right _ hg)
      _ = (V' / 2 ^ (nb V' - p) + upD A' B' V' p) * 2 ^ (nb V' - p) * 2 ^ a' * B * B' := by rw [Nat.mul_right_comm _ B' (2 ^ a'), Nat.mul_right_comm _ B' B]
/-- Two quotients, one not above the other: in the units of the working. -/
theorem quo_cross {Va Vb Va' Vb' R R' : Nat} {ea eb ea' eb' ga gb g : Int} (h1 : ga ≤ ea) (h2 : gb ≤ eb) (h1' : ga ≤ ea') (h2' : gb ≤ eb') (hg : g ≤ ga - gb) (he : g ≤ ea - eb - (R : Int)) (he' : g ≤ ea' - eb' - (R' : Int))
    (h : mag Va ea ga * mag Vb' eb' gb ≤ mag Va' ea' ga * mag Vb eb gb) :
    Va * 2 ^ R * 2 ^ (ea - eb - (R : Int) - g).toNat * Vb' ≤ Va' * 2 ^ R' * 2 ^ (ea' - eb' - (R' : Int) - g).toNat * Vb := by
  unfold mag at h
  obtain ⟨t, ht⟩ : ∃ t : Nat, t = (ga - gb - g).toNat := ⟨_, rfl⟩
  have k1 : R + (ea - eb - (R : Int) - g).toNat + (eb - gb).toNat = (ea - ga).toNat + t := by omega
  have k2 : R' + (ea' - eb' - (R' : Int) - g).toNat + (eb' - gb).toNat = (ea' - ga).toNat + t := by omega
  generalize (ea - eb - (R : Int) - g).toNat = u at *
  generalize (ea' - eb' - (R' : Int) - g).toNat = u' at *
  generalize (ea - ga).toNat = x at *
  generalize (ea' - ga).toNat = x' at *
  generalize (eb - gb).toNat = y at *
  generalize (eb' - gb).toNat = y' at *
  clear ht he he' hg h1 h2 h1' h2'
  refine Nat.le_of_mul_le_mul_right (c := 2 ^ y * 2 ^ y') ?_ (Nat.mul_pos (Nat.two_pow_pos _) (Nat.two_pow_pos _))
  have l1 : Va * 2 ^ R * 2 ^ u * Vb' * (2 ^ y * 2 ^ y') = Va * 2 ^ x * (Vb' * 2 ^ y') * 2 ^ t := by
    have : 2 ^ R * 2 ^ u * 2 ^ y = 2 ^ x * 2 ^ t := by rw [← Nat.pow_add, ← Nat.pow_add, ← Nat.pow_add, k1]
    calc Va * 2 ^ R * 2 ^ u * Vb' * (2 ^ y * 2 ^ y') = Va * Vb' * 2 ^ y' * (2 ^ R * 2 ^ u * 2 ^ y) := by ac_rfl
      _ = Va * 2 ^ x * (Vb' * 2 ^ y') * 2 ^ t := by rw [this]; ac_rfl
  have l2 : Va' * 2 ^ R' * 2 ^ u' * Vb * (2 ^ y * 2 ^ y') = Va' * 2 ^ x' * (Vb * 2 ^ y) * 2 ^ t := by
    have : 2 ^ R' * 2 ^ u' * 2 ^ y' = 2 ^ x' * 2 ^ t := by rw [← Nat.pow_add, ← Nat.pow_add, ← Nat.pow_add, k2]
    calc Va' * 2 ^ R' * 2 ^ u' * Vb * (2 ^ y * 2 ^ y') = Va' * Vb * 2 ^ y * (2 ^ R' * 2 ^ u' * 2 ^ y') := by ac_rfl
      _ = Va' * 2 ^ x' * (Vb * 2 ^ y) * 2 ^ t := by rw [this]; ac_rfl
  rw [l1, l2]
  exact Nat.mul_le_mul_right _ h
/-- What a quotient stands for. -/
theorem quo_mag {na nb' : Bool} {Va Vb : Nat} {ea eb g : Int} {p R : Nat} (up : Bool) (hR : R = p + nb Vb - nb Va) (hVa : nb Va ≤ 3000) (hVb : nb Vb ≤ 3000) (hP : p ≤ 600) (ea1 : -30000 ≤ ea) (ea2 : ea ≤ 30000) (eb1 : -30000 ≤ eb) (eb2 : eb ≤ 30000) (hg : g ≤ ea - eb - (R : Int)) :
    Good (quoD na nb' Va Vb ea eb R p up) (na != nb') (kept (na != nb') (Va * 2 ^ R / Vb) (decide (Va * 2 ^ R % Vb ≠ 0)) p up) (ea - eb - (R : Int) + ((nb (Va * 2 ^ R / Vb) - p : Nat) : Int)) ∧
    mag (quoD na nb' Va Vb ea eb R p up).m (quoD na nb' Va Vb ea eb R p up).e g = kept (na != nb') (Va * 2 ^ R / Vb) (decide (Va * 2 ^ R % Vb ≠ 0)) p up * 2 ^ (nb (Va * 2 ^ R / Vb) - p) * 2 ^ (ea - eb - (R : Int) - g).toNat := by
  unfold quoD
  rw [cut_kept]
  generalize (na != nb') = q
  have hN := nb_mul_le Va R
  generalize Va * 2 ^ R = N at *
  have hQ := nb_mono (Nat.div_le_self N Vb)
  generalize decide (N % Vb ≠ 0) = more
  generalize N / Vb = Q at *
  have hk := nb_kept q Q more p up
  generalize kept q Q more p up = T at *
  generalize hD : nb Q - p = D at *
  have G1 := mkD_good q (V := T) (e := ea - eb - (R : Int) + (D : Int)) (by omega) (by omega) (by omega)
  refine ⟨G1, ?_⟩
  rw [(G1.val (g := g) (by omega)).1]
  unfold mag
  rw [Nat.mul_assoc, ← Nat.pow_add]
  congr 2
  omega
/-- Quotients of one sign, cut one way: the greater the quotient, the greater what is kept. -/
theorem quo_mono {na nb' na' nb'' : Bool} {Va Vb Va' Vb' : Nat} {ea eb ea' eb' ga gb g : Int} {p R R' : Nat} (up : Bool) (hs : (na != nb') = (na' != nb'')) (h1p : 1 ≤ p) (hP : p ≤ 600)
    (hR : R = p + nb Vb - nb Va) (hVa : nb Va ≤ 3000) (hVb : nb Vb ≤ 3000) (ea1 : -30000 ≤ ea) (ea2 : ea ≤ 30000) (eb1 : -30000 ≤ eb) (eb2 : eb ≤ 30000) (hg : g ≤ ea - eb - (R : Int))
    (hR' : R' = p + nb Vb' - nb Va') (hVa' : nb Va' ≤ 3000) (hVb' : nb Vb' ≤ 3000) (ea1' : -30000 ≤ ea') (ea2' : ea' ≤ 30000) (eb1' : -30000 ≤ eb') (eb2' : eb' ≤ 30000) (hg' : g ≤ ea' - eb' - (R' : Int))
    (pa : 0 < Va) (pb : 0 < Vb) (pa' : 0 < Va') (pb' : 0 < Vb') (ga1 : ga ≤ ea) (ga2 : ga ≤ ea') (gb1 : gb ≤ eb) (gb2 : gb ≤ eb') (gg : g ≤ ga - gb)
    (h : mag Va ea ga * mag Vb' eb' gb ≤ mag Va' ea' ga * mag Vb eb gb) :
    mag (quoD na nb' Va Vb ea eb R p up).m (quoD na nb' Va Vb ea eb R p up).e g ≤ mag (quoD na' nb'' Va' Vb' ea' eb' R' p up).m (quoD na' nb'' Va' Vb' ea' eb' R' p up).e g := by
  have hc := quo_cross ga1 gb1 ga2 gb2 gg hg hg' h
  rw [(quo_mag up hR hVa hVb hP ea1 ea2 eb1 eb2 hg).2, (quo_mag up hR' hVa' hVb' hP ea1' ea2' eb1' eb2' hg').2, hs]
  generalize (na' != nb'') = q
  obtain ⟨b1, b2⟩ := quo_bits (r := R) (p := p) pa pb (by omega) h1p
  obtain ⟨b1', b2'⟩ := quo_bits (r := R') (p := p) pa' pb' (by omega) h1p
  by_cases hu : (up != q) = true
  · unfold kept
    rw [hu, Bool.and_true, Bool.and_true]
    exact up_mono pb pb' rfl rfl b1 b1' h1p b2 hc
  · have hu' : (up != q) = false := by simpa using hu
    unfold kept
    rw [hu', Bool.and_false, Bool.and_false, if_neg (by decide), Nat.add_zero, Nat.add_zero]
    exact down_mono pb pb' rfl rfl b1 b1' h1p b2' hc
/-- A quotient of two numbers, to P bits. -/
def qN (r s : DR) (P : Nat) (up : Bool) : DR := quoD r.neg s.neg r.m s.m r.e s.e (P + nb s.m - nb r.m) P up
/-- A number that isn't too great for a quotient. -/
structure Bd (r : DR) : Prop where
  b : nb r.m ≤ 3000
  lo : -30000 ≤ r.e
  hi : r.e ≤ 30000
  z : r.m = 0 → r.neg = false
theorem good_sval {r : DR} {neg : Bool} {V : Nat} {e : Int} (h : Good r neg V e) (g : Int) : val r g = if neg then - (mag r.m r.e g : Int) else (mag r.m r.e g : Int) := by
  unfold val valI
  rcases Nat.eq_zero_or_pos V with h0 | h0
  · unfold mag
    rw [(h.z h0).1, Nat.zero_mul]
    cases neg <;> cases r.neg <;> rfl
  · rw [(h.nz h0).1]
theorem qN_good {r s : DR} {P : Nat} (up : Bool) (hr : Bd r) (hs : Bd s) (hP : P ≤ 600) : ∃ V e, Good (qN r s P up) (r.neg != s.neg) V e :=
  ⟨_, _, (quo_mag (g := r.e - s.e - ((P + nb s.m - nb r.m : Nat) : Int)) up rfl hr.b hs.b hP hr.lo hr.hi hs.lo hs.hi (by omega)).1⟩
theorem qN_val {r s : DR} {P : Nat} (up : Bool) (hr : Bd r) (hs : Bd s) (hP : P ≤ 600) (p2 : s.neg = false) (g : Int) : val (qN r s P up) g = if r.neg then - (mag (qN r s P up).m (qN r s P up).e g : Int) else (mag (qN r s P up).m (qN r s P up).e g : Int) := by
  obtain ⟨V, e, hG⟩ := qN_good up hr hs hP
  rw [good_sval hG g, p2, Bool.bne_false]
theorem qN_zero {r s : DR} {P : Nat} (up : Bool) (h : r.m = 0) : (qN r s P up).m = 0 := by
  unfold qN quoD
  rw [h, Nat.zero_mul, Nat.zero_div, Nat.zero_mod, show decide (0 ≠ 0) = false from rfl, cut_zero]
  rfl
theorem mag_zero {V : Nat} {e g : Int} (h : V = 0) : mag V e g = 0 := by unfold mag; rw [h, Nat.zero_mul]
theorem qN_mag {r s r' s' : DR} {P : Nat} {ga gb g : Int} (up : Bool) (hr : Bd r) (hs : Bd s) (hr' : Bd r') (hs' : Bd s') (hP : P ≤ 600) (hP1 : 1 ≤ P) (hn : (r.neg != s.neg) = (r'.neg != s'.neg)) (p1 : 0 < s.m) (p1' : 0 < s'.m)
    (hga : ga ≤ -30000) (hgb : gb ≤ -30000) (hg : g ≤ -70000) (gg : g ≤ ga - gb) (h : mag r.m r.e ga * mag s'.m s'.e gb ≤ mag r'.m r'.e ga * mag s.m s.e gb) : mag (qN r s P up).m (qN r s P up).e g ≤ mag (qN r' s' P up).m (qN r' s' P up).e g := by
  obtain ⟨a1, a2, a3, _⟩ := hr
  obtain ⟨b1, b2, b3, _⟩ := hs
  obtain ⟨c1, c2, c3, _⟩ := hr'
  obtain ⟨d1, d2, d3, _⟩ := hs'
  rcases Nat.eq_zero_or_pos r.m with h0 | h0
  · rw [mag_zero (qN_zero up h0)]; exact Nat.zero_le _
  · rcases Nat.eq_zero_or_pos r'.m with h1 | h1
    · exfalso
      rw [mag_zero h1, Nat.zero_mul] at h
      have := Nat.mul_pos (mag_pos (e := r.e) (g := ga) h0) (mag_pos (e := s'.e) (g := gb) p1')
      omega
    · exact quo_mono up hn hP1 hP rfl a1 b1 a2 a3 b2 b3 (by omega) rfl c1 d1 c2 c3 d2 d3 (by omega) h0 p1 h1 p1' (by omega) (by omega) (by omega) (by omega) gg h
/-- Quotients by numbers above 0, cut one way, rise with the quotient. -/
theorem qN_mono {r s r' s' : DR} {P : Nat} {ga gb g : Int} (up : Bool) (hr : Bd r) (hs : Bd s) (hr' : Bd r') (hs' : Bd s') (hP : P ≤ 600) (hP1 : 1 ≤ P) (p1 : 0 < s.m) (p2 : s.neg = false) (p1' : 0 < s'.m) (p2' : s'.neg = false)
    (hga : ga ≤ -30000) (hgb : gb ≤ -30000) (hg : g ≤ -70000) (gg : g ≤ ga - gb) (h : val r ga * val s' gb ≤ val r' ga * val s gb) : val (qN r s P up) g ≤ val (qN r' s' P up) g := by
  have v1 : val s gb = (mag s.m s.e gb : Int) := by unfold val valI; rw [p2, if_neg (by decide)]
  have v2 : val s' gb = (mag s'.m s'.e gb : Int) := by unfold val valI; rw [p2', if_neg (by decide)]
  have m1 := mag_pos (e := s.e) (g := gb) p1
  have m2 := mag_pos (e := s'.e) (g := gb) p1'
  have w1 : val r ga = if r.neg then - (mag r.m r.e ga : Int) else (mag r.m r.e ga : Int) := rfl
  have w2 : val r' ga = if r'.neg then - (mag r'.m r'.e ga : Int) else (mag r'.m r'.e ga : Int) := rfl
  rw [v1, v2, w1, w2] at h
  rw [qN_val up hr hs hP p2, qN_val up hr' hs' hP p2']
  cases hn : r.neg <;> cases hn' : r'.neg <;> rw [hn, hn'] at h <;> simp only [if_true, if_false, Bool.false_eq_true, Int.neg_mul] at h ⊢ <;> simp only [← Int.natCast_mul] at h
  · have := qN_mag up hr hs hr' hs' hP hP1 (by rw [hn, hn', p2, p2']) p1 p1' hga hgb hg gg (by omega)
    omega
  · exfalso
    have h1 : 0 < r'.m := by
      rcases Nat.eq_zero_or_pos r'.m with h1 | h1
      · rw [hr'.z h1] at hn'; cases hn'
      · exact h1
    have := Nat.mul_pos (mag_pos (e := r'.e) (g := ga) h1) m1
    omega
  · omega
  · have := qN_mag up hr' hs' hr hs hP hP1 (by rw [hn, hn', p2, p2']) p1' p1 hga hgb hg gg (by omega)
    omega
/-- The least of the four quotients, cut down, is the one that the code works. -/
theorem quo_low {lo x lo' hi' y : DR} {P : Nat} {ga gb g : Int} (up : Bool) (k1 : Bd lo) (k2 : Bd x) (k3 : Bd lo') (k4 : Bd hi') (k5 : Bd y) (hP : P ≤ 600) (hP1 : 1 ≤ P) (p1 : 0 < lo'.m) (p2 : lo'.neg = false) (p3 : 0 < hi'.m) (p4 : hi'.neg = false) (p5 : 0 < y.m) (p6 : y.neg = false)
    (hga : ga ≤ -30000) (hgb : gb ≤ -30000) (hg : g ≤ -70000) (gg : g ≤ ga - gb) (h1 : val lo ga ≤ val x ga) (h2 : val lo' gb ≤ val y gb) (h3 : val y gb ≤ val hi' gb) :
    val (qN lo (pickS lo.neg lo' hi') P up) g ≤ val (qN x y P up) g := by
  have v0 := (val_pos (g := gb) p2).1
  have v1 := (val_pos (g := gb) p4).1
  unfold pickS
  cases hn : lo.neg
  · rw [if_neg (by decide)]
    have v2 := (val_pos (g := ga) hn).1
    exact qN_mono up k1 k4 k2 k5 hP hP1 p3 p4 p5 p6 hga hgb hg gg (Int.le_trans (Int.mul_le_mul_of_nonneg_left h3 v2) (Int.mul_le_mul_of_nonneg_right h1 v1))
  · rw [if_pos rfl]
    have v2 := (val_neg (g := ga) hn).1
    exact qN_mono up k1 k3 k2 k5 hP hP1 p1 p2 p5 p6 hga hgb hg gg (Int.le_trans (Int.mul_le_mul_of_nonpos_left v2 h2) (Int.mul_le_mul_of_nonneg_right h1 v0))
/-- And the greatest. -/
theorem quo_high {hi x lo' hi' y : DR} {P : Nat} {ga gb g : Int} (up : Bool) (k1 : Bd hi) (k2 : Bd x) (k3 : Bd lo') (k4 : Bd hi') (k5 : Bd y) (hP : P ≤ 600) (hP1 : 1 ≤ P) (p1 : 0 < lo'.m) (p2 : lo'.neg = false) (p3 : 0 < hi'.m) (p4 : hi'.neg = false) (p5 : 0 < y.m) (p6 : y.neg = false)
    (hga : ga ≤ -30000) (hgb : gb ≤ -30000) (hg : g ≤ -70000) (gg : g ≤ ga - gb) (h1 : val x ga ≤ val hi ga) (h2 : val lo' gb ≤ val y gb) (h3 : val y gb ≤ val hi' gb) :
    val (qN x y P up) g ≤ val (qN hi (pickS hi.neg hi' lo') P up) g := by
  have v0 := (val_pos (g := gb) p2).1
  have v1 := (val_pos (g := gb) p4).1
  unfold pickS
  cases hn : hi.neg
  · rw [if_neg (by decide)]
    have v2 := (val_pos (g := ga) hn).1
    exact qN_mono up k2 k5 k1 k3 hP hP1 p5 p6 p1 p2 hga hgb hg gg (Int.le_trans (Int.mul_le_mul_of_nonneg_right h1 v0) (Int.mul_le_mul_of_nonneg_left h2 v2))
  · rw [if_pos rfl]
    have v2 := (val_neg (g := ga) hn).1
    exact qN_mono up k2 k5 k1 k4 hP hP1 p5 p6 p3 p4 hga hgb hg gg (Int.le_trans (Int.mul_le_mul_of_nonneg_right h1 v1) (Int.mul_le_mul_of_nonpos_left v2 h3))
theorem odd_pow {m n a b : Nat} (hm : m % 2 = 1) (h : m * 2 ^ a = n * 2 ^ b) (hab : a ≤ b) : m = n ∧ a = b := by
  obtain ⟨t, rfl⟩ : ∃ t, b = t + a := ⟨b - a, by omega⟩
  rw [Nat.pow_add, ← Nat.mul_assoc] at h
  have h1 := Nat.eq_of_mul_eq_mul_right (Nat.two_pow_pos a) h
  rcases t with _ | t
  · rw [Nat.pow_zero, Nat.mul_one] at h1
    exact ⟨h1, by omega⟩
  · exfalso
    rw [Nat.pow_succ, ← Nat.mul_assoc] at h1
    omega
/-- Plain dyads that stand for the same are the same. -/
theorem val_inj {r s : DR} {g : Int} (pr : Pl r) (ps : Pl s) (hr : r.m = 0 ∨ g ≤ r.e) (hs : s.m = 0 ∨ g ≤ s.e) (h : val r g = val s g) : r = s := by
  have key : ∀ x y : DR, x.ok = true → y.ok = true → x.neg = y.neg → x.m = y.m → x.e = y.e → x = y := by
    intro x y h1 h2 h3 h4 h5
    cases x; cases y
    simp only at h1 h2 h3 h4 h5
    subst h1 h2 h3 h4 h5
    rfl
  rcases Nat.eq_zero_or_pos r.m with h0 | h0
  · have h1 : s.m = 0 := by
      rcases Nat.eq_zero_or_pos s.m with h1 | h1
      · exact h1
      · exfalso
        rw [val_zero h0] at h
        cases hn : s.neg
        · have := (val_pos (g := g) hn).2 h1; omega
        · have := (val_neg (g := g) hn).2 h1; omega
    obtain ⟨a1, a2⟩ := plainV_zero pr.pl h0
    obtain ⟨b1, b2⟩ := plainV_zero ps.pl h1
    exact key _ _ pr.ok ps.ok (a1.trans b1.symm) (h0.trans h1.symm) (a2.trans b2.symm)
  · have h1 : 0 < s.m := by
      rcases Nat.eq_zero_or_pos s.m with h1 | h1
      · exfalso
        rw [val_zero h1] at h
        cases hn : r.neg
        · have := (val_pos (g := g) hn).2 h0; omega
        · have := (val_neg (g := g) hn).2 h0; omega
      · exact h1
    have hr' : g ≤ r.e := by rcases hr with h | h <;> omega
    have hs' : g ≤ s.e := by rcases hs with h | h <;> omega
    have hn : r.neg = s.neg := by
      cases hr1 : r.neg <;> cases hs1 : s.neg
      · rfl
      · have := (val_pos (g := g) hr1).2 h0; have := (val_neg (g := g) hs1).2 h1; omega
      · have := (val_neg (g := g) hr1).2 h0; have := (val_pos (g := g) hs1).2 h1; omega
      · rfl
    have hm : mag r.m r.e g = mag s.m s.e g := by
      unfold val valI at h
      rw [hn] at h
      split at h <;> omega
    have o1 : r.m % 2 = 1 := by
      have := pr.pl
      unfold plainV at this
      rw [if_neg (by omega)] at this
      simp only [Bool.and_eq_true, decide_eq_true_eq] at this
      exact this.1.1
    have o2 : s.m % 2 = 1 := by
      have := ps.pl
      unfold plainV at this
      rw [if_neg (by omega)] at this
      simp only [Bool.and_eq_true, decide_eq_true_eq] at this
      exact this.1.1
    unfold mag at hm
    rcases Nat.le_total (r.e - g).toNat (s.e - g).toNat with hab | hab
    · obtain ⟨e1, e2⟩ := odd_pow o1 hm hab
      exact key _ _ pr.ok ps.ok hn e1 (by omega)
    · obtain ⟨e1, e2⟩ := odd_pow o2 hm.symm hab
      exact key _ _ pr.ok ps.ok hn e1.symm (by omega)
theorem overI_qN {r s : DR} {p : Int} (up : Bool) (hr : r.ok = true) (hs : s.ok = true) (h : 0 < s.m) (hp : bitsFitB p = true) : overI r s p up = qN r s p.toNat up := by
  unfold overI overD qN
  rw [hr, hs, hp, show decide (s.m = 0) = false from decide_eq_false (by omega)]
  rfl
theorem qN_pl {r s : DR} {P : Nat} (up : Bool) (hr : Bd r) (hs : Bd s) (hP : P ≤ 600) : Pl (qN r s P up) := by
  obtain ⟨V, e, hG⟩ := qN_good up hr hs hP
  exact ⟨hG.ok, hG.plain⟩
end Go.Proofs.YtmadojejafbpjaaGreatDoor

namespace Go.Proofs.YtmadojejafbpjaaGreatDoor
open Go.RowKit

def betterR (r : Nat → DR) (most : Bool) (a b : Nat) : Bool := if most then decide (0 < cmpI2 (r a) (r b)) else decide (cmpI2 (r a) (r b) < 0)
def bestR (r : Nat → DR) (most : Bool) : Nat → Nat
  | 0 => 0
  | i + 1 => if betterR r most (i + 1) (bestR r most i) then i + 1 else bestR r most i
/-- The one of four that is kept. -/
def pick4 (r : Nat → DR) (most : Bool) : DR := r (bestR r most 3)
theorem bestR_le (r : Nat → DR) (most : Bool) (i : Nat) : bestR r most i ≤ i := by
  induction i with
  | zero => exact Nat.le_refl _
  | succ i ih => unfold bestR; split <;> omega
/-- A list in memory whose dyads are these. -/
theorem bestL_R (l : DL) (r : Nat → DR) (most : Bool) (k : Nat) (h : ∀ a b, a < k → b < k → cmpL l a b = cmpI2 (r a) (r b)) (n : Nat) (hn : n < k) : bestL l most n = bestR r most n := by
  induction n with
  | zero => rfl
  | succ n ih =>
    have hb := bestR_le r most n
    have e : betterL l most (n + 1) (bestR r most n) = betterR r most (n + 1) (bestR r most n) := by
      unfold betterL betterR
      rw [h (n + 1) _ hn (by omega)]
    rw [bestL, bestR, ih (by omega), e]
theorem bestR_is (r : Nat → DR) (most : Bool) (k : Nat) (f : Nat → Int) (hc : ∀ i j, i < k → j < k → betterR r most i j = if most then decide (f j < f i) else decide (f i < f j)) (n : Nat) (hn : n < k) :
    ∀ i, i ≤ n → if most then f i ≤ f (bestR r most n) else f (bestR r most n) ≤ f i := by
  induction n with
  | zero =>
    intro i hi
    obtain rfl : i = 0 := by omega
    cases most <;> exact Int.le_refl _
  | succ n ih =>
    intro i hi
    have h0 := ih (by omega)
    have hb := bestR_le r most n
    have h1 := hc (n + 1) (bestR r most n) hn (by omega)
    rw [bestR]
    generalize bestR r most n = b at *
    rw [h1]
    cases most
    · simp only [Bool.false_eq_true, if_false, decide_eq_true_eq] at h0 ⊢
      rcases Nat.lt_or_ge n i with h | h
      · obtain rfl : i = n + 1 := by omega
        split <;> omega
      · have := h0 i h
        split <;> omega
    · simp only [if_true, decide_eq_true_eq] at h0 ⊢
      rcases Nat.lt_or_ge n i with h | h
      · obtain rfl : i = n + 1 := by omega
        split <;> omega
      · have := h0 i h
        split <;> omega
/-- A plain dyad above a unit. -/
structure Up (r : DR) (g : Int) : Prop where
  ok : r.ok = true
  z : r.m = 0 → r.neg = false
  e : g ≤ r.e
theorem cmp_val {r s : DR} {g : Int} (hr : Up r g) (hs : Up s g) : decide (cmpI2 r s < 0) = decide (val r g < val s g) := by
  have h1 : cmpI2 r s = ordD r.neg s.neg r.m s.m r.e s.e := by unfold cmpI2 cmpD; rw [hr.ok, hs.ok]; rfl
  have h2 : cmpI2 s r = ordD s.neg r.neg s.m r.m s.e r.e := by unfold cmpI2 cmpD; rw [hr.ok, hs.ok]; rfl
  have h3 := cmpI2_anti r s
  by_cases h : val s g ≤ val r g
  · have := ord_le (g := g) hs.z hr.z (.inr hs.e) (.inr hr.e) h
    rw [decide_eq_false (by omega), decide_eq_false (by omega)]
  · have h4 : ¬ ordD s.neg r.neg s.m r.m s.e r.e ≤ 0 := fun h4 => h (ord_val hs.e hr.e h4)
    rw [decide_eq_true (by omega), decide_eq_true (by omega)]
theorem cmp_val2 {r s : DR} {g : Int} (hr : Up r g) (hs : Up s g) : decide (0 < cmpI2 r s) = decide (val s g < val r g) := by
  rw [← cmp_val hs hr]
  have := cmpI2_anti r s
  by_cases h : 0 < cmpI2 r s
  · rw [decide_eq_true h, decide_eq_true (by omega)]
  · rw [decide_eq_false h, decide_eq_false (by omega)]
theorem pick4_is {r : Nat → DR} {g : Int} (h : ∀ j, j < 4 → Up (r j) g) (most : Bool) : (∃ j, j < 4 ∧ pick4 r most = r j) ∧ ∀ j, j < 4 → if most then val (r j) g ≤ val (pick4 r most) g else val (pick4 r most) g ≤ val (r j) g := by
  have hb := bestR_le r most 3
  refine ⟨⟨_, by omega, rfl⟩, fun j hj => ?_⟩
  refine bestR_is r most 4 (fun j => val (r j) g) (fun i j hi hj => ?_) 3 (by omega) j (by omega)
  unfold betterR
  cases most
  · simp only [Bool.false_eq_true, if_false]; exact cmp_val (h i hi) (h j hj)
  · simp only [if_true]; exact cmp_val2 (h i hi) (h j hj)
theorem pick4_low {r : Nat → DR} {g : Int} (h : ∀ j, j < 4 → Up (r j) g) : (∃ j, j < 4 ∧ pick4 r false = r j) ∧ ∀ j, j < 4 → val (pick4 r false) g ≤ val (r j) g := pick4_is h false
theorem pick4_high {r : Nat → DR} {g : Int} (h : ∀ j, j < 4 → Up (r j) g) : (∃ j, j < 4 ∧ pick4 r true = r j) ∧ ∀ j, j < 4 → val (r j) g ≤ val (pick4 r true) g := pick4_is h true
end Go.Proofs.YtmadojejafbpjaaGreatDoor

namespace Go.Proofs.YtmadojejafbpjaaGreatDoor
open Go.RowKit

def mulI (r s : DR) : DR := mulD (r.ok && s.ok) r.neg s.neg r.m s.m r.e s.e
theorem plIf_mulI (r s : DR) : PlIf (mulI r s) := by
  unfold mulI mulD
  split
  · exact plIf_mk _ _ _
  · exact plIf_no
/-- The ends that the j-th of the four is made of; the four. -/
def endL (lo hi : DR) (j : Nat) : DR := if j / 2 = 0 then lo else hi
def endR (lo hi : DR) (j : Nat) : DR := if j % 2 = 0 then lo else hi
def prod4 (lo hi lo' hi' : DR) (j : Nat) : DR := mulI (endL lo hi j) (endR lo' hi' j)
def ok4 (r : Nat → DR) : Bool := (r 0).ok && (r 1).ok && (r 2).ok && (r 3).ok
theorem ok4_true {r : Nat → DR} (h : ok4 r = true) : ∀ j, j < 4 → (r j).ok = true := by
  unfold ok4 at h
  simp only [Bool.and_eq_true] at h
  intro j hj
  have : j = 0 ∨ j = 1 ∨ j = 2 ∨ j = 3 := by omega
  rcases this with rfl | rfl | rfl | rfl
  · exact h.1.1.1
  · exact h.1.1.2
  · exact h.1.2
  · exact h.2
theorem ok4_of {r : Nat → DR} (h : ∀ j, j < 4 → (r j).ok = true) : ok4 r = true := by
  unfold ok4
  rw [h 0 (by omega), h 1 (by omega), h 2 (by omega), h 3 (by omega)]
  rfl
theorem ok4_false {r : Nat → DR} {j : Nat} (hj : j < 4) (h : (r j).ok = false) : ok4 r = false := by
  cases h4 : ok4 r
  · rfl
  · rw [ok4_true h4 j hj] at h; cases h
theorem pl_pick4 {r : Nat → DR} (h : ∀ j, j < 4 → (r j).ok = true ∧ plainV (r j).neg (r j).m (r j).e = true) (most : Bool) : Pl (pick4 r most) := by
  have hb := bestR_le r most 3
  have := h (bestR r most 3) (by omega)
  exact ⟨this.1, this.2⟩
/-- What the reference answers for a product. -/
def mulR (p : Int) (bad : Bool) (lo hi lo' hi' : DR) : SRes :=
  if bad2 p bad lo hi lo' hi' then SRes.no else if ok4 (prod4 lo hi lo' hi') then outS p false (pick4 (prod4 lo hi lo' hi') false) (pick4 (prod4 lo hi lo' hi') true) else SRes.no
theorem mulI_good {r s : DR} (hr : r.ok = true) (hs : s.ok = true) (br : Bd r) (bs : Bd s) : Good (mulI r s) (r.neg != s.neg) (r.m * s.m) (r.e + s.e) := by
  have := nb_mul r.m s.m
  obtain ⟨a1, a2, a3, _⟩ := br
  obtain ⟨b1, b2, b3, _⟩ := bs
  unfold mulI mulD
  rw [hr, hs]
  exact mkD_good _ (by omega) (by omega) (by omega)
theorem good_e {r : DR} {neg : Bool} {V : Nat} {e g : Int} (h : Good r neg V e) (hg : g ≤ e) (h0 : g ≤ 0) : g ≤ r.e := by
  rcases h.e1 with h1 | h1
  · have := ((plainR_of h.plain).zero (h.z h1).1).1; omega
  · omega
theorem pick_e {b : Bool} {r s : DR} {g : Int} (h1 : g ≤ r.e) (h2 : g ≤ s.e) : g ≤ (pickS b r s).e := by unfold pickS; split <;> assumption
theorem prod_e {r s : DR} {g g' : Int} (h1 : g ≤ r.e) (h2 : g' ≤ s.e) : g + g' ≤ (prodN r s).e := by show _ ≤ r.e + s.e; omega
theorem gr_e {r s : DR} {g : Int} (h1 : g ≤ r.e) (h2 : g ≤ s.e) : g ≤ (grN r s).e := by unfold grN; split <;> assumption
theorem prods1_e {lo hi lo' hi' : DR} {g : Int} (h1 : g ≤ lo.e) (h2 : g ≤ hi.e) (h3 : g ≤ lo'.e) (h4 : g ≤ hi'.e) : g + g ≤ (prods1 lo hi lo' hi').1.e ∧ g + g ≤ (prods1 lo hi lo' hi').2.e := by
  unfold prods1
  split
  · exact ⟨prod_e h2 (pick_e h4 h3), prod_e h1 (pick_e h3 h4)⟩
  · exact ⟨prod_e h1 (pick_e h4 h3), prod_e h2 (pick_e h3 h4)⟩
theorem prods_e {lo hi lo' hi' : DR} {g : Int} (h1 : g ≤ lo.e) (h2 : g ≤ hi.e) (h3 : g ≤ lo'.e) (h4 : g ≤ hi'.e) : g + g ≤ (prodsN lo hi lo' hi').1.e ∧ g + g ≤ (prodsN lo hi lo' hi').2.e := by
  unfold prodsN
  split
  · exact prods1_e h1 h2 h3 h4
  · split
    · exact prods1_e h3 h4 h1 h2
    · exact ⟨gr_e (prod_e h1 h4) (prod_e h2 h3), gr_e (prod_e h1 h3) (prod_e h2 h4)⟩
theorem prod4_up {lo hi lo' hi' : DR} (k1 : Bd lo) (k2 : Bd hi) (k3 : Bd lo') (k4 : Bd hi') (o1 : lo.ok = true) (o2 : hi.ok = true) (o3 : lo'.ok = true) (o4 : hi'.ok = true) {g : Int} (hg : g ≤ -60000) :
    ∀ j, j < 4 → Up (prod4 lo hi lo' hi' j) g ∧ val (prod4 lo hi lo' hi' j) g = val (prodN (endL lo hi j) (endR lo' hi' j)) g := by
  intro j _
  have key : ∀ {r s : DR}, Bd r → Bd s → r.ok = true → s.ok = true → Up (mulI r s) g ∧ val (mulI r s) g = val (prodN r s) g := by
    intro r s br bs hr hs
    have G := mulI_good hr hs br bs
    have he : g ≤ r.e + s.e := by have := br.lo; have := bs.lo; omega
    exact ⟨⟨G.ok, G.sg, good_e G he (by omega)⟩, (G.val he).2⟩
  unfold prod4 endL endR
  split <;> split
  · exact key k1 k3 o1 o3
  · exact key k1 k4 o1 o4
  · exact key k2 k3 o2 o3
  · exact key k2 k4 o2 o4
/-- Both answer the same. -/
theorem mulR_eq {p : Int} {bad : Bool} {lo hi lo' hi' : DR} (k : bad2 p bad lo hi lo' hi' = false → (Bd lo ∧ Bd hi) ∧ (Bd lo' ∧ Bd hi') ∧ (PlainR lo ∧ PlainR hi) ∧ (PlainR lo' ∧ PlainR hi')) : mulR p bad lo hi lo' hi' = mulC p bad lo hi lo' hi' := by
  unfold mulR mulC
  cases hb : bad2 p bad lo hi lo' hi'
  rotate_left
  · rfl
  · obtain ⟨⟨k1, k2⟩, ⟨k3, k4⟩, ⟨p1, p2⟩, ⟨p3, p4⟩⟩ := k hb
    obtain ⟨_, hp, R1, R2⟩ := bad2_false hb
    have ha : val lo (-30000) ≤ val hi (-30000) := ord_val k1.lo k2.lo R1.le
    have hb' : val lo' (-30000) ≤ val hi' (-30000) := ord_val k3.lo k4.lo R2.le
    have PV := prods_val p1 p2 p3 p4 k1.lo k2.lo k3.lo k4.lo ha hb'
    have U := prod4_up k1 k2 k3 k4 R1.l R1.h R2.l R2.h (g := -30000 + -30000) (by omega)
    have v0 := (U 0 (by omega)).2.trans (val_prod (r := lo) (s := lo') k1.lo k3.lo)
    have v1 := (U 1 (by omega)).2.trans (val_prod (r := lo) (s := hi') k1.lo k4.lo)
    have v2 := (U 2 (by omega)).2.trans (val_prod (r := hi) (s := lo') k2.lo k3.lo)
    have v3 := (U 3 (by omega)).2.trans (val_prod (r := hi) (s := hi') k2.lo k4.lo)
    have U' : ∀ j, j < 4 → Up (prod4 lo hi lo' hi' j) (-30000 + -30000) := fun j hj => (U j hj).1
    have L := pick4_low U'
    have H := pick4_high U'
    have h4 := ok4_of (fun j hj => (U' j hj).ok)
    obtain ⟨⟨jl, hjl, el⟩, L⟩ := L
    obtain ⟨⟨jh, hjh, eh⟩, H⟩ := H
    have UL : Up (pick4 (prod4 lo hi lo' hi') false) (-30000 + -30000) := by rw [el]; exact U' jl hjl
    have UH : Up (pick4 (prod4 lo hi lo' hi') true) (-30000 + -30000) := by rw [eh]; exact U' jh hjh
    have w0 := L 0 (by omega)
    have w1 := L 1 (by omega)
    have w2 := L 2 (by omega)
    have w3 := L 3 (by omega)
    have x0 := H 0 (by omega)
    have x1 := H 1 (by omega)
    have x2 := H 2 (by omega)
    have x3 := H 3 (by omega)
    have lone : val (pick4 (prod4 lo hi lo' hi') false) (-30000 + -30000) = val (prod4 lo hi lo' hi' 0) (-30000 + -30000) ∨ val (pick4 (prod4 lo hi lo' hi') false) (-30000 + -30000) = val (prod4 lo hi lo' hi' 1) (-30000 + -30000) ∨
        val (pick4 (prod4 lo hi lo' hi') false) (-30000 + -30000) = val (prod4 lo hi lo' hi' 2) (-30000 + -30000) ∨ val (pick4 (prod4 lo hi lo' hi') false) (-30000 + -30000) = val (prod4 lo hi lo' hi' 3) (-30000 + -30000) := by
      have : jl = 0 ∨ jl = 1 ∨ jl = 2 ∨ jl = 3 := by omega
      rcases this with rfl | rfl | rfl | rfl
      · exact .inl (by rw [el])
      · exact .inr (.inl (by rw [el]))
      · exact .inr (.inr (.inl (by rw [el])))
      · exact .inr (.inr (.inr (by rw [el])))
    have hone : val (pick4 (prod4 lo hi lo' hi') true) (-30000 + -30000) = val (prod4 lo hi lo' hi' 0) (-30000 + -30000) ∨ val (pick4 (prod4 lo hi lo' hi') true) (-30000 + -30000) = val (prod4 lo hi lo' hi' 1) (-30000 + -30000) ∨
        val (pick4 (prod4 lo hi lo' hi') true) (-30000 + -30000) = val (prod4 lo hi lo' hi' 2) (-30000 + -30000) ∨ val (pick4 (prod4 lo hi lo' hi') true) (-30000 + -30000) = val (prod4 lo hi lo' hi' 3) (-30000 + -30000) := by
      have : jh = 0 ∨ jh = 1 ∨ jh = 2 ∨ jh = 3 := by omega
      rcases this with rfl | rfl | rfl | rfl
      · exact .inl (by rw [eh])
      · exact .inr (.inl (by rw [eh]))
      · exact .inr (.inr (.inl (by rw [eh])))
      · exact .inr (.inr (.inr (by rw [eh])))
    rw [v0] at w0 x0 lone hone
    rw [v1] at w1 x1 lone hone
    rw [v2] at w2 x2 lone hone
    rw [v3] at w3 x3 lone hone
    obtain ⟨⟨y1, y2, y3, y4, y5⟩, ⟨z1, z2, z3, z4, z5⟩⟩ := PV
    have e1 : val (pick4 (prod4 lo hi lo' hi') false) (-30000 + -30000) = val (prodsN lo hi lo' hi').1 (-30000 + -30000) := by omega
    have e2 : val (pick4 (prod4 lo hi lo' hi') true) (-30000 + -30000) = val (prodsN lo hi lo' hi').2 (-30000 + -30000) := by omega
    have PE : -30000 + -30000 ≤ (prodsN lo hi lo' hi').1.e ∧ -30000 + -30000 ≤ (prodsN lo hi lo' hi').2.e := prods_e k1.lo k2.lo k3.lo k4.lo
    have c1 : cutI (pick4 (prod4 lo hi lo' hi') false) p false = cutD (prodsN lo hi lo' hi').1.neg (prodsN lo hi lo' hi').1.m (prodsN lo hi lo' hi').1.e false p.toNat false := by
      unfold cutI cutP
      rw [UL.ok, show bitsFitB p = true by unfold bitsFitB; simp only [Bool.and_eq_true, decide_eq_true_eq]; omega]
      exact cut_val (.inr UL.e) (.inr PE.1) e1 _ _
    have c2 : cutI (pick4 (prod4 lo hi lo' hi') true) p true = cutD (prodsN lo hi lo' hi').2.neg (prodsN lo hi lo' hi').2.m (prodsN lo hi lo' hi').2.e false p.toNat true := by
      unfold cutI cutP
      rw [UH.ok, show bitsFitB p = true by unfold bitsFitB; simp only [Bool.and_eq_true, decide_eq_true_eq]; omega]
      exact cut_val (.inr UH.e) (.inr PE.2) e2 _ _
    have B1 : bad1 p false (pick4 (prod4 lo hi lo' hi') false) (pick4 (prod4 lo hi lo' hi') true) = false := by
      have hle := ord_le (g := -30000 + -30000) UL.z UH.z (.inr UL.e) (.inr UH.e) (show val _ _ ≤ val _ _ by omega)
      unfold bad1 pBad rightI rightB
      rw [UL.ok, UH.ok, decide_eq_true hle, decide_eq_false (by omega), decide_eq_false (by omega)]
      rfl
    rw [h4]
    simp only [Bool.false_eq_true, if_false, if_true]
    unfold outS twoS outwS
    rw [B1, c1, c2]
    rfl
end Go.Proofs.YtmadojejafbpjaaGreatDoor

namespace Go.Proofs.YtmadojejafbpjaaGreatDoor
open Go.RowKit

def quo4 (p : Int) (up : Bool) (lo hi lo' hi' : DR) (j : Nat) : DR := overI (endL lo hi j) (endR lo' hi' j) p up
/-- What the reference answers for a quotient. -/
def divR (p : Int) (bad : Bool) (lo hi lo' hi' : DR) : SRes :=
  if bad2 p bad lo hi lo' hi' then SRes.no else if signI lo' hi' = 0 then SRes.no else
    if ok4 (quo4 p false lo hi lo' hi') && ok4 (quo4 p true lo hi lo' hi') then ⟨false, pick4 (quo4 p false lo hi lo' hi') false, pick4 (quo4 p true lo hi lo' hi') true⟩ else SRes.no
theorem pl_up {r : DR} (h : Pl r) : Up r (-300000) := by
  have P := plainR_of h.pl
  exact ⟨h.ok, fun h0 => (P.zero h0).2, by have := P.e1; omega⟩
theorem pick_low {r : Nat → DR} {q : DR} (h : ∀ j, j < 4 → Pl (r j)) (h1 : ∃ j, j < 4 ∧ q = r j) (h2 : ∀ j, j < 4 → val q (-300000) ≤ val (r j) (-300000)) : pick4 r false = q := by
  obtain ⟨⟨i, hi, e⟩, L⟩ := pick4_low (fun j hj => pl_up (h j hj))
  obtain ⟨k, hk, ek⟩ := h1
  have a1 := L k hk
  have a2 := h2 i hi
  rw [← ek] at a1
  rw [← e] at a2
  have pe : Pl (pick4 r false) := by rw [e]; exact h i hi
  have pq : Pl q := by rw [ek]; exact h k hk
  exact val_inj pe pq (.inr (pl_up pe).e) (.inr (pl_up pq).e) (by omega)
theorem pick_high {r : Nat → DR} {q : DR} (h : ∀ j, j < 4 → Pl (r j)) (h1 : ∃ j, j < 4 ∧ q = r j) (h2 : ∀ j, j < 4 → val (r j) (-300000) ≤ val q (-300000)) : pick4 r true = q := by
  obtain ⟨⟨i, hi, e⟩, L⟩ := pick4_high (fun j hj => pl_up (h j hj))
  obtain ⟨k, hk, ek⟩ := h1
  have a1 := L k hk
  have a2 := h2 i hi
  rw [← ek] at a1
  rw [← e] at a2
  have pe : Pl (pick4 r true) := by rw [e]; exact h i hi
  have pq : Pl q := by rw [ek]; exact h k hk
  exact val_inj pe pq (.inr (pl_up pe).e) (.inr (pl_up pq).e) (by omega)
/-- Two ends of a divisor above 0. -/
structure Above (lo hi : DR) : Prop where
  b1 : Bd lo
  b2 : Bd hi
  o1 : lo.ok = true
  o2 : hi.ok = true
  m1 : 0 < lo.m
  n1 : lo.neg = false
  m2 : 0 < hi.m
  n2 : hi.neg = false
  le : val lo (-30000) ≤ val hi (-30000)
structure Any2 (lo hi : DR) : Prop where
  b1 : Bd lo
  b2 : Bd hi
  o1 : lo.ok = true
  o2 : hi.ok = true
  le : val lo (-30000) ≤ val hi (-30000)
theorem Any2.end {lo hi : DR} (h : Any2 lo hi) (j : Nat) : Bd (endL lo hi j) ∧ (endL lo hi j).ok = true ∧ val lo (-30000) ≤ val (endL lo hi j) (-30000) ∧ val (endL lo hi j) (-30000) ≤ val hi (-30000) := by
  unfold endL
  split
  · exact ⟨h.b1, h.o1, Int.le_refl _, h.le⟩
  · exact ⟨h.b2, h.o2, h.le, Int.le_refl _⟩
theorem Above.end {lo hi : DR} (h : Above lo hi) (j : Nat) : Bd (endR lo hi j) ∧ (endR lo hi j).ok = true ∧ 0 < (endR lo hi j).m ∧ (endR lo hi j).neg = false ∧ val lo (-30000) ≤ val (endR lo hi j) (-30000) ∧ val (endR lo hi j) (-30000) ≤ val hi (-30000) := by
  unfold endR
  split
  · exact ⟨h.b1, h.o1, h.m1, h.n1, Int.le_refl _, h.le⟩
  · exact ⟨h.b2, h.o2, h.m2, h.n2, h.le, Int.le_refl _⟩
section
variable {p : Int} {lo hi lo' hi' : DR} (hx : Any2 lo hi) (hy : Above lo' hi') (hp1 : 1 ≤ p) (hp2 : p ≤ 600)
include hx hy hp1 hp2
theorem quo4_q (up : Bool) (j : Nat) : quo4 p up lo hi lo' hi' j = qN (endL lo hi j) (endR lo' hi' j) p.toNat up ∧ Pl (quo4 p up lo hi lo' hi' j) := by
  obtain ⟨a1, a2, _, _⟩ := hx.end j
  obtain ⟨b1, b2, b3, _⟩ := hy.end j
  have e := overI_qN up a2 b2 b3 (show bitsFitB p = true by unfold bitsFitB; simp only [Bool.and_eq_true, decide_eq_true_eq]; omega)
  refine ⟨e, ?_⟩
  show Pl (overI _ _ p up)
  rw [e]
  exact qN_pl up a1 b1 (by omega)
theorem quo_pos_low : (∃ j, j < 4 ∧ overI lo (pickS lo.neg lo' hi') p false = quo4 p false lo hi lo' hi' j) ∧ ∀ j, j < 4 → val (overI lo (pickS lo.neg lo' hi') p false) (-300000) ≤ val (quo4 p false lo hi lo' hi' j) (-300000) := by
  constructor
  · unfold pickS
    cases lo.neg
    · exact ⟨1, by omega, rfl⟩
    · exact ⟨0, by omega, rfl⟩
  · intro j _
    obtain ⟨a1, a2, a3, _⟩ := hx.end j
    obtain ⟨b1, b2, b3, b4, b5, b6⟩ := hy.end j
    rw [(quo4_q hx hy hp1 hp2 false j).1]
    have ep : ∀ b : Bool, Bd (pickS b lo' hi') ∧ (pickS b lo' hi').ok = true ∧ 0 < (pickS b lo' hi').m := fun b => by
      unfold pickS
      split
      · exact ⟨hy.b1, hy.o1, hy.m1⟩
      · exact ⟨hy.b2, hy.o2, hy.m2⟩
    rw [overI_qN false hx.o1 (ep _).2.1 (ep _).2.2 (show bitsFitB p = true by unfold bitsFitB; simp only [Bool.and_eq_true, decide_eq_true_eq]; omega)]
    exact quo_low false hx.b1 a1 hy.b1 hy.b2 b1 (by omega) (by omega) hy.m1 hy.n1 hy.m2 hy.n2 b3 b4 (ga := -30000) (gb := -30000) (by omega) (by omega) (by omega) (by omega) a3 b5 b6
theorem quo_pos_high : (∃ j, j < 4 ∧ overI hi (pickS hi.neg hi' lo') p true = quo4 p true lo hi lo' hi' j) ∧ ∀ j, j < 4 → val (quo4 p true lo hi lo' hi' j) (-300000) ≤ val (overI hi (pickS hi.neg hi' lo') p true) (-300000) := by
  constructor
  · unfold pickS
    cases hi.neg
    · exact ⟨2, by omega, rfl⟩
    · exact ⟨3, by omega, rfl⟩
  · intro j _
    obtain ⟨a1, a2, _, a4⟩ := hx.end j
    obtain ⟨b1, b2, b3, b4, b5, b6⟩ := hy.end j
    rw [(quo4_q hx hy hp1 hp2 true j).1]
    have ep : ∀ b : Bool, Bd (pickS b hi' lo') ∧ (pickS b hi' lo').ok = true ∧ 0 < (pickS b hi' lo').m := fun b => by
      unfold pickS
      split
      · exact ⟨hy.b2, hy.o2, hy.m2⟩
      · exact ⟨hy.b1, hy.o1, hy.m1⟩
    rw [overI_qN true hx.o2 (ep _).2.1 (ep _).2.2 (show bitsFitB p = true by unfold bitsFitB; simp only [Bool.and_eq_true, decide_eq_true_eq]; omega)]
    exact quo_high true hx.b2 a1 hy.b1 hy.b2 b1 (by omega) (by omega) hy.m1 hy.n1 hy.m2 hy.n2 b3 b4 (ga := -30000) (gb := -30000) (by omega) (by omega) (by omega) (by omega) a4 b5 b6
end
theorem negI_val {r : DR} (h : r.ok = true) (g : Int) : val (negI r) g = - val r g := by
  unfold negI
  rw [h]
  simp only [if_true]
  by_cases h0 : r.m = 0
  · rw [if_pos h0, val_zero h0, val_zero (show DR.zero.m = 0 from rfl)]; rfl
  · rw [if_neg h0]
    unfold val valI
    cases r.neg <;> simp
theorem negI_bd {r : DR} (h : r.ok = true) (b : Bd r) : Bd (negI r) ∧ (negI r).ok = true := by
  unfold negI
  rw [h]
  simp only [if_true]
  by_cases h0 : r.m = 0
  · rw [if_pos h0]
    exact ⟨⟨by show nb 0 ≤ 3000; rw [nb_zero]; omega, by show (-30000 : Int) ≤ 0; omega, by show (0 : Int) ≤ 30000; omega, fun _ => rfl⟩, rfl⟩
  · rw [if_neg h0]
    exact ⟨⟨b.b, b.lo, b.hi, fun h => absurd h h0⟩, rfl⟩
theorem Any2.neg {lo hi : DR} (h : Any2 lo hi) : Any2 (negI hi) (negI lo) := by
  have h1 := negI_bd h.o1 h.b1
  have h2 := negI_bd h.o2 h.b2
  exact ⟨h2.1, h1.1, h2.2, h1.2, by rw [negI_val h.o1, negI_val h.o2]; have := h.le; omega⟩
theorem quo4_neg {p : Int} {up : Bool} {lo hi lo' hi' : DR} {j : Nat} (hj : j < 4) : quo4 p up (negI hi) (negI lo) (negI hi') (negI lo') j = quo4 p up lo hi lo' hi' (3 - j) := by
  have : j = 0 ∨ j = 1 ∨ j = 2 ∨ j = 3 := by omega
  rcases this with rfl | rfl | rfl | rfl
  · exact overI_neg hi hi' p up
  · exact overI_neg hi lo' p up
  · exact overI_neg lo hi' p up
  · exact overI_neg lo lo' p up
theorem neg_ex {p : Int} {up : Bool} {lo hi lo' hi' q : DR} (h : ∃ j, j < 4 ∧ q = quo4 p up (negI hi) (negI lo) (negI hi') (negI lo') j) : ∃ j, j < 4 ∧ q = quo4 p up lo hi lo' hi' j := by
  obtain ⟨j, hj, e⟩ := h
  exact ⟨3 - j, by omega, by rw [e, quo4_neg hj]⟩
theorem neg_all {p : Int} {up : Bool} {lo hi lo' hi' : DR} {F : DR → Prop} (h : ∀ j, j < 4 → F (quo4 p up (negI hi) (negI lo) (negI hi') (negI lo') j)) : ∀ j, j < 4 → F (quo4 p up lo hi lo' hi' j) := by
  intro j hj
  have := h (3 - j) (by omega)
  rw [quo4_neg (by omega), show 3 - (3 - j) = j by omega] at this
  exact this
theorem sign_cases {lo hi : DR} (h : rightI lo hi = true) : (lo.m ≠ 0 ∧ lo.neg = false ∧ signI lo hi = 1) ∨ (hi.neg = true ∧ signI lo hi = -1) ∨ signI lo hi = 0 := by
  unfold signI signS
  rw [h]
  simp only [if_true]
  by_cases h0 : lo.m = 0
  · rw [if_pos h0, if_neg (fun h => h.1 rfl)]
    cases hi.neg
    · exact .inr (.inr rfl)
    · exact .inr (.inl ⟨rfl, rfl⟩)
  · rw [if_neg h0]
    cases hn : lo.neg
    · exact .inl ⟨h0, rfl, if_pos ⟨by omega, rfl⟩⟩
    · rw [if_neg (fun h => by cases h.2)]
      cases hi.neg
      · exact .inr (.inr rfl)
      · exact .inr (.inl ⟨rfl, rfl⟩)
/-- Both answer the same. -/
theorem divR_eq {p : Int} {bad : Bool} {lo hi lo' hi' : DR} (hp : p ≤ 600 ∨ 8192 < p) (k : bad2 p bad lo hi lo' hi' = false → (Bd lo ∧ Bd hi) ∧ (Bd lo' ∧ Bd hi')) : divR p bad lo hi lo' hi' = divC p bad lo hi lo' hi' := by
  unfold divR divC
  cases hb : bad2 p bad lo hi lo' hi'
  rotate_left
  · rfl
  · obtain ⟨⟨k1, k2⟩, ⟨k3, k4⟩⟩ := k hb
    obtain ⟨_, hp', R1, R2⟩ := bad2_false hb
    have ha : val lo (-30000) ≤ val hi (-30000) := ord_val k1.lo k2.lo R1.le
    have hb' : val lo' (-30000) ≤ val hi' (-30000) := ord_val k3.lo k4.lo R2.le
    have A1 : Any2 lo hi := ⟨k1, k2, R1.l, R1.h, ha⟩
    have A2 : Any2 lo' hi' := ⟨k3, k4, R2.l, R2.h, hb'⟩
    have hri : rightI lo' hi' = true := by
      have := R2.le
      unfold rightI rightB
      rw [R2.l, R2.h]
      simpa using this
    simp only [Bool.false_eq_true, if_false]
    by_cases hs : signI lo' hi' = 0
    · rw [if_pos hs, if_pos hs]
    rw [if_neg hs, if_neg hs]
    have fin : ∀ {q1 q2 : DR}, (∀ up j, j < 4 → Pl (quo4 p up lo hi lo' hi' j)) → ((∃ j, j < 4 ∧ q1 = quo4 p false lo hi lo' hi' j) ∧ ∀ j, j < 4 → val q1 (-300000) ≤ val (quo4 p false lo hi lo' hi' j) (-300000)) →
        ((∃ j, j < 4 ∧ q2 = quo4 p true lo hi lo' hi' j) ∧ ∀ j, j < 4 → val (quo4 p true lo hi lo' hi' j) (-300000) ≤ val q2 (-300000)) →
        (if (ok4 (quo4 p false lo hi lo' hi') && ok4 (quo4 p true lo hi lo' hi')) = true then (⟨false, pick4 (quo4 p false lo hi lo' hi') false, pick4 (quo4 p true lo hi lo' hi') true⟩ : SRes) else SRes.no) = keepS false q1 q2 (q1.ok && q2.ok) := by
      intro q1 q2 hpl h1 h2
      have o1 := ok4_of (fun j hj => (hpl false j hj).ok)
      have o2 := ok4_of (fun j hj => (hpl true j hj).ok)
      rw [o1, o2, pick_low (hpl false) h1.1 h1.2, pick_high (hpl true) h2.1 h2.2]
      obtain ⟨⟨i1, hi1, e1⟩, _⟩ := h1
      obtain ⟨⟨i2, hi2, e2⟩, _⟩ := h2
      unfold keepS
      rw [show q1.ok = true by rw [e1]; exact (hpl false i1 hi1).ok, show q2.ok = true by rw [e2]; exact (hpl true i2 hi2).ok]
    by_cases hm : signI lo' hi' = -1
    · rw [if_pos hm]
      have hneg : hi'.neg = true := by
        rcases sign_cases hri with h | h | h
        · omega
        · exact h.1
        · omega
      have hm2 : 0 < hi'.m := by
        rcases Nat.eq_zero_or_pos hi'.m with h | h
        · rw [k4.z h] at hneg; cases hneg
        · exact h
      have v2 := (val_neg (g := -30000) hneg).2 hm2
      have hln : lo'.neg = true := by
        cases h : lo'.neg with
        | false => have := (val_pos (g := -30000) h).1; omega
        | true => rfl
      have hm1 : 0 < lo'.m := by
        rcases Nat.eq_zero_or_pos lo'.m with h | h
        · rw [k3.z h] at hln; cases hln
        · exact h
      have e1 : negI lo' = ⟨true, !lo'.neg, lo'.m, lo'.e⟩ := by unfold negI; rw [R2.l, if_pos rfl, if_neg (by omega)]
      have e2 : negI hi' = ⟨true, !hi'.neg, hi'.m, hi'.e⟩ := by unfold negI; rw [R2.h, if_pos rfl, if_neg (by omega)]
      have N2 := A2.neg
      have B2 : Above (negI hi') (negI lo') := ⟨N2.b1, N2.b2, N2.o1, N2.o2, by rw [e2]; exact hm2, by rw [e2, hneg]; rfl, by rw [e1]; exact hm1, by rw [e1, hln]; rfl, N2.le⟩
      have L := quo_pos_low A1.neg B2 hp'.1 (by omega)
      have H := quo_pos_high A1.neg B2 hp'.1 (by omega)
      exact fin (fun up => neg_all (F := Pl) (fun j _ => (quo4_q A1.neg B2 hp'.1 (by omega) up j).2)) ⟨neg_ex L.1, neg_all (F := fun r => val _ (-300000) ≤ val r (-300000)) L.2⟩ ⟨neg_ex H.1, neg_all (F := fun r => val r (-300000) ≤ val _ (-300000)) H.2⟩
    · rw [if_neg hm]
      have hpos : lo'.neg = false ∧ lo'.m ≠ 0 := by
        rcases sign_cases hri with h | h | h
        · exact ⟨h.2.1, h.1⟩
        · omega
        · omega
      have v1 := (val_pos (g := -30000) hpos.1).2 (by omega)
      have hhn : hi'.neg = false := by
        cases h : hi'.neg
        · rfl
        · have := (val_neg (g := -30000) h).1; omega
      have hhm : 0 < hi'.m := by
        rcases Nat.eq_zero_or_pos hi'.m with h | h
        · have := val_zero (g := -30000) h; omega
        · exact h
      have B2 : Above lo' hi' := ⟨k3, k4, R2.l, R2.h, by omega, hpos.1, hhm, hhn, hb'⟩
      exact fin (fun up j _ => (quo4_q A1 B2 hp'.1 (by omega) up j).2) (quo_pos_low A1 B2 hp'.1 (by omega)) (quo_pos_high A1 B2 hp'.1 (by omega))
end Go.Proofs.YtmadojejafbpjaaGreatDoor
