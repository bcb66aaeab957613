/-
  Words that stand for binary64 numbers, in plain numbers: kinds, what they stand for, the word of a number, the next one. No program is named here.
  bits.exponent, bits.fraction, bits.Kind, bits.Neg; volvelleref09.Neg, parts, Kind.
  bits.Number and volvelleref09.Number.
  bits.Next and volvelleref09.Next.
  bits.Word.
  volvelleref09.Word.
-/
import Derived.Laws.BitsAll
import Derived.BigQuiet
import Derived.Test.YtilmbdbcgbndmaaDoorPlOGDy7
import Derived.Test.YtilmbdbcgbndmaaDoorPlOGDy8
import Derived.Test.YtilmbdbcgbndmaaDoorPlOGDy12
namespace Go.Proofs.YtilmbdbcgbndmaaDoor

def sgB (b : Nat) : Bool := decide (9223372036854775808 ≤ b)
def loN (b : Nat) : Nat := b % 9223372036854775808
def exN (b : Nat) : Nat := b % 9223372036854775808 / 4503599627370496
def frN (b : Nat) : Nat := b % 4503599627370496
def kindN (b : Nat) : Nat := if exN b = 0 then (if frN b = 0 then 0 else 1) else if exN b < 2047 then 2 else if frN b = 0 then 3 else 4
/-- What a word stands for. -/
def numD (b : Nat) : DR := if exN b = 2047 then DR.no else if exN b = 0 then mkD (sgB b) (frN b) (-1074) else mkD (sgB b) (4503599627370496 + frN b) ((exN b : Int) - 1075)
def sgW (neg : Bool) : Nat := if neg then 9223372036854775808 else 0
/-- The exponent of a number's last bit. -/
def unitE (V : Nat) (e : Int) : Int := max (e + (nb V : Int) - 53) (-1074)
/-- The word of a plain dyad, and whether there is one. -/
def wordN (neg : Bool) (V : Nat) (e : Int) : Nat × Bool :=
  if V = 0 then (0, true) else if e < unitE V e ∨ 971 < unitE V e then (0, false) else (sgW neg + ((unitE V e + 1074).toNat * 4503599627370496 + V * 2 ^ (e - unitE V e).toNat), true)
def wordP (ok neg : Bool) (V : Nat) (e : Int) : Nat × Bool := if ok then wordN neg V e else (0, false)
/-- The next word, and whether there is one. -/
def nextN (b : Nat) (up : Bool) : Nat × Bool :=
  if kindN b = 4 ∨ (kindN b = 3 ∧ up ≠ sgB b) then (0, false) else if kindN b = 0 then (if up then (1, true) else (9223372036854775809, true)) else if up ≠ sgB b then (b + 1, true) else (b - 1, true)

theorem exN_le (b : Nat) : exN b ≤ 2047 := by unfold exN; omega
theorem frN_lt (b : Nat) : frN b < 4503599627370496 := by unfold frN; omega
theorem kind_lo (b : Nat) : kindN b = if loN b = 0 then 0 else if loN b < 4503599627370496 then 1 else if loN b < 9218868437227405312 then 2 else if loN b = 9218868437227405312 then 3 else 4 := by
  unfold kindN exN frN loN
  split
  · split
    · rw [if_pos (by omega)]
    · rw [if_neg (by omega), if_pos (by omega)]
  · rw [if_neg (by omega : ¬ b % 9223372036854775808 = 0), if_neg (by omega : ¬ b % 9223372036854775808 < 4503599627370496)]
    split
    · rw [if_pos (by omega)]
    · rw [if_neg (by omega : ¬ b % 9223372036854775808 < 9218868437227405312)]
      split
      · rw [if_pos (by omega)]
      · rw [if_neg (by omega)]
theorem kind_le (b : Nat) : kindN b ≤ 4 := by
  unfold kindN
  split
  · split <;> omega
  · split
    · omega
    · split <;> omega
theorem kind_four (b : Nat) : kindN b = 4 ↔ 9218868437227405312 < loN b := by
  rw [kind_lo]
  split
  · omega
  · split
    · omega
    · split
      · omega
      · split <;> omega
theorem kind_three (b : Nat) : kindN b = 3 ↔ loN b = 9218868437227405312 := by
  rw [kind_lo]
  split
  · omega
  · split
    · omega
    · split
      · omega
      · split <;> omega
theorem kind_none (b : Nat) : kindN b = 0 ↔ loN b = 0 := by
  rw [kind_lo]
  split
  · omega
  · split
    · omega
    · split
      · omega
      · split <;> omega
theorem sgB_true {b : Nat} : sgB b = true ↔ 9223372036854775808 ≤ b := by unfold sgB; simp
theorem sgB_false {b : Nat} : sgB b = false ↔ b < 9223372036854775808 := by unfold sgB; simp

/-- The next one by the lower bits alone. -/
theorem next_lo (b : Nat) (up : Bool) : nextN b up = if 9218868437227405312 < loN b ∨ (loN b = 9218868437227405312 ∧ up ≠ sgB b) then (0, false) else if loN b = 0 then (if up then (1, true) else (9223372036854775809, true)) else if up ≠ sgB b then (b + 1, true) else (b - 1, true) := by
  unfold nextN
  simp only [kind_four, kind_three, kind_none]
theorem next_lt {b : Nat} (up : Bool) (hb : b < B64) : (nextN b up).1 < B64 := by
  rw [next_lo]
  unfold loN B64 at *
  split
  · omega
  · split
    · split <;> omega
    · split <;> simp only <;> omega
theorem nb53 {V : Nat} (h : V < 9007199254740992) : nb V ≤ 53 := (nb_le_iff V 53).2 (Nat.lt_of_lt_of_eq h (by decide +kernel))
theorem nb_two52 {V : Nat} (h : 4503599627370496 ≤ V) (h2 : V < 9007199254740992) : nb V = 53 := nb_of (B := 52) (Nat.lt_of_lt_of_eq h2 (by decide +kernel)) (Nat.le_trans (Nat.le_of_eq (by decide +kernel)) h)
theorem mk_facts {neg : Bool} {V : Nat} {e : Int} (hV : 0 < V) (hV2 : V < 9007199254740992) (he : -1074 ≤ e) (he2 : e ≤ 971) :
    mkD neg V e = ⟨true, neg, od V, e + (v2 V : Int)⟩ ∧ nb V = nb (od V) + v2 V ∧ V = od V * 2 ^ v2 V ∧ 0 < od V := by
  obtain ⟨h1, h2⟩ := od_spec hV
  have h3 := od_pos hV
  have h4 : nb V = nb (od V) + v2 V := by
    have h := nb_mul_pow h3 (v2 V)
    rw [← h1] at h
    exact h
  have h5 := nb53 hV2
  refine ⟨?_, h4, h1, h3⟩
  unfold mkD
  rw [if_neg (by omega), if_pos ⟨by rw [MB_eq]; omega, by unfold fitE; omega⟩]
theorem word_mk {neg : Bool} {V : Nat} {e : Int} (hV : 0 < V) (hV2 : V < 9007199254740992) (he : -1074 ≤ e) (he2 : e ≤ 971) (hs : e = -1074 ∨ 4503599627370496 ≤ V) :
    wordN (mkD neg V e).neg (mkD neg V e).m (mkD neg V e).e = (sgW neg + ((e + 1074).toNat * 4503599627370496 + V), true) := by
  obtain ⟨h1, h2, h3, h4⟩ := mk_facts (neg := neg) hV hV2 he he2
  have h5 := nb53 hV2
  have hu : unitE (od V) (e + (v2 V : Int)) = e := by
    unfold unitE
    rcases hs with h | h
    · omega
    · have := nb_two52 h hV2; omega
  rw [h1]
  simp only
  unfold wordN
  rw [if_neg (by omega), hu, if_neg (by omega), show (e + (v2 V : Int) - e).toNat = v2 V by omega, ← h3]
theorem sg_lo {b : Nat} (hb : b < B64) : b = sgW (sgB b) + loN b := by
  unfold sgW loN
  cases h : sgB b
  · have := sgB_false.1 h
    rw [if_neg (by simp)]; omega
  · have := sgB_true.1 h
    unfold B64 at hb
    rw [if_pos rfl]; omega
/-- The word of a word's number. -/
theorem word_num {b : Nat} (hb : b < B64) (h : exN b ≠ 2047) : (numD b).ok = true ∧ wordN (numD b).neg (numD b).m (numD b).e = (if kindN b = 0 then 0 else b, true) := by
  have hf := frN_lt b
  have hx := exN_le b
  unfold numD
  rw [if_neg h]
  by_cases h0 : exN b = 0
  · rw [if_pos h0]
    rcases Nat.eq_zero_or_pos (frN b) with h1 | h1
    · have hk : kindN b = 0 := by unfold kindN; rw [if_pos h0, if_pos h1]
      rw [h1, hk, mkD_zero]
      exact ⟨rfl, rfl⟩
    · have hk : ¬ kindN b = 0 := by unfold kindN; rw [if_pos h0, if_neg (by omega)]; omega
      obtain ⟨g1, _⟩ := mk_facts (neg := sgB b) (e := -1074) h1 (by omega) (by omega) (by omega)
      refine ⟨by rw [g1], ?_⟩
      rw [word_mk h1 (by omega) (by omega) (by omega) (.inl rfl), if_neg hk]
      have := sg_lo hb
      rw [show sgW (sgB b) + ((-1074 + 1074 : Int).toNat * 4503599627370496 + frN b) = b by
        rw [show ((-1074 + 1074 : Int)).toNat = 0 by decide, Nat.zero_mul]; unfold exN frN loN at *; omega]
  · rw [if_neg h0]
    have hk : ¬ kindN b = 0 := by
      unfold kindN; rw [if_neg h0, if_pos (by omega)]; omega
    obtain ⟨g1, _⟩ := mk_facts (neg := sgB b) (V := 4503599627370496 + frN b) (e := (exN b : Int) - 1075) (by omega) (by omega) (by omega) (by omega)
    refine ⟨by rw [g1], ?_⟩
    rw [word_mk (by omega) (by omega) (by omega) (by omega) (.inr (by omega)), if_neg hk]
    have := sg_lo hb
    rw [show sgW (sgB b) + (((exN b : Int) - 1075 + 1074).toNat * 4503599627370496 + (4503599627370496 + frN b)) = b by
      rw [show ((exN b : Int) - 1075 + 1074).toNat = exN b - 1 by omega]; unfold exN frN loN at *; omega]
theorem num_no {b : Nat} (h : exN b = 2047) : numD b = DR.no := by unfold numD; rw [if_pos h]

/-- What the lower bits stand for, in units of 2^-1074. -/
def szN (l : Nat) : Nat := if l / 4503599627370496 = 0 then l % 4503599627370496 else (4503599627370496 + l % 4503599627370496) * 2 ^ (l / 4503599627370496 - 1)
theorem sz_step (l : Nat) : szN l < szN (l + 1) := by
  unfold szN
  by_cases h : l % 4503599627370496 + 1 = 4503599627370496
  · have h1 : (l + 1) / 4503599627370496 = l / 4503599627370496 + 1 := by omega
    have h2 : (l + 1) % 4503599627370496 = 0 := by omega
    rw [h1, h2, if_neg (by omega : ¬ l / 4503599627370496 + 1 = 0), Nat.add_zero, Nat.add_sub_cancel]
    split
    · rename_i h3; rw [h3]; omega
    · generalize hx : l / 4503599627370496 = x at *
      obtain ⟨y, rfl⟩ : ∃ y, x = y + 1 := ⟨x - 1, by omega⟩
      rw [Nat.add_sub_cancel, Nat.pow_succ]
      have := Nat.two_pow_pos y
      rw [show 4503599627370496 * (2 ^ y * 2) = 9007199254740992 * 2 ^ y by omega]
      exact Nat.mul_lt_mul_of_pos_right (by omega) this
  · have h1 : (l + 1) / 4503599627370496 = l / 4503599627370496 := by omega
    have h2 : (l + 1) % 4503599627370496 = l % 4503599627370496 + 1 := by omega
    rw [h1, h2]
    split
    · omega
    · exact Nat.mul_lt_mul_of_pos_right (by omega) (Nat.two_pow_pos _)
theorem sz_mono {l k : Nat} (h : l < k) : szN l < szN k := by
  induction k with
  | zero => omega
  | succ k ih =>
    rcases Nat.lt_or_ge l k with h1 | h1
    · exact Nat.lt_trans (ih h1) (sz_step k)
    · obtain rfl : l = k := by omega
      exact sz_step l
theorem sz_le {l k : Nat} (h : l ≤ k) : szN l ≤ szN k := by
  rcases Nat.lt_or_ge l k with h1 | h1
  · exact Nat.le_of_lt (sz_mono h1)
  · obtain rfl : l = k := by omega
    exact Nat.le_refl _
def vB (b : Nat) : Int := if sgB b then - (szN (loN b) : Int) else (szN (loN b) : Int)
theorem good_num {b : Nat} (h : exN b ≠ 2047) : ∃ V e, Good (numD b) (sgB b) V e ∧ -1074 ≤ e ∧ valI (sgB b) V e (-1074) = vB b := by
  have hf := frN_lt b
  have hx := exN_le b
  have hl : frN b = loN b % 4503599627370496 := by unfold frN loN; omega
  have he : exN b = loN b / 4503599627370496 := rfl
  unfold numD
  rw [if_neg h]
  by_cases h0 : exN b = 0
  · have := nb53 (V := frN b) (by omega)
    rw [if_pos h0]
    refine ⟨_, _, mkD_good (sgB b) (by omega) (by omega) (by omega), by omega, ?_⟩
    unfold valI vB mag szN
    rw [← he, ← hl, if_pos h0, show ((-1074 : Int) - -1074).toNat = 0 by omega, Nat.pow_zero, Nat.mul_one]
  · have := nb53 (V := 4503599627370496 + frN b) (by omega)
    rw [if_neg h0]
    refine ⟨_, _, mkD_good (sgB b) (by omega) (by omega) (by omega), by omega, ?_⟩
    unfold valI vB mag szN
    rw [← he, ← hl, if_neg h0, show ((exN b : Int) - 1075 - -1074).toNat = exN b - 1 by omega]
theorem num_ge {b : Nat} (h : exN b ≠ 2047) : (numD b).m = 0 ∨ -1074 ≤ (numD b).e := by
  obtain ⟨V, e, g, he, _⟩ := good_num h
  rcases Nat.eq_zero_or_pos V with h0 | h0
  · exact .inl (g.z h0).1
  · have := g.e1
    right; omega
theorem num_val {b : Nat} (h : exN b ≠ 2047) : valI (numD b).neg (numD b).m (numD b).e (-1074) = vB b := by
  obtain ⟨V, e, g, he, hv⟩ := good_num h
  rw [(g.val he).2, hv]
theorem num_zero {b : Nat} (h : exN b ≠ 2047) : (numD b).m = 0 → (numD b).neg = false := by
  obtain ⟨V, e, g, _⟩ := good_num h
  exact g.sg
theorem num_e {b : Nat} (h : exN b ≠ 2047) : -1074 ≤ (numD b).e := by
  obtain ⟨V, e, g, he, _⟩ := good_num h
  rcases Nat.eq_zero_or_pos (numD b).m with h0 | h0
  · have h1 := plainV_zero g.plain h0
    rw [h1.2]; omega
  · have := num_ge h; omega
theorem ordI_le {r s : DR} {g : Int} (hr : g ≤ r.e) (hs : g ≤ s.e) (h : ordD r.neg s.neg r.m s.m r.e s.e ≤ 0) : valI r.neg r.m r.e g ≤ valI s.neg s.m s.e g := by
  have m1 := mag_on (Va := r.m) hr hs
  have m2 := mag_on (Va := s.m) hs hr
  rw [show min s.e r.e = min r.e s.e by omega] at m2
  have key : ∀ {X Y : Nat}, X ≤ Y → X * 2 ^ (min r.e s.e - g).toNat ≤ Y * 2 ^ (min r.e s.e - g).toNat := fun h => Nat.mul_le_mul_right _ h
  unfold ordD sizeC at h
  unfold valI
  have hc : ∀ {X Y : Nat}, cmpN X Y ≤ 0 → X ≤ Y := fun {X Y} h => by
    rcases Nat.lt_or_ge Y X with h1 | h1
    · rw [cmpN_gt h1] at h; omega
    · exact h1
  have hd : ∀ {X Y : Nat}, 0 ≤ cmpN X Y → Y ≤ X := fun {X Y} h => by
    rcases Nat.lt_or_ge X Y with h1 | h1
    · rw [cmpN_lt h1] at h; omega
    · exact h1
  cases hr1 : r.neg <;> cases hs1 : s.neg <;> rw [hr1, hs1] at h
  · simp only [if_true, Bool.false_eq_true, if_false] at h ⊢
    have := key (hc h)
    omega
  · simp at h
  · simp only [if_true, Bool.false_eq_true, if_false]; omega
  · simp only [if_true] at h ⊢
    have := key (hd (X := onE r.m r.e s.e) (Y := onE s.m s.e r.e) (by omega))
    omega
theorem ordI_ge {r s : DR} {g : Int} (hr : g ≤ r.e) (hs : g ≤ s.e) (h : 0 ≤ ordD r.neg s.neg r.m s.m r.e s.e) : valI s.neg s.m s.e g ≤ valI r.neg r.m r.e g := by
  have m1 := mag_on (Va := r.m) hr hs
  have m2 := mag_on (Va := s.m) hs hr
  rw [show min s.e r.e = min r.e s.e by omega] at m2
  have key : ∀ {X Y : Nat}, X ≤ Y → X * 2 ^ (min r.e s.e - g).toNat ≤ Y * 2 ^ (min r.e s.e - g).toNat := fun h => Nat.mul_le_mul_right _ h
  unfold ordD sizeC at h
  unfold valI
  have hc : ∀ {X Y : Nat}, cmpN X Y ≤ 0 → X ≤ Y := fun {X Y} h => by
    rcases Nat.lt_or_ge Y X with h1 | h1
    · rw [cmpN_gt h1] at h; omega
    · exact h1
  have hd : ∀ {X Y : Nat}, 0 ≤ cmpN X Y → Y ≤ X := fun {X Y} h => by
    rcases Nat.lt_or_ge X Y with h1 | h1
    · rw [cmpN_lt h1] at h; omega
    · exact h1
  cases hr1 : r.neg <;> cases hs1 : s.neg <;> rw [hr1, hs1] at h
  · simp only [if_true, Bool.false_eq_true, if_false] at h ⊢
    have := key (hd h)
    omega
  · simp only [if_true, Bool.false_eq_true, if_false]; omega
  · simp at h
  · simp only [if_true] at h ⊢
    have := key (hc (X := onE r.m r.e s.e) (Y := onE s.m s.e r.e) (by omega))
    omega
theorem cmpN_turn (a b : Nat) : cmpN b a = - cmpN a b := by
  rcases Nat.lt_trichotomy a b with h | h | h
  · rw [cmpN_lt h, cmpN_gt h]; rfl
  · subst h; rw [cmpN_eq]; rfl
  · rw [cmpN_gt h, cmpN_lt h]
theorem ord_anti (na nb' : Bool) (Va Vb : Nat) (ea eb : Int) : ordD nb' na Vb Va eb ea = - ordD na nb' Va Vb ea eb := by
  unfold ordD sizeC
  rw [cmpN_turn (onE Va ea eb)]
  cases na <;> cases nb' <;> simp
def ordB (b c : Nat) : Int := ordD (numD b).neg (numD c).neg (numD b).m (numD c).m (numD b).e (numD c).e
theorem num_le {b c : Nat} (hb : exN b ≠ 2047) (hc : exN c ≠ 2047) (h : vB b ≤ vB c) : ordB b c ≤ 0 :=
  ord_le (num_zero hb) (num_zero hc) (.inr (num_e hb)) (.inr (num_e hc)) (g := -1074) (by rw [num_val hb, num_val hc]; exact h)
end Go.Proofs.YtilmbdbcgbndmaaDoor

namespace Go.Proofs.YtilmbdbcgbndmaaDoor
open Go.RowKit

theorem andnot63 (b : Nat) (h : b < B64) : Go.bits .andNot .u64 (b : Int) 9223372036854775808 = ((loN b : Nat) : Int) := by
  have e := u64_andNot_nat b 9223372036854775808 (by unfold B64 at h; omega) (by omega)
  rw [show ((9223372036854775808 : Nat) : Int) = 9223372036854775808 from rfl] at e
  rw [e, show (18446744073709551615 - 9223372036854775808 : Nat) = 2 ^ 63 - 1 by decide, Nat.and_two_pow_sub_one_eq_mod]
  rfl
theorem and52 (b : Nat) (h : b < B64) : Go.bits .and .u64 (b : Int) 4503599627370495 = ((frN b : Nat) : Int) := by
  have e := u64_and_nat b 4503599627370495 (by unfold B64 at h; omega) (by omega)
  rw [show ((4503599627370495 : Nat) : Int) = 4503599627370495 from rfl] at e
  rw [e, show (4503599627370495 : Nat) = 2 ^ 52 - 1 by decide, Nat.and_two_pow_sub_one_eq_mod]
  rfl
theorem and63_zero (b : Nat) (h : b < B64) : (Go.bits .and .u64 (b : Int) 9223372036854775808 != 0) = sgB b := by
  have e := u64_and_nat b 9223372036854775808 (by unfold B64 at h; omega) (by omega)
  rw [show ((9223372036854775808 : Nat) : Int) = 9223372036854775808 from rfl] at e
  have e2 : b &&& 9223372036854775808 = b / 9223372036854775808 % 2 * 9223372036854775808 := nat_bit 63 b
  rw [e, e2]
  unfold B64 at h
  cases hs : sgB b
  · have := sgB_false.1 hs
    rw [show b / 9223372036854775808 % 2 * 9223372036854775808 = 0 by omega]; rfl
  · have := sgB_true.1 hs
    rw [show b / 9223372036854775808 % 2 * 9223372036854775808 = 9223372036854775808 by omega]; rfl
theorem lo_shr (b : Nat) : ((loN b : Nat) : Int) / 2 ^ 52 = ((exN b : Nat) : Int) := by
  unfold loN exN
  omega

theorem exponent_any (b : Nat) (w : World) (hb : b < B64) : Calls Tryd.prog 39 #[.int .u64 (b : Int)] w fun r w' => r = .returned (.int .i64 (exN b : Int)) ∧ w = w' := by
  have h1 := andnot63 b hb
  have h2 := lo_shr b
  have h3 := exN_le b
  go_enter Tryd.func39, Tryd.ntmps39
  go_wp2_with fail
  go_ret
  exact ⟨rfl, rfl⟩
theorem fraction_any (b : Nat) (w : World) (hb : b < B64) : Calls Tryd.prog 38 #[.int .u64 (b : Int)] w fun r w' => r = .returned (.int .u64 (frN b : Int)) ∧ w = w' := by
  have h1 := and52 b hb
  go_enter Tryd.func38, Tryd.ntmps38
  go_wp2_with fail
  go_ret
  exact ⟨rfl, rfl⟩
theorem neg_word (b : Nat) (w : World) (hb : b < B64) : Calls Tryd.prog 37 #[.int .u64 (b : Int)] w fun r w' => r = .returned (.bool (sgB b)) ∧ w = w' := by
  have h1 := and63_zero b hb
  go_enter Tryd.func37, Tryd.ntmps37
  go_wp2_with fail
  go_ret
  exact ⟨rfl, rfl⟩
/-- Either side's Kind, by cases. -/
theorem kind_any (b : Nat) (w : World) (hb : b < B64) : Calls Tryd.prog 16 #[.int .u64 (b : Int)] w fun r w' => r = .returned (.int .i64 (kindN b : Int)) ∧ w = w' := by
  have E := Lib.hid (exponent_any b w hb)
  have F := Lib.hid (fraction_any b w hb)
  have hx := exN_le b
  have hf := frN_lt b
  obtain ⟨k, hk⟩ : ∃ k, Hid (kindN b = k) := ⟨_, Lib.hid rfl⟩
  rw [hk.out]
  have hk' := hk.out
  unfold kindN at hk'
  have HK := Lib.hid hk'
  clear hk hk'
  generalize exN b = x at *
  generalize frN b = f at *
  go_enter Tryd.func16, Tryd.ntmps16
  go_wp2_with fail
  refine E.out.mono ?_
  rintro e' w1 ⟨rfl, rfl⟩
  go_wp2_with fail
  refine F.out.mono ?_
  rintro e' w1 ⟨rfl, rfl⟩
  by_cases h0 : x = 0
  · subst h0
    have hk := HK.out
    rw [if_pos rfl] at hk
    by_cases h1 : f = 0
    · subst h1
      rw [if_pos rfl] at hk
      subst hk
      go_wp2_with fail
      go_ret
      exact ⟨rfl, rfl⟩
    · rw [if_neg h1] at hk
      subst hk
      have h2 : ((f : Int) == 0) = false := by simp; omega
      go_wp2_with fail
      go_ret
      exact ⟨rfl, rfl⟩
  · have hk := HK.out
    rw [if_neg h0] at hk
    have h3 : ((x : Int) == 0) = false := by simp; omega
    by_cases h4 : x < 2047
    · rw [if_pos h4] at hk
      subst hk
      have h5 : decide ((x : Int) < 2047) = true := decide_eq_true (by omega)
      go_wp2_with fail
      go_ret
      exact ⟨rfl, rfl⟩
    · rw [if_neg h4] at hk
      have h5 : decide ((x : Int) < 2047) = false := decide_eq_false (by omega)
      by_cases h1 : f = 0
      · subst h1
        rw [if_pos rfl] at hk
        subst hk
        go_wp2_with fail
        go_ret
        exact ⟨rfl, rfl⟩
      · rw [if_neg h1] at hk
        subst hk
        have h2 : ((f : Int) == 0) = false := by simp; omega
        go_wp2_with fail
        go_ret
        exact ⟨rfl, rfl⟩
end Go.Proofs.YtilmbdbcgbndmaaDoor

namespace Go.Proofs.YtilmbdbcgbndmaaDoor
open Go.RowKit

theorem or52 (f : Nat) (h : f < 4503599627370496) : Go.bits .or .u64 4503599627370496 (f : Int) = ((4503599627370496 + f : Nat) : Int) := by
  have e := u64_or_nat 4503599627370496 f (by omega) (by omega)
  rw [show ((4503599627370496 : Nat) : Int) = 4503599627370496 from rfl] at e
  have e2 := Nat.two_pow_add_eq_or_of_lt (i := 52) (b := f) (Nat.lt_of_lt_of_eq h (by decide +kernel)) 1
  rw [Nat.mul_one, show (2 : Nat) ^ 52 = 4503599627370496 by decide] at e2
  rw [e, e2]
theorem num_small {b : Nat} (h : exN b = 0) : numD b = mkD (sgB b) (frN b) (-1074) := by
  unfold numD; rw [if_neg (by omega), if_pos h]
theorem num_great {b : Nat} (h : exN b ≠ 0) (h2 : exN b ≠ 2047) : numD b = mkD (sgB b) (4503599627370496 + frN b) ((exN b : Int) - 1075) := by
  unfold numD; rw [if_neg h2, if_neg h]
theorem slw (w : World) (r g : Nat) (hr : r < B64) (hg : g = w.heap.size) : Sl (w.alloc (cw r)) (some ⟨g, 0, none⟩) 1 1 (fun _ => r) := by
  subst hg
  exact one_sl _ w r hr

abbrev zd : Obj := cd3 (.bool false) (.slice none 0 0) (.int .i64 0)
set_option maxHeartbeats 1000000 in
theorem number_any (b : Nat) (w : World) (hb : b < B64) (hT : Tab w) : Calls Tryd.prog 15 #[.int .u64 (b : Int)] w (DPost w (numD b)) := by
  have b0 := alloc_bel w zd
  have kz := Blk3.made w (.bool false) (.slice none 0 0) (.int .i64 0)
  have K := Lib.hid (kind_any b (w.alloc zd) hb)
  have NG := Lib.hid (fun w' => neg_word b w' hb)
  have FR := Lib.hid (fun w' => fraction_any b w' hb)
  have EX := Lib.hid (fun w' => exponent_any b w' hb)
  have hx := exN_le b
  have hf := frN_lt b
  by_cases h3 : exN b = 2047
  · have hd := Lib.hid (num_no h3)
    have hk : kindN b = 3 ∨ kindN b = 4 := by
      unfold kindN
      rw [if_neg (by omega), if_neg (by omega)]
      split
      · exact .inl rfl
      · exact .inr rfl
    rw [hd.out]
    clear hd NG FR EX kz hf hx h3
    rcases hk with hk | hk
    · rw [hk] at K
      go_enter Tryd.func15, Tryd.ntmps15
      go_wp2_with fail
      refine K.out.mono ?_
      rintro e' w1 ⟨rfl, rfl⟩
      go_wp2_with fail
      refine bodyPost_ret (v := .tuple #[.agg #[.bool false, .slice none 0 0, .int .i64 0], .bool false]) (by simp [results, Tryd.results15, go_sem]) rfl ⟨_, rfl, num_nil _, b0⟩
    · rw [hk] at K
      go_enter Tryd.func15, Tryd.ntmps15
      go_wp2_with fail
      refine K.out.mono ?_
      rintro e' w1 ⟨rfl, rfl⟩
      go_wp2_with fail
      refine bodyPost_ret (v := .tuple #[.agg #[.bool false, .slice none 0 0, .int .i64 0], .bool false]) (by simp [results, Tryd.results15, go_sem]) rfl ⟨_, rfl, num_nil _, b0⟩
  · by_cases h0 : exN b = 0
    · have hd := Lib.hid (num_small h0)
      rw [hd.out]
      clear hd
      have hk : kindN b = 0 ∨ kindN b = 1 := by
        unfold kindN
        rw [if_pos h0]
        split
        · exact .inl rfl
        · exact .inr rfl
      have b1 := b0.trans ((alloc_bel (w.alloc zd) (cw (frN b))).mono b0.size)
      have MK := Lib.hid (make_any (sgB b) _ 1 1 (fun _ => frN b) (-1074) _ (slw (w.alloc zd) (frN b) (w.heap.size + 1) (by unfold B64; omega) (by simp)) (by omega) (hT.below b1) (by omega) (by omega))
      rw [vs_one] at MK
      have k1 := kz.below (alloc_bel (w.alloc zd) (cw (frN b))) (by simp)
      clear EX h3 h0 hx
      generalize frN b = f at *
      generalize sgB b = s at *
      rcases hk with hk | hk
      · rw [hk] at K
        go_enter Tryd.func15, Tryd.ntmps15
        go_wp2_with fail
        refine K.out.mono ?_
        rintro e' w1 ⟨rfl, rfl⟩
        go_wp2_with fail
        refine (NG.out _).mono ?_
        rintro e' w1 ⟨rfl, rfl⟩
        go_wp2_with fail
        refine (FR.out _).mono ?_
        rintro e' w1 ⟨rfl, rfl⟩
        go_wp2_with fail
        refine MK.out.mono ?_
        rintro e' w4 ⟨v4, rfl, n4, bb⟩
        have b4 := b1.trans (bb.mono b1.size)
        have k4 := k1.below bb (by simp; try omega)
        obtain ⟨c40, c41, c42⟩ := k4.cell
        obtain ⟨f40, f41, f42⟩ := k4.frozen
        clear MK bb k1 kz
        obtain ⟨A4, p4, c4, f4, rfl, m4⟩ := n4
        generalize mkD s f (-1074) = r at *
        go_wp2_with fail
        refine bodyPost_ret (v := .tuple #[.agg #[.bool r.neg, .slice A4 p4 c4, .int .i64 r.e], .bool r.ok]) (by simp [results, Tryd.results15, go_sem, c40, c41, c42]) rfl
          ⟨_, rfl, Num.put3 ⟨A4, p4, c4, f4, rfl, m4⟩ k4 (notU_bool _) (notU_slice _ _ _) (notU_int _) _ _ _, below_put3 b4 (Nat.le_refl _) b4.size _ _ _⟩
      · rw [hk] at K
        go_enter Tryd.func15, Tryd.ntmps15
        go_wp2_with fail
        refine K.out.mono ?_
        rintro e' w1 ⟨rfl, rfl⟩
        go_wp2_with fail
        refine (NG.out _).mono ?_
        rintro e' w1 ⟨rfl, rfl⟩
        go_wp2_with fail
        refine (FR.out _).mono ?_
        rintro e' w1 ⟨rfl, rfl⟩
        go_wp2_with fail
        refine MK.out.mono ?_
        rintro e' w4 ⟨v4, rfl, n4, bb⟩
        have b4 := b1.trans (bb.mono b1.size)
        have k4 := k1.below bb (by simp; try omega)
        obtain ⟨c40, c41, c42⟩ := k4.cell
        obtain ⟨f40, f41, f42⟩ := k4.frozen
        clear MK bb k1 kz
        obtain ⟨A4, p4, c4, f4, rfl, m4⟩ := n4
        generalize mkD s f (-1074) = r at *
        go_wp2_with fail
        refine bodyPost_ret (v := .tuple #[.agg #[.bool r.neg, .slice A4 p4 c4, .int .i64 r.e], .bool r.ok]) (by simp [results, Tryd.results15, go_sem, c40, c41, c42]) rfl
          ⟨_, rfl, Num.put3 ⟨A4, p4, c4, f4, rfl, m4⟩ k4 (notU_bool _) (notU_slice _ _ _) (notU_int _) _ _ _, below_put3 b4 (Nat.le_refl _) b4.size _ _ _⟩
    · have hd := Lib.hid (num_great h0 h3)
      rw [hd.out]
      clear hd
      have hk : kindN b = 2 := by
        unfold kindN
        rw [if_neg h0, if_pos (by omega)]
      rw [hk] at K
      have hor := or52 (frN b) hf
      have he : (-1074 : Int) + (exN b : Int) - 1 = (exN b : Int) - 1075 := by omega
      obtain ⟨r, hr⟩ : ∃ r, r = 4503599627370496 + frN b := ⟨_, rfl⟩
      rw [← hr] at hor ⊢
      have hr64 : r < B64 := by unfold B64; omega
      have b1 := b0.trans ((alloc_bel (w.alloc zd) (cw r)).mono b0.size)
      have MK := Lib.hid (make_any (sgB b) _ 1 1 (fun _ => r) (-1074 + (exN b : Int) - 1) _ (slw (w.alloc zd) r (w.heap.size + 1) hr64 (by simp)) (by omega) (hT.below b1) (by omega) (by omega))
      rw [vs_one] at MK
      rw [← he]
      have k1 := kz.below (alloc_bel (w.alloc zd) (cw r)) (by simp)
      clear h3 h0 he hk hr
      generalize frN b = f at *
      generalize sgB b = s at *
      generalize exN b = x at *
      go_enter Tryd.func15, Tryd.ntmps15
      go_wp2_with fail
      refine K.out.mono ?_
      rintro e' w1 ⟨rfl, rfl⟩
      go_wp2_with fail
      refine (NG.out _).mono ?_
      rintro e' w1 ⟨rfl, rfl⟩
      go_wp2_with fail
      refine (FR.out _).mono ?_
      rintro e' w1 ⟨rfl, rfl⟩
      go_wp2_with fail
      refine (EX.out _).mono ?_
      rintro e' w1 ⟨rfl, rfl⟩
      go_wp2_with fail
      refine MK.out.mono ?_
      rintro e' w4 ⟨v4, rfl, n4, bb⟩
      have b4 := b1.trans (bb.mono b1.size)
      have k4 := k1.below bb (by simp; try omega)
      obtain ⟨c40, c41, c42⟩ := k4.cell
      obtain ⟨f40, f41, f42⟩ := k4.frozen
      clear MK bb k1 kz
      obtain ⟨A4, p4, c4, f4, rfl, m4⟩ := n4
      generalize mkD s r (-1074 + (x : Int) - 1) = r at *
      go_wp2_with fail
      refine bodyPost_ret (v := .tuple #[.agg #[.bool r.neg, .slice A4 p4 c4, .int .i64 r.e], .bool r.ok]) (by simp [results, Tryd.results15, go_sem, c40, c41, c42]) rfl
        ⟨_, rfl, Num.put3 ⟨A4, p4, c4, f4, rfl, m4⟩ k4 (notU_bool _) (notU_slice _ _ _) (notU_int _) _ _ _, below_put3 b4 (Nat.le_refl _) b4.size _ _ _⟩
end Go.Proofs.YtilmbdbcgbndmaaDoor

namespace Go.Proofs.YtilmbdbcgbndmaaDoor
open Go.RowKit

def NX (p : Nat × Bool) (w : World) (e : Ending) (w' : World) : Prop := e = .returned (.tuple #[.int .u64 (p.1 : Int), .bool p.2]) ∧ w = w'
theorem kind_inc {b : Nat} (hb : b < B64) (h : kindN b ≤ 2) : b + 1 < 18446744073709551616 := by
  have h1 : ¬ 9218868437227405312 < loN b := fun hh => by have := (kind_four b).2 hh; omega
  unfold loN B64 at *
  omega
theorem kind_dec {b : Nat} (h : kindN b ≠ 0) : 1 ≤ b := by
  have h1 : ¬ loN b = 0 := fun hh => h ((kind_none b).2 hh)
  unfold loN at *
  omega
theorem next_by {b : Nat} {up s : Bool} {k : Nat} {p : Nat × Bool} (hk : kindN b = k) (hs : sgB b = s) (h : nextN b up = p) :
    p = if k = 4 ∨ (k = 3 ∧ up ≠ s) then (0, false) else if k = 0 then (if up then (1, true) else (9223372036854775809, true)) else if up ≠ s then (b + 1, true) else (b - 1, true) := by
  rw [← h, ← hk, ← hs]
  rfl

set_option maxHeartbeats 2000000 in
theorem next_any (b : Nat) (up : Bool) (w : World) (hb : b < B64) : Calls Tryd.prog 18 #[.int .u64 (b : Int), .bool up] w (NX (nextN b up) w) := by
  have K := Lib.hid (kind_any b w hb)
  have NG := Lib.hid (neg_word b w hb)
  obtain ⟨p, hp⟩ : ∃ p, Hid (nextN b up = p) := ⟨_, Lib.hid rfl⟩
  rw [hp.out]
  have HP := Lib.hid (next_by rfl rfl hp.out)
  have hk := kind_le b
  have hinc := kind_inc hb
  have hdec := kind_dec (b := b)
  clear hp
  generalize kindN b = k at *
  generalize sgB b = s at *
  have hk5 : k = 0 ∨ k = 1 ∨ k = 2 ∨ k = 3 ∨ k = 4 := by omega
  have hb1 : k ≠ 0 → ((b - 1 : Nat) : Int) = (b : Int) - 1 := fun h => by have := hdec h; omega
  have HB := Lib.hid hb1
  have HI := Lib.hid hinc
  have HD := Lib.hid hdec
  clear hb1 hinc hdec hk
  rcases hk5 with rfl | rfl | rfl | rfl | rfl
  · cases up
    · have hw : Hid (p = (9223372036854775809, true)) := Lib.hid (by rw [HP.out]; simp)
      clear HP HB HI HD
      go_enter Tryd.func18, Tryd.ntmps18
      go_wp2_with fail
      refine K.out.mono ?_
      rintro e' w1 ⟨rfl, rfl⟩
      go_wp2_with fail
      refine NG.out.mono ?_
      rintro e' w1 ⟨rfl, rfl⟩
      go_wp2_with fail
      go_ret2
      exact ⟨by rw [hw.out]; rfl, rfl⟩
    · have hw : Hid (p = (1, true)) := Lib.hid (by rw [HP.out]; simp)
      clear HP HB HI HD
      go_enter Tryd.func18, Tryd.ntmps18
      go_wp2_with fail
      refine K.out.mono ?_
      rintro e' w1 ⟨rfl, rfl⟩
      go_wp2_with fail
      refine NG.out.mono ?_
      rintro e' w1 ⟨rfl, rfl⟩
      go_wp2_with fail
      go_ret2
      exact ⟨by rw [hw.out]; rfl, rfl⟩
  · cases up
    · cases s
      · have hw : Hid (p = (b - 1, true)) := Lib.hid (by rw [HP.out]; simp)
        have hl := HD.out (by omega)
        have hb2 : b < 18446744073709551616 := hb
        have hB := Lib.hid (HB.out (by omega))
        clear HP HB HI HD
        go_enter Tryd.func18, Tryd.ntmps18
        go_wp2_with fail
        refine K.out.mono ?_
        rintro e' w1 ⟨rfl, rfl⟩
        go_wp2_with fail
        refine NG.out.mono ?_
        rintro e' w1 ⟨rfl, rfl⟩
        go_wp2_with fail
        go_ret2
        exact ⟨by rw [hw.out, hB.out]; rfl, rfl⟩
      · have hw : Hid (p = (b + 1, true)) := Lib.hid (by rw [HP.out]; simp)
        have hl := HI.out (by omega)
        clear HP HB HI HD
        go_enter Tryd.func18, Tryd.ntmps18
        go_wp2_with fail
        refine K.out.mono ?_
        rintro e' w1 ⟨rfl, rfl⟩
        go_wp2_with fail
        refine NG.out.mono ?_
        rintro e' w1 ⟨rfl, rfl⟩
        go_wp2_with fail
        go_ret2
        exact ⟨by rw [hw.out]; rfl, rfl⟩
    · cases s
      · have hw : Hid (p = (b + 1, true)) := Lib.hid (by rw [HP.out]; simp)
        have hl := HI.out (by omega)
        clear HP HB HI HD
        go_enter Tryd.func18, Tryd.ntmps18
        go_wp2_with fail
        refine K.out.mono ?_
        rintro e' w1 ⟨rfl, rfl⟩
        go_wp2_with fail
        refine NG.out.mono ?_
        rintro e' w1 ⟨rfl, rfl⟩
        go_wp2_with fail
        go_ret2
        exact ⟨by rw [hw.out]; rfl, rfl⟩
      · have hw : Hid (p = (b - 1, true)) := Lib.hid (by rw [HP.out]; simp)
        have hl := HD.out (by omega)
        have hb2 : b < 18446744073709551616 := hb
        have hB := Lib.hid (HB.out (by omega))
        clear HP HB HI HD
        go_enter Tryd.func18, Tryd.ntmps18
        go_wp2_with fail
        refine K.out.mono ?_
        rintro e' w1 ⟨rfl, rfl⟩
        go_wp2_with fail
        refine NG.out.mono ?_
        rintro e' w1 ⟨rfl, rfl⟩
        go_wp2_with fail
        go_ret2
        exact ⟨by rw [hw.out, hB.out]; rfl, rfl⟩
  · cases up
    · cases s
      · have hw : Hid (p = (b - 1, true)) := Lib.hid (by rw [HP.out]; simp)
        have hl := HD.out (by omega)
        have hb2 : b < 18446744073709551616 := hb
        have hB := Lib.hid (HB.out (by omega))
        clear HP HB HI HD
        go_enter Tryd.func18, Tryd.ntmps18
        go_wp2_with fail
        refine K.out.mono ?_
        rintro e' w1 ⟨rfl, rfl⟩
        go_wp2_with fail
        refine NG.out.mono ?_
        rintro e' w1 ⟨rfl, rfl⟩
        go_wp2_with fail
        go_ret2
        exact ⟨by rw [hw.out, hB.out]; rfl, rfl⟩
      · have hw : Hid (p = (b + 1, true)) := Lib.hid (by rw [HP.out]; simp)
        have hl := HI.out (by omega)
        clear HP HB HI HD
        go_enter Tryd.func18, Tryd.ntmps18
        go_wp2_with fail
        refine K.out.mono ?_
        rintro e' w1 ⟨rfl, rfl⟩
        go_wp2_with fail
        refine NG.out.mono ?_
        rintro e' w1 ⟨rfl, rfl⟩
        go_wp2_with fail
        go_ret2
        exact ⟨by rw [hw.out]; rfl, rfl⟩
    · cases s
      · have hw : Hid (p = (b + 1, true)) := Lib.hid (by rw [HP.out]; simp)
        have hl := HI.out (by omega)
        clear HP HB HI HD
        go_enter Tryd.func18, Tryd.ntmps18
        go_wp2_with fail
        refine K.out.mono ?_
        rintro e' w1 ⟨rfl, rfl⟩
        go_wp2_with fail
        refine NG.out.mono ?_
        rintro e' w1 ⟨rfl, rfl⟩
        go_wp2_with fail
        go_ret2
        exact ⟨by rw [hw.out]; rfl, rfl⟩
      · have hw : Hid (p = (b - 1, true)) := Lib.hid (by rw [HP.out]; simp)
        have hl := HD.out (by omega)
        have hb2 : b < 18446744073709551616 := hb
        have hB := Lib.hid (HB.out (by omega))
        clear HP HB HI HD
        go_enter Tryd.func18, Tryd.ntmps18
        go_wp2_with fail
        refine K.out.mono ?_
        rintro e' w1 ⟨rfl, rfl⟩
        go_wp2_with fail
        refine NG.out.mono ?_
        rintro e' w1 ⟨rfl, rfl⟩
        go_wp2_with fail
        go_ret2
        exact ⟨by rw [hw.out, hB.out]; rfl, rfl⟩
  · cases up
    · cases s
      · have hw : Hid (p = (b - 1, true)) := Lib.hid (by rw [HP.out]; simp)
        have hl := HD.out (by omega)
        have hb2 : b < 18446744073709551616 := hb
        have hB := Lib.hid (HB.out (by omega))
        clear HP HB HI HD
        go_enter Tryd.func18, Tryd.ntmps18
        go_wp2_with fail
        refine K.out.mono ?_
        rintro e' w1 ⟨rfl, rfl⟩
        go_wp2_with fail
        refine NG.out.mono ?_
        rintro e' w1 ⟨rfl, rfl⟩
        go_wp2_with fail
        go_ret2
        exact ⟨by rw [hw.out, hB.out]; rfl, rfl⟩
      · have hw : Hid (p = (0, false)) := Lib.hid (by rw [HP.out]; simp)
        clear HP HB HI HD
        go_enter Tryd.func18, Tryd.ntmps18
        go_wp2_with fail
        refine K.out.mono ?_
        rintro e' w1 ⟨rfl, rfl⟩
        go_wp2_with fail
        refine NG.out.mono ?_
        rintro e' w1 ⟨rfl, rfl⟩
        go_wp2_with fail
        go_ret2
        exact ⟨by rw [hw.out]; rfl, rfl⟩
    · cases s
      · have hw : Hid (p = (0, false)) := Lib.hid (by rw [HP.out]; simp)
        clear HP HB HI HD
        go_enter Tryd.func18, Tryd.ntmps18
        go_wp2_with fail
        refine K.out.mono ?_
        rintro e' w1 ⟨rfl, rfl⟩
        go_wp2_with fail
        refine NG.out.mono ?_
        rintro e' w1 ⟨rfl, rfl⟩
        go_wp2_with fail
        go_ret2
        exact ⟨by rw [hw.out]; rfl, rfl⟩
      · have hw : Hid (p = (b - 1, true)) := Lib.hid (by rw [HP.out]; simp)
        have hl := HD.out (by omega)
        have hb2 : b < 18446744073709551616 := hb
        have hB := Lib.hid (HB.out (by omega))
        clear HP HB HI HD
        go_enter Tryd.func18, Tryd.ntmps18
        go_wp2_with fail
        refine K.out.mono ?_
        rintro e' w1 ⟨rfl, rfl⟩
        go_wp2_with fail
        refine NG.out.mono ?_
        rintro e' w1 ⟨rfl, rfl⟩
        go_wp2_with fail
        go_ret2
        exact ⟨by rw [hw.out, hB.out]; rfl, rfl⟩
  · cases up
    · cases s
      · have hw : Hid (p = (0, false)) := Lib.hid (by rw [HP.out]; simp)
        clear HP HB HI HD
        go_enter Tryd.func18, Tryd.ntmps18
        go_wp2_with fail
        refine K.out.mono ?_
        rintro e' w1 ⟨rfl, rfl⟩
        go_wp2_with fail
        refine NG.out.mono ?_
        rintro e' w1 ⟨rfl, rfl⟩
        go_wp2_with fail
        go_ret2
        exact ⟨by rw [hw.out]; rfl, rfl⟩
      · have hw : Hid (p = (0, false)) := Lib.hid (by rw [HP.out]; simp)
        clear HP HB HI HD
        go_enter Tryd.func18, Tryd.ntmps18
        go_wp2_with fail
        refine K.out.mono ?_
        rintro e' w1 ⟨rfl, rfl⟩
        go_wp2_with fail
        refine NG.out.mono ?_
        rintro e' w1 ⟨rfl, rfl⟩
        go_wp2_with fail
        go_ret2
        exact ⟨by rw [hw.out]; rfl, rfl⟩
    · cases s
      · have hw : Hid (p = (0, false)) := Lib.hid (by rw [HP.out]; simp)
        clear HP HB HI HD
        go_enter Tryd.func18, Tryd.ntmps18
        go_wp2_with fail
        refine K.out.mono ?_
        rintro e' w1 ⟨rfl, rfl⟩
        go_wp2_with fail
        refine NG.out.mono ?_
        rintro e' w1 ⟨rfl, rfl⟩
        go_wp2_with fail
        go_ret2
        exact ⟨by rw [hw.out]; rfl, rfl⟩
      · have hw : Hid (p = (0, false)) := Lib.hid (by rw [HP.out]; simp)
        clear HP HB HI HD
        go_enter Tryd.func18, Tryd.ntmps18
        go_wp2_with fail
        refine K.out.mono ?_
        rintro e' w1 ⟨rfl, rfl⟩
        go_wp2_with fail
        refine NG.out.mono ?_
        rintro e' w1 ⟨rfl, rfl⟩
        go_wp2_with fail
        go_ret2
        exact ⟨by rw [hw.out]; rfl, rfl⟩
end Go.Proofs.YtilmbdbcgbndmaaDoor

namespace Go.Proofs.YtilmbdbcgbndmaaDoor
open Go.RowKit

/-- A word, and whether there is one. -/
def WP (w : World) (p : Nat × Bool) (e : Ending) (w' : World) : Prop := e = .returned (.tuple #[.int .u64 (p.1 : Int), .bool p.2]) ∧ Below w.heap.size w w'

theorem or63 (m : Nat) (h : m < 9223372036854775808) : Go.bits .or .u64 (m : Int) 9223372036854775808 = ((9223372036854775808 + m : Nat) : Int) := by
  have e := u64_or_nat m 9223372036854775808 (by omega) (by omega)
  rw [show ((9223372036854775808 : Nat) : Int) = 9223372036854775808 from rfl] at e
  have e2 := Nat.two_pow_add_eq_or_of_lt (i := 63) (b := m) (Nat.lt_of_lt_of_eq h (by decide +kernel)) 1
  rw [Nat.mul_one, show (2 : Nat) ^ 63 = 9223372036854775808 by decide] at e2
  rw [e, e2, Nat.or_comm]
/-- What a number is that has a word. -/
theorem unit_facts {V : Nat} {e : Int} (h0 : V ≠ 0) (h1 : unitE V e ≤ e) (h2 : unitE V e ≤ 971) :
    ∃ t k : Nat, unitE V e = (t : Int) - 1074 ∧ e - unitE V e = (k : Int) ∧ t ≤ 2045 ∧ k ≤ 52 ∧ V * 2 ^ k < 9007199254740992 ∧ V < 9007199254740992 := by
  have hn := nb_pos (V := V) (by omega)
  have hu : unitE V e = e + (nb V : Int) - 53 ∨ unitE V e = -1074 := by unfold unitE; omega
  have hu2 : e + (nb V : Int) - 53 ≤ unitE V e ∧ -1074 ≤ unitE V e := by unfold unitE; omega
  refine ⟨(unitE V e + 1074).toNat, (e - unitE V e).toNat, by omega, by omega, by omega, ?_, ?_, ?_⟩
  · omega
  · have h3 : nb (V * 2 ^ (e - unitE V e).toNat) ≤ 53 := by rw [nb_mul_pow (by omega)]; omega
    exact Nat.lt_of_lt_of_eq ((nb_le_iff _ _).1 h3) (by decide +kernel)
  · have h3 : nb V ≤ 53 := by omega
    exact Nat.lt_of_lt_of_eq ((nb_le_iff _ _).1 h3) (by decide +kernel)

set_option maxRecDepth 8000 in
set_option maxHeartbeats 2000000 in
theorem word_any (neg : Bool) (A : Option Addr) (n c : Nat) (x : Nat → Nat) (e : Int) (w : World) (ha : Sl w A n c x) (hn : n ≤ 400000) :
    Calls Tryd.prog 20 #[dyv neg A n c e] w (WP w (wordP (plainB neg n x e) neg (vs B64 x n) e)) := by
  obtain ⟨p, hP⟩ : ∃ p, Hid (wordP (plainB neg n x e) neg (vs B64 x n) e = p) := ⟨_, Lib.hid rfl⟩
  rw [hP.out]
  have b1 := alloc_bel w (cd3 (.bool neg) (.slice A n c) (.int .i64 e))
  have k1 := K3.made w (.bool neg) (.slice A n c) (.int .i64 e)
  have PL := Lib.hid (plain_any neg A n c x e _ (ha.below b1) hn)
  go_enter Tryd.func20, Tryd.ntmps20
  go_wp2_with fail
  refine PL.out.mono ?_
  generalize w.alloc (cd3 (.bool neg) (.slice A n c) (.int .i64 e)) = w1 at *
  rintro e' w2 ⟨rfl, b⟩
  have b2 := below_step b1 b
  replace k1 := k1.adv b
  have a2 := ha.below b2
  clear b PL b1
  obtain ⟨c0, c1, c2, c3⟩ := k1.cell
  by_cases hp : plainB neg n x e = true
  · have PF := plain_facts hp
    have hlen := PF.len
    have e1 := PF.e1
    have e2 := PF.e2
    have hb := PF.bits
    have hpos := PF.pos
    rw [hp]
    by_cases h0 : n = 0
    · subst h0
      have hw : Hid (p = (0, true)) := Lib.hid (by rw [← hP.out, hp, vs_zero]; rfl)
      go_wp2_with fail
      go_ret2
      exact ⟨by rw [hw.out]; rfl, b2⟩
    · have hn0 : ((n : Int) == 0) = false := by simp; omega
      have hV : vs B64 x n ≠ 0 := by omega
      obtain ⟨u, hu⟩ : ∃ u, u = unitE (vs B64 x n) e := ⟨_, rfl⟩
      have hmax : max (e + (nb (vs B64 x n) : Int) - 52 - 1) (-1074) = u := by rw [hu]; unfold unitE; omega
      have hur : -1074 ≤ u ∧ u ≤ 300000 := by omega
      have hw1 : IntKind.i64.wrap (e + (nb (vs B64 x n) : Int)) = e + (nb (vs B64 x n) : Int) := wrap_id (by omega) (by omega)
      have hw2 : IntKind.i64.wrap (e + (nb (vs B64 x n) : Int) - 52) = e + (nb (vs B64 x n) : Int) - 52 := wrap_id (by omega) (by omega)
      have hw3 : IntKind.i64.wrap (e + (nb (vs B64 x n) : Int) - 52 - 1) = e + (nb (vs B64 x n) : Int) - 52 - 1 := wrap_id (by omega) (by omega)
      have hcn := PF.cn
      have BT := Lib.hid (fun w' (h : Sl w' A n c x) => bits_same A n c x w' h hn)
      go_wp2_with fail
      go_region_held3 (fun w' => w'.cell? ⟨w.heap.size, 1, none⟩ = some (.slice A n c) ∧ w'.cell? ⟨w.heap.size, 2, none⟩ = some (.int .i64 e)) (first | exact ⟨c1, c2⟩ | go_keep)
        (first | (go_at_call 43; refine (BT.out _ (by first | exact a2 | exact a2.drew)).mono ?_; rintro e' w3 ⟨B, rfl, hB, rfl⟩))
      obtain rfl := nb_eq hB
      rw [hw1, hw2, hw3, hmax]
      clear hw1 hw2 hw3 hmax BT PF hb
      by_cases hc : e < u
      · have hw : Hid (p = (0, false)) := Lib.hid (by rw [← hP.out, hp]; unfold wordP wordN; rw [if_pos rfl, if_neg hV, if_pos (.inl (by rw [← hu]; exact hc))])
        clear hu
        generalize vs B64 x n = V at *
        have hd : decide (e < u) = true := decide_eq_true hc
        go_wp2_with fail
        go_ret2
        exact ⟨by rw [hw.out]; rfl, b2.drew⟩
      · have hd : decide (e < u) = false := decide_eq_false hc
        by_cases hc2 : 971 < u
        · have hw : Hid (p = (0, false)) := Lib.hid (by rw [← hP.out, hp]; unfold wordP wordN; rw [if_pos rfl, if_neg hV, if_pos (.inr (by rw [← hu]; exact hc2))])
          clear hu
          generalize vs B64 x n = V at *
          have hd2 : decide (971 < u) = true := decide_eq_true hc2
          go_wp2_with fail
          go_ret2
          exact ⟨by rw [hw.out]; rfl, b2.drew⟩
        · have hd2 : decide (971 < u) = false := decide_eq_false hc2
          have UF := unit_facts (e := e) hV (by rw [← hu]; omega) (by rw [← hu]; omega)
          rw [← hu] at UF
          obtain ⟨tt, k, ht, hk, htl, hkl, hm, hVl⟩ := UF
          have hn1 : n = 1 := by
            have := cn_le B64_gt hcn (show vs B64 x n < B64 ^ 1 by rw [Nat.pow_one]; exact Nat.lt_of_lt_of_le hVl (by unfold B64; omega))
            omega
          subst hn1
          obtain ⟨ad, rfl, hab, hx0, hc0⟩ := a2.at_ (k := 0) (by omega)
          have hxV : vs B64 x 1 = x 0 := by rw [vs_succ, vs_zero]; simp
          have hw : Hid (p = (sgW neg + (tt * 4503599627370496 + x 0 * 2 ^ k), true)) := Lib.hid (by
            rw [← hP.out, hp]; unfold wordP wordN
            rw [if_pos rfl, if_neg hV, if_neg (by rw [← hu]; omega), ← hu, hk, ht, hxV, Int.toNat_natCast, show ((tt : Int) - 1074 + 1074).toNat = tt by omega])
          rw [hxV] at hm
          obtain ⟨m, hme⟩ : ∃ m, x 0 * 2 ^ k = m := ⟨_, rfl⟩
          rw [hme] at hw hm
          have hme' : (x 0 : Int) * 2 ^ k = (m : Int) := by rw [← hme]; simp
          have h81 : u - -1074 = (tt : Int) := by omega
          obtain ⟨q, hq⟩ : ∃ q, q = tt * 4503599627370496 + m := ⟨_, rfl⟩
          have hq' : (tt : Int) * 4503599627370496 + (m : Int) = (q : Int) := by omega
          have hql : q < 9223372036854775808 := by omega
          have hor := or63 q hql
          rw [← hq] at hw
          rw [show ad.add 0 = ad from by simp [Addr.add]] at hc0
          clear hu hV hP hpos hme hxV hVl hcn
          generalize x 0 = x0 at *
          clear ht hur hq hd hd2
          go_wp2_with fail
          go_quiet (fail)
          have b4 := below_drewN b2.drew nq
          replace k1 := k1.adv (below_drewN (Below.refl _ w2).drew nq)
          generalize w2.drew.drewN nq = w4 at *
          clear c0 c1 c2 c3
          obtain ⟨c0, c1, c2, c3⟩ := k1.cell
          cases neg
          · go_wp2_with fail
            go_ret2
            exact ⟨by rw [hw.out, show sgW false + q = q from Nat.zero_add q]; rfl, b4⟩
          · go_wp2_with fail
            go_ret2
            exact ⟨by rw [hw.out]; rfl, b4⟩
  · have hp' : plainB neg n x e = false := by simpa using hp
    have hw : Hid (p = (0, false)) := Lib.hid (by rw [← hP.out, hp']; rfl)
    rw [hp']
    go_wp2_with fail
    go_ret2
    exact ⟨by rw [hw.out]; rfl, b2⟩
end Go.Proofs.YtilmbdbcgbndmaaDoor

namespace Go.Proofs.YtilmbdbcgbndmaaDoor
open Go.RowKit

/-- A number of one word, in memory. -/
theorem Num.one {w : World} {v : Value} {V : Nat} (h : Num w v V) (h0 : V ≠ 0) (hV : V < B64) : ∃ ad c, v = .slice (some ad) 1 c ∧ ad.block < w.heap.size ∧ w.cell? ad = some (.int .u64 (V : Int)) := by
  obtain ⟨A, n, c, f, rfl, hs, hc, hv⟩ := h
  have hn : n ≤ 1 := cn_le B64_gt hc (by rw [hv, Nat.pow_one]; exact hV)
  have hn0 : n ≠ 0 := fun h => by subst h; rw [vs_zero] at hv; omega
  obtain rfl : n = 1 := by omega
  have hf : f 0 = V := by rw [← hv, vs_succ, vs_zero]; simp
  obtain ⟨ad, rfl, hb, _, hcell⟩ := hs.at_ (k := 0) (by omega)
  rw [show ad.add 0 = ad from by simp [Addr.add], hf] at hcell
  exact ⟨ad, c, rfl, hb, hcell⟩
theorem rword_no {neg : Bool} {V : Nat} {e : Int} (h0 : V ≠ 0) (h : 53 < (nb V : Int) ∨ 1024 < (nb V : Int) + e ∨ e < -1074) : wordN neg V e = (0, false) := by
  unfold wordN
  rw [if_neg h0, if_pos]
  unfold unitE
  omega
theorem rword_low {neg : Bool} {V : Nat} {e : Int} (h0 : V ≠ 0) (h3 : -1074 ≤ e) (h4 : (nb V : Int) + e ≤ -1022) :
    wordN neg V e = (sgW neg + V * 2 ^ (e + 1074).toNat, true) ∧ V * 2 ^ (e + 1074).toNat < 9007199254740992 ∧ V * 2 ^ (e + 1074).toNat ≠ 0 := by
  have hu : unitE V e = -1074 := by unfold unitE; omega
  refine ⟨?_, ?_, ?_⟩
  · unfold wordN
    rw [if_neg h0, hu, if_neg (by omega), show ((-1074 : Int) + 1074).toNat = 0 by decide, Nat.zero_mul, Nat.zero_add, show e - -1074 = e + 1074 by omega]
  · have h5 : nb (V * 2 ^ (e + 1074).toNat) ≤ 53 := by rw [nb_mul_pow (by omega)]; omega
    exact Nat.lt_of_lt_of_eq ((nb_le_iff _ _).1 h5) (by decide +kernel)
  · have := Nat.mul_pos (show 0 < V by omega) (Nat.two_pow_pos (e + 1074).toNat)
    omega
theorem rword_high {neg : Bool} {V : Nat} {e : Int} (h0 : V ≠ 0) (h1 : (nb V : Int) ≤ 53) (h2 : (nb V : Int) + e ≤ 1024) (h4 : -1022 < (nb V : Int) + e) :
    wordN neg V e = (sgW neg + (((nb V : Int) + e + 1022).toNat * 4503599627370496 + V * 2 ^ (53 - (nb V : Int)).toNat - 4503599627370496), true) ∧
      V * 2 ^ (53 - (nb V : Int)).toNat < 9007199254740992 ∧ 4503599627370496 ≤ V * 2 ^ (53 - (nb V : Int)).toNat := by
  have hu : unitE V e = (nb V : Int) + e - 53 := by unfold unitE; omega
  have h5 : nb (V * 2 ^ (53 - (nb V : Int)).toNat) = 53 := by rw [nb_mul_pow (by omega)]; omega
  have h6 : 0 < V * 2 ^ (53 - (nb V : Int)).toNat := Nat.mul_pos (show 0 < V by omega) (Nat.two_pow_pos _)
  have h7 := nb_ge h6
  rw [h5] at h7
  refine ⟨?_, ?_, ?_⟩
  · unfold wordN
    rw [if_neg h0, hu, if_neg (by omega), show e - ((nb V : Int) + e - 53) = 53 - (nb V : Int) by omega]
    rw [show ((nb V : Int) + e - 53 + 1074).toNat * 4503599627370496 + V * 2 ^ (53 - (nb V : Int)).toNat = ((nb V : Int) + e + 1022).toNat * 4503599627370496 + V * 2 ^ (53 - (nb V : Int)).toNat - 4503599627370496 by omega]
  · exact Nat.lt_of_lt_of_eq ((nb_le_iff _ 53).1 (by omega)) (by decide +kernel)
  · exact Nat.le_trans (Nat.le_of_eq (by decide +kernel)) h7

set_option maxRecDepth 8000 in
set_option maxHeartbeats 2000000 in
theorem rword_any (neg : Bool) (A : Option Addr) (n c : Nat) (x : Nat → Nat) (e : Int) (w : World) (ha : Sl w A n c x) (hn : n ≤ 400000) :
    Calls Tryd.prog 30 #[dyv neg A n c e] w (WP w (wordP (plainB neg n x e) neg (vs B64 x n) e)) := by
  obtain ⟨p, hP⟩ : ∃ p, Hid (wordP (plainB neg n x e) neg (vs B64 x n) e = p) := ⟨_, Lib.hid rfl⟩
  rw [hP.out]
  have b1 := alloc_bel w (cd3 (.bool neg) (.slice A n c) (.int .i64 e))
  have k1 := K3.made w (.bool neg) (.slice A n c) (.int .i64 e)
  have PL := Lib.hid (rplain_any neg A n c x e _ (ha.below b1) hn)
  go_enter Tryd.func30, Tryd.ntmps30
  go_wp2_with fail
  refine PL.out.mono ?_
  generalize w.alloc (cd3 (.bool neg) (.slice A n c) (.int .i64 e)) = w1 at *
  rintro e' w2 ⟨rfl, b⟩
  have b2 := below_step b1 b
  replace k1 := k1.adv b
  have a2 := ha.below b2
  clear b PL b1
  obtain ⟨c0, c1, c2, c3⟩ := k1.cell
  by_cases hp : plainB neg n x e = true
  · have PF := plain_facts hp
    have hlen := PF.len
    have e1 := PF.e1
    have e2 := PF.e2
    have hb := PF.bits
    have hpos := PF.pos
    rw [hp]
    by_cases h0 : n = 0
    · subst h0
      have hw : Hid (p = (0, true)) := Lib.hid (by rw [← hP.out, hp, vs_zero]; rfl)
      go_wp2_with fail
      go_ret2
      exact ⟨by rw [hw.out]; rfl, b2⟩
    · have hn0 : ((n : Int) == 0) = false := by simp; omega
      have hV : vs B64 x n ≠ 0 := by omega
      have NA := PF.num a2
      have BT := Lib.hid (rbitsN w2 NA (by omega))
      have hP' : Hid (wordN neg (vs B64 x n) e = p) := Lib.hid (by rw [← hP.out, hp]; unfold wordP; rw [if_pos rfl])
      clear hP PF hpos
      generalize vs B64 x n = V at *
      go_wp2_with fail
      refine BT.out.mono ?_
      rintro e' w3 ⟨rfl, b⟩
      replace k1 := k1.adv b
      replace NA := NA.below b
      have b3 := below_step b2 b
      clear BT b a2 b2 c0 c1 c2 c3 ha
      obtain ⟨c0, c1, c2, c3⟩ := k1.cell
      by_cases h1 : (53 : Int) < (nb V : Int)
      · have hw : Hid (p = (0, false)) := Lib.hid (by rw [← hP'.out]; exact rword_no hV (.inl h1))
        have hd : decide ((53 : Int) < (nb V : Int)) = true := decide_eq_true h1
        go_wp2_with fail
        go_ret2
        exact ⟨by rw [hw.out]; rfl, b3⟩
      · have hd : decide ((53 : Int) < (nb V : Int)) = false := decide_eq_false h1
        by_cases h2 : 1024 < (nb V : Int) + e
        · have hw : Hid (p = (0, false)) := Lib.hid (by rw [← hP'.out]; exact rword_no hV (.inr (.inl h2)))
          have hd2 : decide (1024 < (nb V : Int) + e) = true := decide_eq_true h2
          go_wp2_with fail
          go_ret2
          exact ⟨by rw [hw.out]; rfl, b3⟩
        · have hd2 : decide (1024 < (nb V : Int) + e) = false := decide_eq_false h2
          by_cases h3 : e < -1074
          · have hw : Hid (p = (0, false)) := Lib.hid (by rw [← hP'.out]; exact rword_no hV (.inr (.inr h3)))
            have hd3 : decide (e < -1074) = true := decide_eq_true h3
            go_wp2_with fail
            go_ret2
            exact ⟨by rw [hw.out]; rfl, b3⟩
          · have hd3 : decide (e < -1074) = false := decide_eq_false h3
            by_cases h4 : (nb V : Int) + e ≤ -1022
            · have hd4 : decide ((nb V : Int) + e ≤ -1022) = true := decide_eq_true h4
              obtain ⟨R1, R2, R3⟩ := rword_low (neg := neg) hV (by omega) h4
              have SH := Lib.hid (fun w' h => rshlN (V := V) (s := (e + 1074).toNat) (v := .slice A n c) w' h (by omega) (by omega))
              have hs : ((e + 1074).toNat : Int) = e + 1074 := by omega
              rw [hs] at SH
              have hw : Hid (p = _) := Lib.hid (hP'.out.symm.trans R1)
              generalize V * 2 ^ (e + 1074).toNat = M at *
              cases neg
              · obtain ⟨q, hq⟩ : ∃ q, sgW false + M = q := ⟨_, rfl⟩
                have hq' : (M : Int) = (q : Int) := by rw [← hq]; unfold sgW; simp
                have hw2 : Hid (p = (q, true)) := Lib.hid (by rw [hw.out, hq])
                clear hw hq hP'
                go_wp2_with fail
                refine (SH.out _ NA).mono ?_
                rintro e' w4 ⟨A4, p4, c4, rfl, n4, b⟩
                have b4 := below_step b3 b
                obtain ⟨ad, c5, hv4, hb4, hc4⟩ := n4.one R3 (by unfold B64; omega)
                cases hv4
                clear SH NA b n4 c0 c1 c2 c3 k1
                go_wp2_with fail
                go_ret2
                exact ⟨by rw [hw2.out]; rfl, b4⟩
              · obtain ⟨q, hq⟩ : ∃ q, sgW true + M = q := ⟨_, rfl⟩
                have hq' : (9223372036854775808 : Int) + (M : Int) = (q : Int) := by rw [← hq]; unfold sgW; simp
                have hw2 : Hid (p = (q, true)) := Lib.hid (by rw [hw.out, hq])
                clear hw hq hP'
                go_wp2_with fail
                refine (SH.out _ NA).mono ?_
                rintro e' w4 ⟨A4, p4, c4, rfl, n4, b⟩
                have b4 := below_step b3 b
                obtain ⟨ad, c5, hv4, hb4, hc4⟩ := n4.one R3 (by unfold B64; omega)
                cases hv4
                clear SH NA b n4 c0 c1 c2 c3 k1
                go_wp2_with fail
                go_ret2
                exact ⟨by rw [hw2.out]; rfl, b4⟩
            · have hd4 : decide ((nb V : Int) + e ≤ -1022) = false := decide_eq_false h4
              obtain ⟨R1, R2, R3⟩ := rword_high (neg := neg) hV (by omega) (by omega) (Int.not_le.1 h4)
              have SH := Lib.hid (fun w' h => rshlN (V := V) (s := (53 - (nb V : Int)).toNat) (v := .slice A n c) w' h (by omega) (by omega))
              have hs : ((53 - (nb V : Int)).toNat : Int) = 53 - (nb V : Int) := by omega
              rw [hs] at SH
              have hw : Hid (p = _) := Lib.hid (hP'.out.symm.trans R1)
              generalize V * 2 ^ (53 - (nb V : Int)).toNat = M at *
              obtain ⟨tt, htt⟩ : ∃ tt : Nat, (nb V : Int) + e + 1022 = (tt : Int) := ⟨((nb V : Int) + e + 1022).toNat, by omega⟩
              have htl : 1 ≤ tt ∧ tt ≤ 2046 := by omega
              rw [htt, Int.toNat_natCast] at hw
              cases neg
              · obtain ⟨q, hq⟩ : ∃ q, sgW false + (tt * 4503599627370496 + M - 4503599627370496) = q := ⟨_, rfl⟩
                have hq' : (tt : Int) * 4503599627370496 + (M : Int) - 4503599627370496 = (q : Int) := by rw [← hq]; unfold sgW; rw [if_neg (by simp)]; omega
                have hw2 : Hid (p = (q, true)) := Lib.hid (by rw [hw.out, hq])
                clear hw hq hP'
                go_wp2_with fail
                refine (SH.out _ NA).mono ?_
                rintro e' w4 ⟨A4, p4, c4, rfl, n4, b⟩
                have b4 := below_step b3 b
                obtain ⟨ad, c5, hv4, hb4, hc4⟩ := n4.one (by omega) (by unfold B64; omega)
                cases hv4
                clear SH NA b n4 c0 c1 c2 c3 k1
                go_wp2_with fail
                go_ret2
                exact ⟨by rw [hw2.out]; rfl, b4⟩
              · obtain ⟨q, hq⟩ : ∃ q, sgW true + (tt * 4503599627370496 + M - 4503599627370496) = q := ⟨_, rfl⟩
                have hq' : (9223372036854775808 : Int) + (tt : Int) * 4503599627370496 + (M : Int) - 4503599627370496 = (q : Int) := by rw [← hq]; unfold sgW; rw [if_pos rfl]; omega
                have hw2 : Hid (p = (q, true)) := Lib.hid (by rw [hw.out, hq])
                clear hw hq hP'
                go_wp2_with fail
                refine (SH.out _ NA).mono ?_
                rintro e' w4 ⟨A4, p4, c4, rfl, n4, b⟩
                have b4 := below_step b3 b
                obtain ⟨ad, c5, hv4, hb4, hc4⟩ := n4.one (by omega) (by unfold B64; omega)
                cases hv4
                clear SH NA b n4 c0 c1 c2 c3 k1
                go_wp2_with fail
                go_ret2
                exact ⟨by rw [hw2.out]; rfl, b4⟩
  · have hp' : plainB neg n x e = false := by simpa using hp
    have hw : Hid (p = (0, false)) := Lib.hid (by rw [← hP.out, hp']; rfl)
    rw [hp']
    go_wp2_with fail
    go_ret2
    exact ⟨by rw [hw.out]; rfl, b2⟩
end Go.Proofs.YtilmbdbcgbndmaaDoor
