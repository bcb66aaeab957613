/-
  Words that stand for binary64 numbers, in plain numbers: kinds, what they stand for, the word of a number, the next one. No program is named here.
  bits.exponent, bits.fraction, bits.Kind, bits.Neg; volvelleref09.Neg, parts, Kind.
  bits.Number and volvelleref09.Number.
-/
import Derived.Laws.BitsAll
import Derived.Test.YtembfhepinfmnaaDoorPlPGDy4
import Derived.Test.YtembfhepinfmnaaDoorPlPGDy5
import Derived.Test.YtembfhepinfmnaaDoorPlPGDy12
namespace Go.Proofs.YtembfhepinfmnaaDoor

def sgB (b : Nat) : Bool := decide (9223372036854775808 ≤ b)
def loN (b : Nat) : Nat := b % 9223372036854775808
def exN (b : Nat) : Nat := b % 9223372036854775808 / 4503599627370496
def frN (b : Nat) : Nat := b % 4503599627370496
def kindN (b : Nat) : Nat := if exN b = 0 then (if frN b = 0 then 0 else 1) else if exN b < 2047 then 2 else if frN b = 0 then 3 else 4
/-- What a word stands for. -/
def numD (b : Nat) : DR := if exN b = 2047 then DR.no else if exN b = 0 then mkD (sgB b) (frN b) (-1074) else mkD (sgB b) (4503599627370496 + frN b) ((exN b : Int) - 1075)
theorem exN_le (b : Nat) : exN b ≤ 2047 := by unfold exN; omega
theorem frN_lt (b : Nat) : frN b < 4503599627370496 := by unfold frN; omega
theorem kind_lo (b : Nat) : kindN b = if loN b = 0 then 0 else if loN b < 4503599627370496 then 1 else if loN b < 9218868437227405312 then 2 else if loN b = 9218868437227405312 then 3 else 4 := by
  unfold kindN exN frN loN
  split
  · split
    · rw [if_pos (by omega)]
    · rw [if_neg (by omega), if_pos (by omega)]
  · rw [if_neg (by omega : ¬ b % 9223372036854775808 = 0), if_neg (by omega : ¬ b % 9223372036854775808 < 4503599627370496)]
    split
    · rw [if_pos (by omega)]
    · rw [if_neg (by omega : ¬ b % 9223372036854775808 < 9218868437227405312)]
      split
      · rw [if_pos (by omega)]
      · rw [if_neg (by omega)]
theorem kind_none (b : Nat) : kindN b = 0 ↔ loN b = 0 := by
  rw [kind_lo]
  split
  · omega
  · split
    · omega
    · split
      · omega
      · split <;> omega
theorem sgB_true {b : Nat} : sgB b = true ↔ 9223372036854775808 ≤ b := by unfold sgB; simp
theorem sgB_false {b : Nat} : sgB b = false ↔ b < 9223372036854775808 := by unfold sgB; simp

theorem nb53 {V : Nat} (h : V < 9007199254740992) : nb V ≤ 53 := (nb_le_iff V 53).2 (Nat.lt_of_lt_of_eq h (by decide +kernel))
theorem num_no {b : Nat} (h : exN b = 2047) : numD b = DR.no := by unfold numD; rw [if_pos h]

/-- What the lower bits stand for, in units of 2^-1074. -/
def szN (l : Nat) : Nat := if l / 4503599627370496 = 0 then l % 4503599627370496 else (4503599627370496 + l % 4503599627370496) * 2 ^ (l / 4503599627370496 - 1)
theorem sz_step (l : Nat) : szN l < szN (l + 1) := by
  unfold szN
  by_cases h : l % 4503599627370496 + 1 = 4503599627370496
  · have h1 : (l + 1) / 4503599627370496 = l / 4503599627370496 + 1 := by omega
    have h2 : (l + 1) % 4503599627370496 = 0 := by omega
    rw [h1, h2, if_neg (by omega : ¬ l / 4503599627370496 + 1 = 0), Nat.add_zero, Nat.add_sub_cancel]
    split
    · rename_i h3; rw [h3]; omega
    · generalize hx : l / 4503599627370496 = x at *
      obtain ⟨y, rfl⟩ : ∃ y, x = y + 1 := ⟨x - 1, by omega⟩
      rw [Nat.add_sub_cancel, Nat.pow_succ]
      have := Nat.two_pow_pos y
      rw [show 4503599627370496 * (2 ^ y * 2) = 9007199254740992 * 2 ^ y by omega]
      exact Nat.mul_lt_mul_of_pos_right (by omega) this
  · have h1 : (l + 1) / 4503599627370496 = l / 4503599627370496 := by omega
    have h2 : (l + 1) % 4503599627370496 = l % 4503599627370496 + 1 := by omega
    rw [h1, h2]
    split
    · omega
    · exact Nat.mul_lt_mul_of_pos_right (by omega) (Nat.two_pow_pos _)
theorem sz_mono {l k : Nat} (h : l < k) : szN l < szN k := by
  induction k with
  | zero => omega
  | succ k ih =>
    rcases Nat.lt_or_ge l k with h1 | h1
    · exact Nat.lt_trans (ih h1) (sz_step k)
    · obtain rfl : l = k := by omega
      exact sz_step l
def vB (b : Nat) : Int := if sgB b then - (szN (loN b) : Int) else (szN (loN b) : Int)
theorem good_num {b : Nat} (h : exN b ≠ 2047) : ∃ V e, Good (numD b) (sgB b) V e ∧ -1074 ≤ e ∧ valI (sgB b) V e (-1074) = vB b := by
  have hf := frN_lt b
  have hx := exN_le b
  have hl : frN b = loN b % 4503599627370496 := by unfold frN loN; omega
  have he : exN b = loN b / 4503599627370496 := rfl
  unfold numD
  rw [if_neg h]
  by_cases h0 : exN b = 0
  · have := nb53 (V := frN b) (by omega)
    rw [if_pos h0]
    refine ⟨_, _, mkD_good (sgB b) (by omega) (by omega) (by omega), by omega, ?_⟩
    unfold valI vB mag szN
    rw [← he, ← hl, if_pos h0, show ((-1074 : Int) - -1074).toNat = 0 by omega, Nat.pow_zero, Nat.mul_one]
  · have := nb53 (V := 4503599627370496 + frN b) (by omega)
    rw [if_neg h0]
    refine ⟨_, _, mkD_good (sgB b) (by omega) (by omega) (by omega), by omega, ?_⟩
    unfold valI vB mag szN
    rw [← he, ← hl, if_neg h0, show ((exN b : Int) - 1075 - -1074).toNat = exN b - 1 by omega]
theorem num_ge {b : Nat} (h : exN b ≠ 2047) : (numD b).m = 0 ∨ -1074 ≤ (numD b).e := by
  obtain ⟨V, e, g, he, _⟩ := good_num h
  rcases Nat.eq_zero_or_pos V with h0 | h0
  · exact .inl (g.z h0).1
  · have := g.e1
    right; omega
theorem num_val {b : Nat} (h : exN b ≠ 2047) : valI (numD b).neg (numD b).m (numD b).e (-1074) = vB b := by
  obtain ⟨V, e, g, he, hv⟩ := good_num h
  rw [(g.val he).2, hv]
theorem num_zero {b : Nat} (h : exN b ≠ 2047) : (numD b).m = 0 → (numD b).neg = false := by
  obtain ⟨V, e, g, _⟩ := good_num h
  exact g.sg
theorem num_e {b : Nat} (h : exN b ≠ 2047) : -1074 ≤ (numD b).e := by
  obtain ⟨V, e, g, he, _⟩ := good_num h
  rcases Nat.eq_zero_or_pos (numD b).m with h0 | h0
  · have h1 := plainV_zero g.plain h0
    rw [h1.2]; omega
  · have := num_ge h; omega
theorem ordI_ge {r s : DR} {g : Int} (hr : g ≤ r.e) (hs : g ≤ s.e) (h : 0 ≤ ordD r.neg s.neg r.m s.m r.e s.e) : valI s.neg s.m s.e g ≤ valI r.neg r.m r.e g := by
  have m1 := mag_on (Va := r.m) hr hs
  have m2 := mag_on (Va := s.m) hs hr
  rw [show min s.e r.e = min r.e s.e by omega] at m2
  have key : ∀ {X Y : Nat}, X ≤ Y → X * 2 ^ (min r.e s.e - g).toNat ≤ Y * 2 ^ (min r.e s.e - g).toNat := fun h => Nat.mul_le_mul_right _ h
  unfold ordD sizeC at h
  unfold valI
  have hc : ∀ {X Y : Nat}, cmpN X Y ≤ 0 → X ≤ Y := fun {X Y} h => by
    rcases Nat.lt_or_ge Y X with h1 | h1
    · rw [cmpN_gt h1] at h; omega
    · exact h1
  have hd : ∀ {X Y : Nat}, 0 ≤ cmpN X Y → Y ≤ X := fun {X Y} h => by
    rcases Nat.lt_or_ge X Y with h1 | h1
    · rw [cmpN_lt h1] at h; omega
    · exact h1
  cases hr1 : r.neg <;> cases hs1 : s.neg <;> rw [hr1, hs1] at h
  · simp only [if_true, Bool.false_eq_true, if_false] at h ⊢
    have := key (hd h)
    omega
  · simp only [if_true, Bool.false_eq_true, if_false]; omega
  · simp at h
  · simp only [if_true] at h ⊢
    have := key (hc (X := onE r.m r.e s.e) (Y := onE s.m s.e r.e) (by omega))
    omega
theorem cmpN_turn (a b : Nat) : cmpN b a = - cmpN a b := by
  rcases Nat.lt_trichotomy a b with h | h | h
  · rw [cmpN_lt h, cmpN_gt h]; rfl
  · subst h; rw [cmpN_eq]; rfl
  · rw [cmpN_gt h, cmpN_lt h]
theorem ord_anti (na nb' : Bool) (Va Vb : Nat) (ea eb : Int) : ordD nb' na Vb Va eb ea = - ordD na nb' Va Vb ea eb := by
  unfold ordD sizeC
  rw [cmpN_turn (onE Va ea eb)]
  cases na <;> cases nb' <;> simp
def ordB (b c : Nat) : Int := ordD (numD b).neg (numD c).neg (numD b).m (numD c).m (numD b).e (numD c).e
theorem num_le {b c : Nat} (hb : exN b ≠ 2047) (hc : exN c ≠ 2047) (h : vB b ≤ vB c) : ordB b c ≤ 0 :=
  ord_le (num_zero hb) (num_zero hc) (.inr (num_e hb)) (.inr (num_e hc)) (g := -1074) (by rw [num_val hb, num_val hc]; exact h)
theorem num_ge' {b c : Nat} (hb : exN b ≠ 2047) (hc : exN c ≠ 2047) (h : vB c ≤ vB b) : 0 ≤ ordB b c := by
  have h1 := num_le hc hb h
  unfold ordB at *
  rw [ord_anti] at h1
  omega
theorem num_lt {b c : Nat} (hb : exN b ≠ 2047) (hc : exN c ≠ 2047) (h : vB b < vB c) : ordB b c < 0 := by
  rcases Int.lt_or_le (ordB b c) 0 with h1 | h1
  · exact h1
  · have h2 := ordI_ge (r := numD b) (s := numD c) (num_e hb) (num_e hc) h1
    rw [num_val hb, num_val hc] at h2
    omega
end Go.Proofs.YtembfhepinfmnaaDoor

namespace Go.Proofs.YtembfhepinfmnaaDoor
open Go.RowKit

theorem andnot63 (b : Nat) (h : b < B64) : Go.bits .andNot .u64 (b : Int) 9223372036854775808 = ((loN b : Nat) : Int) := by
  have e := u64_andNot_nat b 9223372036854775808 (by unfold B64 at h; omega) (by omega)
  rw [show ((9223372036854775808 : Nat) : Int) = 9223372036854775808 from rfl] at e
  rw [e, show (18446744073709551615 - 9223372036854775808 : Nat) = 2 ^ 63 - 1 by decide, Nat.and_two_pow_sub_one_eq_mod]
  rfl
theorem and52 (b : Nat) (h : b < B64) : Go.bits .and .u64 (b : Int) 4503599627370495 = ((frN b : Nat) : Int) := by
  have e := u64_and_nat b 4503599627370495 (by unfold B64 at h; omega) (by omega)
  rw [show ((4503599627370495 : Nat) : Int) = 4503599627370495 from rfl] at e
  rw [e, show (4503599627370495 : Nat) = 2 ^ 52 - 1 by decide, Nat.and_two_pow_sub_one_eq_mod]
  rfl
theorem and63_zero (b : Nat) (h : b < B64) : (Go.bits .and .u64 (b : Int) 9223372036854775808 != 0) = sgB b := by
  have e := u64_and_nat b 9223372036854775808 (by unfold B64 at h; omega) (by omega)
  rw [show ((9223372036854775808 : Nat) : Int) = 9223372036854775808 from rfl] at e
  have e2 : b &&& 9223372036854775808 = b / 9223372036854775808 % 2 * 9223372036854775808 := nat_bit 63 b
  rw [e, e2]
  unfold B64 at h
  cases hs : sgB b
  · have := sgB_false.1 hs
    rw [show b / 9223372036854775808 % 2 * 9223372036854775808 = 0 by omega]; rfl
  · have := sgB_true.1 hs
    rw [show b / 9223372036854775808 % 2 * 9223372036854775808 = 9223372036854775808 by omega]; rfl
theorem lo_shr (b : Nat) : ((loN b : Nat) : Int) / 2 ^ 52 = ((exN b : Nat) : Int) := by
  unfold loN exN
  omega

theorem exponent_any (b : Nat) (w : World) (hb : b < B64) : Calls Tryd.prog 37 #[.int .u64 (b : Int)] w fun r w' => r = .returned (.int .i64 (exN b : Int)) ∧ w = w' := by
  have h1 := andnot63 b hb
  have h2 := lo_shr b
  have h3 := exN_le b
  go_enter Tryd.func37, Tryd.ntmps37
  go_wp2_with fail
  go_ret
  exact ⟨rfl, rfl⟩
theorem fraction_any (b : Nat) (w : World) (hb : b < B64) : Calls Tryd.prog 38 #[.int .u64 (b : Int)] w fun r w' => r = .returned (.int .u64 (frN b : Int)) ∧ w = w' := by
  have h1 := and52 b hb
  go_enter Tryd.func38, Tryd.ntmps38
  go_wp2_with fail
  go_ret
  exact ⟨rfl, rfl⟩
theorem neg_word (b : Nat) (w : World) (hb : b < B64) : Calls Tryd.prog 44 #[.int .u64 (b : Int)] w fun r w' => r = .returned (.bool (sgB b)) ∧ w = w' := by
  have h1 := and63_zero b hb
  go_enter Tryd.func44, Tryd.ntmps44
  go_wp2_with fail
  go_ret
  exact ⟨rfl, rfl⟩
/-- Either side's Kind, by cases. -/
theorem kind_any (b : Nat) (w : World) (hb : b < B64) : Calls Tryd.prog 22 #[.int .u64 (b : Int)] w fun r w' => r = .returned (.int .i64 (kindN b : Int)) ∧ w = w' := by
  have E := Lib.hid (exponent_any b w hb)
  have F := Lib.hid (fraction_any b w hb)
  have hx := exN_le b
  have hf := frN_lt b
  obtain ⟨k, hk⟩ : ∃ k, Hid (kindN b = k) := ⟨_, Lib.hid rfl⟩
  rw [hk.out]
  have hk' := hk.out
  unfold kindN at hk'
  have HK := Lib.hid hk'
  clear hk hk'
  generalize exN b = x at *
  generalize frN b = f at *
  go_enter Tryd.func22, Tryd.ntmps22
  go_wp2_with fail
  refine E.out.mono ?_
  rintro e' w1 ⟨rfl, rfl⟩
  go_wp2_with fail
  refine F.out.mono ?_
  rintro e' w1 ⟨rfl, rfl⟩
  by_cases h0 : x = 0
  · subst h0
    have hk := HK.out
    rw [if_pos rfl] at hk
    by_cases h1 : f = 0
    · subst h1
      rw [if_pos rfl] at hk
      subst hk
      go_wp2_with fail
      go_ret
      exact ⟨rfl, rfl⟩
    · rw [if_neg h1] at hk
      subst hk
      have h2 : ((f : Int) == 0) = false := by simp; omega
      go_wp2_with fail
      go_ret
      exact ⟨rfl, rfl⟩
  · have hk := HK.out
    rw [if_neg h0] at hk
    have h3 : ((x : Int) == 0) = false := by simp; omega
    by_cases h4 : x < 2047
    · rw [if_pos h4] at hk
      subst hk
      have h5 : decide ((x : Int) < 2047) = true := decide_eq_true (by omega)
      go_wp2_with fail
      go_ret
      exact ⟨rfl, rfl⟩
    · rw [if_neg h4] at hk
      have h5 : decide ((x : Int) < 2047) = false := decide_eq_false (by omega)
      by_cases h1 : f = 0
      · subst h1
        rw [if_pos rfl] at hk
        subst hk
        go_wp2_with fail
        go_ret
        exact ⟨rfl, rfl⟩
      · rw [if_neg h1] at hk
        subst hk
        have h2 : ((f : Int) == 0) = false := by simp; omega
        go_wp2_with fail
        go_ret
        exact ⟨rfl, rfl⟩
theorem rneg_word (b : Nat) (w : World) : Calls Tryd.prog 16 #[.int .u64 (b : Int)] w fun r w' => r = .returned (.bool (sgB b)) ∧ w = w' := by
  have h1 : decide ((9223372036854775808 : Int) ≤ (b : Int)) = sgB b := by
    unfold sgB
    rw [decide_eq_decide]
    omega
  go_enter Tryd.func16, Tryd.ntmps16
  go_wp2_with fail
  go_ret
  exact ⟨by rw [← h1]; rfl, rfl⟩
theorem parts_any (b : Nat) (w : World) (hb : b < B64) : Calls Tryd.prog 21 #[.int .u64 (b : Int)] w fun r w' => r = .returned (.tuple #[.int .i64 (exN b : Int), .int .u64 (frN b : Int)]) ∧ w = w' := by
  have N := Lib.hid (rneg_word b w)
  unfold B64 at hb
  by_cases h : 9223372036854775808 ≤ b
  · have hs : sgB b = true := sgB_true.2 h
    rw [hs] at N
    have h1 : ((b : Int) - 9223372036854775808) / 4503599627370496 = (exN b : Int) := by unfold exN; omega
    have h2 : ((b : Int) - 9223372036854775808) % 4503599627370496 = (frN b : Int) := by unfold frN; omega
    have hx := exN_le b
    have hf := frN_lt b
    go_enter Tryd.func21, Tryd.ntmps21
    go_wp2_with fail
    refine N.out.mono ?_
    rintro e' w1 ⟨rfl, rfl⟩
    go_wp2_with fail
    go_ret2
    exact ⟨by rw [← h2]; rfl, rfl⟩
  · have hs : sgB b = false := sgB_false.2 (by omega)
    rw [hs] at N
    have h1 : (b : Int) / 4503599627370496 = (exN b : Int) := by unfold exN; omega
    have h2 : (b : Int) % 4503599627370496 = (frN b : Int) := by unfold frN; omega
    have hx := exN_le b
    have hf := frN_lt b
    go_enter Tryd.func21, Tryd.ntmps21
    go_wp2_with fail
    refine N.out.mono ?_
    rintro e' w1 ⟨rfl, rfl⟩
    go_wp2_with fail
    go_ret2
    exact ⟨by rw [← h2]; rfl, rfl⟩
theorem rkind_any (b : Nat) (w : World) (hb : b < B64) : Calls Tryd.prog 9 #[.int .u64 (b : Int)] w fun r w' => r = .returned (.int .i64 (kindN b : Int)) ∧ w = w' := by
  have E := Lib.hid (parts_any b w hb)
  have hx := exN_le b
  have hf := frN_lt b
  obtain ⟨k, hk⟩ : ∃ k, Hid (kindN b = k) := ⟨_, Lib.hid rfl⟩
  rw [hk.out]
  have hk' := hk.out
  unfold kindN at hk'
  have HK := Lib.hid hk'
  clear hk hk'
  generalize exN b = x at *
  generalize frN b = f at *
  go_enter Tryd.func9, Tryd.ntmps9
  go_wp2_with fail
  refine E.out.mono ?_
  rintro e' w1 ⟨rfl, rfl⟩
  by_cases h0 : x = 0
  · subst h0
    have hk := HK.out
    rw [if_pos rfl] at hk
    by_cases h1 : f = 0
    · subst h1
      rw [if_pos rfl] at hk
      subst hk
      go_wp2_with fail
      go_ret
      exact ⟨rfl, rfl⟩
    · rw [if_neg h1] at hk
      subst hk
      have h2 : ((f : Int) == 0) = false := by simp; omega
      go_wp2_with fail
      go_ret
      exact ⟨rfl, rfl⟩
  · have hk := HK.out
    rw [if_neg h0] at hk
    have h3 : ((x : Int) == 0) = false := by simp; omega
    by_cases h4 : x < 2047
    · rw [if_pos h4] at hk
      subst hk
      have h5 : decide ((x : Int) < 2047) = true := decide_eq_true (by omega)
      go_wp2_with fail
      go_ret
      exact ⟨rfl, rfl⟩
    · rw [if_neg h4] at hk
      have h5 : decide ((x : Int) < 2047) = false := decide_eq_false (by omega)
      by_cases h1 : f = 0
      · subst h1
        rw [if_pos rfl] at hk
        subst hk
        go_wp2_with fail
        go_ret
        exact ⟨rfl, rfl⟩
      · rw [if_neg h1] at hk
        subst hk
        have h2 : ((f : Int) == 0) = false := by simp; omega
        go_wp2_with fail
        go_ret
        exact ⟨rfl, rfl⟩
end Go.Proofs.YtembfhepinfmnaaDoor

namespace Go.Proofs.YtembfhepinfmnaaDoor
open Go.RowKit

theorem or52 (f : Nat) (h : f < 4503599627370496) : Go.bits .or .u64 4503599627370496 (f : Int) = ((4503599627370496 + f : Nat) : Int) := by
  have e := u64_or_nat 4503599627370496 f (by omega) (by omega)
  rw [show ((4503599627370496 : Nat) : Int) = 4503599627370496 from rfl] at e
  have e2 := Nat.two_pow_add_eq_or_of_lt (i := 52) (b := f) (Nat.lt_of_lt_of_eq h (by decide +kernel)) 1
  rw [Nat.mul_one, show (2 : Nat) ^ 52 = 4503599627370496 by decide] at e2
  rw [e, e2]
theorem num_small {b : Nat} (h : exN b = 0) : numD b = mkD (sgB b) (frN b) (-1074) := by
  unfold numD; rw [if_neg (by omega), if_pos h]
theorem num_great {b : Nat} (h : exN b ≠ 0) (h2 : exN b ≠ 2047) : numD b = mkD (sgB b) (4503599627370496 + frN b) ((exN b : Int) - 1075) := by
  unfold numD; rw [if_neg h2, if_neg h]
theorem slw (w : World) (r g : Nat) (hr : r < B64) (hg : g = w.heap.size) : Sl (w.alloc (cw r)) (some ⟨g, 0, none⟩) 1 1 (fun _ => r) := by
  subst hg
  exact one_sl _ w r hr

abbrev zd : Obj := cd3 (.bool false) (.slice none 0 0) (.int .i64 0)
set_option maxHeartbeats 1000000 in
theorem number_any (b : Nat) (w : World) (hb : b < B64) (hT : Tab w) : Calls Tryd.prog 43 #[.int .u64 (b : Int)] w (DPost w (numD b)) := by
  have b0 := alloc_bel w zd
  have kz := Blk3.made w (.bool false) (.slice none 0 0) (.int .i64 0)
  have K := Lib.hid (kind_any b (w.alloc zd) hb)
  have NG := Lib.hid (fun w' => neg_word b w' hb)
  have FR := Lib.hid (fun w' => fraction_any b w' hb)
  have EX := Lib.hid (fun w' => exponent_any b w' hb)
  have hx := exN_le b
  have hf := frN_lt b
  by_cases h3 : exN b = 2047
  · have hd := Lib.hid (num_no h3)
    have hk : kindN b = 3 ∨ kindN b = 4 := by
      unfold kindN
      rw [if_neg (by omega), if_neg (by omega)]
      split
      · exact .inl rfl
      · exact .inr rfl
    rw [hd.out]
    clear hd NG FR EX kz hf hx h3
    rcases hk with hk | hk
    · rw [hk] at K
      go_enter Tryd.func43, Tryd.ntmps43
      go_wp2_with fail
      refine K.out.mono ?_
      rintro e' w1 ⟨rfl, rfl⟩
      go_wp2_with fail
      refine bodyPost_ret (v := .tuple #[.agg #[.bool false, .slice none 0 0, .int .i64 0], .bool false]) (by simp [results, Tryd.results43, go_sem]) rfl ⟨_, rfl, num_nil _, b0⟩
    · rw [hk] at K
      go_enter Tryd.func43, Tryd.ntmps43
      go_wp2_with fail
      refine K.out.mono ?_
      rintro e' w1 ⟨rfl, rfl⟩
      go_wp2_with fail
      refine bodyPost_ret (v := .tuple #[.agg #[.bool false, .slice none 0 0, .int .i64 0], .bool false]) (by simp [results, Tryd.results43, go_sem]) rfl ⟨_, rfl, num_nil _, b0⟩
  · by_cases h0 : exN b = 0
    · have hd := Lib.hid (num_small h0)
      rw [hd.out]
      clear hd
      have hk : kindN b = 0 ∨ kindN b = 1 := by
        unfold kindN
        rw [if_pos h0]
        split
        · exact .inl rfl
        · exact .inr rfl
      have b1 := b0.trans ((alloc_bel (w.alloc zd) (cw (frN b))).mono b0.size)
      have MK := Lib.hid (make_any (sgB b) _ 1 1 (fun _ => frN b) (-1074) _ (slw (w.alloc zd) (frN b) (w.heap.size + 1) (by unfold B64; omega) (by simp)) (by omega) (hT.below b1) (by omega) (by omega))
      rw [vs_one] at MK
      have k1 := kz.below (alloc_bel (w.alloc zd) (cw (frN b))) (by simp)
      clear EX h3 h0 hx
      generalize frN b = f at *
      generalize sgB b = s at *
      rcases hk with hk | hk
      · rw [hk] at K
        go_enter Tryd.func43, Tryd.ntmps43
        go_wp2_with fail
        refine K.out.mono ?_
        rintro e' w1 ⟨rfl, rfl⟩
        go_wp2_with fail
        refine (NG.out _).mono ?_
        rintro e' w1 ⟨rfl, rfl⟩
        go_wp2_with fail
        refine (FR.out _).mono ?_
        rintro e' w1 ⟨rfl, rfl⟩
        go_wp2_with fail
        refine MK.out.mono ?_
        rintro e' w4 ⟨v4, rfl, n4, bb⟩
        have b4 := b1.trans (bb.mono b1.size)
        have k4 := k1.below bb (by simp; try omega)
        obtain ⟨c40, c41, c42⟩ := k4.cell
        obtain ⟨f40, f41, f42⟩ := k4.frozen
        clear MK bb k1 kz
        obtain ⟨A4, p4, c4, f4, rfl, m4⟩ := n4
        generalize mkD s f (-1074) = r at *
        go_wp2_with fail
        refine bodyPost_ret (v := .tuple #[.agg #[.bool r.neg, .slice A4 p4 c4, .int .i64 r.e], .bool r.ok]) (by simp [results, Tryd.results43, go_sem, c40, c41, c42]) rfl
          ⟨_, rfl, Num.put3 ⟨A4, p4, c4, f4, rfl, m4⟩ k4 (notU_bool _) (notU_slice _ _ _) (notU_int _) _ _ _, below_put3 b4 (Nat.le_refl _) b4.size _ _ _⟩
      · rw [hk] at K
        go_enter Tryd.func43, Tryd.ntmps43
        go_wp2_with fail
        refine K.out.mono ?_
        rintro e' w1 ⟨rfl, rfl⟩
        go_wp2_with fail
        refine (NG.out _).mono ?_
        rintro e' w1 ⟨rfl, rfl⟩
        go_wp2_with fail
        refine (FR.out _).mono ?_
        rintro e' w1 ⟨rfl, rfl⟩
        go_wp2_with fail
        refine MK.out.mono ?_
        rintro e' w4 ⟨v4, rfl, n4, bb⟩
        have b4 := b1.trans (bb.mono b1.size)
        have k4 := k1.below bb (by simp; try omega)
        obtain ⟨c40, c41, c42⟩ := k4.cell
        obtain ⟨f40, f41, f42⟩ := k4.frozen
        clear MK bb k1 kz
        obtain ⟨A4, p4, c4, f4, rfl, m4⟩ := n4
        generalize mkD s f (-1074) = r at *
        go_wp2_with fail
        refine bodyPost_ret (v := .tuple #[.agg #[.bool r.neg, .slice A4 p4 c4, .int .i64 r.e], .bool r.ok]) (by simp [results, Tryd.results43, go_sem, c40, c41, c42]) rfl
          ⟨_, rfl, Num.put3 ⟨A4, p4, c4, f4, rfl, m4⟩ k4 (notU_bool _) (notU_slice _ _ _) (notU_int _) _ _ _, below_put3 b4 (Nat.le_refl _) b4.size _ _ _⟩
    · have hd := Lib.hid (num_great h0 h3)
      rw [hd.out]
      clear hd
      have hk : kindN b = 2 := by
        unfold kindN
        rw [if_neg h0, if_pos (by omega)]
      rw [hk] at K
      have hor := or52 (frN b) hf
      have he : (-1074 : Int) + (exN b : Int) - 1 = (exN b : Int) - 1075 := by omega
      obtain ⟨r, hr⟩ : ∃ r, r = 4503599627370496 + frN b := ⟨_, rfl⟩
      rw [← hr] at hor ⊢
      have hr64 : r < B64 := by unfold B64; omega
      have b1 := b0.trans ((alloc_bel (w.alloc zd) (cw r)).mono b0.size)
      have MK := Lib.hid (make_any (sgB b) _ 1 1 (fun _ => r) (-1074 + (exN b : Int) - 1) _ (slw (w.alloc zd) r (w.heap.size + 1) hr64 (by simp)) (by omega) (hT.below b1) (by omega) (by omega))
      rw [vs_one] at MK
      rw [← he]
      have k1 := kz.below (alloc_bel (w.alloc zd) (cw r)) (by simp)
      clear h3 h0 he hk hr
      generalize frN b = f at *
      generalize sgB b = s at *
      generalize exN b = x at *
      go_enter Tryd.func43, Tryd.ntmps43
      go_wp2_with fail
      refine K.out.mono ?_
      rintro e' w1 ⟨rfl, rfl⟩
      go_wp2_with fail
      refine (NG.out _).mono ?_
      rintro e' w1 ⟨rfl, rfl⟩
      go_wp2_with fail
      refine (FR.out _).mono ?_
      rintro e' w1 ⟨rfl, rfl⟩
      go_wp2_with fail
      refine (EX.out _).mono ?_
      rintro e' w1 ⟨rfl, rfl⟩
      go_wp2_with fail
      refine MK.out.mono ?_
      rintro e' w4 ⟨v4, rfl, n4, bb⟩
      have b4 := b1.trans (bb.mono b1.size)
      have k4 := k1.below bb (by simp; try omega)
      obtain ⟨c40, c41, c42⟩ := k4.cell
      obtain ⟨f40, f41, f42⟩ := k4.frozen
      clear MK bb k1 kz
      obtain ⟨A4, p4, c4, f4, rfl, m4⟩ := n4
      generalize mkD s r (-1074 + (x : Int) - 1) = r at *
      go_wp2_with fail
      refine bodyPost_ret (v := .tuple #[.agg #[.bool r.neg, .slice A4 p4 c4, .int .i64 r.e], .bool r.ok]) (by simp [results, Tryd.results43, go_sem, c40, c41, c42]) rfl
        ⟨_, rfl, Num.put3 ⟨A4, p4, c4, f4, rfl, m4⟩ k4 (notU_bool _) (notU_slice _ _ _) (notU_int _) _ _ _, below_put3 b4 (Nat.le_refl _) b4.size _ _ _⟩
end Go.Proofs.YtembfhepinfmnaaDoor
