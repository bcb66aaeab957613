/-
  What dyads stand for, as rational numbers; cuts, sums, products and quotients enclose. No program is named here.
  A span that encloses a rational number: what the reference's calls on spans keep of that. No program is named here.
  The reference's series, in numbers: each span that it works holds the sum of the series' first 151 terms. No memory is named here.
-/
import Derived.Test.YtodjldhppbbhdaaGreatDoorPlSerGSp9
import Derived.Test.YtodjldhppbbhdaaGreatDoorPlSerGSp11
import Derived.Test.YtodjldhppbbhdaaGreatDoorPlSerGSe6
import Derived.Test.YtodjldhppbbhdaaGreatDoorPlSerGSe8
namespace Go.Proofs.YtodjldhppbbhdaaGreatDoor
open Go.RowKit

/-- 2 to the e. -/
def tp (e : Int) : Rat := (2 : Rat) ^ e
theorem tp_pos (e : Int) : 0 < tp e := Rat.zpow_pos (by decide)
theorem tp_add (a b : Int) : tp (a + b) = tp a * tp b := Rat.zpow_add (by decide) a b
theorem tp_nat (n : Nat) : tp (n : Int) = ((2 ^ n : Nat) : Rat) := by
  unfold tp
  rw [Rat.zpow_natCast]
  induction n with
  | zero => rfl
  | succ n ih => rw [Rat.pow_succ, ih, Nat.pow_succ]; push_cast; rfl
theorem tp_zero : tp 0 = 1 := rfl
theorem tp_mono {a b : Int} (h : a ≤ b) : tp a ≤ tp b := by
  obtain ⟨n, rfl⟩ : ∃ n : Nat, b = a + n := ⟨(b - a).toNat, by omega⟩
  rw [tp_add, tp_nat]
  have h1 : (1 : Rat) ≤ ((2 ^ n : Nat) : Rat) := by
    have := Nat.two_pow_pos n
    exact_mod_cast this
  have h2 := tp_pos a
  have := Rat.mul_le_mul_of_nonneg_left h1 (Rat.le_of_lt h2)
  grind
def sgR (neg : Bool) (x : Rat) : Rat := if neg then -x else x
/-- What V times 2 to the e with a sign stands for; a dyad. -/
def qv (neg : Bool) (V : Nat) (e : Int) : Rat := sgR neg ((V : Rat) * tp e)
def rv (r : DR) : Rat := qv r.neg r.m r.e
theorem qv_zero (neg : Bool) (e : Int) : qv neg 0 e = 0 := by
  unfold qv sgR
  have : ((0 : Nat) : Rat) = 0 := rfl
  cases neg <;> simp [this] <;> grind
theorem nat_le {a b : Nat} (h : a ≤ b) : (a : Rat) ≤ (b : Rat) := by exact_mod_cast h
theorem qv_val (neg : Bool) (V : Nat) {e g : Int} (hg : g ≤ e) : qv neg V e = (valI neg V e g : Rat) * tp g := by
  obtain ⟨n, rfl⟩ : ∃ n : Nat, e = g + n := ⟨(e - g).toNat, by omega⟩
  unfold qv valI mag sgR
  rw [tp_add, tp_nat, show (g + (n : Int) - g).toNat = n by omega]
  cases neg
  · simp only [Bool.false_eq_true, if_false]
    push_cast
    grind
  · simp only [if_true]
    push_cast
    grind
theorem rv_val {r : DR} {g : Int} (hg : r.m = 0 ∨ g ≤ r.e) : rv r = (val r g : Rat) * tp g := by
  rcases Nat.eq_zero_or_pos r.m with h | h
  · unfold rv
    rw [val_zero h, h, qv_zero]
    have : ((0 : Int) : Rat) = 0 := rfl
    rw [this]
    grind
  · exact qv_val _ _ (by rcases hg with h1 | h1 <;> omega)
theorem Good.rv_eq {r : DR} {neg : Bool} {V : Nat} {e : Int} (h : Good r neg V e) : rv r = qv neg V e := by
  have hv := (h.val (g := min e r.e) (by omega)).2
  rw [rv_val (g := min e r.e) (.inr (by omega)), qv_val neg V (g := min e r.e) (by omega), ← hv]
  rfl
theorem rv_le {r s : DR} {g : Int} (hr : r.m = 0 ∨ g ≤ r.e) (hs : s.m = 0 ∨ g ≤ s.e) : rv r ≤ rv s ↔ val r g ≤ val s g := by
  rw [rv_val hr, rv_val hs]
  have ht := tp_pos g
  constructor
  · intro h
    have := Rat.le_of_mul_le_mul_right h ht
    exact_mod_cast this
  · intro h
    have : (val r g : Rat) ≤ (val s g : Rat) := by exact_mod_cast h
    exact Rat.mul_le_mul_of_nonneg_right this (Rat.le_of_lt ht)

/-- A dyad of few bits, with an exponent of B at most. -/
structure Tm (B : Int) (r : DR) : Prop where
  ok : r.ok = true
  pl : plainV r.neg r.m r.e = true
  b : nb r.m ≤ 800
  e1 : -B ≤ r.e
  e2 : r.e ≤ B
theorem Tm.more {B B' : Int} {r : DR} (h : Tm B r) (hb : B ≤ B') : Tm B' r := ⟨h.ok, h.pl, h.b, by have := h.e1; omega, by have := h.e2; omega⟩
theorem Tm.p {B : Int} {r : DR} (h : Tm B r) : Pl r := ⟨h.ok, h.pl⟩
theorem Tm.pr {B : Int} {r : DR} (h : Tm B r) : PlainR r := plainR_of h.pl
theorem Tm.up {B g : Int} {r : DR} (h : Tm B r) (hg : g ≤ -B) : Up r g := ⟨h.ok, fun h0 => (h.pr.zero h0).2, by have := h.e1; omega⟩
theorem right_tm {B : Int} {lo hi : DR} (h1 : Tm B lo) (h2 : Tm B hi) (h : rv lo ≤ rv hi) : rightI lo hi = true := by
  unfold rightI rightB
  rw [h1.ok, h2.ok]
  have := ord_le (g := -B) (fun h0 => (h1.pr.zero h0).2) (fun h0 => (h2.pr.zero h0).2) (.inr h1.e1) (.inr h2.e1) ((rv_le (.inr h1.e1) (.inr h2.e1)).1 h)
  simp [this]
theorem pBad_no {p : Int} (h1 : 1 ≤ p) (h2 : p ≤ 700) : pBad p = false := by unfold pBad; simp; omega
theorem fitB_yes {p : Int} (h1 : 1 ≤ p) (h2 : p ≤ 700) : bitsFitB p = true := by unfold bitsFitB; simp; omega

/-- What is kept has P bits, or is the next power. -/
theorem nb_kept2 (neg : Bool) (Q : Nat) (more : Bool) (P : Nat) (up : Bool) : nb (kept neg Q more P up) ≤ P + 1 := by
  have h1 : Q / 2 ^ (nb Q - P) < 2 ^ P := by
    rcases Nat.lt_or_ge (nb Q) P with h | h
    · rw [show nb Q - P = 0 by omega, Nat.pow_zero, Nat.div_one]
      exact Nat.lt_of_lt_of_le (nb_lt Q) (Nat.pow_le_pow_right (by omega) (by omega))
    · exact cut_lt h
  have h2 : kept neg Q more P up ≤ Q / 2 ^ (nb Q - P) + 1 := by unfold kept; split <;> omega
  have h3 := Nat.two_pow_pos P
  refine (nb_le_iff _ _).2 ?_
  rw [Nat.pow_succ]
  omega
/-- Of a whole part that isn't 0, twice it at most is kept. -/
theorem kept_two {neg : Bool} {Q : Nat} {more : Bool} {P : Nat} {up : Bool} (hQ : 0 < Q) (hP : 1 ≤ P) : kept neg Q more P up * 2 ^ (nb Q - P) ≤ 2 * Q := by
  have h1 : Q / 2 ^ (nb Q - P) * 2 ^ (nb Q - P) ≤ Q := Nat.div_mul_le_self _ _
  have h2 : kept neg Q more P up ≤ Q / 2 ^ (nb Q - P) + 1 := by unfold kept; split <;> omega
  have h3 : 1 * 2 ^ (nb Q - P) ≤ Q := by
    rw [Nat.one_mul]
    refine Nat.le_trans (Nat.pow_le_pow_right (by omega) (by omega)) (nb_ge hQ)
  have h4 := Nat.mul_le_mul_right (2 ^ (nb Q - P)) h2
  rw [Nat.add_mul] at h4
  omega
theorem qv_mul (neg : Bool) (T D : Nat) (e : Int) : qv neg T (e + (D : Int)) = qv neg (T * 2 ^ D) e := by
  unfold qv
  rw [tp_add, tp_nat]
  push_cast
  congr 1
  grind
theorem qv_low {neg : Bool} {A B : Nat} {e : Int} (h : if neg then B ≤ A else A ≤ B) : qv neg A e ≤ qv neg B e := by
  have ht := Rat.le_of_lt (tp_pos e)
  unfold qv sgR
  cases neg
  · simp only [Bool.false_eq_true, if_false] at h ⊢
    exact Rat.mul_le_mul_of_nonneg_right (nat_le h) ht
  · simp only [if_true] at h ⊢
    have := Rat.mul_le_mul_of_nonneg_right (nat_le h) ht
    grind
/-- What is cut. -/
theorem cut_rv {neg : Bool} {V : Nat} {e B : Int} {P : Nat} (up : Bool) (hP : P ≤ 700) (h1 : -B ≤ e) (h2 : e + (nb V : Int) ≤ B) (hB : B ≤ 200000) (hB0 : 0 ≤ B) :
    Tm (B + 1) (cutD neg V e false P up) ∧ (up = false → rv (cutD neg V e false P up) ≤ qv neg V e) ∧ (up = true → qv neg V e ≤ rv (cutD neg V e false P up)) := by
  have hk := nb_kept neg V false P up
  have hk2 := nb_kept2 neg V false P up
  have hz : nb V ≤ P → nb (kept neg V false P up) ≤ nb V + 1 := fun h => by omega
  rw [cut_kept]
  have G := mkD_good neg (V := kept neg V false P up) (e := e + ((nb V - P : Nat) : Int)) (by omega) (by omega) (by omega)
  have hlow := fun h => kept_low (neg := neg) (Q := V) (more := false) (P := P) (up := up) h
  have hhigh := fun h => kept_high (neg := neg) (Q := V) (more := false) (P := P) (up := up) h
  generalize mkD neg (kept neg V false P up) (e + ((nb V - P : Nat) : Int)) = r at *
  have hv := G.rv_eq
  rw [qv_mul] at hv
  have hm := nb_mono G.le
  refine ⟨⟨G.ok, G.plain, by omega, ?_, ?_⟩, fun hu => ?_, fun hu => ?_⟩
  · rcases G.e1 with h | h
    · have := ((plainR_of G.plain).zero (G.z h).1).1; omega
    · omega
  · rcases G.e2 with h | h
    · have := ((plainR_of G.plain).zero h).1; omega
    · omega
  · rw [hv]
    refine qv_low ?_
    cases neg
    · simp only [Bool.false_eq_true, if_false]; exact hlow hu
    · simp only [if_true]; have := hhigh (by rw [hu]; decide); simpa using this
  · rw [hv]
    refine qv_low ?_
    cases neg
    · simp only [Bool.false_eq_true, if_false]; have := hhigh (by rw [hu]; decide); simpa using this
    · simp only [if_true]; exact hlow hu

theorem qv_false (V : Nat) (e : Int) : qv false V e = (V : Rat) * tp e := rfl
theorem rv_nonneg {r : DR} (h : r.neg = false) : 0 ≤ rv r := by
  unfold rv
  rw [h, qv_false]
  have h1 : (0 : Rat) ≤ (r.m : Rat) := Rat.natCast_nonneg
  exact Rat.mul_nonneg h1 (Rat.le_of_lt (tp_pos _))
/-- Quotients of numbers that aren't below 0. -/
theorem qN_rv {r s : DR} {B : Int} {P : Nat} (up : Bool) (hP1 : 1 ≤ P) (hP : P ≤ 700) (hr : Tm B r) (hs : Tm 64 s) (hn : r.neg = false) (hn' : s.neg = false) (h0 : 0 < s.m) (hs0 : 0 ≤ s.e) (hsb : nb s.m ≤ 64) (hB : B ≤ 190000) (hB0 : 0 ≤ B) :
    Tm (B + 900) (qN r s P up) ∧ (qN r s P up).neg = false ∧ (up = false → rv (qN r s P up) * rv s ≤ rv r) ∧ (up = true → rv r ≤ rv (qN r s P up) * rv s) ∧ rv (qN r s P up) * rv s ≤ 2 * rv r := by
  have a1 := hr.b
  have a2 := hr.e1
  have a3 := hr.e2
  have a4 := hs.e2
  obtain ⟨R, hR⟩ : ∃ R, R = P + nb s.m - nb r.m := ⟨_, rfl⟩
  have hquo : r.m = 0 ∨ 0 < r.m * 2 ^ R / s.m := by
    rcases Nat.eq_zero_or_pos r.m with h | h
    · exact .inl h
    · exact .inr (quo_bits h h0 (by omega) hP1).2
  unfold qN quoD
  rw [← hR, cut_kept, hn, hn', show (false != false) = false from rfl]
  have hN := nb_mul_le r.m R
  have rvr : rv r = (r.m : Rat) * tp r.e := by unfold rv; rw [hn, qv_false]
  have rvs : rv s = (s.m : Rat) * tp s.e := by unfold rv; rw [hn', qv_false]
  have hNN : (r.m * 2 ^ R : Nat) * tp (r.e - (R : Int)) = rv r := by
    rw [rvr]
    push_cast
    have := tp_add (r.e - (R : Int)) (R : Int)
    rw [show r.e - (R : Int) + (R : Int) = r.e by omega, tp_nat] at this
    rw [this]
    push_cast
    grind
  have hN0 : r.m = 0 → r.m * 2 ^ R = 0 := fun h => by rw [h, Nat.zero_mul]
  generalize hNe : r.m * 2 ^ R = N at *
  have hQ := nb_mono (Nat.div_le_self N s.m)
  have hdm := Nat.div_add_mod N s.m
  have hlt := Nat.mod_lt N h0
  have hex : decide (N % s.m ≠ 0) = false → N % s.m = 0 := fun h => by simpa using h
  have hk := nb_kept false (N / s.m) (decide (N % s.m ≠ 0)) P up
  have hk2 := nb_kept2 false (N / s.m) (decide (N % s.m ≠ 0)) P up
  have G := mkD_good false (V := kept false (N / s.m) (decide (N % s.m ≠ 0)) P up) (e := r.e - s.e - (R : Int) + ((nb (N / s.m) - P : Nat) : Int)) (by omega) (by omega) (by omega)
  have low : up = false → kept false (N / s.m) (decide (N % s.m ≠ 0)) P up * 2 ^ (nb (N / s.m) - P) * s.m ≤ N := fun h => by
    have h1 := Nat.mul_le_mul_right s.m (kept_low (neg := false) (Q := N / s.m) (more := decide (N % s.m ≠ 0)) (P := P) h)
    rw [Nat.mul_comm s.m] at hdm
    omega
  have high : up = true → N ≤ kept false (N / s.m) (decide (N % s.m ≠ 0)) P up * 2 ^ (nb (N / s.m) - P) * s.m := fun h => by
    have h1 := Nat.mul_le_mul_right s.m (kept_high (neg := false) (Q := N / s.m) (more := decide (N % s.m ≠ 0)) (P := P) (up := up) (by rw [h]; decide))
    rw [Nat.mul_comm s.m] at hdm
    by_cases h2 : N % s.m = 0
    · rw [show decide (N % s.m ≠ 0) = false by simp [h2]] at h1 ⊢
      simp only [Bool.false_eq_true, if_false, Nat.add_zero] at h1
      omega
    · rw [show decide (N % s.m ≠ 0) = true by simp [h2]] at h1 ⊢
      simp only [if_true] at h1
      rw [Nat.add_mul, Nat.one_mul] at h1
      omega
  have two : kept false (N / s.m) (decide (N % s.m ≠ 0)) P up * 2 ^ (nb (N / s.m) - P) * s.m ≤ 2 * N := by
    rcases hquo with h | h
    · have e0 : N = 0 := hN0 h
      rw [e0, Nat.zero_div, Nat.zero_mod]
      have : kept false 0 (decide ((0 : Nat) ≠ 0)) P up = 0 := by unfold kept; simp [nb_zero]
      rw [this]
      omega
    · have h1 := Nat.mul_le_mul_right s.m (kept_two (neg := false) (Q := N / s.m) (more := decide (N % s.m ≠ 0)) (P := P) (up := up) h hP1)
      have h2 : N / s.m * s.m ≤ N := Nat.div_mul_le_self _ _
      rw [Nat.mul_assoc 2] at h1
      omega
  generalize mkD false (kept false (N / s.m) (decide (N % s.m ≠ 0)) P up) (r.e - s.e - (R : Int) + ((nb (N / s.m) - P : Nat) : Int)) = q at *
  have hv := G.rv_eq
  rw [qv_mul] at hv
  generalize hTT : kept false (N / s.m) (decide (N % s.m ≠ 0)) P up = T at *
  generalize hDD : nb (N / s.m) - P = D at *
  have hm := nb_mono G.le
  have hqs : rv q * rv s = ((T * 2 ^ D * s.m : Nat) : Rat) * tp (r.e - (R : Int)) := by
    rw [hv, rvs, qv_false, show r.e - (R : Int) = (r.e - s.e - (R : Int)) + s.e by omega, tp_add]
    push_cast
    grind
  have ht := Rat.le_of_lt (tp_pos (r.e - (R : Int)))
  have hng : q.neg = false := by
    rcases Nat.eq_zero_or_pos T with h | h
    · exact (G.z h).2
    · exact (G.nz h).1
  refine ⟨⟨G.ok, G.plain, by omega, ?_, ?_⟩, hng, fun hu => ?_, fun hu => ?_, ?_⟩
  · rcases G.e1 with h | h
    · have := ((plainR_of G.plain).zero (G.z h).1).1; omega
    · omega
  · rcases G.e2 with h | h
    · have := ((plainR_of G.plain).zero h).1; omega
    · omega
  · rw [hqs, ← hNN]
    exact Rat.mul_le_mul_of_nonneg_right (nat_le (low hu)) ht
  · rw [hqs, ← hNN]
    exact Rat.mul_le_mul_of_nonneg_right (nat_le (high hu)) ht
  · rw [hqs, ← hNN]
    have := Rat.mul_le_mul_of_nonneg_right (nat_le two) ht
    push_cast at this ⊢
    grind
end Go.Proofs.YtodjldhppbbhdaaGreatDoor

namespace Go.Proofs.YtodjldhppbbhdaaGreatDoor
open Go.RowKit

theorem onE_tp (V : Nat) (e o : Int) : ((onE V e o : Nat) : Rat) * tp (min e o) = (V : Rat) * tp e := by
  unfold onE
  obtain ⟨n, hn⟩ : ∃ n : Nat, (e - min e o).toNat = n := ⟨_, rfl⟩
  have h := tp_add (min e o) (n : Int)
  rw [show min e o + (n : Int) = e by omega, tp_nat] at h
  rw [hn, h]
  push_cast
  grind
theorem rat_sub {a b : Nat} (h : b ≤ a) : ((a - b : Nat) : Rat) = (a : Rat) - (b : Rat) := by
  obtain ⟨c, rfl⟩ : ∃ c, a = b + c := ⟨a - b, by omega⟩
  rw [Nat.add_sub_cancel_left]
  push_cast
  grind
/-- A sum of two with all its bits. -/
theorem sumN_rv (r s : DR) : rv (sumN r s) = rv r + rv s := by
  have a1 := onE_tp r.m r.e s.e
  have a2 := onE_tp s.m s.e r.e
  rw [show min s.e r.e = min r.e s.e by omega] at a2
  unfold sumN
  by_cases h0 : r.m = 0
  · rw [if_pos h0]
    have : rv r = 0 := by unfold rv; rw [h0, qv_zero]
    rw [this]; grind
  · rw [if_neg h0]
    by_cases h1 : s.m = 0
    · rw [if_pos h1]
      have : rv s = 0 := by unfold rv; rw [h1, qv_zero]
      rw [this]; grind
    · rw [if_neg h1]
      by_cases hn : r.neg = s.neg
      · rw [if_pos hn]
        unfold rv qv sgR
        rw [← hn, ← a1, ← a2]
        cases r.neg <;> simp only [Bool.false_eq_true, if_true, if_false] <;> push_cast <;> grind
      · rw [if_neg hn]
        have hn' : s.neg = !r.neg := by cases hr : r.neg <;> cases hs : s.neg <;> simp_all
        by_cases hle : onE s.m s.e r.e ≤ onE r.m r.e s.e
        · rw [if_pos hle]
          unfold rv qv sgR
          simp only
          rw [rat_sub hle, hn', ← a1, ← a2]
          cases r.neg <;> simp only [Bool.not_true, Bool.not_false, Bool.false_eq_true, if_true, if_false] <;> grind
        · rw [if_neg hle]
          unfold rv qv sgR
          simp only
          rw [rat_sub (Nat.le_of_lt (Nat.not_le.1 hle)), hn', ← a1, ← a2]
          cases r.neg <;> simp only [Bool.not_true, Bool.not_false, Bool.false_eq_true, if_true, if_false] <;> grind
theorem sumN_tm {B : Int} {r s : DR} (h1 : Tm B r) (h2 : Tm B s) : -B ≤ (sumN r s).e ∧ (sumN r s).e + (nb (sumN r s).m : Int) ≤ B + 801 := by
  have a1 := h1.b
  have a2 := h1.e1
  have a3 := h1.e2
  have b1 := h2.b
  have b2 := h2.e1
  have b3 := h2.e2
  unfold sumN
  by_cases h0 : r.m = 0
  · rw [if_pos h0]; omega
  · rw [if_neg h0]
    by_cases h1 : s.m = 0
    · rw [if_pos h1]; omega
    · rw [if_neg h1]
      have n1 : nb (onE r.m r.e s.e) = nb r.m + (r.e - min r.e s.e).toNat := by unfold onE; rw [nb_mul_pow (by omega)]
      have n2 : nb (onE s.m s.e r.e) = nb s.m + (s.e - min s.e r.e).toNat := by unfold onE; rw [nb_mul_pow (by omega)]
      by_cases hn : r.neg = s.neg
      · rw [if_pos hn]
        have := nb_add (X := onE r.m r.e s.e) (Y := onE s.m s.e r.e) (K := max (nb (onE r.m r.e s.e)) (nb (onE s.m s.e r.e))) (by omega) (by omega)
        simp only
        omega
      · rw [if_neg hn]
        by_cases hle : onE s.m s.e r.e ≤ onE r.m r.e s.e
        · rw [if_pos hle]
          have := nb_mono (Nat.sub_le (onE r.m r.e s.e) (onE s.m s.e r.e))
          simp only
          omega
        · rw [if_neg hle]
          have := nb_mono (Nat.sub_le (onE s.m s.e r.e) (onE r.m r.e s.e))
          simp only
          omega

theorem negI_rv {r : DR} (h : r.ok = true) : rv (negI r) = - rv r := by
  unfold negI
  rw [h, if_pos rfl]
  by_cases h0 : r.m = 0
  · rw [if_pos h0]
    unfold rv
    rw [h0, qv_zero, show DR.zero.m = 0 from rfl, qv_zero]
    grind
  · rw [if_neg h0]
    unfold rv qv sgR
    cases r.neg <;> simp only [Bool.not_true, Bool.not_false, Bool.false_eq_true, if_true, if_false] <;> grind
theorem negI_tm {B : Int} {r : DR} (h : Tm B r) (hB0 : 0 ≤ B) : Tm B (negI r) := by
  have P := pl_neg h.p
  refine ⟨P.ok, P.pl, ?_, ?_, ?_⟩
  all_goals
    have h1 := h.b
    have h2 := h.e1
    have h3 := h.e2
    unfold negI
    rw [h.ok, if_pos rfl]
    by_cases h0 : r.m = 0
    · rw [if_pos h0]; unfold DR.zero; simp only [nb_zero]; omega
    · rw [if_neg h0]; simp only; omega
/-- A span that isn't bad, of tame ends, with x in it. -/
structure En (B : Int) (r : SRes) (x : Rat) : Prop where
  bad : r.bad = false
  l : Tm B r.lo
  h : Tm B r.hi
  x1 : rv r.lo ≤ x
  x2 : x ≤ rv r.hi
theorem En.more {B B' : Int} {r : SRes} {x : Rat} (h : En B r x) (hb : B ≤ B') : En B' r x := ⟨h.bad, h.l.more hb, h.h.more hb, h.x1, h.x2⟩
theorem En.le {B : Int} {r : SRes} {x : Rat} (h : En B r x) : rv r.lo ≤ rv r.hi := Rat.le_trans h.x1 h.x2
section
variable {p B : Int} {r s : SRes} {x y : Rat} (hp1 : 1 ≤ p) (hp2 : p ≤ 700)
include hp1 hp2
theorem En.add (h : En B r x) (k : En B s y) (hB : B ≤ 150000) (hB0 : 0 ≤ B) : En (B + 900) (addS p false r.lo r.hi s.lo s.hi) (x + y) := by
  have b1 := sumN_tm h.l k.l
  have b2 := sumN_tm h.h k.h
  have c1 := cut_rv (neg := (sumN r.lo s.lo).neg) (V := (sumN r.lo s.lo).m) (e := (sumN r.lo s.lo).e) (B := B + 801) (P := p.toNat) false (by omega) (by omega) (by omega) (by omega) (by omega)
  have c2 := cut_rv (neg := (sumN r.hi s.hi).neg) (V := (sumN r.hi s.hi).m) (e := (sumN r.hi s.hi).e) (B := B + 801) (P := p.toNat) true (by omega) (by omega) (by omega) (by omega) (by omega)
  have e1 := sumN_rv r.lo s.lo
  have e2 := sumN_rv r.hi s.hi
  have g1 := c1.2.1 rfl
  have g2 := c2.2.2 rfl
  change _ ≤ rv (sumN r.lo s.lo) at g1
  change rv (sumN r.hi s.hi) ≤ _ at g2
  have hb : bad2 p false r.lo r.hi s.lo s.hi = false := by
    unfold bad2
    rw [right_tm h.l h.h h.le, right_tm k.l k.h k.le, pBad_no hp1 hp2]
    rfl
  unfold addS twoS keepS sumC
  rw [hb, c1.1.ok, c2.1.ok]
  simp only [Bool.false_eq_true, if_false, Bool.and_self, if_true]
  have := h.x1
  have := h.x2
  have := k.x1
  have := k.x2
  exact ⟨rfl, c1.1.more (by omega), c2.1.more (by omega), by show rv _ ≤ _; grind, by show _ ≤ rv _; grind⟩
theorem En.neg (h : En B r x) (hB0 : 0 ≤ B) : En B (negS p false r.lo r.hi) (-x) := by
  have hr := rightF_of (right_tm h.l h.h h.le)
  rw [negS_ok hp1 (by omega) hr h.l.p h.h.p]
  have h1 := h.x1
  have h2 := h.x2
  have e1 := negI_rv h.l.ok
  have e2 := negI_rv h.h.ok
  exact ⟨rfl, negI_tm h.h hB0, negI_tm h.l hB0, by show rv (negI r.hi) ≤ _; grind, by show _ ≤ rv (negI r.lo); grind⟩
theorem En.sub (h : En B r x) (k : En B s y) (hB : B ≤ 150000) (hB0 : 0 ≤ B) : En (B + 900) (subS p false r.lo r.hi s.lo s.hi) (x - y) := by
  have n := k.neg hp1 hp2 hB0
  have := h.add hp1 hp2 n hB hB0
  unfold subS
  rw [n.bad, Rat.sub_eq_add_neg]
  exact this
end
/-- An integer above 0. -/
structure Pos (d : DR) (n : Rat) : Prop where
  t : Tm 64 d
  neg : d.neg = false
  m : 0 < d.m
  e : 0 ≤ d.e
  b : nb d.m ≤ 64
  v : rv d = n
theorem num_pos {p : Int} {n : Nat} (hp1 : 1 ≤ p) (hp2 : p ≤ 700) (h0 : 0 < n) (hn : nb n ≤ 64) : ∃ d, numS p false (n : Int) = ⟨false, d, d⟩ ∧ Pos d (n : Rat) := by
  have G := mkD_good false (V := n) (e := 0) (by omega) (by omega) (by omega)
  have e0 : decide ((n : Int) < 0) = false := by simp
  have e1 : (n : Int).natAbs = n := by omega
  refine ⟨mkD false n 0, ?_, ?_⟩
  · unfold numS ptI ptS bad1
    rw [e0, e1]
    have T : Tm 64 (mkD false n 0) := by
      have := nb_mono G.le
      refine ⟨G.ok, G.plain, by omega, ?_, ?_⟩
      · rcases G.e1 with h | h <;> omega
      · rcases G.e2 with h | h
        · have := ((plainR_of G.plain).zero h).1; omega
        · omega
    rw [right_tm T T Rat.le_refl, pBad_no hp1 hp2]
    have hok := G.ok
    generalize mkD false n 0 = d at *
    obtain ⟨a, b, c, e⟩ := d
    simp only at hok
    subst hok
    rfl
  · have hm := nb_mono G.le
    have hz := G.nz h0
    have hpos : 0 < (mkD false n 0).m := by
      rcases Nat.eq_zero_or_pos (mkD false n 0).m with h | h
      · obtain ⟨_, z, hz, _⟩ := hz
        rw [h, Nat.zero_mul] at hz
        omega
      · exact h
    have he : 0 ≤ (mkD false n 0).e := by rcases G.e1 with h | h <;> omega
    have he2 : (mkD false n 0).e ≤ 64 := by
      rcases G.e2 with h | h <;> omega
    refine ⟨⟨G.ok, G.plain, by omega, by omega, he2⟩, hz.1, hpos, he, by omega, ?_⟩
    rw [G.rv_eq, qv_false, tp_zero]
    grind
theorem mulI_rv {B : Int} {a c : DR} (ha : Tm 64 a) (hc : Tm B c) (hB : B ≤ 150000) (hB0 : 0 ≤ B) : rv (mulI a c) = rv a * rv c ∧ (mulI a c).ok = true ∧ (nb (mulI a c).m ≤ 1600 ∧ -(B + 64) ≤ (mulI a c).e ∧ (mulI a c).e + (nb (mulI a c).m : Int) ≤ B + 3300) ∧ plainV (mulI a c).neg (mulI a c).m (mulI a c).e = true := by
  have a1 := ha.b
  have a2 := ha.e1
  have a3 := ha.e2
  have b1 := hc.b
  have b2 := hc.e1
  have b3 := hc.e2
  have hm := nb_mul a.m c.m
  have G : Good (mulI a c) (a.neg != c.neg) (a.m * c.m) (a.e + c.e) := by
    unfold mulI mulD
    rw [ha.ok, hc.ok]
    exact mkD_good _ (by omega) (by omega) (by omega)
  have hn := nb_mono G.le
  refine ⟨?_, G.ok, ⟨by omega, ?_, ?_⟩, G.plain⟩
  · rw [G.rv_eq]
    unfold rv qv sgR
    rw [tp_add]
    cases a.neg <;> cases c.neg <;> simp <;> grind
  · rcases G.e1 with h | h
    · have := ((plainR_of G.plain).zero (G.z h).1).1; omega
    · omega
  · rcases G.e2 with h | h
    · have := ((plainR_of G.plain).zero h).1; omega
    · omega
section
variable {p B : Int} {r : SRes} {x y n : Rat} {d : DR} (hp1 : 1 ≤ p) (hp2 : p ≤ 700)
include hp1 hp2
/-- A quotient by an integer above 0. -/
theorem En.div (h : En B r x) (k : Pos d n) (h1 : r.lo.neg = false) (h2 : r.hi.neg = false) (hy : y * n = x) (hB : B ≤ 150000) (hB0 : 64 ≤ B) :
    En (B + 900) (divR p false r.lo r.hi d d) y ∧ (divR p false r.lo r.hi d d).lo.neg = false ∧ (divR p false r.lo r.hi d d).hi.neg = false ∧ rv (divR p false r.lo r.hi d d).hi * n ≤ 2 * rv r.hi := by
  have Q : ∀ (a : DR) (up : Bool), Tm B a → a.neg = false → _ := fun a up ta na => qN_rv (P := p.toNat) up (by omega) (by omega) ta k.t na k.neg k.m k.e k.b (by omega) (by omega)
  have q1 := Q r.lo false h.l h1
  have q2 := Q r.hi false h.h h2
  have q3 := Q r.lo true h.l h1
  have q4 := Q r.hi true h.h h2
  have O : ∀ (a : DR) (up : Bool), Tm B a → overI a d p up = qN a d p.toNat up := fun a up ta => overI_qN up ta.ok k.t.ok k.m (fitB_yes hp1 hp2)
  have n0 : 0 < n := by
    rw [← k.v]
    unfold rv
    rw [k.neg, qv_false]
    have : (0 : Rat) < (d.m : Rat) := Rat.natCast_pos.2 k.m
    exact Rat.mul_pos this (tp_pos _)
  rw [k.v] at q1 q2 q3 q4
  have hb : bad2 p false r.lo r.hi d d = false := by
    unfold bad2
    rw [right_tm h.l h.h h.le, right_tm k.t k.t Rat.le_refl, pBad_no hp1 hp2]
    rfl
  have hs : signI d d = 1 := by
    have hm := k.m
    unfold signI signS
    rw [right_tm k.t k.t Rat.le_refl, k.neg, if_neg (show ¬ d.m = 0 by omega)]
    rfl
  have F : ∀ j, j < 4 → (quo4 p false r.lo r.hi d d j = qN r.lo d p.toNat false ∨ quo4 p false r.lo r.hi d d j = qN r.hi d p.toNat false) ∧ (quo4 p true r.lo r.hi d d j = qN r.lo d p.toNat true ∨ quo4 p true r.lo r.hi d d j = qN r.hi d p.toNat true) := by
    intro j _
    unfold quo4 endL endR
    simp only [ite_self]
    split
    · exact ⟨.inl (O _ _ h.l), .inl (O _ _ h.l)⟩
    · exact ⟨.inr (O _ _ h.h), .inr (O _ _ h.h)⟩
  have U1 : ∀ j, j < 4 → Tm (B + 900) (quo4 p false r.lo r.hi d d j) := fun j hj => by
    rcases (F j hj).1 with e | e <;> rw [e]
    · exact q1.1
    · exact q2.1
  have U2 : ∀ j, j < 4 → Tm (B + 900) (quo4 p true r.lo r.hi d d j) := fun j hj => by
    rcases (F j hj).2 with e | e <;> rw [e]
    · exact q3.1
    · exact q4.1
  have o1 := ok4_of (fun j hj => (U1 j hj).ok)
  have o2 := ok4_of (fun j hj => (U2 j hj).ok)
  obtain ⟨⟨i, hi, ei⟩, L⟩ := pick4_low (g := -(B + 900)) (fun j hj => (U1 j hj).up (Int.le_refl _))
  obtain ⟨⟨i', hi', ei'⟩, H⟩ := pick4_high (g := -(B + 900)) (fun j hj => (U2 j hj).up (Int.le_refl _))
  have T1 := U1 i hi
  have T2 := U2 i' hi'
  rw [← ei] at T1
  rw [← ei'] at T2
  have l0 := (rv_le (.inr T1.e1) (.inr (U1 0 (by omega)).e1)).2 (L 0 (by omega))
  have h0 := (rv_le (.inr (U2 2 (by omega)).e1) (.inr T2.e1)).2 (H 2 (by omega))
  rw [show quo4 p false r.lo r.hi d d 0 = qN r.lo d p.toNat false from O _ _ h.l] at l0
  rw [show quo4 p true r.lo r.hi d d 2 = qN r.hi d p.toNat true from O _ _ h.h] at h0
  have m1 : (pick4 (quo4 p false r.lo r.hi d d) false).neg = false := by
    rw [ei]
    rcases (F i hi).1 with e | e <;> rw [e]
    · exact q1.2.1
    · exact q2.2.1
  have m2 : (pick4 (quo4 p true r.lo r.hi d d) true).neg = false ∧ rv (pick4 (quo4 p true r.lo r.hi d d) true) * n ≤ 2 * rv r.hi := by
    rw [ei']
    have hle := h.le
    have w1 := q3.2.2.2.2
    have w2 := q4.2.2.2.2
    rcases (F i' hi').2 with e | e <;> rw [e]
    · exact ⟨q3.2.1, by grind⟩
    · exact ⟨q4.2.1, w2⟩
  have hx1 := h.x1
  have hx2 := h.x2
  have y1 : rv (qN r.lo d p.toNat false) ≤ y := Rat.le_of_mul_le_mul_right (c := n) (by have := q1.2.2.1 rfl; grind) n0
  have y2 : y ≤ rv (qN r.hi d p.toNat true) := Rat.le_of_mul_le_mul_right (c := n) (by have := q4.2.2.2.1 rfl; grind) n0
  unfold divR
  rw [hb, hs, o1, o2]
  simp only [Bool.false_eq_true, if_false, Bool.and_self, if_true, show ¬ ((1 : Int) = 0) by decide]
  exact ⟨⟨rfl, T1, T2, Rat.le_trans l0 y1, Rat.le_trans y2 h0⟩, m1, m2⟩
/-- A product with an integer above 0. -/
theorem En.mul (h : En B r x) (k : Pos d n) (hB : B ≤ 150000) (hB0 : 64 ≤ B) : En (B + 3400) (mulR p false d d r.lo r.hi) (n * x) := by
  have n0 : 0 < n := by
    rw [← k.v]
    unfold rv
    rw [k.neg, qv_false]
    have : (0 : Rat) < (d.m : Rat) := Rat.natCast_pos.2 k.m
    exact Rat.mul_pos this (tp_pos _)
  have m1 := mulI_rv k.t h.l hB (by omega)
  have m2 := mulI_rv k.t h.h hB (by omega)
  have hb : bad2 p false d d r.lo r.hi = false := by
    unfold bad2
    rw [right_tm h.l h.h h.le, right_tm k.t k.t Rat.le_refl, pBad_no hp1 hp2]
    rfl
  have F : ∀ j, prod4 d d r.lo r.hi j = mulI d r.lo ∨ prod4 d d r.lo r.hi j = mulI d r.hi := by
    intro j
    unfold prod4 endL endR
    simp only [ite_self]
    split
    · exact .inl rfl
    · exact .inr rfl
  have U : ∀ j, j < 4 → Up (prod4 d d r.lo r.hi j) (-(B + 64)) := fun j _ => by
    rcases F j with e | e <;> rw [e]
    · exact ⟨m1.2.1, fun h0 => ((plainR_of m1.2.2.2).zero h0).2, m1.2.2.1.2.1⟩
    · exact ⟨m2.2.1, fun h0 => ((plainR_of m2.2.2.2).zero h0).2, m2.2.2.1.2.1⟩
  have o := ok4_of (fun j hj => (U j hj).ok)
  obtain ⟨⟨i, hi, ei⟩, L⟩ := pick4_low U
  obtain ⟨⟨i', hi', ei'⟩, H⟩ := pick4_high U
  have l0 := L 0 (by omega)
  have h0 := H 1 (by omega)
  have b1 : -(B + 64) ≤ (pick4 (prod4 d d r.lo r.hi) false).e ∧ (pick4 (prod4 d d r.lo r.hi) false).e + (nb (pick4 (prod4 d d r.lo r.hi) false).m : Int) ≤ B + 3300 ∧ (pick4 (prod4 d d r.lo r.hi) false).ok = true ∧ plainV (pick4 (prod4 d d r.lo r.hi) false).neg (pick4 (prod4 d d r.lo r.hi) false).m (pick4 (prod4 d d r.lo r.hi) false).e = true := by
    rw [ei]
    rcases F i with e | e <;> rw [e]
    · exact ⟨m1.2.2.1.2.1, m1.2.2.1.2.2, m1.2.1, m1.2.2.2⟩
    · exact ⟨m2.2.2.1.2.1, m2.2.2.1.2.2, m2.2.1, m2.2.2.2⟩
  have b2 : -(B + 64) ≤ (pick4 (prod4 d d r.lo r.hi) true).e ∧ (pick4 (prod4 d d r.lo r.hi) true).e + (nb (pick4 (prod4 d d r.lo r.hi) true).m : Int) ≤ B + 3300 ∧ (pick4 (prod4 d d r.lo r.hi) true).ok = true ∧ plainV (pick4 (prod4 d d r.lo r.hi) true).neg (pick4 (prod4 d d r.lo r.hi) true).m (pick4 (prod4 d d r.lo r.hi) true).e = true := by
    rw [ei']
    rcases F i' with e | e <;> rw [e]
    · exact ⟨m1.2.2.1.2.1, m1.2.2.1.2.2, m1.2.1, m1.2.2.2⟩
    · exact ⟨m2.2.2.1.2.1, m2.2.2.1.2.2, m2.2.1, m2.2.2.2⟩
  have l1 := (rv_le (.inr b1.1) (.inr (U 0 (by omega)).e)).2 l0
  have h1 := (rv_le (.inr (U 1 (by omega)).e) (.inr b2.1)).2 h0
  have lh := (rv_le (.inr b1.1) (.inr b2.1)).1 (by
    have hh := (rv_le (.inr (U 0 (by omega)).e) (.inr b2.1)).2 (H 0 (by omega))
    exact Rat.le_trans l1 hh)
  rw [show prod4 d d r.lo r.hi 0 = mulI d r.lo from rfl, m1.1, k.v] at l1
  rw [show prod4 d d r.lo r.hi 1 = mulI d r.hi from rfl, m2.1, k.v] at h1
  unfold mulR outS twoS keepS cutI cutP
  rw [hb, o]
  generalize pick4 (prod4 d d r.lo r.hi) false = u at *
  generalize pick4 (prod4 d d r.lo r.hi) true = v at *
  have hr : bad1 p false u v = false := by
    have := ord_le (g := -(B + 64)) (fun h0 => ((plainR_of b1.2.2.2).zero h0).2) (fun h0 => ((plainR_of b2.2.2.2).zero h0).2) (.inr b1.1) (.inr b2.1) lh
    unfold bad1 rightI rightB
    rw [b1.2.2.1, b2.2.2.1, pBad_no hp1 hp2, decide_eq_true this]
    rfl
  have c1 := cut_rv (neg := u.neg) (V := u.m) (e := u.e) (B := B + 3300) (P := p.toNat) false (by omega) (by omega) (by omega) (by omega) (by omega)
  have c2 := cut_rv (neg := v.neg) (V := v.m) (e := v.e) (B := B + 3300) (P := p.toNat) true (by omega) (by omega) (by omega) (by omega) (by omega)
  have g1 := c1.2.1 rfl
  have g2 := c2.2.2 rfl
  change _ ≤ rv u at g1
  change rv v ≤ _ at g2
  rw [hr, b1.2.2.1, b2.2.2.1, fitB_yes hp1 hp2]
  simp only [Bool.false_eq_true, if_false, Bool.and_self, if_true]
  rw [c1.1.ok, c2.1.ok]
  simp only [Bool.and_self, if_true]
  have x1 := Rat.mul_le_mul_of_nonneg_left h.x1 (Rat.le_of_lt n0)
  have x2 := Rat.mul_le_mul_of_nonneg_left h.x2 (Rat.le_of_lt n0)
  exact ⟨rfl, c1.1.more (by omega), c2.1.more (by omega), by show rv _ ≤ _; grind, by show _ ≤ rv _; grind⟩
/-- What Around answers. -/
theorem around_en {size : Int} (hs : size ≤ 10000) (h1 : y ≤ tp size) (h2 : -y ≤ tp size) : En 20000 (aroundR p false size) y := by
  obtain ⟨k, hk⟩ : ∃ k, k = max size (-p - 64) := ⟨_, rfl⟩
  have k1 : -800 ≤ k := by omega
  have k2 : k ≤ 10000 := by omega
  have hz := tp_mono (show size ≤ k by omega)
  have M1 : mkD false 1 k = ⟨true, false, 1, k⟩ := mkD_plain (by decide) (by decide +kernel) ⟨by omega, by omega⟩
  have M0 : mkD false 1 0 = ⟨true, false, 1, 0⟩ := mkD_plain (by decide) (by decide +kernel) (by decide)
  have T1 : ∀ {z : Int}, -800 ≤ z → z ≤ 10000 → ∀ ng, Tm 20000 ⟨true, ng, 1, z⟩ := fun {z} a b ng => by
    refine ⟨rfl, ?_, by show nb 1 ≤ 800; decide +kernel, by show (-20000 : Int) ≤ z; omega, by show z ≤ 20000; omega⟩
    have f : fitE z := ⟨by omega, by omega⟩
    unfold plainV
    simp only [show ¬ ((1 : Nat) = 0) by decide, if_false, show nb 1 ≤ MB by decide +kernel, f, decide_true, Bool.and_true]
  have n1 : numS p false 1 = ⟨false, ⟨true, false, 1, 0⟩, ⟨true, false, 1, 0⟩⟩ := by
    have t := T1 (z := 0) (by omega) (by omega) false
    unfold numS ptI ptS bad1
    rw [show decide ((1 : Int) < 0) = false from rfl, show (1 : Int).natAbs = 1 from rfl, M0, right_tm t t Rat.le_refl, pBad_no hp1 hp2]
    rfl
  have n2 : oneR p false size = ⟨false, ⟨true, false, 1, k⟩, ⟨true, false, 1, k⟩⟩ := by
    have t := T1 (z := 0) (by omega) (by omega) false
    unfold oneR
    rw [n1, ← hk]
    unfold scaleS twoS keepS bad1 kBad
    rw [right_tm t t Rat.le_refl, pBad_no hp1 hp2]
    simp only [Int.zero_add, M1]
    rw [show decide (k < -262144) = false by simp; omega, show decide (262144 < k) = false by simp; omega]
    rfl
  have tk := T1 k1 k2 false
  have tn := T1 k1 k2 true
  have n3 : negS p false (⟨true, false, 1, k⟩ : DR) ⟨true, false, 1, k⟩ = ⟨false, ⟨true, true, 1, k⟩, ⟨true, true, 1, k⟩⟩ := by
    rw [negS_ok hp1 (by omega) (rightF_of (right_tm tk tk Rat.le_refl)) tk.p tk.p]
    rfl
  have b1 : belowI (⟨true, false, 1, k⟩ : DR) ⟨true, true, 1, k⟩ = false := rfl
  have b2 : belowI (⟨true, true, 1, k⟩ : DR) ⟨true, false, 1, k⟩ = true := rfl
  have n4 : aroundR p false size = ⟨false, ⟨true, true, 1, k⟩, ⟨true, false, 1, k⟩⟩ := by
    unfold aroundR
    rw [n2, n3]
    unfold hullS bad2
    rw [right_tm tk tk Rat.le_refl, right_tm tn tn Rat.le_refl, pBad_no hp1 hp2, b1, b2]
    rfl
  have v1 : rv ⟨true, false, 1, k⟩ = tp k := by
    unfold rv
    show ((1 : Nat) : Rat) * tp k = tp k
    have : ((1 : Nat) : Rat) = 1 := rfl
    rw [this]; grind
  have v2 : rv ⟨true, true, 1, k⟩ = - tp k := by
    unfold rv
    show -(((1 : Nat) : Rat) * tp k) = - tp k
    have : ((1 : Nat) : Rat) = 1 := rfl
    rw [this]; grind
  rw [n4]
  exact ⟨rfl, tn, tk, by show rv ⟨true, true, 1, k⟩ ≤ y; rw [v2]; grind, by show y ≤ rv ⟨true, false, 1, k⟩; rw [v1]; grind⟩
end
end Go.Proofs.YtodjldhppbbhdaaGreatDoor

namespace Go.Proofs.YtodjldhppbbhdaaGreatDoor
open Go.RowKit

theorem tp_le {a b : Int} (h : tp a ≤ tp b) : a ≤ b := by
  rcases Int.lt_or_le b a with h1 | h1
  · exfalso
    have h2 := tp_mono (show b + 1 ≤ a by omega)
    rw [tp_add, show tp 1 = 2 from rfl] at h2
    have := tp_pos b
    grind
  · exact h1
/-- 1 over n to the 2 j + 1; a part of the series; their sum. -/
def uR (n : Nat) : Nat → Rat
  | 0 => (n : Rat)⁻¹
  | j + 1 => uR n j * ((n : Rat) * n)⁻¹
def pR (n : Nat) (minus : Bool) (j : Nat) : Rat := sgR (minus && decide (j % 2 = 1)) (uR n j * ((2 * j + 1 : Nat) : Rat)⁻¹)
def sumR (n : Nat) (minus : Bool) : Nat → Rat
  | 0 => uR n 0
  | j + 1 => sumR n minus j + pR n minus (j + 1)
theorem odd_inv (j : Nat) : (0 : Rat) ≤ ((2 * j + 1 : Nat) : Rat)⁻¹ ∧ ((2 * j + 1 : Nat) : Rat)⁻¹ * ((2 * j + 1 : Nat) : Rat) = 1 ∧ ((2 * j + 1 : Nat) : Rat)⁻¹ ≤ 1 := by
  have h1 : (1 : Rat) ≤ ((2 * j + 1 : Nat) : Rat) := by exact_mod_cast (show 1 ≤ 2 * j + 1 by omega)
  have h2 : (0 : Rat) < ((2 * j + 1 : Nat) : Rat) := by grind
  have h3 := Rat.inv_pos.2 h2
  have h4 := Rat.inv_mul_cancel _ (show ((2 * j + 1 : Nat) : Rat) ≠ 0 by grind)
  have h5 := Rat.mul_le_mul_of_nonneg_left h1 (Rat.le_of_lt h3)
  exact ⟨Rat.le_of_lt h3, h4, by grind⟩
section
variable {n : Nat} (hn : 18 ≤ n)
include hn
theorem n_pos : (18 : Rat) ≤ (n : Rat) ∧ (0 : Rat) < (n : Rat) ∧ (324 : Rat) ≤ (n : Rat) * n ∧ (n : Rat) ≠ 0 ∧ (n : Rat) * n ≠ 0 := by
  have h1 : (18 : Rat) ≤ (n : Rat) := by exact_mod_cast hn
  have h2 : (324 : Rat) ≤ (n : Rat) * n := by
    have a := Rat.mul_le_mul_of_nonneg_left h1 (show (0 : Rat) ≤ 18 by decide)
    have b := Rat.mul_le_mul_of_nonneg_right h1 (show (0 : Rat) ≤ (n : Rat) by grind)
    grind
  refine ⟨h1, by grind, h2, by grind, by grind⟩
theorem uR_step (j : Nat) : uR n (j + 1) * ((n : Rat) * n) = uR n j := by
  obtain ⟨_, _, _, _, h⟩ := n_pos hn
  have := Rat.inv_mul_cancel _ h
  show uR n j * ((n : Rat) * n)⁻¹ * ((n : Rat) * n) = uR n j
  rw [Rat.mul_assoc, this, Rat.mul_one]
theorem uR_pos : ∀ j, 0 < uR n j
  | 0 => by
    obtain ⟨_, h, _⟩ := n_pos hn
    exact Rat.inv_pos.2 h
  | j + 1 => by
    obtain ⟨_, h, _⟩ := n_pos hn
    exact Rat.mul_pos (uR_pos j) (Rat.inv_pos.2 (Rat.mul_pos h h))
theorem uR_half (j : Nat) : 2 * uR n (j + 1) ≤ uR n j := by
  obtain ⟨_, _, h, _⟩ := n_pos hn
  have h1 := uR_step hn j
  have h2 := Rat.mul_le_mul_of_nonneg_left h (Rat.le_of_lt (uR_pos hn (j + 1)))
  have h3 := uR_pos hn (j + 1)
  grind
theorem pR_abs (minus : Bool) (j : Nat) : pR n minus j ≤ uR n j ∧ - pR n minus j ≤ uR n j := by
  obtain ⟨h1, _, h3⟩ := odd_inv j
  have h4 := uR_pos hn j
  have h5 := Rat.mul_le_mul_of_nonneg_left h3 (Rat.le_of_lt h4)
  have h6 := Rat.mul_nonneg (Rat.le_of_lt h4) h1
  unfold pR sgR
  split <;> constructor <;> grind
/-- What comes behind the K-th term is less than that. -/
theorem tail_le (minus : Bool) (K : Nat) : ∀ M, sumR n minus (K + M) - sumR n minus K ≤ uR n K - uR n (K + M) ∧ sumR n minus K - sumR n minus (K + M) ≤ uR n K - uR n (K + M)
  | 0 => by
    rw [Nat.add_zero]
    constructor <;> grind
  | M + 1 => by
    obtain ⟨h1, h2⟩ := tail_le minus K M
    obtain ⟨h3, h4⟩ := pR_abs hn minus (K + M + 1)
    have h5 := uR_half hn (K + M)
    have h6 : sumR n minus (K + (M + 1)) = sumR n minus (K + M) + pR n minus (K + M + 1) := rfl
    rw [h6, ← Nat.add_assoc]
    constructor <;> grind
end

/-- The numbers behind j rounds. -/
structure IQ (n : Nat) (minus : Bool) (j : Nat) (v : TS) : Prop where
  t : En (64 + 900 * ((j : Int) + 1)) v.t (uR n j)
  tl : v.t.lo.neg = false
  th : v.t.hi.neg = false
  cap : rv v.t.hi ≤ tp (-3 - 7 * (j : Int))
  s : En (64 + 900 * ((j : Int) + 4)) v.s (sumR n minus j)
theorem Pos.en {d : DR} {n : Rat} (h : Pos d n) : En 64 ⟨false, d, d⟩ n := ⟨rfl, h.t, h.t, by show rv d ≤ n; rw [h.v]; exact Rat.le_refl, by show n ≤ rv d; rw [h.v]; exact Rat.le_refl⟩
section
variable {p : Int} {n : Nat} {minus : Bool} (hp1 : 1 ≤ p) (hp2 : p ≤ 700) (hn : 18 ≤ n) (hb : nb (n * n) ≤ 64)
include hp1 hp2 hn hb
theorem iq_start : (invSq p false (n : Int)).bad = false ∧ (∃ d, invSq p false (n : Int) = ⟨false, d, d⟩ ∧ Pos d ((n : Rat) * n)) ∧ IQ n minus 0 (invV p false (n : Int)) := by
  obtain ⟨h1, h2, h3, h4, h5⟩ := n_pos hn
  obtain ⟨d1, e1, P1⟩ := num_pos (n := 1) hp1 hp2 (by omega) (by decide +kernel)
  have hnn : n * 1 ≤ n * n := Nat.mul_le_mul_left n (by omega)
  obtain ⟨dn, en, Pn⟩ := num_pos (n := n) hp1 hp2 (by omega) (by have := nb_mono hnn; rw [Nat.mul_one] at this; omega)
  obtain ⟨dq, eq, Pq⟩ := num_pos (n := n * n) hp1 hp2 (Nat.mul_pos (by omega) (by omega)) hb
  have e1' : numS p false 1 = ⟨false, d1, d1⟩ := e1
  have D := P1.en.div hp1 hp2 Pn P1.neg P1.neg (y := (n : Rat)⁻¹) (by rw [Rat.inv_mul_cancel _ h4]; rfl) (by omega) (by omega)
  have eF : invFirst p false (n : Int) = divR p false d1 d1 dn dn := by
    unfold invFirst
    rw [e1']
    dsimp only
    rw [en]
  have eQ : invSq p false (n : Int) = ⟨false, dq, dq⟩ := by
    unfold invSq
    rw [eF, D.1.bad]
    have : (n : Int) * (n : Int) = ((n * n : Nat) : Int) := by push_cast; rfl
    rw [this, eq]
  have hq : ((n * n : Nat) : Rat) = (n : Rat) * n := by push_cast; rfl
  rw [hq] at Pq
  refine ⟨by rw [eQ], ⟨dq, eQ, Pq⟩, ?_⟩
  have eV : invV p false (n : Int) = ⟨divR p false d1 d1 dn dn, ⟨false, (divR p false d1 d1 dn dn).lo, (divR p false d1 d1 dn dn).hi⟩⟩ := by
    unfold invV
    rw [eF, eQ]
  rw [eV]
  refine ⟨D.1.more (by omega), D.2.1, D.2.2.1, ?_, ?_⟩
  · have c := D.2.2.2
    have v1 : rv d1 = 1 := P1.v
    have hz := rv_nonneg D.2.2.1
    show rv (divR p false d1 d1 dn dn).hi ≤ tp (-3 - 7 * ((0 : Nat) : Int))
    change rv (divR p false d1 d1 dn dn).hi * (n : Rat) ≤ 2 * rv d1 at c
    change 0 ≤ rv (divR p false d1 d1 dn dn).hi at hz
    generalize rv (divR p false d1 d1 dn dn).hi = z at *
    have h6 := Rat.mul_le_mul_of_nonneg_left h1 hz
    have h7 := tp_add (-3) 3
    rw [show (-3 : Int) + 3 = 0 from rfl, tp_zero, show tp 3 = 8 from rfl] at h7
    rw [show (-3 - 7 * ((0 : Nat) : Int)) = -3 from rfl]
    grind
  · refine En.more (B := 64 + 900) ⟨rfl, D.1.l, D.1.h, D.1.x1, D.1.x2⟩ (by omega)
end
section
variable {p : Int} {n : Nat} {minus : Bool} (hp1 : 1 ≤ p) (hp2 : p ≤ 700) (hn : 18 ≤ n)
include hp1 hp2 hn
theorem iq_step {j : Nat} {v : TS} {d : DR} (hj : j ≤ 120) (k : Pos d ((n : Rat) * n)) (h : IQ n minus j v) : IQ n minus (j + 1) (invStep p ⟨false, d, d⟩ minus (j + 1) v) := by
  obtain ⟨t, tl, th, cap, s⟩ := h
  obtain ⟨_, _, h3, _⟩ := n_pos hn
  have hu := uR_pos hn (j + 1)
  have T := t.div hp1 hp2 k tl th (y := uR n (j + 1)) (uR_step hn j) (by omega) (by omega)
  have eT : invTerm p ⟨false, d, d⟩ v = divR p false v.t.lo v.t.hi d d := by unfold invTerm; rw [s.bad]
  obtain ⟨dk, ek, Pk⟩ := num_pos (n := 2 * (j + 1) + 1) hp1 hp2 (by omega) (by
    have : 2 * (j + 1) + 1 < 2 ^ 64 := by omega
    exact (nb_le_iff _ _).2 this)
  have o := odd_inv (j + 1)
  have Q := T.1.div hp1 hp2 Pk T.2.1 T.2.2.1 (y := uR n (j + 1) * ((2 * (j + 1) + 1 : Nat) : Rat)⁻¹) (by rw [Rat.mul_assoc, o.2.1, Rat.mul_one]) (by omega) (by omega)
  have eP : invPart p ⟨false, d, d⟩ (j + 1) v = divR p false (divR p false v.t.lo v.t.hi d d).lo (divR p false v.t.lo v.t.hi d d).hi dk dk := by
    unfold invPart
    rw [eT, T.1.bad]
    have : 2 * ((j + 1 : Nat) : Int) + 1 = ((2 * (j + 1) + 1 : Nat) : Int) := by omega
    rw [this, ek]
  generalize divR p false v.t.lo v.t.hi d d = T' at *
  generalize divR p false T'.lo T'.hi dk dk = Q' at *
  have eU : En (64 + 900 * ((j : Int) + 1) + 900 + 900) (invTurn p ⟨false, d, d⟩ minus (j + 1) v) (pR n minus (j + 1)) := by
    unfold invTurn pR sgR
    rw [eP]
    split
    · rw [Q.1.bad]; exact Q.1.neg hp1 hp2 (by omega)
    · exact Q.1
  unfold invStep
  rw [eT]
  refine ⟨T.1.more (by omega), T.2.1, T.2.2.1, ?_, ?_⟩
  · have c := T.2.2.2
    have hz := rv_nonneg T.2.2.1
    show rv T'.hi ≤ _
    change 0 ≤ rv T'.hi at hz
    generalize rv T'.hi = z at *
    have h6 := Rat.mul_le_mul_of_nonneg_left h3 hz
    have h7 := tp_add (-3 - 7 * ((j + 1 : Nat) : Int)) 7
    rw [show -3 - 7 * ((j + 1 : Nat) : Int) + 7 = -3 - 7 * (j : Int) by omega, show tp 7 = 128 from rfl] at h7
    grind
  · have := (s.add hp1 hp2 (eU.more (by omega)) (by omega) (by omega)).more (B' := 64 + 900 * (((j + 1 : Nat) : Int) + 4)) (by omega)
    rw [eU.bad]
    exact this
end
section
variable {p : Int} {n : Nat} {minus : Bool} (hp1 : 1 ≤ p) (hp2 : p ≤ 700) (hn : 18 ≤ n) (hb : nb (n * n) ≤ 64)
include hp1 hp2 hn hb
theorem iq_all : ∀ j, j ≤ 120 → IQ n minus j (invAt p false (n : Int) minus j)
  | 0, _ => (iq_start hp1 hp2 hn hb).2.2
  | j + 1, h => by
    obtain ⟨d, e, k⟩ := (iq_start (minus := minus) hp1 hp2 hn hb).2.1
    have := iq_step hp1 hp2 hn (by omega) k (iq_all j (by omega))
    show IQ n minus (j + 1) (invStep p (invSq p false (n : Int)) minus (j + 1) (invAt p false (n : Int) minus j))
    rw [e]
    exact this
end
theorem top_gt {r : DR} (h : r.neg = false) : rv r ≤ tp (topI r) := by
  unfold rv topI
  rw [h, qv_false, tp_add, tp_nat]
  have := nat_le (Nat.le_of_lt (nb_lt r.m))
  exact Rat.mul_le_mul_of_nonneg_right this (Rat.le_of_lt (tp_pos _))
theorem top_le {r : DR} (h : r.neg = false) (h0 : r.m ≠ 0) : tp (topI r - 1) ≤ rv r := by
  have hp := nb_pos (show 0 < r.m by omega)
  unfold rv topI
  rw [h, qv_false, show (nb r.m : Int) + r.e - 1 = ((nb r.m - 1 : Nat) : Int) + r.e by omega, tp_add, tp_nat]
  have := nat_le (nb_ge (show 0 < r.m by omega))
  exact Rat.mul_le_mul_of_nonneg_right this (Rat.le_of_lt (tp_pos _))
theorem size_le {lo hi : DR} {t : Int} (h1 : lo.neg = false) (h2 : hi.neg = false) (h : rv lo ≤ rv hi) (hc : rv hi ≤ tp t) (ht : -100000 ≤ t) : sizeI lo hi ≤ t + 1 := by
  have a : lo.m ≠ 0 → topI lo ≤ t + 1 := fun h0 => by
    have := tp_le (Rat.le_trans (top_le h1 h0) (Rat.le_trans h hc))
    omega
  have b : hi.m ≠ 0 → topI hi ≤ t + 1 := fun h0 => by
    have := tp_le (Rat.le_trans (top_le h2 h0) hc)
    omega
  unfold sizeI
  split
  · split
    · omega
    · have := a (by assumption); omega
  · have := b (by assumption)
    split
    · omega
    · have := a (by assumption); omega
theorem size_ge {lo hi : DR} (h0 : hi.m ≠ 0) : topI hi ≤ sizeI lo hi := by
  unfold sizeI
  rw [if_neg h0]
  omega
/-- Where a run of trues ends. -/
theorem first_no (f : Nat → Bool) : ∀ N, f N = false → ∃ K, K ≤ N ∧ f K = false ∧ ∀ j, j < K → f j = true := by
  intro N
  induction N using Nat.strongRecOn with
  | _ N ih =>
    intro h
    by_cases hex : ∃ j, j < N ∧ f j = false
    · obtain ⟨j, hj, hf⟩ := hex
      obtain ⟨K, h1, h2, h3⟩ := ih j hj hf
      exact ⟨K, by omega, h2, h3⟩
    · refine ⟨N, Nat.le_refl _, h, fun j hj => ?_⟩
      cases hf : f j
      · exact absurd ⟨j, hj, hf⟩ hex
      · rfl
section
variable {p : Int} {n : Nat} {minus : Bool} (hp1 : 1 ≤ p) (hp2 : p ≤ 700) (hn : 18 ≤ n) (hb : nb (n * n) ≤ 64)
include hp1 hp2 hn hb
/-- Inverse's loop ends, and its answer holds the series' sum. -/
theorem inverse_en : ∃ K, LoopEnds p false (n : Int) minus K ∧ En 112000 (inverseR p false (n : Int) minus K) (sumR n minus 150) := by
  have hgo : invGo p (invAt p false (n : Int) minus 110) = false := by
    obtain ⟨t, tl, th, cap, s⟩ := iq_all (minus := minus) hp1 hp2 hn hb 110 (by omega)
    have := size_le tl th t.le cap (by omega)
    unfold invGo
    rw [decide_eq_false (by omega)]
    rfl
  obtain ⟨K, hK, hf, hall⟩ := first_no (fun j => invGo p (invAt p false (n : Int) minus j)) 110 hgo
  refine ⟨K, ⟨by omega, hf, hall⟩, ?_⟩
  obtain ⟨t, tl, th, cap, s⟩ := iq_all (minus := minus) hp1 hp2 hn hb K (by omega)
  unfold inverseR
  generalize invAt p false (n : Int) minus K = v at *
  have hu := uR_pos hn K
  have hm : v.t.hi.m ≠ 0 := fun h0 => by
    have h2 := t.x2
    have : rv v.t.hi = 0 := by unfold rv; rw [h0, qv_zero]
    grind
  have h1 := top_gt th
  have h2 := tp_mono (show topI v.t.hi ≤ sizeI v.t.lo v.t.hi + 1 by have := size_ge (lo := v.t.lo) hm; omega)
  have h3 := size_le tl th t.le cap (by omega)
  obtain ⟨M, hM⟩ : ∃ M, 150 = K + M := ⟨150 - K, by omega⟩
  have h4 := tail_le hn minus K M
  have h5 := uR_pos hn (K + M)
  rw [← hM] at h4 h5
  have h6 := t.x2
  have A := around_en (p := p) (size := sizeI v.t.lo v.t.hi + 1) (y := sumR n minus 150 - sumR n minus K) hp1 hp2 (by omega) (by grind) (by grind)
  have := (s.more (B' := 110000) (by omega)).add hp1 hp2 (A.more (B' := 110000) (by omega)) (by omega) (by omega)
  rw [show sumR n minus K + (sumR n minus 150 - sumR n minus K) = sumR n minus 150 by grind] at this
  rw [s.bad, A.bad]
  exact this.more (by omega)
end
section
variable {p : Int} {n tm : Nat} {minus : Bool} (hp1 : 1 ≤ p) (hp2 : p ≤ 700) (hn : 18 ≤ n) (hb : nb (n * n) ≤ 64) (ht : 0 < tm) (htb : nb tm ≤ 64)
include hp1 hp2 hn hb ht htb
theorem part_en : (numS p false (tm : Int)).bad = false ∧ ∃ K, LoopEnds p false (n : Int) minus K ∧ En 116000 (partR p false (tm : Int) (n : Int) minus K) ((tm : Rat) * sumR n minus 150) := by
  obtain ⟨d, e, k⟩ := num_pos (n := tm) hp1 hp2 ht htb
  obtain ⟨K, h1, h2⟩ := inverse_en (minus := minus) hp1 hp2 hn hb
  refine ⟨by rw [e], K, h1, ?_⟩
  unfold partR
  rw [e]
  dsimp only
  rw [h2.bad]
  exact (h2.mul hp1 hp2 k (by omega) (by omega)).more (by omega)
end
/-- The numbers that both sides hold. -/
def piQ : Rat := 48 * sumR 18 true 150 + 32 * sumR 57 true 150 - 20 * sumR 239 true 150
def lnQ : Rat := 18 * sumR 26 false 150 - 2 * sumR 4801 false 150 + 8 * sumR 8749 false 150
theorem rpi_en {p : Int} (hp1 : 1 ≤ p) (hp2 : p ≤ 700) : ∃ M0 M1 M2, LoopEnds p (numS p false 48).bad 18 true M0 ∧ LoopEnds p (numS p (partR p false 48 18 true M0).bad 32).bad 57 true M1 ∧
    LoopEnds p (numS p (partR p (partR p false 48 18 true M0).bad 32 57 true M1).bad 20).bad 239 true M2 ∧ En 120000 (rpiR p false M0 M1 M2) piQ := by
  obtain ⟨b0, M0, l0, e0⟩ := part_en (p := p) (n := 18) (tm := 48) (minus := true) hp1 hp2 (by omega) (by decide +kernel) (by omega) (by decide +kernel)
  obtain ⟨b1, M1, l1, e1⟩ := part_en (p := p) (n := 57) (tm := 32) (minus := true) hp1 hp2 (by omega) (by decide +kernel) (by omega) (by decide +kernel)
  obtain ⟨b2, M2, l2, e2⟩ := part_en (p := p) (n := 239) (tm := 20) (minus := true) hp1 hp2 (by omega) (by decide +kernel) (by omega) (by decide +kernel)
  change (numS p false 48).bad = false at b0
  change (numS p false 32).bad = false at b1
  change (numS p false 20).bad = false at b2
  change LoopEnds p false 18 true M0 at l0
  change LoopEnds p false 57 true M1 at l1
  change LoopEnds p false 239 true M2 at l2
  change En 116000 (partR p false 48 18 true M0) _ at e0
  change En 116000 (partR p false 32 57 true M1) _ at e1
  change En 116000 (partR p false 20 239 true M2) _ at e2
  refine ⟨M0, M1, M2, by rw [b0]; exact l0, by rw [e0.bad, b1]; exact l1, by rw [e0.bad, e1.bad, b2]; exact l2, ?_⟩
  have a := e0.add hp1 hp2 e1 (by omega) (by omega)
  have s := a.sub hp1 hp2 (e2.more (by omega)) (by omega) (by omega)
  unfold rpiR
  dsimp only
  rw [e0.bad, e1.bad, e2.bad, a.bad]
  refine En.more (B := 116000 + 900 + 900) ?_ (by omega)
  exact s
theorem rln_en {p : Int} (hp1 : 1 ≤ p) (hp2 : p ≤ 700) : ∃ M0 M1 M2, LoopEnds p (numS p false 18).bad 26 false M0 ∧ LoopEnds p (numS p (partR p false 18 26 false M0).bad 2).bad 4801 false M1 ∧
    LoopEnds p (numS p (partR p (partR p false 18 26 false M0).bad 2 4801 false M1).bad 8).bad 8749 false M2 ∧ En 120000 (rlnR p false M0 M1 M2) lnQ := by
  obtain ⟨b0, M0, l0, e0⟩ := part_en (p := p) (n := 26) (tm := 18) (minus := false) hp1 hp2 (by omega) (by decide +kernel) (by omega) (by decide +kernel)
  obtain ⟨b1, M1, l1, e1⟩ := part_en (p := p) (n := 4801) (tm := 2) (minus := false) hp1 hp2 (by omega) (by decide +kernel) (by omega) (by decide +kernel)
  obtain ⟨b2, M2, l2, e2⟩ := part_en (p := p) (n := 8749) (tm := 8) (minus := false) hp1 hp2 (by omega) (by decide +kernel) (by omega) (by decide +kernel)
  change (numS p false 18).bad = false at b0
  change (numS p false 2).bad = false at b1
  change (numS p false 8).bad = false at b2
  change LoopEnds p false 26 false M0 at l0
  change LoopEnds p false 4801 false M1 at l1
  change LoopEnds p false 8749 false M2 at l2
  change En 116000 (partR p false 18 26 false M0) _ at e0
  change En 116000 (partR p false 2 4801 false M1) _ at e1
  change En 116000 (partR p false 8 8749 false M2) _ at e2
  refine ⟨M0, M1, M2, by rw [b0]; exact l0, by rw [e0.bad, b1]; exact l1, by rw [e0.bad, e1.bad, b2]; exact l2, ?_⟩
  have a := e0.sub hp1 hp2 e1 (by omega) (by omega)
  have s := a.add hp1 hp2 (e2.more (by omega)) (by omega) (by omega)
  unfold rlnR
  dsimp only
  rw [e0.bad, e1.bad, e2.bad, a.bad]
  refine En.more (B := 116000 + 900 + 900) ?_ (by omega)
  exact s

/-- The series' sum in units of 2 to the -B, from below and from above. -/
def dN (n j : Nat) : Nat := (2 * j + 1) * n ^ (2 * j + 1)
def tN (B n j : Nat) : Nat := 2 ^ B / dN n j
def loN (B n : Nat) (minus : Bool) : Nat → Int
  | 0 => (tN B n 0 : Int)
  | j + 1 => loN B n minus j + (if minus && decide ((j + 1) % 2 = 1) then -((tN B n (j + 1) : Int) + 1) else (tN B n (j + 1) : Int))
def hiN (B n : Nat) (minus : Bool) : Nat → Int
  | 0 => (tN B n 0 : Int) + 1
  | j + 1 => hiN B n minus j + (if minus && decide ((j + 1) % 2 = 1) then -(tN B n (j + 1) : Int) else (tN B n (j + 1) : Int) + 1)
section
variable {n : Nat} (hn : 18 ≤ n)
include hn
theorem uR_pow : ∀ j, uR n j * ((n ^ (2 * j + 1) : Nat) : Rat) = 1
  | 0 => by
    obtain ⟨_, _, _, h, _⟩ := n_pos hn
    have := Rat.inv_mul_cancel _ h
    simpa [uR] using this
  | j + 1 => by
    have h := uR_pow j
    have h2 := uR_step hn j
    rw [show 2 * (j + 1) + 1 = 2 * j + 1 + 1 + 1 by omega, Nat.pow_succ, Nat.pow_succ]
    push_cast at h ⊢
    grind
theorem part_mul (j : Nat) : uR n j * ((2 * j + 1 : Nat) : Rat)⁻¹ * (dN n j : Rat) = 1 := by
  have h := uR_pow hn j
  have o := odd_inv j
  unfold dN
  push_cast at h o ⊢
  grind
theorem tN_is (B j : Nat) : ((tN B n j : Nat) : Rat) ≤ tp (B : Int) * (uR n j * ((2 * j + 1 : Nat) : Rat)⁻¹) ∧ tp (B : Int) * (uR n j * ((2 * j + 1 : Nat) : Rat)⁻¹) ≤ ((tN B n j : Nat) : Rat) + 1 := by
  have hd : 0 < dN n j := Nat.mul_pos (by omega) (Nat.pow_pos (by omega))
  have hd' : (0 : Rat) < (dN n j : Rat) := Rat.natCast_pos.2 hd
  have h1 := nat_le (show tN B n j * dN n j ≤ 2 ^ B from Nat.div_mul_le_self _ _)
  have h2 := nat_le (show 2 ^ B ≤ (tN B n j + 1) * dN n j from by
    have := Nat.lt_mul_div_succ (2 ^ B) hd
    rw [Nat.mul_comm] at this
    exact Nat.le_of_lt this)
  rw [← tp_nat] at h1 h2
  have h3 := part_mul hn j
  generalize uR n j * ((2 * j + 1 : Nat) : Rat)⁻¹ = x at *
  have e : tp (B : Int) = tp (B : Int) * x * (dN n j : Rat) := by grind
  rw [e] at h1 h2
  push_cast at h1 h2
  exact ⟨Rat.le_of_mul_le_mul_right h1 hd', Rat.le_of_mul_le_mul_right h2 hd'⟩
theorem sum_lo (B : Nat) (minus : Bool) : ∀ j, ((loN B n minus j : Int) : Rat) ≤ tp (B : Int) * sumR n minus j ∧ tp (B : Int) * sumR n minus j ≤ ((hiN B n minus j : Int) : Rat)
  | 0 => by
    have h := tN_is hn B 0
    have o := (odd_inv 0).2.1
    rw [show ((2 * 0 + 1 : Nat) : Rat) = 1 from rfl, Rat.mul_one] at o
    rw [show ((2 * 0 + 1 : Nat) : Rat) = 1 from rfl, o, Rat.mul_one] at h
    unfold loN hiN sumR
    push_cast
    exact h
  | j + 1 => by
    obtain ⟨h1, h2⟩ := sum_lo B minus j
    obtain ⟨h3, h4⟩ := tN_is hn B (j + 1)
    unfold loN hiN sumR pR sgR
    split
    · push_cast at *
      constructor <;> grind
    · push_cast at *
      constructor <;> grind
end
def BB : Nat := 1100
theorem pi_lo : ((piX * 2 ^ 100 : Nat) : Int) ≤ 48 * loN BB 18 true 150 + 32 * loN BB 57 true 150 - 20 * hiN BB 239 true 150 := by decide +kernel
theorem pi_hi : 48 * hiN BB 18 true 150 + 32 * hiN BB 57 true 150 - 20 * loN BB 239 true 150 ≤ (((piX + 1) * 2 ^ 100 : Nat) : Int) := by decide +kernel
theorem ln_lo : ((lnX * 2 ^ 100 : Nat) : Int) ≤ 18 * loN BB 26 false 150 - 2 * hiN BB 4801 false 150 + 8 * loN BB 8749 false 150 := by decide +kernel
theorem ln_hi : 18 * hiN BB 26 false 150 - 2 * loN BB 4801 false 150 + 8 * hiN BB 8749 false 150 ≤ (((lnX + 1) * 2 ^ 100 : Nat) : Int) := by decide +kernel
theorem int_le {a b : Int} (h : a ≤ b) : (a : Rat) ≤ (b : Rat) := by exact_mod_cast h
theorem comb_pi {X Y : Nat} {a a' b b' c c' : Int} {x y z t : Rat} (h1 : (X : Int) ≤ 48 * a + 32 * b - 20 * c') (h2 : 48 * a' + 32 * b' - 20 * c ≤ (Y : Int))
    (ha : (a : Rat) ≤ t * x ∧ t * x ≤ (a' : Rat)) (hb : (b : Rat) ≤ t * y ∧ t * y ≤ (b' : Rat)) (hc : (c : Rat) ≤ t * z ∧ t * z ≤ (c' : Rat)) :
    (X : Rat) ≤ t * (48 * x + 32 * y - 20 * z) ∧ t * (48 * x + 32 * y - 20 * z) ≤ (Y : Rat) := by
  have k1 := int_le h1
  have k2 := int_le h2
  rw [Rat.intCast_sub, Rat.intCast_add, Rat.intCast_mul, Rat.intCast_mul, Rat.intCast_mul] at k1 k2
  change (X : Rat) ≤ 48 * (a : Rat) + 32 * (b : Rat) - 20 * (c' : Rat) at k1
  change 48 * (a' : Rat) + 32 * (b' : Rat) - 20 * (c : Rat) ≤ (Y : Rat) at k2
  constructor <;> grind
theorem comb_ln {X Y : Nat} {a a' b b' c c' : Int} {x y z t : Rat} (h1 : (X : Int) ≤ 18 * a - 2 * b' + 8 * c) (h2 : 18 * a' - 2 * b + 8 * c' ≤ (Y : Int))
    (ha : (a : Rat) ≤ t * x ∧ t * x ≤ (a' : Rat)) (hb : (b : Rat) ≤ t * y ∧ t * y ≤ (b' : Rat)) (hc : (c : Rat) ≤ t * z ∧ t * z ≤ (c' : Rat)) :
    (X : Rat) ≤ t * (18 * x - 2 * y + 8 * z) ∧ t * (18 * x - 2 * y + 8 * z) ≤ (Y : Rat) := by
  have k1 := int_le h1
  have k2 := int_le h2
  rw [Rat.intCast_add, Rat.intCast_sub, Rat.intCast_mul, Rat.intCast_mul, Rat.intCast_mul] at k1 k2
  change (X : Rat) ≤ 18 * (a : Rat) - 2 * (b' : Rat) + 8 * (c : Rat) at k1
  change 18 * (a' : Rat) - 2 * (b : Rat) + 8 * (c' : Rat) ≤ (Y : Rat) at k2
  constructor <;> grind
theorem unit_le {X : Nat} {q : Rat} (h1 : ((X * 2 ^ 100 : Nat) : Rat) ≤ tp 1100 * q) (h2 : tp 1100 * q ≤ (((X + 1) * 2 ^ 100 : Nat) : Rat)) : (X : Rat) * tp (-1000) ≤ q ∧ q ≤ ((X : Rat) + 1) * tp (-1000) := by
  have e : ((2 ^ 100 : Nat) : Rat) = tp 1100 * tp (-1000) := by
    rw [← tp_nat, ← tp_add]; rfl
  have ht := tp_pos 1100
  have c1 : ((X * 2 ^ 100 : Nat) : Rat) = (X : Rat) * ((2 ^ 100 : Nat) : Rat) := by rw [Rat.natCast_mul]
  have c2 : (((X + 1) * 2 ^ 100 : Nat) : Rat) = ((X : Rat) + 1) * ((2 ^ 100 : Nat) : Rat) := by rw [Rat.natCast_mul, Rat.natCast_add]; rfl
  rw [c1, e] at h1
  rw [c2, e] at h2
  constructor
  · refine Rat.le_of_mul_le_mul_left (c := tp 1100) ?_ ht
    grind
  · refine Rat.le_of_mul_le_mul_left (c := tp 1100) ?_ ht
    grind
theorem BB_is : ((BB : Nat) : Int) = 1100 := rfl
theorem piQ_is : (piX : Rat) * tp (-1000) ≤ piQ ∧ piQ ≤ ((piX : Rat) + 1) * tp (-1000) := by
  have a := sum_lo (n := 18) (by omega) BB true 150
  have b := sum_lo (n := 57) (by omega) BB true 150
  have c := sum_lo (n := 239) (by omega) BB true 150
  rw [BB_is] at a b c
  have h := comb_pi pi_lo pi_hi a b c
  exact unit_le h.1 h.2
theorem lnQ_is : (lnX : Rat) * tp (-1000) ≤ lnQ ∧ lnQ ≤ ((lnX : Rat) + 1) * tp (-1000) := by
  have a := sum_lo (n := 26) (by omega) BB false 150
  have b := sum_lo (n := 4801) (by omega) BB false 150
  have c := sum_lo (n := 8749) (by omega) BB false 150
  rw [BB_is] at a b c
  have h := comb_ln ln_lo ln_hi a b c
  exact unit_le h.1 h.2

/-- What both sides answer has a number in common. -/
theorem rv_cmp {r s : DR} (hr : Pl r) (hs : Pl s) (h : rv r ≤ rv s) : cmpI2 r s ≤ 0 := by
  have U := pl_up hr
  have V := pl_up hs
  unfold cmpI2 cmpD
  rw [hr.ok, hs.ok]
  exact ord_le (g := -300000) U.z V.z (.inr U.e) (.inr V.e) ((rv_le (.inr U.e) (.inr V.e)).1 h)
theorem both_meet {r s : SRes} {X : Nat} {B : Int} {q : Rat} (G : GoodR r X) (E : En B s q) (h1 : (X : Rat) * tp (-1000) ≤ q) (h2 : q ≤ ((X : Rat) + 1) * tp (-1000)) : cmpI2 r.lo s.hi ≤ 0 ∧ cmpI2 s.lo r.hi ≤ 0 := by
  have ht := Rat.le_of_lt (tp_pos (-1000))
  have a1 : rv r.lo ≤ (X : Rat) * tp (-1000) := by
    unfold rv
    rw [qv_val _ _ (g := -1000) G.e1]
    exact Rat.mul_le_mul_of_nonneg_right (int_le G.x1) ht
  have a2 : ((X : Rat) + 1) * tp (-1000) ≤ rv r.hi := by
    unfold rv
    rw [qv_val _ _ (g := -1000) G.e2]
    have := int_le G.x3
    rw [Rat.intCast_add] at this
    exact Rat.mul_le_mul_of_nonneg_right this ht
  have b1 := E.x1
  have b2 := E.x2
  exact ⟨rv_cmp ⟨G.good.l1, G.good.l2⟩ E.h.p (by grind), rv_cmp E.l.p ⟨G.good.h1, G.good.h2⟩ (by grind)⟩
end Go.Proofs.YtodjldhppbbhdaaGreatDoor
