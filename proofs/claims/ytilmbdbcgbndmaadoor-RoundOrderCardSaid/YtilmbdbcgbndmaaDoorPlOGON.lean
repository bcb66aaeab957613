/-
  Rounding to words, in plain numbers: which word, which flags; a greater number isn't rounded to a lesser word, and what is rounded lies between its neighbours. No program is named here.
  Rounding to words, in plain numbers: a word stays; a greater number isn't rounded to a lesser word; what is rounded lies between its neighbours. No program is named here.
  What Exact answers, as words: a word stays; order; neighbours. No program is named here.
  What Exact finds on its way, in plain numbers: what is rounded as a dyad, its word, and whether it is the number itself.
  What the code's Exact finds on its way, in plain numbers: the word on the side of 0, the middle, the word behind it.
-/
import Derived.Test.YtilmbdbcgbndmaaDoorPlOGBN
namespace Go.Proofs.YtilmbdbcgbndmaaDoor

/-- Is a number on a grid rounded away from 0? half: what is left, against a half; q: the units below. -/
def upM (neg : Bool) (mode half : Int) (q : Nat) : Bool :=
  if mode = 0 then decide (0 < half) || (decide (half = 0) && decide (q % 2 = 1)) else if mode = 2 then !neg else if mode = 3 then neg else if mode = 4 then decide (0 ≤ half) else false
def halfV (V : Nat) (k : Nat) : Int := cmpN (V - V / 2 ^ k * 2 ^ k) (2 ^ (k - 1))
/-- A number in units of 2^e, rounded. -/
def chooseV (neg : Bool) (V : Nat) (E e mode : Int) : Nat :=
  if e ≤ E then V * 2 ^ (E - e).toNat else V / 2 ^ (e - E).toNat + (if upM neg mode (halfV V (e - E).toNat) (V / 2 ^ (e - E).toNat) then 1 else 0)
def topV (V : Nat) (E : Int) : Int := (nb V : Int) + E
/-- The word to which a number is rounded, without its sign and without a bound above. -/
def lV (neg : Bool) (V : Nat) (E mode : Int) : Nat := (unitE V E + 1074).toNat * 4503599627370496 + chooseV neg V E (unitE V E) mode
def outM (neg : Bool) (mode : Int) : Bool := decide (mode = 1) || (decide (mode = 2) && neg) || (decide (mode = 3) && !neg)
def tinyV (V : Nat) (E : Int) : Bool := decide (V ≠ 0) && decide (topV V E ≤ -1022)
def overF (neg : Bool) (V : Nat) (E mode : Int) : Bool := decide (V ≠ 0) && decide (9218868437227405312 ≤ lV neg V E mode)
def clampM (neg : Bool) (mode : Int) (l : Nat) : Nat := if 9218868437227405312 ≤ l then (if outM neg mode then 9218868437227405311 else 9218868437227405312) else l
def modeM (mode : Int) : Bool := decide (0 ≤ mode) && decide (mode ≤ 4)
/-- The word and the flags of a number. -/
def exactV (ok neg : Bool) (V : Nat) (E mode : Int) : Nat × Int × Bool :=
  if ok && modeM mode then (if V = 0 then (0, 0, true) else (sgW neg + clampM neg mode (lV neg V E mode), if 9218868437227405312 ≤ lV neg V E mode then 3 else if unitE V E ≤ E then 0 else if tinyV V E then 5 else 1, true)) else (0, 0, false)

theorem pow52 : (2 : Nat) ^ 52 = 4503599627370496 := by decide +kernel
theorem pow53 : (2 : Nat) ^ 53 = 9007199254740992 := by decide +kernel
theorem nb_ge53 {V : Nat} (h : nb V = 53) : 4503599627370496 ≤ V ∧ V < 9007199254740992 := by
  have h0 : 0 < V := by
    rcases Nat.eq_zero_or_pos V with h1 | h1
    · subst h1; rw [nb_zero] at h; omega
    · exact h1
  have h1 := nb_ge h0
  have h2 := nb_lt V
  rw [h] at h1 h2
  rw [pow53] at h2
  rw [show (53 : Nat) - 1 = 52 from rfl, pow52] at h1
  exact ⟨h1, h2⟩
theorem nb_le53 {V : Nat} (h : nb V ≤ 53) : V < 9007199254740992 := by
  have := (nb_le_iff V 53).1 h
  rwa [pow53] at this
/-- The units below a number. -/
def unitsV (V : Nat) (E e : Int) : Nat := if e ≤ E then V * 2 ^ (E - e).toNat else V / 2 ^ (e - E).toNat
theorem choose_units (neg : Bool) (V : Nat) (E e mode : Int) : chooseV neg V E e mode = unitsV V E e ∨ (¬ e ≤ E ∧ chooseV neg V E e mode = unitsV V E e + 1) := by
  unfold chooseV unitsV
  by_cases h : e ≤ E
  · rw [if_pos h, if_pos h]; exact .inl rfl
  · rw [if_neg h, if_neg h]
    split
    · exact .inr ⟨h, rfl⟩
    · exact .inl rfl
theorem units_nb {V : Nat} {E e : Int} (h0 : V ≠ 0) : (nb (unitsV V E e) : Int) = max ((nb V : Int) + E - e) 0 := by
  have hp := nb_pos (V := V) (by omega)
  unfold unitsV
  split
  · rw [nb_mul_pow (by omega)]; omega
  · rw [nb_div_pow]; omega
/-- The grid of a number: at most 53 bits; 53, but at the end of the exponents. -/
theorem units_range {V : Nat} {E : Int} (h0 : V ≠ 0) : unitsV V E (unitE V E) < 9007199254740992 ∧ (unitE V E = -1074 ∨ (unitE V E = topV V E - 53 ∧ -1074 < unitE V E ∧ 4503599627370496 ≤ unitsV V E (unitE V E))) := by
  have h1 := units_nb (E := E) (e := unitE V E) h0
  have h2 : topV V E - 53 ≤ unitE V E ∧ -1074 ≤ unitE V E ∧ (unitE V E = topV V E - 53 ∨ unitE V E = -1074) := by unfold unitE topV; omega
  unfold topV at *
  refine ⟨nb_le53 (by omega), ?_⟩
  by_cases h3 : unitE V E = -1074
  · exact .inl h3
  · exact .inr ⟨by omega, by omega, (nb_ge53 (by omega)).1⟩
theorem choose_range {neg : Bool} {V : Nat} {E mode : Int} (h0 : V ≠ 0) : chooseV neg V E (unitE V E) mode ≤ 9007199254740992 ∧ (unitE V E = -1074 ∨ (unitE V E = topV V E - 53 ∧ -1074 < unitE V E ∧ 4503599627370496 ≤ chooseV neg V E (unitE V E) mode)) := by
  obtain ⟨h1, h2⟩ := units_range (E := E) h0
  rcases choose_units neg V E (unitE V E) mode with h | ⟨_, h⟩
  · rw [h]; exact ⟨by omega, h2⟩
  · rw [h]; exact ⟨by omega, h2.imp id (fun h => ⟨h.1, h.2.1, by omega⟩)⟩

/-- Overflow is told by the word. -/
theorem over_l {neg : Bool} {V : Nat} {E mode : Int} (h0 : V ≠ 0) : 1024 < (nb (chooseV neg V E (topV V E - 53) mode) : Int) + (topV V E - 53) ↔ 9218868437227405312 ≤ lV neg V E mode := by
  have hu : unitE V E = topV V E - 53 ∨ (unitE V E = -1074 ∧ topV V E - 53 < -1074) := by unfold unitE topV; omega
  rcases hu with hu | ⟨hu, hlow⟩
  · have h53 : nb (unitsV V E (topV V E - 53)) = 53 := by
      have := units_nb (E := E) (e := topV V E - 53) h0
      unfold topV at *
      omega
    obtain ⟨g1, g2⟩ := nb_ge53 h53
    have hge : -1074 ≤ unitE V E := by unfold unitE; omega
    unfold lV
    rw [hu] at hge ⊢
    rcases choose_units neg V E (topV V E - 53) mode with h | ⟨_, h⟩
    · rw [h, h53]; omega
    · rw [h]
      by_cases h54 : unitsV V E (topV V E - 53) + 1 = 9007199254740992
      · have : nb (unitsV V E (topV V E - 53) + 1) = 54 := by
          rw [h54, ← pow53]
          exact nb_of (B := 53) (by decide +kernel) (Nat.le_refl _)
        omega
      · have : nb (unitsV V E (topV V E - 53) + 1) = 53 := nb_two52 (by omega) (by omega)
        omega
  · have h1 : nb (chooseV neg V E (topV V E - 53) mode) ≤ 54 := by
      have h53 : nb (unitsV V E (topV V E - 53)) = 53 := by
        have := units_nb (E := E) (e := topV V E - 53) h0
        unfold topV at *
        omega
      have h2 := nb_succ_le (unitsV V E (topV V E - 53))
      rcases choose_units neg V E (topV V E - 53) mode with h | ⟨_, h⟩
      · rw [h]; omega
      · rw [h]; omega
    have h2 := (choose_range (neg := neg) (E := E) (mode := mode) h0).1
    unfold lV
    rw [hu] at h2 ⊢
    rw [show ((-1074 : Int) + 1074).toNat = 0 by decide]
    omega
/-- The word of what is rounded. -/
theorem word_l {neg : Bool} {V : Nat} {E mode : Int} (h0 : V ≠ 0) (hl : lV neg V E mode < 9218868437227405312) (hq : chooseV neg V E (unitE V E) mode ≠ 0) :
    (mkD neg (chooseV neg V E (unitE V E) mode) (unitE V E)).ok = true ∧ wordN (mkD neg (chooseV neg V E (unitE V E) mode) (unitE V E)).neg (mkD neg (chooseV neg V E (unitE V E) mode) (unitE V E)).m (mkD neg (chooseV neg V E (unitE V E) mode) (unitE V E)).e = (sgW neg + lV neg V E mode, true) := by
  obtain ⟨h1, h2⟩ := choose_range (neg := neg) (E := E) (mode := mode) h0
  unfold lV at hl ⊢
  have hge : -1074 ≤ unitE V E := by unfold unitE; omega
  generalize chooseV neg V E (unitE V E) mode = q at *
  generalize unitE V E = e at *
  by_cases h3 : q = 9007199254740992
  · have h4 := mkD_pow neg 4503599627370496 1 (e + 1)
    rw [show 4503599627370496 * 2 ^ 1 = 9007199254740992 by decide, show e + 1 - ((1 : Nat) : Int) = e by omega] at h4
    rw [h3, h4]
    have h5 : e + 1 ≤ 971 := by omega
    refine ⟨by rw [(mk_facts (neg := neg) (V := 4503599627370496) (e := e + 1) (by omega) (by omega) (by omega) h5).1], ?_⟩
    rw [word_mk (by omega) (by omega) (by omega) h5 (.inr (Nat.le_refl _))]
    rw [show (e + 1 + 1074).toNat * 4503599627370496 + 4503599627370496 = (e + 1074).toNat * 4503599627370496 + 9007199254740992 by omega]
  · have h5 : e ≤ 971 := by omega
    refine ⟨by rw [(mk_facts (neg := neg) (V := q) (e := e) (by omega) (by omega) hge h5).1], ?_⟩
    rw [word_mk (by omega) (by omega) hge h5 (by omega)]
theorem choose_zero {neg : Bool} {V : Nat} {E mode : Int} (h0 : V ≠ 0) (hq : chooseV neg V E (unitE V E) mode = 0) : lV neg V E mode = 0 := by
  obtain ⟨_, h2⟩ := choose_range (neg := neg) (E := E) (mode := mode) h0
  have h3 : unitE V E = -1074 := by omega
  unfold lV
  rw [hq, h3]; rfl
end Go.Proofs.YtilmbdbcgbndmaaDoor

namespace Go.Proofs.YtilmbdbcgbndmaaDoor

theorem sz_of {t q : Nat} (h : t = 0 ∨ 4503599627370496 ≤ q) (h2 : q ≤ 9007199254740992) : szN (t * 4503599627370496 + q) = q * 2 ^ t := by
  unfold szN
  by_cases h3 : q = 9007199254740992
  · rw [show (t * 4503599627370496 + q) / 4503599627370496 = t + 2 by omega, show (t * 4503599627370496 + q) % 4503599627370496 = 0 by omega, if_neg (by omega), h3, Nat.add_zero, show t + 2 - 1 = t + 1 by omega, Nat.pow_succ]
    omega
  · by_cases h4 : 4503599627370496 ≤ q
    · rw [show (t * 4503599627370496 + q) / 4503599627370496 = t + 1 by omega, show (t * 4503599627370496 + q) % 4503599627370496 = q - 4503599627370496 by omega, if_neg (by omega), Nat.add_sub_cancel, show 4503599627370496 + (q - 4503599627370496) = q by omega]
    · obtain rfl : t = 0 := by omega
      rw [show (0 * 4503599627370496 + q) / 4503599627370496 = 0 by omega, if_pos rfl, Nat.pow_zero, Nat.mul_one]
      omega

/-- Is X, in units of 2^(-1074 - s), rounded up from the word l? -/
def risesX (neg : Bool) (mode : Int) (X s l : Nat) : Bool :=
  decide (X ≠ szN l * 2 ^ s) && upM neg mode (cmpN (2 * (X - szN l * 2 ^ s)) ((szN (l + 1) - szN l) * 2 ^ s)) l
/-- X, in units of 2^(-1074 - s), is rounded to l. -/
def IsR (neg : Bool) (mode : Int) (X s l : Nat) : Prop := ∃ k, szN k * 2 ^ s ≤ X ∧ X < szN (k + 1) * 2 ^ s ∧ l = k + (if risesX neg mode X s k then 1 else 0)
theorem cmpN_scale {a b c : Nat} (hc : 0 < c) : cmpN (a * c) (b * c) = cmpN a b := by
  rcases Nat.lt_trichotomy a b with h | h | h
  · rw [cmpN_lt h, cmpN_lt (Nat.mul_lt_mul_of_pos_right h hc)]
  · subst h; rw [cmpN_eq, cmpN_eq]
  · rw [cmpN_gt h, cmpN_gt (Nat.mul_lt_mul_of_pos_right h hc)]
/-- What the reference's way of rounding amounts to. -/
theorem isR_l {neg : Bool} {V : Nat} {E mode : Int} {g : Int} (h0 : V ≠ 0) (hodd : V % 2 = 1) (hg : g ≤ E) (hg2 : g ≤ -1074) : IsR neg mode (mag V E g) (-1074 - g).toNat (lV neg V E mode) := by
  obtain ⟨h1, h2⟩ := units_range (E := E) h0
  have hge : -1074 ≤ unitE V E := by unfold unitE; omega
  have hcase : (unitE V E + 1074).toNat = 0 ∨ 4503599627370496 ≤ unitsV V E (unitE V E) := by
    rcases h2 with h | h
    · left; omega
    · exact .inr h.2.2
  have hsz := sz_of (q := unitsV V E (unitE V E)) hcase (by omega)
  have hsz1 := sz_of (q := unitsV V E (unitE V E) + 1) (t := (unitE V E + 1074).toNat) (by omega) (by omega)
  have hpow : (2 : Nat) ^ (unitE V E + 1074).toNat * 2 ^ (-1074 - g).toNat = 2 ^ (unitE V E - g).toNat := by
    rw [← Nat.pow_add]; congr 1; omega
  have hb : ∀ q : Nat, q * 2 ^ (unitE V E + 1074).toNat * 2 ^ (-1074 - g).toNat = q * 2 ^ (unitE V E - g).toNat := fun q => by rw [Nat.mul_assoc, hpow]
  refine ⟨(unitE V E + 1074).toNat * 4503599627370496 + unitsV V E (unitE V E), ?_⟩
  unfold risesX
  rw [show (unitE V E + 1074).toNat * 4503599627370496 + unitsV V E (unitE V E) + 1 = (unitE V E + 1074).toNat * 4503599627370496 + (unitsV V E (unitE V E) + 1) by omega, hsz, hsz1, hb, hb]
  have hgap : ((unitsV V E (unitE V E) + 1) * 2 ^ (unitE V E + 1074).toNat - unitsV V E (unitE V E) * 2 ^ (unitE V E + 1074).toNat) * 2 ^ (-1074 - g).toNat = 2 ^ (unitE V E - g).toNat := by
    rw [Nat.succ_mul, Nat.add_sub_cancel_left, hpow]
  rw [hgap]
  have hpar : ∀ (m h : Int), upM neg m h ((unitE V E + 1074).toNat * 4503599627370496 + unitsV V E (unitE V E)) = upM neg m h (unitsV V E (unitE V E)) := fun m h => by
    unfold upM
    rw [show ((unitE V E + 1074).toNat * 4503599627370496 + unitsV V E (unitE V E)) % 2 = unitsV V E (unitE V E) % 2 by omega]
  rw [hpar]
  unfold lV chooseV
  by_cases he : unitE V E ≤ E
  · have hX : mag V E g = unitsV V E (unitE V E) * 2 ^ (unitE V E - g).toNat := by
      unfold mag unitsV
      rw [if_pos he, Nat.mul_assoc, ← Nat.pow_add]
      congr 2; omega
    rw [if_pos he, ← hX]
    refine ⟨Nat.le_refl _, ?_, ?_⟩
    · rw [hX]; exact Nat.mul_lt_mul_of_pos_right (Nat.lt_succ_self _) (Nat.two_pow_pos _)
    · rw [show decide (mag V E g ≠ mag V E g) = false by simp]
      simp only [Bool.false_and, Bool.false_eq_true, if_false, Nat.add_zero]
      unfold unitsV; rw [if_pos he]
  · obtain ⟨k, hk⟩ : ∃ k : Nat, unitE V E - E = (k : Int) := ⟨(unitE V E - E).toNat, by omega⟩
    have hk1 : 1 ≤ k := by omega
    have hq : unitsV V E (unitE V E) = V / 2 ^ k := by unfold unitsV; rw [if_neg he, hk, Int.toNat_natCast]
    have hp2 : (2 : Nat) ^ (unitE V E - g).toNat = 2 ^ k * 2 ^ (E - g).toNat := by rw [← Nat.pow_add]; congr 1; omega
    have hX : mag V E g = V * 2 ^ (E - g).toNat := rfl
    rw [if_neg he, hk, Int.toNat_natCast, hq, hX, hp2]
    have hpos := Nat.two_pow_pos (E - g).toNat
    have hdm := Nat.div_add_mod V (2 ^ k)
    have hml := Nat.mod_lt V (Nat.two_pow_pos k)
    have h2k : (2 : Nat) ^ k = 2 * 2 ^ (k - 1) := by rw [← Nat.pow_succ']; congr 1; omega
    have hle : V / 2 ^ k * 2 ^ k ≤ V := Nat.div_mul_le_self _ _
    have hne : V / 2 ^ k * 2 ^ k ≠ V := fun h => by
      rw [h2k, ← Nat.mul_assoc, Nat.mul_comm _ 2, Nat.mul_assoc] at h
      rw [← h, Nat.mul_mod_right] at hodd; omega
    refine ⟨?_, ?_, ?_⟩
    · rw [← Nat.mul_assoc]; exact Nat.mul_le_mul_right _ hle
    · rw [← Nat.mul_assoc]
      refine Nat.mul_lt_mul_of_pos_right ?_ hpos
      rw [Nat.succ_mul, Nat.mul_comm]; omega
    · have hd : decide (V * 2 ^ (E - g).toNat ≠ V / 2 ^ k * (2 ^ k * 2 ^ (E - g).toNat)) = true := decide_eq_true fun h => by
        rw [← Nat.mul_assoc] at h
        exact hne (Nat.eq_of_mul_eq_mul_right hpos h).symm
      have hh : cmpN (2 * (V * 2 ^ (E - g).toNat - V / 2 ^ k * (2 ^ k * 2 ^ (E - g).toNat))) (2 ^ k * 2 ^ (E - g).toNat) = halfV V k := by
        unfold halfV
        rw [← Nat.mul_assoc (V / 2 ^ k), ← Nat.sub_mul, ← Nat.mul_assoc, cmpN_scale hpos, h2k, Nat.mul_comm 2 (V - _), Nat.mul_comm 2 (2 ^ (k - 1)), cmpN_scale (by omega), Nat.mul_comm (2 ^ (k - 1)) 2]
      rw [hd, hh, Bool.true_and]
      omega
theorem cmpN_mono {a a' b : Nat} (h : a ≤ a') : cmpN a b ≤ cmpN a' b := by
  rcases Nat.lt_trichotomy a b with h1 | h1 | h1
  · rw [cmpN_lt h1]
    rcases Nat.lt_trichotomy a' b with h2 | h2 | h2
    · rw [cmpN_lt h2]; omega
    · subst h2; rw [cmpN_eq]; omega
    · rw [cmpN_gt h2]; omega
  · subst h1
    rw [cmpN_eq]
    exact cmpN_ge h
  · rw [cmpN_gt h1, cmpN_gt (Nat.lt_of_lt_of_le h1 h)]; omega
theorem up_mono {neg : Bool} {mode h h' : Int} {q : Nat} (hh : h ≤ h') (hu : upM neg mode h q = true) : upM neg mode h' q = true := by
  unfold upM at *
  split
  · rename_i hm
    rw [if_pos hm] at hu
    simp at hu ⊢
    omega
  · rename_i hm
    rw [if_neg hm] at hu
    split
    · rename_i hm; rw [if_pos hm] at hu; exact hu
    · rename_i hm
      rw [if_neg hm] at hu
      split
      · rename_i hm; rw [if_pos hm] at hu; exact hu
      · rename_i hm
        rw [if_neg hm] at hu
        split
        · rename_i hm; rw [if_pos hm] at hu; simp at hu ⊢; omega
        · rename_i hm; rw [if_neg hm] at hu; cases hu
theorem sz_lt_iff {l k s X : Nat} (h1 : szN l * 2 ^ s ≤ X) (h2 : X < szN k * 2 ^ s) : l < k := by
  rcases Nat.lt_or_ge l k with h | h
  · exact h
  · have := Nat.mul_le_mul_right (2 ^ s) (sz_le h); omega
theorem isR_mono {neg : Bool} {mode : Int} {X X' s l l' : Nat} (h : IsR neg mode X s l) (h' : IsR neg mode X' s l') (hX : X ≤ X') : l ≤ l' := by
  obtain ⟨k, h1, h2, rfl⟩ := h
  obtain ⟨k', h1', h2', rfl⟩ := h'
  have hk := sz_lt_iff h1 (Nat.lt_of_le_of_lt hX h2')
  by_cases hkk : k < k'
  · split <;> omega
  · obtain rfl : k = k' := by omega
    by_cases hr : risesX neg mode X s k = true
    · have hr' : risesX neg mode X' s k = true := by
        unfold risesX at *
        simp only [Bool.and_eq_true, decide_eq_true_eq] at hr ⊢
        exact ⟨by omega, up_mono (cmpN_mono (by omega)) hr.2⟩
      rw [if_pos hr, if_pos hr']
      exact Nat.le_refl _
    · rw [if_neg hr]; omega
theorem isR_near {neg : Bool} {mode : Int} {X s l : Nat} (h : IsR neg mode X s l) : X < szN (l + 1) * 2 ^ s ∧ (1 ≤ l → szN (l - 1) * 2 ^ s < X) := by
  obtain ⟨k, h1, h2, rfl⟩ := h
  have hp := Nat.two_pow_pos s
  by_cases hr : risesX neg mode X s k = true
  · rw [if_pos hr]
    have hs := sz_step (k + 1)
    refine ⟨Nat.lt_of_lt_of_le h2 (Nat.mul_le_mul_right _ (Nat.le_of_lt hs)), fun _ => ?_⟩
    rw [Nat.add_sub_cancel]
    unfold risesX at hr
    simp only [Bool.and_eq_true, decide_eq_true_eq] at hr
    omega
  · rw [if_neg hr, Nat.add_zero]
    refine ⟨h2, fun hk => ?_⟩
    have hs := sz_mono (show k - 1 < k by omega)
    exact Nat.lt_of_lt_of_le (Nat.mul_lt_mul_of_pos_right hs hp) h1
end Go.Proofs.YtilmbdbcgbndmaaDoor

namespace Go.Proofs.YtilmbdbcgbndmaaDoor

theorem clamp_le (neg : Bool) (mode : Int) (l : Nat) : clampM neg mode l ≤ 9218868437227405312 := by
  unfold clampM
  split
  · split <;> omega
  · omega
theorem clamp_mono (neg : Bool) (mode : Int) {l k : Nat} (h : l ≤ k) : clampM neg mode l ≤ clampM neg mode k := by
  unfold clampM
  by_cases h1 : 9218868437227405312 ≤ k
  · rw [if_pos h1]
    split
    · exact Nat.le_refl _
    · split <;> omega
  · rw [if_neg h1, if_neg (by omega)]; exact h
theorem clamp_fin {neg : Bool} {mode : Int} {l : Nat} (h : clampM neg mode l < 9218868437227405311) : clampM neg mode l = l := by
  unfold clampM at *
  split at h
  · split at h <;> omega
  · rename_i h1; rw [if_neg h1]
theorem clamp_low {neg : Bool} {mode : Int} {l : Nat} : clampM neg mode l ≤ l := by
  unfold clampM
  split
  · split <;> omega
  · exact Nat.le_refl _
theorem sg_word {neg : Bool} {c : Nat} (h : c ≤ 9218868437227405312) : loN (sgW neg + c) = c ∧ sgB (sgW neg + c) = neg ∧ sgW neg + c < B64 := by
  unfold loN sgB sgW B64
  cases neg
  · simp only [Bool.false_eq_true, if_false, Nat.zero_add]
    exact ⟨by omega, by simp; omega, by omega⟩
  · simp only [if_true]
    exact ⟨by omega, by simp, by omega⟩
theorem vB_word {neg : Bool} {c : Nat} (h : c ≤ 9218868437227405312) : vB (sgW neg + c) = if neg then - (szN c : Int) else (szN c : Int) := by
  obtain ⟨h1, h2, _⟩ := sg_word (neg := neg) h
  unfold vB
  rw [h1, h2]
theorem ex_word {neg : Bool} {c : Nat} (h : c ≤ 9218868437227405312) : exN (sgW neg + c) = 2047 ↔ c = 9218868437227405312 := by
  have h1 := (sg_word (neg := neg) h).1
  have h2 : exN (sgW neg + c) = loN (sgW neg + c) / 4503599627370496 := rfl
  rw [h2, h1]
  omega
theorem isR_zero {neg : Bool} {mode : Int} {s : Nat} : IsR neg mode 0 s 0 := by
  have z0 : szN 0 = 0 := by decide +kernel
  have z1 : szN 1 = 1 := by decide +kernel
  refine ⟨0, by rw [z0]; omega, by rw [z1, Nat.one_mul]; exact Nat.two_pow_pos s, ?_⟩
  unfold risesX
  rw [z0, Nat.zero_mul]
  simp
theorem mag_zero (e g : Int) : mag 0 e g = 0 := Nat.zero_mul _
/-- What Exact answers of a plain dyad, seen as a word. -/
theorem exact_isR {neg : Bool} {V : Nat} {E mode g : Int} (hp : plainV neg V E = true) (hm : modeM mode = true) (hg : g ≤ E) (hg2 : g ≤ -1074) :
    ∃ l, IsR neg mode (mag V E g) (-1074 - g).toNat l ∧ (exactV true neg V E mode).1 = sgW neg + clampM neg mode l := by
  unfold exactV
  rw [hm, if_pos (by rfl)]
  by_cases h0 : V = 0
  · obtain ⟨rfl, _⟩ := plainV_zero hp h0
    subst h0
    rw [if_pos rfl, mag_zero]
    exact ⟨0, isR_zero, by unfold clampM sgW; simp⟩
  · rw [if_neg h0]
    have hodd : V % 2 = 1 := by
      unfold plainV at hp
      rw [if_neg h0] at hp
      simp only [Bool.and_eq_true, decide_eq_true_eq] at hp
      exact hp.1.1
    exact ⟨_, isR_l h0 hodd hg hg2, rfl⟩
theorem valI_scale {neg : Bool} {V : Nat} {E g : Int} (hE : -1074 ≤ E) (hg : g ≤ -1074) : valI neg V E g = valI neg V E (-1074) * (2 ^ (-1074 - g).toNat : Nat) := by
  have hm : mag V E g = mag V E (-1074) * 2 ^ (-1074 - g).toNat := by
    unfold mag
    rw [Nat.mul_assoc, ← Nat.pow_add]
    congr 2; omega
  unfold valI
  rw [hm]
  cases neg
  · simp only [Bool.false_eq_true, if_false, Int.natCast_mul]
  · simp only [if_true, Int.natCast_mul, Int.neg_mul]
/-- The order of what is rounded. -/
theorem exact_order {ra rb : DR} {mode : Int} (pa : plainV ra.neg ra.m ra.e = true) (pb : plainV rb.neg rb.m rb.e = true) (hm : modeM mode = true) (ho : ordD ra.neg rb.neg ra.m rb.m ra.e rb.e ≤ 0) :
    vB (exactV true ra.neg ra.m ra.e mode).1 ≤ vB (exactV true rb.neg rb.m rb.e mode).1 := by
  obtain ⟨g, h1, h2, h3⟩ : ∃ g : Int, g ≤ ra.e ∧ g ≤ rb.e ∧ g ≤ -1074 := ⟨min (min ra.e rb.e) (-1074), by omega, by omega, by omega⟩
  obtain ⟨l, r1, w1⟩ := exact_isR pa hm h1 h3
  obtain ⟨k, r2, w2⟩ := exact_isR pb hm h2 h3
  have hv := ordI_le (r := ra) (s := rb) h1 h2 ho
  rw [w1, w2, vB_word (clamp_le _ _ _), vB_word (clamp_le _ _ _)]
  have z0 : szN 0 = 0 := by decide +kernel
  have hz : ∀ {neg : Bool} {s l : Nat}, IsR neg mode 0 s l → szN (clampM neg mode l) = 0 := fun {neg s l} h => by
    have h4 := isR_mono h isR_zero (Nat.le_refl _)
    have h5 : clampM neg mode l = 0 := by have := clamp_low (neg := neg) (mode := mode) (l := l); omega
    rw [h5, z0]
  unfold valI at hv
  cases hna : ra.neg <;> cases hnb : rb.neg <;> rw [hna] at hv r1 <;> rw [hnb] at hv r2 <;> simp only [Bool.false_eq_true, if_false, if_true] at hv ⊢
  · have := sz_le (clamp_mono false mode (isR_mono r1 r2 (by omega)))
    omega
  · have e1 : mag ra.m ra.e g = 0 := by omega
    have e2 : mag rb.m rb.e g = 0 := by omega
    rw [e1] at r1
    rw [e2] at r2
    rw [hz r1, hz r2]
    omega
  · omega
  · have := sz_le (clamp_mono true mode (isR_mono r2 r1 (by omega)))
    omega
theorem ord_lt_of {ra rb : DR} {g : Int} (h1 : g ≤ ra.e) (h2 : g ≤ rb.e) (h : valI ra.neg ra.m ra.e g < valI rb.neg rb.m rb.e g) : ordD ra.neg rb.neg ra.m rb.m ra.e rb.e < 0 := by
  rcases Int.lt_or_le (ordD ra.neg rb.neg ra.m rb.m ra.e rb.e) 0 with h3 | h3
  · exact h3
  · have := ordI_ge (r := ra) (s := rb) h1 h2 h3
    omega
/-- What is rounded lies between the neighbours of its word. -/
theorem exact_near {ra : DR} {mode : Int} (pa : plainV ra.neg ra.m ra.e = true) (hm : modeM mode = true) (hx : exN (exactV true ra.neg ra.m ra.e mode).1 ≠ 2047) :
    (nextN (exactV true ra.neg ra.m ra.e mode).1 true).2 = true ∧ (nextN (exactV true ra.neg ra.m ra.e mode).1 false).2 = true ∧
      (exN (nextN (exactV true ra.neg ra.m ra.e mode).1 true).1 ≠ 2047 → ordD ra.neg (numD (nextN (exactV true ra.neg ra.m ra.e mode).1 true).1).neg ra.m (numD (nextN (exactV true ra.neg ra.m ra.e mode).1 true).1).m ra.e (numD (nextN (exactV true ra.neg ra.m ra.e mode).1 true).1).e < 0) ∧
      (exN (nextN (exactV true ra.neg ra.m ra.e mode).1 false).1 ≠ 2047 → ordD (numD (nextN (exactV true ra.neg ra.m ra.e mode).1 false).1).neg ra.neg (numD (nextN (exactV true ra.neg ra.m ra.e mode).1 false).1).m ra.m (numD (nextN (exactV true ra.neg ra.m ra.e mode).1 false).1).e ra.e < 0) := by
  obtain ⟨g, h1, h3⟩ : ∃ g : Int, g ≤ ra.e ∧ g ≤ -1074 := ⟨min ra.e (-1074), by omega, by omega⟩
  obtain ⟨l, r1, w1⟩ := exact_isR pa hm h1 h3
  obtain ⟨n1, n2⟩ := isR_near r1
  rw [w1] at hx ⊢
  have hcl := clamp_le ra.neg mode l
  have hx2 : clampM ra.neg mode l ≠ 9218868437227405312 := fun h => hx ((ex_word hcl).2 h)
  have m1 : clampM ra.neg mode l + 1 < 9218868437227405312 → mag ra.m ra.e g < szN (clampM ra.neg mode l + 1) * 2 ^ (-1074 - g).toNat := fun h => by
    rw [clamp_fin (by omega)]; exact n1
  have m2 : 1 ≤ clampM ra.neg mode l → szN (clampM ra.neg mode l - 1) * 2 ^ (-1074 - g).toNat < mag ra.m ra.e g := fun h => by
    have h4 := clamp_low (neg := ra.neg) (mode := mode) (l := l)
    exact Nat.lt_of_le_of_lt (Nat.mul_le_mul_right _ (sz_le (by omega))) (n2 (by omega))
  obtain ⟨q1, q2, q3⟩ := sg_word (neg := ra.neg) hcl
  generalize clampM ra.neg mode l = c at *
  have z1 : szN 1 = 1 := by decide +kernel
  have hpw := Nat.two_pow_pos (-1074 - g).toNat
  have hval : ∀ b, exN b ≠ 2047 → valI (numD b).neg (numD b).m (numD b).e g = vB b * (2 ^ (-1074 - g).toNat : Nat) := fun b hb => by
    rw [valI_scale (num_e hb) h3, num_val hb]
  have hge : ∀ b, exN b ≠ 2047 → g ≤ (numD b).e := fun b hb => by have := num_e hb; omega
  rw [next_lo, next_lo, q1, q2]
  have hnot : ∀ u : Bool, ¬ (9218868437227405312 < c ∨ (c = 9218868437227405312 ∧ u ≠ ra.neg)) := fun u h => by
    rcases h with h | h
    · omega
    · exact hx2 h.1
  rw [if_neg (hnot true), if_neg (hnot false)]
  by_cases hc0 : c = 0
  · subst hc0
    rw [if_pos rfl, if_pos rfl]
    simp only [if_true, Bool.false_eq_true, if_false]
    have v1 : vB 1 = 1 := by decide +kernel
    have v2 : vB 9223372036854775809 = -1 := by decide +kernel
    have m3 := m1 (by omega)
    rw [Nat.zero_add, z1, Nat.one_mul] at m3
    refine ⟨trivial, trivial, fun hb => ord_lt_of h1 (hge _ hb) ?_, fun hb => ord_lt_of (hge _ hb) h1 ?_⟩
    · rw [hval _ hb, v1]
      unfold valI
      split <;> omega
    · rw [hval _ hb, v2]
      unfold valI
      split <;> omega
  · rw [if_neg hc0, if_neg hc0]
    have hone : sgW ra.neg + c + 1 = sgW ra.neg + (c + 1) := by omega
    have htwo : sgW ra.neg + c - 1 = sgW ra.neg + (c - 1) := by omega
    have m3 := m2 (by omega)
    rw [hone, htwo]
    have va := vB_word (neg := ra.neg) (c := c + 1) (by omega)
    have vb := vB_word (neg := ra.neg) (c := c - 1) (by omega)
    have ea := ex_word (neg := ra.neg) (c := c + 1) (by omega)
    cases hn : ra.neg <;> rw [hn] at va vb ea <;> simp only [Bool.false_eq_true, if_false, if_true, ne_eq, not_true_eq_false, not_false_eq_true, Bool.true_eq_false] at va vb ⊢
    · refine ⟨trivial, trivial, fun hb => ?_, fun hb => ?_⟩
      · have m4 := m1 (by have := mt ea.2 hb; omega)
        have := ord_lt_of (ra := ra) (rb := numD (sgW false + (c + 1))) h1 (hge _ hb) (by
          rw [hval _ hb, va]; unfold valI; rw [hn]; simp only [Bool.false_eq_true, if_false]
          rw [← Int.natCast_mul]; omega)
        rw [hn] at this; exact this
      · have := ord_lt_of (ra := numD (sgW false + (c - 1))) (rb := ra) (hge _ hb) h1 (by
          rw [hval _ hb, vb]; unfold valI; rw [hn]; simp only [Bool.false_eq_true, if_false]
          rw [← Int.natCast_mul]; omega)
        rw [hn] at this; exact this
    · refine ⟨trivial, trivial, fun hb => ?_, fun hb => ?_⟩
      · have := ord_lt_of (ra := ra) (rb := numD (sgW true + (c - 1))) h1 (hge _ hb) (by
          rw [hval _ hb, vb]; unfold valI; rw [hn]; simp only [if_true]
          rw [Int.neg_mul, ← Int.natCast_mul]; omega)
        rw [hn] at this; exact this
      · have m4 := m1 (by have := mt ea.2 hb; omega)
        have := ord_lt_of (ra := numD (sgW true + (c + 1))) (rb := ra) (hge _ hb) h1 (by
          rw [hval _ hb, va]; unfold valI; rw [hn]; simp only [if_true]
          rw [Int.neg_mul, ← Int.natCast_mul]; omega)
        rw [hn] at this; exact this
/-- A word that is no number is an infinity. -/
theorem exact_inf {neg : Bool} {V : Nat} {E mode : Int} (hp : plainV neg V E = true) (hm : modeM mode = true) (hx : exN (exactV true neg V E mode).1 = 2047) : kindN (exactV true neg V E mode).1 = 3 := by
  obtain ⟨l, _, w1⟩ := exact_isR hp hm (g := min E (-1074)) (by omega) (by omega)
  rw [w1] at hx ⊢
  have hcl := clamp_le neg mode l
  rw [kind_three, (sg_word hcl).1]
  exact (ex_word hcl).1 hx
theorem exact_word {neg : Bool} {V : Nat} {E mode : Int} (hp : plainV neg V E = true) (hm : modeM mode = true) : (exactV true neg V E mode).1 < B64 := by
  obtain ⟨l, _, w1⟩ := exact_isR hp hm (g := min E (-1074)) (by omega) (by omega)
  rw [w1]
  exact (sg_word (clamp_le neg mode l)).2.2
/-- A word stays what it stands for. -/
theorem exact_stays {b : Nat} {mode : Int} (hb : b < B64) (hx : exN b ≠ 2047) (hm : modeM mode = true) :
    ∃ w, exactV true (numD b).neg (numD b).m (numD b).e mode = (w, 0, true) ∧ (w = b ∨ (kindN b = 0 ∧ w = 0)) := by
  have h1 := (word_num hb hx).2
  unfold exactV
  rw [hm, if_pos (by rfl)]
  unfold wordN at h1
  by_cases h0 : (numD b).m = 0
  · rw [if_pos h0] at h1 ⊢
    refine ⟨0, rfl, ?_⟩
    by_cases hk : kindN b = 0
    · exact .inr ⟨hk, rfl⟩
    · rw [if_neg hk] at h1
      exact .inl (congrArg Prod.fst h1)
  · rw [if_neg h0] at h1 ⊢
    by_cases h2 : (numD b).e < unitE (numD b).m (numD b).e ∨ 971 < unitE (numD b).m (numD b).e
    · rw [if_pos h2] at h1
      exact absurd (congrArg Prod.snd h1) (by simp)
    · rw [if_neg h2] at h1
      have hle : unitE (numD b).m (numD b).e ≤ (numD b).e := by omega
      have hq : chooseV (numD b).neg (numD b).m (numD b).e (unitE (numD b).m (numD b).e) mode = (numD b).m * 2 ^ ((numD b).e - unitE (numD b).m (numD b).e).toNat := by unfold chooseV; rw [if_pos hle]
      have hr := (units_range (E := (numD b).e) h0).1
      have hq2 : unitsV (numD b).m (numD b).e (unitE (numD b).m (numD b).e) = (numD b).m * 2 ^ ((numD b).e - unitE (numD b).m (numD b).e).toNat := by unfold unitsV; rw [if_pos hle]
      have hlt : lV (numD b).neg (numD b).m (numD b).e mode < 9218868437227405312 := by
        unfold lV
        rw [hq, ← hq2]
        omega
      have hw := congrArg Prod.fst h1
      simp only at hw
      rw [← hq] at hw
      rw [if_neg (by omega), if_pos hle]
      refine ⟨_, rfl, ?_⟩
      unfold clampM
      rw [if_neg (by omega)]
      unfold lV
      rw [hw]
      by_cases hk : kindN b = 0
      · rw [if_pos hk]; exact .inr ⟨hk, rfl⟩
      · rw [if_neg hk]; exact .inl rfl
end Go.Proofs.YtilmbdbcgbndmaaDoor

namespace Go.Proofs.YtilmbdbcgbndmaaDoor

theorem exact_facts {neg : Bool} {V : Nat} {E mode : Int} (hp : plainV neg V E = true) (h0 : V ≠ 0) (hl : lV neg V E mode < 9218868437227405312) :
    plainV (mkD neg (chooseV neg V E (unitE V E) mode) (unitE V E)).neg (mkD neg (chooseV neg V E (unitE V E) mode) (unitE V E)).m (mkD neg (chooseV neg V E (unitE V E) mode) (unitE V E)).e = true ∧
    (chooseV neg V E (unitE V E) mode ≠ 0 → wordN (mkD neg (chooseV neg V E (unitE V E) mode) (unitE V E)).neg (mkD neg (chooseV neg V E (unitE V E) mode) (unitE V E)).m (mkD neg (chooseV neg V E (unitE V E) mode) (unitE V E)).e = (sgW neg + lV neg V E mode, true)) ∧
    (chooseV neg V E (unitE V E) mode = 0 → lV neg V E mode = 0) ∧
    (ordD (mkD neg (chooseV neg V E (unitE V E) mode) (unitE V E)).neg neg (mkD neg (chooseV neg V E (unitE V E) mode) (unitE V E)).m V (mkD neg (chooseV neg V E (unitE V E) mode) (unitE V E)).e E = 0 ↔ unitE V E ≤ E) := by
  have hge : -1074 ≤ unitE V E := by unfold unitE; omega
  have hue : unitE V E ≤ 973 := by unfold lV at hl; omega
  obtain ⟨hr, _⟩ := choose_range (neg := neg) (E := E) (mode := mode) h0
  have hqb : nb (chooseV neg V E (unitE V E) mode) ≤ 54 := (nb_le_iff _ 54).2 (Nat.lt_of_le_of_lt hr (by decide +kernel))
  have G := mkD_good neg (V := chooseV neg V E (unitE V E) mode) (e := unitE V E) (by omega) (by omega) (by omega)
  have hodd : V % 2 = 1 ∧ nb V ≤ MB ∧ fitE E := by
    unfold plainV at hp
    rw [if_neg h0] at hp
    simp only [Bool.and_eq_true, decide_eq_true_eq] at hp
    exact ⟨hp.1.1, hp.1.2, hp.2⟩
  refine ⟨G.plain, fun hq => (word_l h0 hl hq).2, choose_zero h0, ?_⟩
  constructor
  · intro ho
    rcases Int.lt_or_le E (unitE V E) with hlt | hle
    · exfalso
      obtain ⟨g, g1, g2, g3⟩ : ∃ g : Int, g ≤ (mkD neg (chooseV neg V E (unitE V E) mode) (unitE V E)).e ∧ g ≤ E ∧ g ≤ unitE V E := ⟨min (min (mkD neg (chooseV neg V E (unitE V E) mode) (unitE V E)).e E) (unitE V E), by omega, by omega, by omega⟩
      have a1 := ordI_le (r := mkD neg (chooseV neg V E (unitE V E) mode) (unitE V E)) (s := ⟨true, neg, V, E⟩) g1 g2 (by rw [ho]; exact Int.le_refl _)
      have a2 := ordI_ge (r := mkD neg (chooseV neg V E (unitE V E) mode) (unitE V E)) (s := ⟨true, neg, V, E⟩) g1 g2 (by rw [ho]; exact Int.le_refl _)
      rw [(G.val g3).2] at a1 a2
      simp only at a1 a2
      have hm : mag (chooseV neg V E (unitE V E) mode) (unitE V E) g = mag V E g := by
        unfold valI at a1 a2
        cases neg
        · simp only [Bool.false_eq_true, if_false] at a1 a2; omega
        · simp only [if_true] at a1 a2; omega
      obtain ⟨k, hk⟩ : ∃ k : Nat, unitE V E - E = (k : Int) + 1 := ⟨(unitE V E - E - 1).toNat, by omega⟩
      unfold mag at hm
      rw [show (unitE V E - g).toNat = (k + 1) + (E - g).toNat by omega, Nat.pow_add, ← Nat.mul_assoc] at hm
      have h5 := Nat.eq_of_mul_eq_mul_right (Nat.two_pow_pos _) hm
      rw [Nat.pow_succ, Nat.mul_comm (2 ^ k) 2, ← Nat.mul_assoc, Nat.mul_comm _ 2, Nat.mul_assoc] at h5
      rw [← h5, Nat.mul_mod_right] at hodd
      omega
    · exact hle
  · intro hle
    have hq : chooseV neg V E (unitE V E) mode = V * 2 ^ (E - unitE V E).toNat := by unfold chooseV; rw [if_pos hle]
    have hm := mkD_pow neg V (E - unitE V E).toNat E
    rw [show E - ((E - unitE V E).toNat : Int) = unitE V E by omega, ← hq, mkD_plain hodd.1 hodd.2.1 hodd.2.2] at hm
    rw [hm]
    simp only
    unfold ordD sizeC
    rw [cmpN_eq]
    simp
end Go.Proofs.YtilmbdbcgbndmaaDoor

namespace Go.Proofs.YtilmbdbcgbndmaaDoor

/-- The word next to a size, on the side of 0. -/
def inW (V : Nat) (E : Int) : Nat := (unitE V E + 1074).toNat * 4503599627370496 + V / 2 ^ (unitE V E - E).toNat
theorem code_exact {neg : Bool} {V : Nat} {E mode : Int} {x : Nat} (hm : modeM mode = true) (h : wordN neg V E = (x, true)) : exactV true neg V E mode = (x, 0, true) := by
  unfold wordN at h
  unfold exactV
  rw [hm, if_pos (by rfl)]
  by_cases h0 : V = 0
  · rw [if_pos h0] at h ⊢
    cases h
    rfl
  · rw [if_neg h0] at h ⊢
    by_cases h1 : E < unitE V E ∨ 971 < unitE V E
    · rw [if_pos h1] at h
      cases h
    · rw [if_neg h1] at h
      have hle : unitE V E ≤ E := by omega
      have hc : chooseV neg V E (unitE V E) mode = V * 2 ^ (E - unitE V E).toNat := by unfold chooseV; rw [if_pos hle]
      obtain ⟨hr, _⟩ := units_range (V := V) (E := E) h0
      have hu : unitsV V E (unitE V E) = V * 2 ^ (E - unitE V E).toNat := by unfold unitsV; rw [if_pos hle]
      have hl : lV neg V E mode < 9218868437227405312 := by
        unfold lV
        rw [hc]
        rw [hu] at hr
        have hge : -1074 ≤ unitE V E := by unfold unitE; omega
        generalize V * 2 ^ (E - unitE V E).toNat = q at *
        omega
      rw [if_neg (by omega), if_pos hle]
      unfold clampM
      rw [if_neg (by omega)]
      unfold lV
      rw [hc]
      cases h
      rfl
theorem word_no {neg : Bool} {V : Nat} {E : Int} (h : (wordN neg V E).2 = false) : V ≠ 0 ∧ (E < unitE V E ∨ 971 < unitE V E) := by
  unfold wordN at h
  by_cases h0 : V = 0
  · rw [if_pos h0] at h; cases h
  · rw [if_neg h0] at h
    by_cases h1 : E < unitE V E ∨ 971 < unitE V E
    · exact ⟨h0, h1⟩
    · rw [if_neg h1] at h; cases h
theorem in_cut {V : Nat} {E : Int} (hlt : E < unitE V E) : inW V E = lV false V E 1 ∧ chooseV false V E (unitE V E) 1 = V / 2 ^ (unitE V E - E).toNat := by
  have h : chooseV false V E (unitE V E) 1 = V / 2 ^ (unitE V E - E).toNat := by
    unfold chooseV
    rw [if_neg (by omega), show upM false 1 (halfV V (unitE V E - E).toNat) (V / 2 ^ (unitE V E - E).toNat) = false from rfl]
    rfl
  exact ⟨by unfold inW lV; rw [h], h⟩
theorem in_up {neg : Bool} {V : Nat} {E mode : Int} (hlt : E < unitE V E) : lV neg V E mode = inW V E + (if upM neg mode (halfV V (unitE V E - E).toNat) (V / 2 ^ (unitE V E - E).toNat) then 1 else 0) := by
  unfold lV inW chooseV
  rw [if_neg (by omega), Nat.add_assoc]
theorem in_odd (V : Nat) (E : Int) : inW V E % 2 = V / 2 ^ (unitE V E - E).toNat % 2 := by unfold inW; omega
theorem in_small {V : Nat} {E : Int} (h0 : V ≠ 0) (hlt : E < unitE V E) (hu : unitE V E ≤ 971) : inW V E < 9218868437227405312 := by
  obtain ⟨hr, _⟩ := units_range (V := V) (E := E) h0
  have hs : unitsV V E (unitE V E) = V / 2 ^ (unitE V E - E).toNat := by unfold unitsV; rw [if_neg (by omega)]
  rw [hs] at hr
  have hge : -1074 ≤ unitE V E := by unfold unitE; omega
  unfold inW
  generalize V / 2 ^ (unitE V E - E).toNat = q at *
  omega
/-- The word of what is kept. -/
theorem in_word {V : Nat} {E : Int} (h0 : V ≠ 0) (hlt : E < unitE V E) (hu : unitE V E ≤ 971) :
    wordP (plainV (mkD false (V / 2 ^ (unitE V E - E).toNat) (unitE V E)).neg (mkD false (V / 2 ^ (unitE V E - E).toNat) (unitE V E)).m (mkD false (V / 2 ^ (unitE V E - E).toNat) (unitE V E)).e)
      (mkD false (V / 2 ^ (unitE V E - E).toNat) (unitE V E)).neg (mkD false (V / 2 ^ (unitE V E - E).toNat) (unitE V E)).m (mkD false (V / 2 ^ (unitE V E - E).toNat) (unitE V E)).e = (inW V E, true) := by
  obtain ⟨h1, h2⟩ := in_cut hlt
  have hs := in_small h0 hlt hu
  have hge : -1074 ≤ unitE V E := by unfold unitE; omega
  obtain ⟨hr, _⟩ := choose_range (neg := false) (E := E) (mode := 1) h0
  have hqb : nb (chooseV false V E (unitE V E) 1) ≤ 54 := (nb_le_iff _ 54).2 (Nat.lt_of_le_of_lt hr (by decide +kernel))
  rw [h2] at hqb
  have G := mkD_good false (V := V / 2 ^ (unitE V E - E).toNat) (e := unitE V E) (by omega) (by omega) (by omega)
  by_cases hq : V / 2 ^ (unitE V E - E).toNat = 0
  · have hz : mkD false (V / 2 ^ (unitE V E - E).toNat) (unitE V E) = DR.zero := by rw [hq]; unfold mkD; simp
    have hw : inW V E = 0 := by
      rw [h1]
      exact choose_zero h0 (by rw [h2]; exact hq)
    rw [hz, hw]
    rfl
  · have h3 := (word_l (neg := false) (mode := 1) h0 (by rw [← h1]; exact hs) (by rw [h2]; exact hq)).2
    rw [h2, ← h1] at h3
    rw [G.plain]
    unfold wordP
    rw [if_pos (by rfl), h3]
    simp [sgW]
/-- The middle between the two words. -/
theorem in_mid {V : Nat} {E : Int} (h0 : V ≠ 0) (hlt : E < unitE V E) (hu : unitE V E ≤ 971) :
    mkD false (V / 2 ^ (unitE V E - E).toNat * 2 + 1) (unitE V E - 1) = ⟨true, false, V / 2 ^ (unitE V E - E).toNat * 2 + 1, unitE V E - 1⟩ ∧
    plainV false (V / 2 ^ (unitE V E - E).toNat * 2 + 1) (unitE V E - 1) = true ∧
    ordD false false V (V / 2 ^ (unitE V E - E).toNat * 2 + 1) E (unitE V E - 1) = halfV V (unitE V E - E).toNat := by
  have hge : -1074 ≤ unitE V E := by unfold unitE; omega
  obtain ⟨hr, _⟩ := choose_range (neg := false) (E := E) (mode := 1) h0
  rw [(in_cut hlt).2] at hr
  have hqb : nb (V / 2 ^ (unitE V E - E).toNat * 2 + 1) ≤ MB := (nb_le_iff _ _).2 (Nat.lt_of_lt_of_le (show V / 2 ^ (unitE V E - E).toNat * 2 + 1 < 2 ^ 60 by
    have : (2 : Nat) ^ 60 = 1152921504606846976 := by decide +kernel
    omega) (Nat.pow_le_pow_right (by omega) (by rw [MB_eq]; omega)))
  have hfit : fitE (unitE V E - 1) := ⟨by omega, by omega⟩
  refine ⟨mkD_plain (by omega) hqb hfit, ?_, ?_⟩
  · unfold plainV
    rw [if_neg (by omega)]
    simp only [Bool.and_eq_true, decide_eq_true_eq]
    exact ⟨⟨by omega, hqb⟩, hfit⟩
  · obtain ⟨k, hk⟩ : ∃ k : Nat, unitE V E - E = (k : Int) + 1 := ⟨(unitE V E - E - 1).toNat, by omega⟩
    unfold ordD sizeC onE halfV
    rw [if_pos rfl]
    simp only [Bool.false_eq_true, if_false]
    rw [show min E (unitE V E - 1) = E by omega, show min (unitE V E - 1) E = E by omega, Int.sub_self, show (unitE V E - 1 - E).toNat = k by omega, show (unitE V E - E).toNat = k + 1 by omega]
    simp only [Int.toNat_zero, Nat.pow_zero, Nat.mul_one, Nat.add_sub_cancel]
    rw [Nat.add_mul, Nat.mul_assoc, Nat.one_mul, show 2 * 2 ^ k = 2 ^ (k + 1) by rw [Nat.pow_succ, Nat.mul_comm]]
    have hle : V / 2 ^ (k + 1) * 2 ^ (k + 1) ≤ V := Nat.div_mul_le_self _ _
    generalize V / 2 ^ (k + 1) * 2 ^ (k + 1) = X at *
    generalize 2 ^ k = Y at *
    rcases Nat.lt_trichotomy V (X + Y) with h | h | h
    · rw [cmpN_lt h, cmpN_lt (by omega)]
    · have h2 : V - X = Y := by omega
      rw [h2, h, cmpN_eq, cmpN_eq]
    · rw [cmpN_gt h, cmpN_gt (by omega)]
theorem code_word {neg : Bool} {V : Nat} {E mode : Int} (hm : modeM mode = true) (h0 : V ≠ 0) (hlt : E < unitE V E) (hu : unitE V E ≤ 971) {u : Bool}
    (hup : upM neg mode (halfV V (unitE V E - E).toNat) (V / 2 ^ (unitE V E - E).toNat) = u) :
    exactV true neg V E mode = (sgW neg + (inW V E + (if u then 1 else 0)), if inW V E + (if u then 1 else 0) = 9218868437227405312 then 3 else if topV V E ≤ -1022 then 5 else 1, true) := by
  have hs := in_small h0 hlt hu
  have hl := in_up (neg := neg) (mode := mode) hlt
  rw [hup] at hl
  have ht : tinyV V E = decide (topV V E ≤ -1022) := by unfold tinyV; simp [h0]
  have hcl : clampM neg mode (lV neg V E mode) = lV neg V E mode := by
    unfold clampM
    by_cases h1 : 9218868437227405312 ≤ lV neg V E mode
    · rw [if_pos h1]
      have hu1 : u = true := by
        cases u
        · simp at hl; omega
        · rfl
      rw [hu1] at hl hup
      have ho : outM neg mode = false := by
        have hm2 := hm
        unfold modeM at hm2
        simp only [Bool.and_eq_true, decide_eq_true_eq] at hm2
        have hmc : mode = 0 ∨ mode = 1 ∨ mode = 2 ∨ mode = 3 ∨ mode = 4 := by omega
        unfold upM at hup
        unfold outM
        rcases hmc with rfl | rfl | rfl | rfl | rfl <;> cases neg <;> simp_all
      rw [ho]
      simp at hl ⊢
      omega
    · rw [if_neg h1]
  unfold exactV
  rw [hm, if_pos (by rfl), if_neg h0, hcl, hl, ht]
  have hx : (9218868437227405312 ≤ inW V E + (if u then 1 else 0)) ↔ inW V E + (if u then 1 else 0) = 9218868437227405312 := by
    cases u
    · simp; omega
    · simp; omega
  simp only [hx, if_neg (show ¬ unitE V E ≤ E by omega), decide_eq_true_eq]
theorem code_beyond {neg : Bool} {V : Nat} {E mode : Int} (hm : modeM mode = true) (h0 : V ≠ 0) (hu : 971 < unitE V E) {u : Bool} (q : Nat) (hup : upM neg mode 1 q = u) :
    exactV true neg V E mode = (sgW neg + (9218868437227405311 + (if u then 1 else 0)), 3, true) := by
  obtain ⟨_, hr⟩ := choose_range (neg := neg) (E := E) (mode := mode) h0
  have hl : 9218868437227405312 ≤ lV neg V E mode := by unfold lV; omega
  unfold exactV
  rw [hm, if_pos (by rfl), if_neg h0, if_pos hl]
  unfold clampM
  rw [if_pos hl]
  have ho : outM neg mode = !u := by
    subst hup
    unfold modeM at hm
    simp only [Bool.and_eq_true, decide_eq_true_eq] at hm
    unfold upM outM
    have hmc : mode = 0 ∨ mode = 1 ∨ mode = 2 ∨ mode = 3 ∨ mode = 4 := by omega
    rcases hmc with rfl | rfl | rfl | rfl | rfl <;> cases neg <;> simp
  rw [ho]
  cases u <;> rfl
/-- The word behind a word of no sign. -/
theorem in_next {W : Nat} (h : W < 9218868437227405312) : nextN W true = (W + 1, true) := by
  rw [next_lo]
  have h1 : loN W = W := by unfold loN; omega
  have h2 : sgB W = false := sgB_false.2 (by omega)
  rw [h1, h2, if_neg (by simp; omega)]
  by_cases h0 : W = 0
  · rw [if_pos h0, h0]; rfl
  · rw [if_neg h0]; rfl
theorem in_kind {W : Nat} (h : W ≤ 9218868437227405312) : kindN W = 3 ↔ W = 9218868437227405312 := by
  rw [kind_three]
  unfold loN
  omega
theorem unit_top {V : Nat} {E : Int} : (971 < unitE V E ↔ 1024 < E + (nb V : Int)) ∧ (topV V E = E + (nb V : Int)) ∧ unitE V E = max (E + (nb V : Int) - 53) (-1074) := by
  unfold unitE topV
  omega
end Go.Proofs.YtilmbdbcgbndmaaDoor
