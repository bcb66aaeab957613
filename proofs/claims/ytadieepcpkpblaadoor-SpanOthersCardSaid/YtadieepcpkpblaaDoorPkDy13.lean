/-
  volvelleref02: wide, add.
  The reference's sum, one number after the other, in plain numbers.
  volvelleref02: Mul, Sum.
-/
import Derived.BigQuiet
import Derived.Test.YtadieepcpkpblaaDoorPkDy3
import Derived.Test.YtadieepcpkpblaaDoorPkDy5
import Derived.Test.YtadieepcpkpblaaDoorPkDy8
import Derived.Test.YtadieepcpkpblaaDoorPkDy9
import Derived.Test.YtadieepcpkpblaaDoorPkDy7
import Derived.Test.YtadieepcpkpblaaDoorPkDy10
import Derived.Test.YtadieepcpkpblaaDoorPkDy11
import Derived.Test.YtadieepcpkpblaaDoorPkDy12
namespace Go.Proofs.YtadieepcpkpblaaDoor
open Go.RowKit

/-- The canonical form of V times 2 to the e, whatever its size. -/
def wdD (neg : Bool) (V : Nat) (e : Int) : DR := if V = 0 then .zero else ⟨true, neg, od V, e + (v2 V : Int)⟩
theorem wdD_zero (neg : Bool) (e : Int) : wdD neg 0 e = .zero := rfl
theorem wdD_pow (neg : Bool) (V z : Nat) (e : Int) : wdD neg (V * 2 ^ z) (e - (z : Int)) = wdD neg V e := by
  unfold wdD
  rcases Nat.eq_zero_or_pos V with h | h
  · subst h; simp
  · obtain ⟨h1, h2⟩ := od_pow V z h
    have h3 : ¬ V * 2 ^ z = 0 := by have := Nat.mul_pos h (Nat.two_pow_pos z); omega
    rw [h1, h2, if_neg h3, if_neg (by omega : ¬ V = 0)]
    rw [show e - (z : Int) + ((v2 V + z : Nat) : Int) = e + (v2 V : Int) by omega]
/-- .. and where it is plain, it is what Make answers. -/
theorem mkD_wd (neg : Bool) (V : Nat) (e : Int) : mkD neg V e = if plainV (wdD neg V e).neg (wdD neg V e).m (wdD neg V e).e then wdD neg V e else DR.no := by
  unfold mkD wdD
  rcases Nat.eq_zero_or_pos V with h | h
  · subst h; rfl
  · obtain ⟨g1, g2⟩ := od_spec h
    have hp := od_pos h
    have h0 : ¬ V = 0 := by omega
    simp only [h0, if_false]
    unfold plainV
    rw [if_neg (show ¬ od V = 0 by omega), show decide (od V % 2 = 1) = true by simp [g2], Bool.true_and]
    by_cases hc : nb (od V) ≤ MB ∧ fitE (e + (v2 V : Int))
    · rw [if_pos hc]; simp [hc.1, hc.2]
    · rw [if_neg hc]
      have : (decide (nb (od V) ≤ MB) && decide (fitE (e + (v2 V : Int)))) = false := by simpa using fun h1 h2 => hc ⟨h1, h2⟩
      rw [this]; simp
def DOne (w : World) (r : DR) (e : Ending) (w' : World) : Prop := ∃ A p c, e = .returned (.agg #[.bool r.neg, .slice A p c, .int .i64 r.e]) ∧ Num w' (.slice A p c) r.m ∧ Below w.heap.size w w'
theorem v2_lt_nb {V : Nat} (h : 0 < V) : v2 V < nb V := by
  obtain ⟨g1, g2⟩ := od_spec h
  have e1 : 1 * 2 ^ v2 V ≤ od V * 2 ^ v2 V := Nat.mul_le_mul_right _ (od_pos h)
  have e2 := nb_lt V
  exact (Nat.pow_lt_pow_iff_right (by omega : 1 < 2)).1 (by omega)

theorem nb_add {X Y K : Nat} (h1 : nb X ≤ K) (h2 : nb Y ≤ K) : nb (X + Y) ≤ K + 1 := by
  refine (nb_le_iff _ _).2 ?_
  have h1 := (nb_le_iff X K).1 h1
  have h2 := (nb_le_iff Y K).1 h2
  rw [Nat.pow_succ]
  omega
/-- The sum of two, whatever its size. -/
def addD (na nb' : Bool) (Va Vb : Nat) (ea eb : Int) : DR :=
  if 0 < sideX Va Vb ea eb ∧ 0 < sideY Va Vb ea eb ∧ na ≠ nb' then
    (if sideY Va Vb ea eb ≤ sideX Va Vb ea eb then wdD na (sideX Va Vb ea eb - sideY Va Vb ea eb) (sideE Va Vb ea eb) else wdD nb' (sideY Va Vb ea eb - sideX Va Vb ea eb) (sideE Va Vb ea eb))
  else wdD (na || (decide (sideX Va Vb ea eb = 0) && nb')) (sideX Va Vb ea eb + sideY Va Vb ea eb) (sideE Va Vb ea eb)

end Go.Proofs.YtadieepcpkpblaaDoor

namespace Go.Proofs.YtadieepcpkpblaaDoor
open Go.RowKit

/-- What the numbers above 0 and those below are together. -/
def wdS (P M : Nat) (lo : Int) : DR := if M ≤ P then wdD false (P - M) lo else wdD true (M - P) lo
theorem wdS_form (P M : Nat) (lo : Int) : ∃ (sg : Bool) (U : Nat), wdS P M lo = wdD sg U lo ∧ (sg = false → P = M + U) ∧ (sg = true → M = P + U ∧ 0 < U) := by
  unfold wdS
  by_cases h : M ≤ P
  · rw [if_pos h]; exact ⟨false, P - M, rfl, fun _ => by omega, fun h => by cases h⟩
  · rw [if_neg h]; exact ⟨true, M - P, rfl, (fun h => by cases h), fun _ => by omega⟩
theorem wd_pos {sg : Bool} {U : Nat} {lo : Int} (h : 0 < U) : wdD sg U lo = ⟨true, sg, od U, lo + (v2 U : Int)⟩ := by
  unfold wdD; rw [if_neg (by omega)]
/-- One number more. -/
theorem add_step (P M : Nat) (lo : Int) (ng : Bool) (v : Nat) (e : Int) (hz : v = 0 → ng = false ∧ e = 0) (he : v = 0 ∨ lo ≤ e) :
    addD (wdS P M lo).neg ng (wdS P M lo).m v (wdS P M lo).e e = wdS (P + if ng = false then v * 2 ^ (e - lo).toNat else 0) (M + if ng = true then v * 2 ^ (e - lo).toNat else 0) lo := by
  obtain ⟨sg, U, hw, h1, h2⟩ := wdS_form P M lo
  rw [hw]
  rcases Nat.eq_zero_or_pos U with hU | hU
  · subst hU
    have hPM : P = M := by
      cases sg
      · exact h1 rfl
      · have := (h2 rfl).2; omega
    subst hPM
    rw [wdD_zero]
    unfold addD sideX sideY sideE
    simp only [DR.zero, if_true]
    rw [if_neg (by omega)]
    simp only [decide_true, Bool.true_and, Bool.false_or, Nat.zero_add]
    rcases Nat.eq_zero_or_pos v with hv | hv
    · obtain ⟨rfl, rfl⟩ := hz hv
      subst hv
      simp only [wdD_zero, Nat.zero_mul, Nat.add_zero, if_true]
      simp [wdS, wdD_zero]
    · have he' : lo ≤ e := by rcases he with h | h <;> omega
      obtain ⟨k, hk⟩ : ∃ k : Nat, e - lo = (k : Int) := ⟨(e - lo).toNat, by omega⟩
      have e1 := wdD_pow ng v k e
      rw [show e - (k : Int) = lo by omega] at e1
      rw [← e1, hk, Int.toNat_natCast]
      have hp := Nat.mul_pos hv (Nat.two_pow_pos k)
      unfold wdS
      cases ng
      · simp only [if_true, Bool.false_eq_true, if_false, Nat.add_zero]
        rw [if_pos (by omega), show P + v * 2 ^ k - P = v * 2 ^ k by omega]
      · simp only [if_true, Bool.true_eq_false, if_false, Nat.add_zero]
        rw [if_neg (by omega), show P + v * 2 ^ k - P = v * 2 ^ k by omega]
  · obtain ⟨g1, g2⟩ := od_spec hU
    have ho := od_pos hU
    rw [wd_pos hU]
    simp only
    rcases Nat.eq_zero_or_pos v with hv | hv
    · obtain ⟨rfl, rfl⟩ := hz hv
      subst hv
      unfold addD sideX sideY sideE
      have h0 : ¬ od U = 0 := by omega
      simp only [h0, if_false, if_true, Nat.zero_mul, Nat.add_zero, decide_false, Bool.false_and, Bool.or_false]
      rw [if_neg (fun h => by have := h.2.1; omega)]
      have e1 := wdD_pow sg (od U) (v2 U) (lo + (v2 U : Int))
      rw [← g1, show lo + (v2 U : Int) - (v2 U : Int) = lo by omega] at e1
      rw [← e1, ← hw]
      simp
    · have he' : lo ≤ e := by rcases he with h | h <;> omega
      obtain ⟨k, hk⟩ : ∃ k : Nat, e - lo = (k : Int) := ⟨(e - lo).toNat, by omega⟩
      obtain ⟨E, hE⟩ : ∃ E, E = min (lo + (v2 U : Int)) e := ⟨_, rfl⟩
      obtain ⟨t, ht⟩ : ∃ t : Nat, E - lo = (t : Int) := ⟨(E - lo).toNat, by omega⟩
      obtain ⟨X, hX⟩ : ∃ X, X = onE (od U) (lo + (v2 U : Int)) e := ⟨_, rfl⟩
      obtain ⟨Y, hY⟩ : ∃ Y, Y = onE v e (lo + (v2 U : Int)) := ⟨_, rfl⟩
      have hXt : X * 2 ^ t = U := by
        rw [hX, onE, ← hE, Nat.mul_assoc, ← Nat.pow_add, show (lo + (v2 U : Int) - E).toNat + t = v2 U by omega]
        exact g1.symm
      have hYt : Y * 2 ^ t = v * 2 ^ k := by
        rw [hY, onE, show min e (lo + (v2 U : Int)) = E by omega, Nat.mul_assoc, ← Nat.pow_add, show (e - E).toNat + t = k by omega]
      have hX0 : 0 < X := by rw [hX]; exact onE_pos ho
      have hY0 : 0 < Y := by rw [hY]; exact onE_pos hv
      have hA : addD sg ng (od U) v (lo + (v2 U : Int)) e = if sg ≠ ng then (if Y ≤ X then wdD sg (X - Y) E else wdD ng (Y - X) E) else wdD sg (X + Y) E := by
        have h0 : ¬ od U = 0 := by omega
        have h3 : ¬ v = 0 := by omega
        unfold addD sideX sideY sideE
        simp only [h0, h3, if_false]
        rw [← hX, ← hY, ← hE]
        have h4 : ¬ X = 0 := by omega
        simp [hX0, hY0, h4]
      have hwd : ∀ (s : Bool) (m : Nat), wdD s m E = wdD s (m * 2 ^ t) lo := fun s m => by
        have e1 := wdD_pow s m t E
        rw [show E - (t : Int) = lo by omega] at e1
        exact e1.symm
      rw [hA, hk, Int.toNat_natCast, ← hYt]
      have hle : Y ≤ X ↔ Y * 2 ^ t ≤ U := by
        rw [← hXt]
        exact ⟨fun h => Nat.mul_le_mul_right _ h, fun h => Nat.le_of_mul_le_mul_right h (Nat.two_pow_pos t)⟩
      have hYt0 := Nat.mul_pos hY0 (Nat.two_pow_pos t)
      have e1 : (X + Y) * 2 ^ t = U + Y * 2 ^ t := by rw [Nat.add_mul, hXt]
      have e2 : (X - Y) * 2 ^ t = U - Y * 2 ^ t := by rw [Nat.sub_mul, hXt]
      have e3 : (Y - X) * 2 ^ t = Y * 2 ^ t - U := by rw [Nat.sub_mul, hXt]
      rw [hwd, hwd, hwd, e1, e2, e3]
      generalize Y * 2 ^ t = y at *
      unfold wdS
      cases sg
      · have hP := h1 rfl
        cases ng
        · simp only [ne_eq, not_true_eq_false, if_false, if_true, Bool.false_eq_true, Nat.add_zero]
          rw [if_pos (by omega), show P + y - M = U + y by omega]
        · simp only [ne_eq, Bool.false_eq_true, Bool.true_eq_false, not_false_eq_true, if_true, if_false, Nat.add_zero]
          by_cases h5 : Y ≤ X
          · have h6 := hle.1 h5
            rw [if_pos h5, if_pos (by omega), show P - (M + y) = U - y by omega]
          · have h6 : ¬ y ≤ U := fun h => h5 (hle.2 h)
            rw [if_neg h5, if_neg (by omega), show M + y - P = y - U by omega]
      · obtain ⟨hM, _⟩ := h2 rfl
        cases ng
        · simp only [ne_eq, Bool.true_eq_false, Bool.false_eq_true, not_false_eq_true, if_true, if_false, Nat.add_zero]
          by_cases h5 : Y ≤ X
          · have h6 := hle.1 h5
            rw [if_pos h5]
            by_cases h7 : y = U
            · rw [if_pos (by omega), show U - y = 0 by omega, show P + y - M = 0 by omega, wdD_zero, wdD_zero]
            · rw [if_neg (by omega), show M - (P + y) = U - y by omega]
          · have h6 : ¬ y ≤ U := fun h => h5 (hle.2 h)
            rw [if_neg h5, if_pos (by omega), show P + y - M = y - U by omega]
        · simp only [ne_eq, not_true_eq_false, if_false, if_true, Bool.true_eq_false, Nat.add_zero]
          rw [if_neg (by omega), show M + y - P = U + y by omega]

/-- How wide the numbers lie. -/
theorem einv_ex (l : DL) (k : Nat) (hP : ∀ j, j < k → nb (l.v j) ≤ 16384) : ∃ lo hi en fd, EInv l k lo hi en fd := by
  induction k with
  | zero => exact ⟨0, 0, 0, false, EInv.start l⟩
  | succ k ih =>
    obtain ⟨lo, hi, en, fd, h⟩ := ih fun j hj => hP j (by omega)
    by_cases h0 : l.n k = 0
    · exact ⟨lo, hi, en, fd, h.zero h0⟩
    · cases fd
      · exact ⟨_, _, _, _, EInv.first h h0 (hP k (by omega))⟩
      · exact ⟨_, _, _, _, EInv.more h h0 (hP k (by omega))⟩
/-- Bounds of a sum under way. -/
theorem wdS_bound {P M K : Nat} {lo : Int} (hP : nb P ≤ K) (hM : nb M ≤ K) : nb (wdS P M lo).m ≤ K ∧ ((wdS P M lo).m = 0 → (wdS P M lo).e = 0 ∧ (wdS P M lo).neg = false) ∧ (0 < (wdS P M lo).m → lo ≤ (wdS P M lo).e ∧ (wdS P M lo).e ≤ lo + (K : Int)) ∧ (wdS P M lo).ok = true ∧
    ∀ t : Nat, 0 < (wdS P M lo).m → (wdS P M lo).e - lo = (t : Int) → nb ((wdS P M lo).m * 2 ^ t) ≤ K := by
  obtain ⟨sg, U, hw, h1, h2⟩ := wdS_form P M lo
  have hUK : nb U ≤ K := by
    cases sg
    · have := nb_mono (show U ≤ P by have := h1 rfl; omega); omega
    · have := nb_mono (show U ≤ M by have := (h2 rfl).1; omega); omega
  rw [hw]
  rcases Nat.eq_zero_or_pos U with hU | hU
  · subst hU
    rw [wdD_zero]
    exact ⟨by simp only [DR.zero]; rw [nb_zero]; omega, fun _ => ⟨rfl, rfl⟩, fun h => absurd h (by decide), rfl, fun _ h => absurd h (by decide)⟩
  · obtain ⟨g1, g2⟩ := od_spec hU
    have ho := od_pos hU
    have hv := v2_lt_nb hU
    rw [wd_pos hU]
    refine ⟨by simp only; have := nb_mono (od_le U); omega, fun h => by simp only at h; omega, fun _ => ⟨by simp only; omega, by simp only; omega⟩, rfl, fun t _ ht => ?_⟩
    simp only at ht ⊢
    obtain rfl : t = v2 U := by omega
    rw [← g1]; exact hUK
end Go.Proofs.YtadieepcpkpblaaDoor

namespace Go.Proofs.YtadieepcpkpblaaDoor
open Go.RowKit

/-- Least and greatest exponent so far, as the reference keeps them. -/
def RInv (l : DL) (j : Nat) (lo hi : Int) (fd : Bool) : Prop := match ext l j with
  | none => fd = false ∧ lo = 0 ∧ hi = 0
  | some (a, b) => fd = true ∧ lo = a ∧ hi = b
theorem RInv.start (l : DL) : RInv l 0 0 0 false := ⟨rfl, rfl, rfl⟩
theorem RInv.zero {l : DL} {j : Nat} {lo hi : Int} {fd : Bool} (h : RInv l j lo hi fd) (h0 : l.n j = 0) : RInv l (j + 1) lo hi fd := by
  unfold RInv at *
  rw [ext, if_pos h0]; exact h
theorem RInv.first {l : DL} {j : Nat} {lo hi : Int} (h : RInv l j lo hi false) (h0 : l.n j ≠ 0) : RInv l (j + 1) (l.e j) (l.e j) true := by
  unfold RInv at *
  rw [ext, if_neg h0]
  cases he : ext l j with
  | none => exact ⟨rfl, rfl, rfl⟩
  | some p => rw [he] at h; obtain ⟨a, b⟩ := p; exact absurd h.1 (by decide)
theorem RInv.more {l : DL} {j : Nat} {lo hi : Int} (h : RInv l j lo hi true) (h0 : l.n j ≠ 0) : RInv l (j + 1) (min lo (l.e j)) (max hi (l.e j)) true := by
  unfold RInv at *
  rw [ext, if_neg h0]
  cases he : ext l j with
  | none => rw [he] at h; exact absurd h.1 (by decide)
  | some p => rw [he] at h; obtain ⟨a, b⟩ := p; obtain ⟨_, rfl, rfl⟩ := h; exact ⟨rfl, rfl, rfl⟩
theorem RInv.lohi {l : DL} {k : Nat} {lo hi : Int} {fd : Bool} (h : RInv l k lo hi fd) : lo = loOf l k ∧ hi = hiOf l k := by
  unfold RInv at h
  unfold loOf hiOf
  cases he : ext l k with
  | none => rw [he] at h; obtain ⟨_, rfl, rfl⟩ := h; exact ⟨rfl, rfl⟩
  | some p => rw [he] at h; obtain ⟨a, b⟩ := p; obtain ⟨_, rfl, rfl⟩ := h; exact ⟨rfl, rfl⟩
theorem F1.drewN {w w1 : World} (h : F1 w w1) (k : Nat) : F1 w (w1.drewN k) := ⟨below_drewN h.bel k, h.kr, h.sz, h.tab0⟩
theorem F1.drew {w w1 : World} (h : F1 w w1) : F1 w w1.drew := ⟨h.bel.drew, h.kr, h.sz, h.tab0⟩
theorem F1.only {w w1 w2 : World} {g : Nat} (h : F1 w w1) (o : Only w1 w2 g) (hg : w.heap.size + 1 ≤ g) : F1 w w2 :=
  ⟨below_only h.bel o (by omega), (o.block w.heap.size (by have := h.sz; omega) (by simp; omega)).trans h.kr, Nat.le_trans h.sz o.size, h.tab0⟩
theorem sum_plain (P M : Nat) (lo : Int) : (if M ≤ P then mkD false (P - M) lo else mkD true (M - P) lo) = if plainV (wdS P M lo).neg (wdS P M lo).m (wdS P M lo).e then wdS P M lo else DR.no := by
  unfold wdS
  by_cases h : M ≤ P
  · simp only [h, if_true]; exact mkD_wd _ _ _
  · simp only [h, if_false]; exact mkD_wd _ _ _
theorem K3.drewN {w : World} {g : Nat} {a b c : Value} (h : K3 w g a b c) (k : Nat) : K3 (w.drewN k) g a b c := h
theorem K3.drew {w : World} {g : Nat} {a b c : Value} (h : K3 w g a b c) : K3 w.drew g a b c := h

end Go.Proofs.YtadieepcpkpblaaDoor
