/-
  The least and the greatest product of two spans, in plain numbers.
  Quotients of dyads, on numbers.
  The least and the greatest of some dyads, in numbers (no memory is named).
  The reference's product of two spans, in numbers, and that it is the code's.
  The reference's quotient of two spans, in numbers, and that it is the code's.
-/
import Derived.Test.YtodjldhppbbhdaaGreatDoorPlSerGNumbers
import Derived.Test.YtodjldhppbbhdaaGreatDoorPlSerGDy12
import Derived.Test.YtodjldhppbbhdaaGreatDoorPlSerGSp4
import Derived.Test.YtodjldhppbbhdaaGreatDoorPlSerGSp6
import Derived.Test.YtodjldhppbbhdaaGreatDoorPlSerGSp10
import Derived.Test.YtodjldhppbbhdaaGreatDoorPlSerGSp7
namespace Go.Proofs.YtodjldhppbbhdaaGreatDoor
open Go.RowKit

/-- What a dyad (or a number) stands for, in units of 2 to the g. -/
def val (r : DR) (g : Int) : Int := valI r.neg r.m r.e g
theorem val_zero {r : DR} {g : Int} (h : r.m = 0) : val r g = 0 := by
  unfold val valI mag
  rw [h, Nat.zero_mul]
  split <;> rfl
theorem ord_val {r s : DR} {g : Int} (hr : g ≤ r.e) (hs : g ≤ s.e) (h : ordD r.neg s.neg r.m s.m r.e s.e ≤ 0) : val r g ≤ val s g := by
  have m1 := mag_on (Va := r.m) hr hs
  have m2 := mag_on (Va := s.m) hs hr
  rw [show min s.e r.e = min r.e s.e by omega] at m2
  have key : ∀ {X Y : Nat}, X ≤ Y → X * 2 ^ (min r.e s.e - g).toNat ≤ Y * 2 ^ (min r.e s.e - g).toNat := fun h => Nat.mul_le_mul_right _ h
  unfold ordD sizeC at h
  unfold val valI
  have hc : ∀ {X Y : Nat}, cmpN X Y ≤ 0 → X ≤ Y := fun {X Y} h => by
    rcases Nat.lt_or_ge Y X with h1 | h1
    · rw [cmpN_gt h1] at h; omega
    · exact h1
  cases hr1 : r.neg <;> cases hs1 : s.neg <;> rw [hr1, hs1] at h
  · simp only [if_true, Bool.false_eq_true, if_false] at h ⊢
    have := key (hc h)
    omega
  · simp at h
  · simp only [if_true, Bool.false_eq_true, if_false]; omega
  · simp only [if_true] at h ⊢
    rw [cmpN_anti] at h
    have := key (hc (X := onE s.m s.e r.e) (Y := onE r.m r.e s.e) (by omega))
    omega
end Go.Proofs.YtodjldhppbbhdaaGreatDoor

namespace Go.Proofs.YtodjldhppbbhdaaGreatDoor
open Go.RowKit

theorem cut_lt {V p : Nat} (hp : p ≤ nb V) : V / 2 ^ (nb V - p) < 2 ^ p := by
  have h := nb_lt (V / 2 ^ (nb V - p))
  rw [nb_div_pow, show nb V - (nb V - p) = p by omega] at h
  exact h
/-- A quotient of two numbers, to P bits. -/
def qN (r s : DR) (P : Nat) (up : Bool) : DR := quoD r.neg s.neg r.m s.m r.e s.e (P + nb s.m - nb r.m) P up
/-- A number that isn't too great for a quotient. -/
structure Bd (r : DR) : Prop where
  b : nb r.m ≤ 3000
  lo : -30000 ≤ r.e
  hi : r.e ≤ 30000
  z : r.m = 0 → r.neg = false
theorem overI_qN {r s : DR} {p : Int} (up : Bool) (hr : r.ok = true) (hs : s.ok = true) (h : 0 < s.m) (hp : bitsFitB p = true) : overI r s p up = qN r s p.toNat up := by
  unfold overI overD qN
  rw [hr, hs, hp, show decide (s.m = 0) = false from decide_eq_false (by omega)]
  rfl
end Go.Proofs.YtodjldhppbbhdaaGreatDoor

namespace Go.Proofs.YtodjldhppbbhdaaGreatDoor
open Go.RowKit

def betterR (r : Nat → DR) (most : Bool) (a b : Nat) : Bool := if most then decide (0 < cmpI2 (r a) (r b)) else decide (cmpI2 (r a) (r b) < 0)
def bestR (r : Nat → DR) (most : Bool) : Nat → Nat
  | 0 => 0
  | i + 1 => if betterR r most (i + 1) (bestR r most i) then i + 1 else bestR r most i
/-- The one of four that is kept. -/
def pick4 (r : Nat → DR) (most : Bool) : DR := r (bestR r most 3)
theorem bestR_le (r : Nat → DR) (most : Bool) (i : Nat) : bestR r most i ≤ i := by
  induction i with
  | zero => exact Nat.le_refl _
  | succ i ih => unfold bestR; split <;> omega
/-- A list in memory whose dyads are these. -/
theorem bestL_R (l : DL) (r : Nat → DR) (most : Bool) (k : Nat) (h : ∀ a b, a < k → b < k → cmpL l a b = cmpI2 (r a) (r b)) (n : Nat) (hn : n < k) : bestL l most n = bestR r most n := by
  induction n with
  | zero => rfl
  | succ n ih =>
    have hb := bestR_le r most n
    have e : betterL l most (n + 1) (bestR r most n) = betterR r most (n + 1) (bestR r most n) := by
      unfold betterL betterR
      rw [h (n + 1) _ hn (by omega)]
    rw [bestL, bestR, ih (by omega), e]
theorem bestR_is (r : Nat → DR) (most : Bool) (k : Nat) (f : Nat → Int) (hc : ∀ i j, i < k → j < k → betterR r most i j = if most then decide (f j < f i) else decide (f i < f j)) (n : Nat) (hn : n < k) :
    ∀ i, i ≤ n → if most then f i ≤ f (bestR r most n) else f (bestR r most n) ≤ f i := by
  induction n with
  | zero =>
    intro i hi
    obtain rfl : i = 0 := by omega
    cases most <;> exact Int.le_refl _
  | succ n ih =>
    intro i hi
    have h0 := ih (by omega)
    have hb := bestR_le r most n
    have h1 := hc (n + 1) (bestR r most n) hn (by omega)
    rw [bestR]
    generalize bestR r most n = b at *
    rw [h1]
    cases most
    · simp only [Bool.false_eq_true, if_false, decide_eq_true_eq] at h0 ⊢
      rcases Nat.lt_or_ge n i with h | h
      · obtain rfl : i = n + 1 := by omega
        split <;> omega
      · have := h0 i h
        split <;> omega
    · simp only [if_true, decide_eq_true_eq] at h0 ⊢
      rcases Nat.lt_or_ge n i with h | h
      · obtain rfl : i = n + 1 := by omega
        split <;> omega
      · have := h0 i h
        split <;> omega
/-- A plain dyad above a unit. -/
structure Up (r : DR) (g : Int) : Prop where
  ok : r.ok = true
  z : r.m = 0 → r.neg = false
  e : g ≤ r.e
theorem cmp_val {r s : DR} {g : Int} (hr : Up r g) (hs : Up s g) : decide (cmpI2 r s < 0) = decide (val r g < val s g) := by
  have h1 : cmpI2 r s = ordD r.neg s.neg r.m s.m r.e s.e := by unfold cmpI2 cmpD; rw [hr.ok, hs.ok]; rfl
  have h2 : cmpI2 s r = ordD s.neg r.neg s.m r.m s.e r.e := by unfold cmpI2 cmpD; rw [hr.ok, hs.ok]; rfl
  have h3 := cmpI2_anti r s
  by_cases h : val s g ≤ val r g
  · have := ord_le (g := g) hs.z hr.z (.inr hs.e) (.inr hr.e) h
    rw [decide_eq_false (by omega), decide_eq_false (by omega)]
  · have h4 : ¬ ordD s.neg r.neg s.m r.m s.e r.e ≤ 0 := fun h4 => h (ord_val hs.e hr.e h4)
    rw [decide_eq_true (by omega), decide_eq_true (by omega)]
theorem cmp_val2 {r s : DR} {g : Int} (hr : Up r g) (hs : Up s g) : decide (0 < cmpI2 r s) = decide (val s g < val r g) := by
  rw [← cmp_val hs hr]
  have := cmpI2_anti r s
  by_cases h : 0 < cmpI2 r s
  · rw [decide_eq_true h, decide_eq_true (by omega)]
  · rw [decide_eq_false h, decide_eq_false (by omega)]
theorem pick4_is {r : Nat → DR} {g : Int} (h : ∀ j, j < 4 → Up (r j) g) (most : Bool) : (∃ j, j < 4 ∧ pick4 r most = r j) ∧ ∀ j, j < 4 → if most then val (r j) g ≤ val (pick4 r most) g else val (pick4 r most) g ≤ val (r j) g := by
  have hb := bestR_le r most 3
  refine ⟨⟨_, by omega, rfl⟩, fun j hj => ?_⟩
  refine bestR_is r most 4 (fun j => val (r j) g) (fun i j hi hj => ?_) 3 (by omega) j (by omega)
  unfold betterR
  cases most
  · simp only [Bool.false_eq_true, if_false]; exact cmp_val (h i hi) (h j hj)
  · simp only [if_true]; exact cmp_val2 (h i hi) (h j hj)
theorem pick4_low {r : Nat → DR} {g : Int} (h : ∀ j, j < 4 → Up (r j) g) : (∃ j, j < 4 ∧ pick4 r false = r j) ∧ ∀ j, j < 4 → val (pick4 r false) g ≤ val (r j) g := pick4_is h false
theorem pick4_high {r : Nat → DR} {g : Int} (h : ∀ j, j < 4 → Up (r j) g) : (∃ j, j < 4 ∧ pick4 r true = r j) ∧ ∀ j, j < 4 → val (r j) g ≤ val (pick4 r true) g := pick4_is h true
end Go.Proofs.YtodjldhppbbhdaaGreatDoor

namespace Go.Proofs.YtodjldhppbbhdaaGreatDoor
open Go.RowKit

def mulI (r s : DR) : DR := mulD (r.ok && s.ok) r.neg s.neg r.m s.m r.e s.e
theorem plIf_mulI (r s : DR) : PlIf (mulI r s) := by
  unfold mulI mulD
  split
  · exact plIf_mk _ _ _
  · exact plIf_no
/-- The ends that the j-th of the four is made of; the four. -/
def endL (lo hi : DR) (j : Nat) : DR := if j / 2 = 0 then lo else hi
def endR (lo hi : DR) (j : Nat) : DR := if j % 2 = 0 then lo else hi
def prod4 (lo hi lo' hi' : DR) (j : Nat) : DR := mulI (endL lo hi j) (endR lo' hi' j)
def ok4 (r : Nat → DR) : Bool := (r 0).ok && (r 1).ok && (r 2).ok && (r 3).ok
theorem ok4_true {r : Nat → DR} (h : ok4 r = true) : ∀ j, j < 4 → (r j).ok = true := by
  unfold ok4 at h
  simp only [Bool.and_eq_true] at h
  intro j hj
  have : j = 0 ∨ j = 1 ∨ j = 2 ∨ j = 3 := by omega
  rcases this with rfl | rfl | rfl | rfl
  · exact h.1.1.1
  · exact h.1.1.2
  · exact h.1.2
  · exact h.2
theorem ok4_of {r : Nat → DR} (h : ∀ j, j < 4 → (r j).ok = true) : ok4 r = true := by
  unfold ok4
  rw [h 0 (by omega), h 1 (by omega), h 2 (by omega), h 3 (by omega)]
  rfl
theorem ok4_false {r : Nat → DR} {j : Nat} (hj : j < 4) (h : (r j).ok = false) : ok4 r = false := by
  cases h4 : ok4 r
  · rfl
  · rw [ok4_true h4 j hj] at h; cases h
theorem pl_pick4 {r : Nat → DR} (h : ∀ j, j < 4 → (r j).ok = true ∧ plainV (r j).neg (r j).m (r j).e = true) (most : Bool) : Pl (pick4 r most) := by
  have hb := bestR_le r most 3
  have := h (bestR r most 3) (by omega)
  exact ⟨this.1, this.2⟩
/-- What the reference answers for a product. -/
def mulR (p : Int) (bad : Bool) (lo hi lo' hi' : DR) : SRes :=
  if bad2 p bad lo hi lo' hi' then SRes.no else if ok4 (prod4 lo hi lo' hi') then outS p false (pick4 (prod4 lo hi lo' hi') false) (pick4 (prod4 lo hi lo' hi') true) else SRes.no
end Go.Proofs.YtodjldhppbbhdaaGreatDoor

namespace Go.Proofs.YtodjldhppbbhdaaGreatDoor
open Go.RowKit

def quo4 (p : Int) (up : Bool) (lo hi lo' hi' : DR) (j : Nat) : DR := overI (endL lo hi j) (endR lo' hi' j) p up
/-- What the reference answers for a quotient. -/
def divR (p : Int) (bad : Bool) (lo hi lo' hi' : DR) : SRes :=
  if bad2 p bad lo hi lo' hi' then SRes.no else if signI lo' hi' = 0 then SRes.no else
    if ok4 (quo4 p false lo hi lo' hi') && ok4 (quo4 p true lo hi lo' hi') then ⟨false, pick4 (quo4 p false lo hi lo' hi') false, pick4 (quo4 p true lo hi lo' hi') true⟩ else SRes.no
theorem pl_up {r : DR} (h : Pl r) : Up r (-300000) := by
  have P := plainR_of h.pl
  exact ⟨h.ok, fun h0 => (P.zero h0).2, by have := P.e1; omega⟩
/-- Two ends of a divisor above 0. -/
structure Above (lo hi : DR) : Prop where
  b1 : Bd lo
  b2 : Bd hi
  o1 : lo.ok = true
  o2 : hi.ok = true
  m1 : 0 < lo.m
  n1 : lo.neg = false
  m2 : 0 < hi.m
  n2 : hi.neg = false
  le : val lo (-30000) ≤ val hi (-30000)
structure Any2 (lo hi : DR) : Prop where
  b1 : Bd lo
  b2 : Bd hi
  o1 : lo.ok = true
  o2 : hi.ok = true
  le : val lo (-30000) ≤ val hi (-30000)
theorem Any2.end {lo hi : DR} (h : Any2 lo hi) (j : Nat) : Bd (endL lo hi j) ∧ (endL lo hi j).ok = true ∧ val lo (-30000) ≤ val (endL lo hi j) (-30000) ∧ val (endL lo hi j) (-30000) ≤ val hi (-30000) := by
  unfold endL
  split
  · exact ⟨h.b1, h.o1, Int.le_refl _, h.le⟩
  · exact ⟨h.b2, h.o2, h.le, Int.le_refl _⟩
theorem Above.end {lo hi : DR} (h : Above lo hi) (j : Nat) : Bd (endR lo hi j) ∧ (endR lo hi j).ok = true ∧ 0 < (endR lo hi j).m ∧ (endR lo hi j).neg = false ∧ val lo (-30000) ≤ val (endR lo hi j) (-30000) ∧ val (endR lo hi j) (-30000) ≤ val hi (-30000) := by
  unfold endR
  split
  · exact ⟨h.b1, h.o1, h.m1, h.n1, Int.le_refl _, h.le⟩
  · exact ⟨h.b2, h.o2, h.m2, h.n2, h.le, Int.le_refl _⟩
section
variable {p : Int} {lo hi lo' hi' : DR} (hx : Any2 lo hi) (hy : Above lo' hi') (hp1 : 1 ≤ p) (hp2 : p ≤ 600)
include hx hy hp1 hp2
end
theorem negI_val {r : DR} (h : r.ok = true) (g : Int) : val (negI r) g = - val r g := by
  unfold negI
  rw [h]
  simp only [if_true]
  by_cases h0 : r.m = 0
  · rw [if_pos h0, val_zero h0, val_zero (show DR.zero.m = 0 from rfl)]; rfl
  · rw [if_neg h0]
    unfold val valI
    cases r.neg <;> simp
theorem negI_bd {r : DR} (h : r.ok = true) (b : Bd r) : Bd (negI r) ∧ (negI r).ok = true := by
  unfold negI
  rw [h]
  simp only [if_true]
  by_cases h0 : r.m = 0
  · rw [if_pos h0]
    exact ⟨⟨by show nb 0 ≤ 3000; rw [nb_zero]; omega, by show (-30000 : Int) ≤ 0; omega, by show (0 : Int) ≤ 30000; omega, fun _ => rfl⟩, rfl⟩
  · rw [if_neg h0]
    exact ⟨⟨b.b, b.lo, b.hi, fun h => absurd h h0⟩, rfl⟩
theorem Any2.neg {lo hi : DR} (h : Any2 lo hi) : Any2 (negI hi) (negI lo) := by
  have h1 := negI_bd h.o1 h.b1
  have h2 := negI_bd h.o2 h.b2
  exact ⟨h2.1, h1.1, h2.2, h1.2, by rw [negI_val h.o1, negI_val h.o2]; have := h.le; omega⟩
end Go.Proofs.YtodjldhppbbhdaaGreatDoor
