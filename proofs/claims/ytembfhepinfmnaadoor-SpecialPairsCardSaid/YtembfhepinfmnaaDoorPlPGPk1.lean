/-
  part in plain numbers: what is in reach, and what is singular. No program is named here.
  Words of what is special, in plain numbers: signs, infinities, the angle words, the table. No program is named here.
-/
import Derived.Test.YtembfhepinfmnaaDoorPlPGBN
namespace Go.Proofs.YtembfhepinfmnaaDoor

/-- Does a word stand for a number; is it a zero; is its size 1; is its size at most 2^15? -/
def finB (b : Nat) : Bool := decide (exN b ≠ 2047)
def zerB (b : Nat) : Bool := decide (loN b = 0)
def oneB (b : Nat) : Bool := decide (loN b = 4607182418800017408)
/-- Four words, of a tag that has two and of Mul and Div. -/
def wideT (tag : Int) : Bool := decide (tag = 4) || decide (tag = 5)
def numsB (tag : Int) (a b c d : Nat) : Bool := (decide (0 ≤ tag) && decide (tag ≤ 20)) && ((finB a && finB b) && (!wideT tag || (finB c && finB d)))
def singB (tag : Int) (a b c d : Nat) : Bool := numsB tag a b c d &&
  (if tag = 5 then zerB c && zerB d else if tag = 8 then zerB a && zerB b else if tag = 17 then zerB a && oneB b else if tag = 20 then oneB a && zerB b else false)

theorem pnum_ok (b : Nat) : (numD b).ok = finB b := by
  unfold finB
  by_cases h : exN b = 2047
  · rw [num_no h]; simp [h, DR.no]
  · obtain ⟨V, e, g, _, _⟩ := good_num h
    rw [g.ok]; simp [h]
theorem num_m_zero {b : Nat} (h : exN b ≠ 2047) : ((numD b).m = 0) ↔ loN b = 0 := by
  obtain ⟨V, e, g, he, hv⟩ := good_num h
  have h1 := num_val h
  have hs : ∀ l, szN l = 0 ↔ l = 0 := fun l => by
    constructor
    · intro hl
      rcases Nat.eq_zero_or_pos l with h0 | h0
      · exact h0
      · have := sz_mono h0; omega
    · rintro rfl; rfl
  have h2 : vB b = 0 ↔ loN b = 0 := by
    rw [← hs]
    unfold vB
    split <;> omega
  have h3 : valI (numD b).neg (numD b).m (numD b).e (-1074) = 0 ↔ (numD b).m = 0 := by
    unfold valI mag
    have := Nat.two_pow_pos ((numD b).e - -1074).toNat
    constructor
    · intro h4
      rcases Nat.eq_zero_or_pos (numD b).m with h0 | h0
      · exact h0
      · have := Nat.mul_pos h0 this
        split at h4 <;> omega
    · intro h4; rw [h4]; simp
  rw [← h3, h1, h2]
theorem lo_lt (b : Nat) : loN b < 9223372036854775808 := by unfold loN; omega
theorem lo_lo (b : Nat) : loN (loN b) = loN b := by unfold loN; omega
/-- Without its sign. -/
theorem num_size (b : Nat) : numD (loN b) = ⟨(numD b).ok, false, (numD b).m, (numD b).e⟩ := by
  have h1 : exN (loN b) = exN b := by unfold exN loN; omega
  have h2 : frN (loN b) = frN b := by unfold frN loN; omega
  have h3 : sgB (loN b) = false := by unfold sgB; have := lo_lt b; simp; omega
  have hm : ∀ (neg : Bool) V e, mkD false V e = ⟨(mkD neg V e).ok, false, (mkD neg V e).m, (mkD neg V e).e⟩ := fun neg V e => by
    unfold mkD
    split
    · rfl
    · split <;> rfl
  unfold numD
  rw [h1, h2, h3]
  split
  · rfl
  · split
    · exact hm _ _ _
    · exact hm _ _ _
theorem num_unit : numD 4607182418800017408 = ⟨true, false, 1, 0⟩ := by
  unfold numD
  rw [if_neg (by decide +kernel), if_neg (by decide +kernel)]
  rw [show 4503599627370496 + frN 4607182418800017408 = 1 * 2 ^ 52 by decide +kernel, show ((exN 4607182418800017408 : Nat) : Int) - 1075 = (0 : Int) - ((52 : Nat) : Int) by decide +kernel,
    show sgB 4607182418800017408 = false by decide +kernel, mkD_pow]
  exact mkD_plain (by decide) (by rw [show nb 1 = 1 from nb_of (B := 0) (by decide) (by decide), MB_eq]; omega) (fit_small (by decide))
/-- A number's size is 1 where its order to 1 is none. -/
theorem ord_one {b : Nat} (h : exN b ≠ 2047) : ordD false false (numD b).m 1 (numD b).e 0 = 0 ↔ loN b = 4607182418800017408 := by
  have h1 : exN (loN b) ≠ 2047 := by rw [show exN (loN b) = exN b by unfold exN loN; omega]; exact h
  have h2 : exN 4607182418800017408 ≠ 2047 := by decide +kernel
  have h3 : ordB (loN b) 4607182418800017408 = ordD false false (numD b).m 1 (numD b).e 0 := by unfold ordB; rw [num_size, num_unit]
  have hv : vB (loN b) = (szN (loN b) : Int) := by
    unfold vB
    rw [if_neg (by unfold sgB; have := lo_lt b; simp; omega), lo_lo]
  have hv1 : vB 4607182418800017408 = (szN 4607182418800017408 : Int) := by
    unfold vB
    rw [show sgB 4607182418800017408 = false by decide +kernel, show loN 4607182418800017408 = 4607182418800017408 by decide +kernel]
    rfl
  rw [← h3]
  constructor
  · intro h4
    rcases Nat.lt_trichotomy (loN b) 4607182418800017408 with h5 | h5 | h5
    · have := num_lt h1 h2 (by rw [hv, hv1]; have := sz_mono h5; omega)
      omega
    · exact h5
    · have h6 := num_lt h2 h1 (by rw [hv, hv1]; have := sz_mono h5; omega)
      unfold ordB at h4 h6
      rw [ord_anti] at h6
      omega
  · intro h4
    have h5 := num_le h1 h2 (by rw [hv, hv1, h4]; exact Int.le_refl _)
    have h6 := num_ge' h1 h2 (by rw [hv, hv1, h4]; exact Int.le_refl _)
    omega
end Go.Proofs.YtembfhepinfmnaaDoor

namespace Go.Proofs.YtembfhepinfmnaaDoor

/-- The sign's bit; a word with it; a word with the other sign; a word, but NaN for no number. -/
def sgI (s : Bool) : Int := if s then 9223372036854775808 else 0
def wI (b : Int) (s : Bool) : Int := if s then b + 9223372036854775808 else b
def flipN (b : Nat) : Nat := if 9223372036854775808 ≤ b then b - 9223372036854775808 else b + 9223372036854775808
def cleanI (b : Nat) : Int := if kindN b = 4 then 9221120237041090560 else (b : Int)
def infB (b : Nat) : Bool := decide (kindN b = 3)
def notB (b : Nat) : Bool := decide (kindN b = 4)
def angW (sx sy ix iy : Bool) : Int :=
  if iy && (ix && sx) then wI 4612488097114038738 sy else if iy && ix then wI 4605249457297304856 sy else if iy then wI 4609753056924675352 sy else if sx then wI 4614256656552045848 sy else wI 0 sy
def angF (sx iy : Bool) : Int := if iy || sx then 1 else 0

/-- Two words, and flags. -/
structure TW where
  a : Int
  b : Int
  f : Int
def TW.zero : TW := ⟨0, 0, 0⟩
/-- What the table tells of, before its last line: by the words' kinds. -/
structure Sp where
  x : Nat
  y : Nat
  su : Bool
  isI : Bool
  isN : Bool
  sing : Bool
def Sp.angW (p : Sp) : Int := Go.Proofs.YtembfhepinfmnaaDoor.angW (sgB p.x) (sgB p.y) (infB p.x) (infB p.y)
def Sp.angF (p : Sp) : Int := Go.Proofs.YtembfhepinfmnaaDoor.angF (sgB p.x) (infB p.y)
def overI (su : Bool) (b : Nat) : Int := if kindN b = 0 then 9221120237041090560 else wI 9218868437227405312 (sgB b ^^ su)
def lineN (tag : Int) (p : Sp) : TW × Bool :=
  if tag = 2 then (⟨cleanI p.x, cleanI (flipN p.y), 0⟩, true)
  else if tag = 3 then (if p.isI then ⟨9218868437227405312, sgI (sgB p.y), 0⟩ else ⟨cleanI p.x, cleanI p.y, 0⟩, true)
  else if tag = 0 then (⟨9218868437227405312, 0, 0⟩, p.isI)
  else if tag = 1 then (⟨p.angW, 0, p.angF⟩, !p.isN)
  else if tag = 6 then (if infB p.y then (⟨9218868437227405312, wI 9218868437227405312 (sgB p.y), 0⟩, true) else if p.isN then (TW.zero, false) else if sgB p.x then (⟨0, wI 9218868437227405312 (sgB p.y), 0⟩, true) else (⟨9218868437227405312, sgI (sgB p.y), 0⟩, true))
  else if tag = 7 then (if infB p.x && zerB p.y then (if sgB p.x then (⟨0, sgI (sgB p.y), 0⟩, true) else (⟨9218868437227405312, sgI (sgB p.y), 0⟩, true)) else (TW.zero, false))
  else if tag = 8 then (if p.sing then (⟨18442240474082181120, p.angW, 16 + p.angF⟩, true) else (⟨9218868437227405312, p.angW, p.angF⟩, !p.isN))
  else if tag = 17 then (⟨sgI (sgB p.x), wI 9218868437227405312 (sgB p.y), 16⟩, p.sing)
  else if tag = 20 then (⟨wI 9218868437227405312 (sgB p.x), sgI (sgB p.y), 16⟩, p.sing)
  else if tag = 5 then (⟨overI p.su p.x, overI p.su p.y, 16⟩, p.sing && !(zerB p.x && zerB p.y))
  else (TW.zero, false)
def lastN (p : Sp) : TW := ⟨9221120237041090560, 9221120237041090560, if p.isN then 0 else 8⟩
def toldN (tag : Int) (p : Sp) : TW := if (lineN tag p).2 then (lineN tag p).1 else lastN p
/-- The words that count. -/
def anyI (tag : Int) (a b c d : Nat) : Bool := infB a || infB b || (wideT tag && (infB c || infB d))
def anyN (tag : Int) (a b c d : Nat) : Bool := notB a || notB b || (wideT tag && (notB c || notB d))
def spN (tag : Int) (a b c d : Nat) : Sp := ⟨a, b, sgB c, anyI tag a b c d, anyN tag a b c d, singB tag a b c d⟩
def isSp (tag : Int) (a b c d : Nat) : Bool := (decide (0 ≤ tag) && decide (tag ≤ 20)) && (anyI tag a b c d || anyN tag a b c d || singB tag a b c d)
def specN (tag : Int) (a b c d : Nat) : TW := if isSp tag a b c d then toldN tag (spN tag a b c d) else TW.zero

theorem sgI_ne (s : Bool) : (sgI s != 0) = s := by cases s <;> rfl
theorem flip_lt {b : Nat} (h : b < B64) : flipN b < B64 := by unfold flipN B64 at *; split <;> omega
theorem flip_lo {b : Nat} (h : b < B64) : loN (flipN b) = loN b := by unfold flipN loN B64 at *; split <;> omega
theorem flip_sg {b : Nat} (h : b < B64) : sgB (flipN b) = !sgB b := by
  unfold flipN sgB B64 at *
  split
  · rename_i h1; rw [decide_eq_true h1]; simp; omega
  · rename_i h1; rw [decide_eq_false h1]; simp
theorem flip_kind {b : Nat} (h : b < B64) : kindN (flipN b) = kindN b := by rw [kind_lo, kind_lo, flip_lo h]
theorem flip_flip {b : Nat} (h : b < B64) : flipN (flipN b) = b := by unfold flipN B64 at *; split <;> split <;> omega
end Go.Proofs.YtembfhepinfmnaaDoor
