/-
  span.Sign and volvelleref03.Sign.
-/
import Derived.Test.YtilmbdbcgbndmaaDoorPlOGDy12
import Derived.Test.YtilmbdbcgbndmaaDoorPlOGSp1
namespace Go.Proofs.YtilmbdbcgbndmaaDoor
open Go.RowKit

/-- The sign of a span: of right ones by Lo's size and sign, and Hi's sign. -/
def signS (r na nb' : Bool) (n : Nat) : Int := if r then (if n ≠ 0 ∧ na = false then 1 else if nb' then -1 else 0) else 0
theorem plain_zero : plainB false 0 (fun _ => 0) 0 = true := by unfold plainB; simp
/-- Is 0 below a plain dyad; is a plain dyad below 0? -/
theorem below0 {na : Bool} {n : Nat} {x : Nat → Nat} {ea : Int} (h : plainB na n x ea = true) : decide (cmpD (plainB false 0 (fun _ => 0) 0 && plainB na n x ea) false na (vs B64 (fun _ => 0) 0) (vs B64 x n) 0 ea < 0) = decide (n ≠ 0 ∧ na = false) := by
  have P := plain_facts h
  rw [plain_zero, h, vs_zero]
  show decide (ordD false na 0 (vs B64 x n) 0 ea < 0) = _
  unfold ordD sizeC
  rw [onE_zero]
  cases na
  · simp only [if_true, Bool.false_eq_true, if_false]
    rcases Nat.eq_zero_or_pos n with h0 | h0
    · subst h0
      rw [vs_zero, onE_zero, cmpN_eq]
      simp
    · have h1 := P.pos.1 h0
      rw [cmpN_lt (onE_pos h1)]
      have : n ≠ 0 := by omega
      simp [this]
  · simp
theorem above0 {nb' : Bool} {m : Nat} {y : Nat → Nat} {eb : Int} (h : plainB nb' m y eb = true) : decide (cmpD (plainB nb' m y eb && plainB false 0 (fun _ => 0) 0) nb' false (vs B64 y m) (vs B64 (fun _ => 0) 0) eb 0 < 0) = nb' := by
  have P := plain_facts h
  rw [plain_zero, h, vs_zero]
  show decide (ordD nb' false (vs B64 y m) 0 eb 0 < 0) = _
  unfold ordD sizeC
  rw [onE_zero]
  cases nb'
  · simp only [if_true, Bool.false_eq_true, if_false]
    rcases Nat.eq_zero_or_pos m with h0 | h0
    · subst h0
      rw [vs_zero, onE_zero, cmpN_eq]; rfl
    · have h1 := P.pos.1 h0
      rw [cmpN_gt (onE_pos h1)]; rfl
  · rfl

set_option maxHeartbeats 4000000 in
theorem sign_span (na nb' : Bool) (A B : Option Addr) (n c m d : Nat) (x y : Nat → Nat) (ea eb : Int) (w : World) (ha : Sl w A n c x) (hb : Sl w B m d y) (hn : n ≤ 400000) (hm : m ≤ 400000) :
    Calls Tryd.prog 33 #[spv na A n c ea nb' B m d eb] w
      fun o w' => o = .returned (.int .i64 (signS (rightB (plainB na n x ea && plainB nb' m y eb) na nb' (vs B64 x n) (vs B64 y m) ea eb) na nb' n)) ∧ Below w.heap.size w w' := by
  have bA : Below w.heap.size w (w.alloc (co6 (.bool na) (.slice A n c) (.int .i64 ea) (.bool nb') (.slice B m d) (.int .i64 eb))) := (Below.refl _ w).alloc (Nat.le_refl _) _
  have kA := Blk6.made w (.bool na) (.slice A n c) (.int .i64 ea) (.bool nb') (.slice B m d) (.int .i64 eb)
  have hgs : w.heap.size < (w.alloc (co6 (.bool na) (.slice A n c) (.int .i64 ea) (.bool nb') (.slice B m d) (.int .i64 eb))).heap.size := by simp
  obtain ⟨k0, k1, k2, k3, k4, k5⟩ := kA.cell
  have IR := Lib.hid (isright_any na nb' A B n c m d x y ea eb _ (ha.below bA) (hb.below bA) hn hm)
  go_enter Tryd.func33, Tryd.ntmps33
  go_wp2_with fail
  refine IR.out.mono ?_
  generalize w.alloc (co6 (.bool na) (.slice A n c) (.int .i64 ea) (.bool nb') (.slice B m d) (.int .i64 eb)) = w1 at *
  rintro e' w2 ⟨rfl, b⟩
  have B2 := bA.trans (b.mono bA.size)
  have kA2 := kA.below b hgs
  have hgs2 : w.heap.size < w2.heap.size := Nat.lt_of_lt_of_le hgs b.size
  clear IR b bA kA hgs k0 k1 k2 k3 k4 k5
  obtain ⟨R, hR⟩ : ∃ R : Bool, Hid (rightB (plainB na n x ea && plainB nb' m y eb) na nb' (vs B64 x n) (vs B64 y m) ea eb = R) := ⟨_, Lib.hid rfl⟩
  rw [hR.out]
  cases R
  · have HS : Hid (signS (rightB (plainB na n x ea && plainB nb' m y eb) na nb' (vs B64 x n) (vs B64 y m) ea eb) na nb' n = 0) := Lib.hid (by rw [hR.out]; rfl)
    clear hR
    go_wp2_with fail
    go_ret
    exact ⟨by rw [HS.out]; rfl, B2⟩
  · have hpp : plainB na n x ea = true ∧ plainB nb' m y eb = true := by
      have := hR.out
      unfold rightB at this
      simp only [Bool.and_eq_true] at this
      exact this.1
    have IB := isbelow_any false na none A 0 0 n c (fun _ => 0) x 0 ea w2 (Sl.none_ _ _ _ _) (ha.below B2) (by omega) hn
    rw [below0 hpp.1] at IB
    have HIB := Lib.hid IB
    clear IB
    obtain ⟨k0, k1, k2, k3, k4, k5⟩ := kA2.cell
    go_wp2_with fail
    refine HIB.out.mono ?_
    rintro e' w3 ⟨rfl, b⟩
    have B3 := B2.trans (b.mono B2.size)
    have kA3 := kA2.below b hgs2
    clear HIB b B2 kA2 hgs2 k0 k1 k2 k3 k4 k5
    by_cases h1 : n ≠ 0 ∧ na = false
    · have HS : Hid (signS (rightB (plainB na n x ea && plainB nb' m y eb) na nb' (vs B64 x n) (vs B64 y m) ea eb) na nb' n = 1) := Lib.hid (by rw [hR.out]; simp [signS, h1])
      rw [show decide (n ≠ 0 ∧ na = false) = true by simp [h1]]
      clear hR h1
      go_wp2_with fail
      go_ret
      exact ⟨by rw [HS.out]; rfl, B3⟩
    · have HS : Hid (signS (rightB (plainB na n x ea && plainB nb' m y eb) na nb' (vs B64 x n) (vs B64 y m) ea eb) na nb' n = if nb' then -1 else 0) := Lib.hid (by rw [hR.out]; unfold signS; rw [if_pos rfl, if_neg h1])
      rw [show decide (n ≠ 0 ∧ na = false) = false by simpa using h1]
      have IB := isbelow_any nb' false B none m d 0 0 y (fun _ => 0) eb 0 w3 (hb.below B3) (Sl.none_ _ _ _ _) hm (by omega)
      rw [above0 hpp.2] at IB
      have HIB := Lib.hid IB
      clear IB hR h1
      obtain ⟨k0, k1, k2, k3, k4, k5⟩ := kA3.cell
      go_wp2_with fail
      refine HIB.out.mono ?_
      rintro e' w4 ⟨rfl, b⟩
      have B4 := B3.trans (b.mono B3.size)
      clear HIB b B3 kA3 k0 k1 k2 k3 k4 k5
      cases nb'
      · go_wp2_with fail
        go_ret
        exact ⟨by rw [HS.out]; rfl, B4⟩
      · go_wp2_with fail
        go_ret
        exact ⟨by rw [HS.out]; rfl, B4⟩

set_option maxHeartbeats 4000000 in
theorem rsign_span (na nb' : Bool) (A B : Option Addr) (n c m d : Nat) (x y : Nat → Nat) (ea eb : Int) (w : World) (ha : Sl w A n c x) (hb : Sl w B m d y) (hn : n ≤ 400000) (hm : m ≤ 400000) :
    Calls Tryd.prog 35 #[spv na A n c ea nb' B m d eb] w
      fun o w' => o = .returned (.int .i64 (signS (rightB (plainB na n x ea && plainB nb' m y eb) na nb' (vs B64 x n) (vs B64 y m) ea eb) na nb' n)) ∧ Below w.heap.size w w' := by
  have bA : Below w.heap.size w (w.alloc (co6 (.bool na) (.slice A n c) (.int .i64 ea) (.bool nb') (.slice B m d) (.int .i64 eb))) := (Below.refl _ w).alloc (Nat.le_refl _) _
  have kA := Blk6.made w (.bool na) (.slice A n c) (.int .i64 ea) (.bool nb') (.slice B m d) (.int .i64 eb)
  have hgs : w.heap.size < (w.alloc (co6 (.bool na) (.slice A n c) (.int .i64 ea) (.bool nb') (.slice B m d) (.int .i64 eb))).heap.size := by simp
  obtain ⟨k0, k1, k2, k3, k4, k5⟩ := kA.cell
  have IR := Lib.hid (rright_any na nb' A B n c m d x y ea eb _ (ha.below bA) (hb.below bA) hn hm)
  go_enter Tryd.func35, Tryd.ntmps35
  go_wp2_with fail
  refine IR.out.mono ?_
  generalize w.alloc (co6 (.bool na) (.slice A n c) (.int .i64 ea) (.bool nb') (.slice B m d) (.int .i64 eb)) = w1 at *
  rintro e' w2 ⟨rfl, b⟩
  have B2 := bA.trans (b.mono bA.size)
  have kA2 := kA.below b hgs
  clear IR b bA kA hgs k0 k1 k2 k3 k4 k5
  obtain ⟨R, hR⟩ : ∃ R : Bool, Hid (rightB (plainB na n x ea && plainB nb' m y eb) na nb' (vs B64 x n) (vs B64 y m) ea eb = R) := ⟨_, Lib.hid rfl⟩
  rw [hR.out]
  obtain ⟨k0, k1, k2, k3, k4, k5⟩ := kA2.cell
  cases R
  · have HS : Hid (signS (rightB (plainB na n x ea && plainB nb' m y eb) na nb' (vs B64 x n) (vs B64 y m) ea eb) na nb' n = 0) := Lib.hid (by rw [hR.out]; rfl)
    clear hR
    go_wp2_with fail
    go_ret
    exact ⟨by rw [HS.out]; rfl, B2⟩
  · have HS : Hid (signS (rightB (plainB na n x ea && plainB nb' m y eb) na nb' (vs B64 x n) (vs B64 y m) ea eb) na nb' n = if n ≠ 0 ∧ na = false then 1 else if nb' then -1 else 0) := Lib.hid (by rw [hR.out]; unfold signS; rw [if_pos rfl])
    clear hR
    by_cases h0 : n = 0
    · have hn0 : ¬ (0 : Int) < (n : Int) := by omega
      have HS2 := Lib.hid (HS.out.trans (if_neg (fun h => h.1 h0)))
      cases nb'
      all_goals (
        go_wp2_with fail
        go_ret
        exact ⟨by rw [HS2.out]; rfl, B2⟩)
    · have hn0 : (0 : Int) < (n : Int) := by omega
      cases na
      · have HS2 := Lib.hid (HS.out.trans (if_pos ⟨h0, rfl⟩))
        go_wp2_with fail
        go_ret
        exact ⟨by rw [HS2.out]; rfl, B2⟩
      · have HS2 := Lib.hid (HS.out.trans (if_neg (fun h => by cases h.2)))
        cases nb'
        all_goals (
          go_wp2_with fail
          go_ret
          exact ⟨by rw [HS2.out]; rfl, B2⟩)
end Go.Proofs.YtilmbdbcgbndmaaDoor
