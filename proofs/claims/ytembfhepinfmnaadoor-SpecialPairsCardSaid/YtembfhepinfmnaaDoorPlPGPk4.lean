/-
  What the table tells, by tags, in booleans. No program is named here.
  volvelleref13's small functions: inf, not, zero, clean, with, angle; volvelleref11's zero and one.
  volvelleref11's numbers and Singular.
-/
import Derived.Test.YtembfhepinfmnaaDoorPlPGPk2
import Derived.Test.YtembfhepinfmnaaDoorPlPGPk3
namespace Go.Proofs.YtembfhepinfmnaaDoor
open Go.RowKit

theorem any_two {tag : Int} {a b c d : Nat} (h : wideT tag = false) : anyI tag a b c d = (infB a || infB b) := by
  unfold anyI
  rw [h, Bool.false_and, Bool.or_false]
theorem wrap_flip {b : Nat} (hb : b < B64) : IntKind.u64.wrap ((b : Int) + 9223372036854775808) = (flipN b : Int) := by
  unfold flipN
  unfold B64 at hb
  have h : ∀ n : Int, IntKind.u64.wrap n = n % 18446744073709551616 := fun n => by simp [IntKind.wrap, IntKind.bits, IntKind.signed]
  rw [h]
  split <;> omega
theorem kb_put2 {T : TypeId} {w : World} {g : Nat} {x y : Value} (k : KB T w g #[x, y]) (a b : Value) : KB T (put2 w g a b) g #[a, b] := by
  have h := (k.set_ 0 a).set_ 1 b
  simpa only [List.setIfInBounds_toArray, List.set_cons_zero, List.set_cons_succ] using h
theorem zer_inf {b : Nat} (h : zerB b = true) : infB b = false := by
  unfold zerB at h
  unfold infB
  simp only [decide_eq_true_eq] at h
  rw [(kind_none b).2 h]
  rfl
theorem clean_flip {b : Nat} (hb : b < B64) : cleanI (flipN b) = if notB b then 9221120237041090560 else (flipN b : Int) := by
  unfold cleanI notB
  rw [flip_kind hb]
  by_cases h : kindN b = 4 <;> simp [h]
theorem over_zer (su : Bool) (b : Nat) : overI su b = if zerB b then 9221120237041090560 else wI 9218868437227405312 (sgB b ^^ su) := by
  unfold overI
  have h := kind_zer b
  cases hz : zerB b
  · rw [hz] at h
    rw [if_neg (by simpa using h)]
    rfl
  · rw [hz] at h
    rw [if_pos (by simpa using h)]
    rfl
theorem last_eq (p : Sp) : lastN p = ⟨9221120237041090560, 9221120237041090560, if (!p.isN) then 8 else 0⟩ := by
  unfold lastN
  cases p.isN <;> rfl
theorem told_2 (a b c d : Nat) (hb : b < B64) : toldN 2 (spN 2 a b c d) = (⟨cleanI a, if (notB b) then 9221120237041090560 else (flipN b : Int), 0⟩ : TW) := by
  have hl : lineN 2 (spN 2 a b c d) = ((⟨cleanI (spN 2 a b c d).x, cleanI (flipN (spN 2 a b c d).y), 0⟩, true) : TW × Bool) := by
    unfold lineN
    rw [if_pos rfl]
  unfold toldN
  rw [last_eq, hl]
  clear hl
  rw [if_pos rfl]
  show (⟨cleanI a, cleanI (flipN b), 0⟩ : TW) = _
  rw [clean_flip hb]
theorem told_3 (a b c d : Nat) : toldN 3 (spN 3 a b c d) = (if (infB a) || (infB b) then ⟨9218868437227405312, sgI (sgB b), 0⟩ else ⟨cleanI a, cleanI b, 0⟩ : TW) := by
  have hl : lineN 3 (spN 3 a b c d) = ((if (spN 3 a b c d).isI then ⟨9218868437227405312, sgI (sgB (spN 3 a b c d).y), 0⟩ else ⟨cleanI (spN 3 a b c d).x, cleanI (spN 3 a b c d).y, 0⟩, true) : TW × Bool) := by
    unfold lineN
    rw [if_neg (by decide), if_pos rfl]
  unfold toldN
  rw [last_eq, hl]
  clear hl
  rw [if_pos rfl]
  show (if anyI 3 a b c d then (⟨9218868437227405312, sgI (sgB b), 0⟩ : TW) else ⟨cleanI a, cleanI b, 0⟩) = _
  rw [any_two rfl]
theorem told_0 (a b c d : Nat) : toldN 0 (spN 0 a b c d) = (if (infB a) || (infB b) then ⟨9218868437227405312, 0, 0⟩ else ⟨9221120237041090560, 9221120237041090560, if (!anyN 0 a b c d) then 8 else 0⟩ : TW) := by
  have hl : lineN 0 (spN 0 a b c d) = ((⟨9218868437227405312, 0, 0⟩, (spN 0 a b c d).isI) : TW × Bool) := by
    unfold lineN
    rw [if_neg (by decide), if_neg (by decide), if_pos rfl]
  unfold toldN
  rw [last_eq, hl]
  clear hl
  show (if anyI 0 a b c d then (⟨9218868437227405312, 0, 0⟩ : TW) else _) = _
  rw [any_two rfl]
  rfl
theorem told_1 (a b c d : Nat) : toldN 1 (spN 1 a b c d) = (if (!anyN 1 a b c d) then ⟨angW (sgB a) (sgB b) (infB a) (infB b), 0, angF (sgB a) (infB b)⟩ else ⟨9221120237041090560, 9221120237041090560, if (!anyN 1 a b c d) then 8 else 0⟩ : TW) := by
  have hl : lineN 1 (spN 1 a b c d) = ((⟨(spN 1 a b c d).angW, 0, (spN 1 a b c d).angF⟩, !(spN 1 a b c d).isN) : TW × Bool) := by
    unfold lineN
    rw [if_neg (by decide), if_neg (by decide), if_neg (by decide), if_pos rfl]
  unfold toldN
  rw [last_eq, hl]
  clear hl
  rfl
theorem told_6 (a b c d : Nat) : toldN 6 (spN 6 a b c d) = (if (infB b) then ⟨9218868437227405312, wI 9218868437227405312 (sgB b), 0⟩ else if (!anyN 6 a b c d) then (if (sgB a) then ⟨0, wI 9218868437227405312 (sgB b), 0⟩ else ⟨9218868437227405312, sgI (sgB b), 0⟩) else ⟨9221120237041090560, 9221120237041090560, if (!anyN 6 a b c d) then 8 else 0⟩ : TW) := by
  have hl : lineN 6 (spN 6 a b c d) = (if infB (spN 6 a b c d).y then (⟨9218868437227405312, wI 9218868437227405312 (sgB (spN 6 a b c d).y), 0⟩, true) else if (spN 6 a b c d).isN then (TW.zero, false) else if sgB (spN 6 a b c d).x then (⟨0, wI 9218868437227405312 (sgB (spN 6 a b c d).y), 0⟩, true) else (⟨9218868437227405312, sgI (sgB (spN 6 a b c d).y), 0⟩, true) : TW × Bool) := by
    unfold lineN
    rw [if_neg (by decide), if_neg (by decide), if_neg (by decide), if_neg (by decide), if_pos rfl]
  unfold toldN
  rw [last_eq, hl]
  clear hl
  dsimp only [spN]
  by_cases h1 : infB b = true <;> by_cases h2 : anyN 6 a b c d = true <;> by_cases h3 : sgB a = true <;> simp [h1, h2, h3]
theorem told_7 (a b c d : Nat) : toldN 7 (spN 7 a b c d) = (if (infB a) && (zerB b) then (if (sgB a) then ⟨0, sgI (sgB b), 0⟩ else ⟨9218868437227405312, sgI (sgB b), 0⟩) else ⟨9221120237041090560, 9221120237041090560, if (!anyN 7 a b c d) then 8 else 0⟩ : TW) := by
  have hl : lineN 7 (spN 7 a b c d) = (if infB (spN 7 a b c d).x && zerB (spN 7 a b c d).y then (if sgB (spN 7 a b c d).x then (⟨0, sgI (sgB (spN 7 a b c d).y), 0⟩, true) else (⟨9218868437227405312, sgI (sgB (spN 7 a b c d).y), 0⟩, true)) else (TW.zero, false) : TW × Bool) := by
    unfold lineN
    rw [if_neg (by decide), if_neg (by decide), if_neg (by decide), if_neg (by decide), if_neg (by decide), if_pos rfl]
  unfold toldN
  rw [last_eq, hl]
  clear hl
  dsimp only [spN]
  by_cases h1 : infB a = true <;> by_cases h2 : zerB b = true <;> by_cases h3 : sgB a = true <;> simp [h1, h2, h3]
theorem told_8 (a b c d : Nat) : toldN 8 (spN 8 a b c d) = (if (singB 8 a b c d) then ⟨18442240474082181120, if (sgB a) then wI 4614256656552045848 (sgB b) else wI 0 (sgB b), if (sgB a) then 17 else 16⟩ else if (!anyN 8 a b c d) then ⟨9218868437227405312, angW (sgB a) (sgB b) (infB a) (infB b), angF (sgB a) (infB b)⟩ else ⟨9221120237041090560, 9221120237041090560, if (!anyN 8 a b c d) then 8 else 0⟩ : TW) := by
  have hl : lineN 8 (spN 8 a b c d) = (if (spN 8 a b c d).sing then (⟨18442240474082181120, (spN 8 a b c d).angW, 16 + (spN 8 a b c d).angF⟩, true) else (⟨9218868437227405312, (spN 8 a b c d).angW, (spN 8 a b c d).angF⟩, !(spN 8 a b c d).isN) : TW × Bool) := by
    unfold lineN
    rw [if_neg (by decide), if_neg (by decide), if_neg (by decide), if_neg (by decide), if_neg (by decide), if_neg (by decide), if_pos rfl]
  unfold toldN
  rw [last_eq, hl]
  clear hl
  dsimp only [spN, Sp.angW, Sp.angF]
  by_cases hs : singB 8 a b c d = true
  rotate_left
  · by_cases h1 : anyN 8 a b c d = true <;> simp [hs, h1]
  · have hs' := hs
    have h2 : zerB a = true ∧ zerB b = true := by
      unfold singB at hs
      rw [if_neg (by decide), if_pos rfl] at hs
      simp only [Bool.and_eq_true] at hs
      exact hs.2
    have i1 := zer_inf h2.1
    have i2 := zer_inf h2.2
    by_cases h3 : sgB a = true <;> simp [hs', i1, i2, h3, angW, angF]
theorem told_17 (a b c d : Nat) : toldN 17 (spN 17 a b c d) = (if (singB 17 a b c d) then ⟨sgI (sgB a), wI 9218868437227405312 (sgB b), 16⟩ else ⟨9221120237041090560, 9221120237041090560, if (!anyN 17 a b c d) then 8 else 0⟩ : TW) := by
  have hl : lineN 17 (spN 17 a b c d) = ((⟨sgI (sgB (spN 17 a b c d).x), wI 9218868437227405312 (sgB (spN 17 a b c d).y), 16⟩, (spN 17 a b c d).sing) : TW × Bool) := by
    unfold lineN
    rw [if_neg (by decide), if_neg (by decide), if_neg (by decide), if_neg (by decide), if_neg (by decide), if_neg (by decide), if_neg (by decide), if_pos rfl]
  unfold toldN
  rw [last_eq, hl]
  clear hl
  rfl
theorem told_20 (a b c d : Nat) : toldN 20 (spN 20 a b c d) = (if (singB 20 a b c d) then ⟨wI 9218868437227405312 (sgB a), sgI (sgB b), 16⟩ else ⟨9221120237041090560, 9221120237041090560, if (!anyN 20 a b c d) then 8 else 0⟩ : TW) := by
  have hl : lineN 20 (spN 20 a b c d) = ((⟨wI 9218868437227405312 (sgB (spN 20 a b c d).x), sgI (sgB (spN 20 a b c d).y), 16⟩, (spN 20 a b c d).sing) : TW × Bool) := by
    unfold lineN
    rw [if_neg (by decide), if_neg (by decide), if_neg (by decide), if_neg (by decide), if_neg (by decide), if_neg (by decide), if_neg (by decide), if_neg (by decide), if_pos rfl]
  unfold toldN
  rw [last_eq, hl]
  clear hl
  rfl
theorem told_5 (a b c d : Nat) : toldN 5 (spN 5 a b c d) = (if (singB 5 a b c d) && !((zerB a) && (zerB b)) then ⟨if (zerB a) then 9221120237041090560 else wI 9218868437227405312 ((sgB a) ^^ (sgB c)), if (zerB b) then 9221120237041090560 else wI 9218868437227405312 ((sgB b) ^^ (sgB c)), 16⟩ else ⟨9221120237041090560, 9221120237041090560, if (!anyN 5 a b c d) then 8 else 0⟩ : TW) := by
  have hl : lineN 5 (spN 5 a b c d) = ((⟨overI (spN 5 a b c d).su (spN 5 a b c d).x, overI (spN 5 a b c d).su (spN 5 a b c d).y, 16⟩, (spN 5 a b c d).sing && !(zerB (spN 5 a b c d).x && zerB (spN 5 a b c d).y)) : TW × Bool) := by
    unfold lineN
    rw [if_neg (by decide), if_neg (by decide), if_neg (by decide), if_neg (by decide), if_neg (by decide), if_neg (by decide), if_neg (by decide), if_neg (by decide), if_neg (by decide), if_pos rfl]
  unfold toldN
  rw [last_eq, hl]
  clear hl
  show (if (singB 5 a b c d && !(zerB a && zerB b)) = true then (⟨overI (sgB c) a, overI (sgB c) b, 16⟩ : TW) else _) = _
  rw [over_zer (sgB c) a, over_zer (sgB c) b]
  rfl
theorem told_4 (a b c d : Nat) : toldN 4 (spN 4 a b c d) = (⟨9221120237041090560, 9221120237041090560, if (!anyN 4 a b c d) then 8 else 0⟩ : TW) := by
  have hl : lineN 4 (spN 4 a b c d) = (TW.zero, false) := by
    unfold lineN
    rw [if_neg (by decide), if_neg (by decide), if_neg (by decide), if_neg (by decide), if_neg (by decide), if_neg (by decide), if_neg (by decide), if_neg (by decide), if_neg (by decide), if_neg (by decide)]
  unfold toldN
  rw [last_eq, hl]
  rfl
theorem told_no (tag : Int) (a b c d : Nat) (h2 : tag ≠ 2) (h3 : tag ≠ 3) (h0 : tag ≠ 0) (h1 : tag ≠ 1) (h6 : tag ≠ 6) (h7 : tag ≠ 7) (h8 : tag ≠ 8) (h17 : tag ≠ 17) (h20 : tag ≠ 20) (h5 : tag ≠ 5) : toldN tag (spN tag a b c d) = (⟨9221120237041090560, 9221120237041090560, if (!anyN tag a b c d) then 8 else 0⟩ : TW) := by
  have hl : lineN tag (spN tag a b c d) = (TW.zero, false) := by
    unfold lineN
    rw [if_neg h2, if_neg h3, if_neg h0, if_neg h1, if_neg h6, if_neg h7, if_neg h8, if_neg h17, if_neg h20, if_neg h5]
  unfold toldN
  rw [last_eq, hl]
  rfl
end Go.Proofs.YtembfhepinfmnaaDoor

namespace Go.Proofs.YtembfhepinfmnaaDoor
open Go.RowKit

theorem rinf_any (b : Nat) (w : World) (hb : b < B64) : Calls Tryd.prog 13 #[.int .u64 (b : Int)] w fun e w' => e = .returned (.bool (infB b)) ∧ w = w' := by
  have K := Lib.hid (rkind_any b w hb)
  have h := kind_inf b
  go_enter Tryd.func13, Tryd.ntmps13
  go_wp2_with fail
  refine K.out.mono ?_
  rintro e' w1 ⟨rfl, rfl⟩
  go_wp2_with fail
  go_ret
  exact ⟨rfl, rfl⟩
theorem kind_not (b : Nat) : ((kindN b : Int) == 4) = notB b := by
  unfold notB
  rw [Bool.eq_iff_iff]
  simp
  omega
theorem rnot_any (b : Nat) (w : World) (hb : b < B64) : Calls Tryd.prog 14 #[.int .u64 (b : Int)] w fun e w' => e = .returned (.bool (notB b)) ∧ w = w' := by
  have K := Lib.hid (rkind_any b w hb)
  have h := kind_not b
  go_enter Tryd.func14, Tryd.ntmps14
  go_wp2_with fail
  refine K.out.mono ?_
  rintro e' w1 ⟨rfl, rfl⟩
  go_wp2_with fail
  go_ret
  exact ⟨rfl, rfl⟩
theorem rzero_any (b : Nat) (w : World) (hb : b < B64) : Calls Tryd.prog 20 #[.int .u64 (b : Int)] w fun e w' => e = .returned (.bool (zerB b)) ∧ w = w' := by
  have K := Lib.hid (rkind_any b w hb)
  have h := kind_zer b
  go_enter Tryd.func20, Tryd.ntmps20
  go_wp2_with fail
  refine K.out.mono ?_
  rintro e' w1 ⟨rfl, rfl⟩
  go_wp2_with fail
  go_ret
  exact ⟨rfl, rfl⟩
theorem rzero11_any (b : Nat) (w : World) (hb : b < B64) : Calls Tryd.prog 35 #[.int .u64 (b : Int)] w fun e w' => e = .returned (.bool (zerB b)) ∧ w = w' := by
  have K := Lib.hid (rkind_any b w hb)
  have h := kind_zer b
  go_enter Tryd.func35, Tryd.ntmps35
  go_wp2_with fail
  refine K.out.mono ?_
  rintro e' w1 ⟨rfl, rfl⟩
  go_wp2_with fail
  go_ret
  exact ⟨rfl, rfl⟩
theorem rone_any (b : Nat) (w : World) : Calls Tryd.prog 36 #[.int .u64 (b : Int)] w fun e w' => e = .returned (.bool (oneB b)) ∧ w = w' := by
  have h : ((b : Int) % 9223372036854775808 == 4607182418800017408) = oneB b := by
    unfold oneB loN
    rw [Bool.eq_iff_iff]
    simp
    omega
  go_enter Tryd.func36, Tryd.ntmps36
  go_wp2_with fail
  go_ret
  exact ⟨rfl, rfl⟩
theorem rwith_any (b : Int) (s : Bool) (w : World) (h0 : 0 ≤ b) (h1 : b < 9223372036854775808) : Calls Tryd.prog 18 #[.int .u64 b, .bool s] w fun e w' => e = .returned (.int .u64 (wI b s)) ∧ w = w' := by
  cases s
  all_goals
    go_enter Tryd.func18, Tryd.ntmps18
    go_wp2_with fail
    go_ret
    exact ⟨rfl, rfl⟩
theorem rclean_any (b : Nat) (w : World) (hb : b < B64) : Calls Tryd.prog 17 #[.int .u64 (b : Int)] w fun e w' => e = .returned (.int .u64 (cleanI b)) ∧ w = w' := by
  have K := Lib.hid (rnot_any b w hb)
  have hc : Hid (cleanI b = if notB b then 9221120237041090560 else (b : Int)) := Lib.hid (by
    unfold cleanI notB
    by_cases h : kindN b = 4 <;> simp [h])
  rw [hc.out]
  clear hc
  generalize notB b = n at *
  cases n
  all_goals
    go_enter Tryd.func17, Tryd.ntmps17
    go_wp2_with fail
    refine K.out.mono ?_
    rintro e' w1 ⟨rfl, rfl⟩
    go_wp2_with fail
    go_ret
    exact ⟨rfl, rfl⟩
set_option maxHeartbeats 2000000 in
theorem rangle_any (a b : Nat) (w : World) (ha : a < B64) (hb : b < B64) : Calls Tryd.prog 19 #[.int .u64 (a : Int), .int .u64 (b : Int)] w fun e w' => e = .returned (.tuple #[.int .u64 (angW (sgB a) (sgB b) (infB a) (infB b)), .int .i64 (angF (sgB a) (infB b))]) ∧ w = w' := by
  have NG := Lib.hid (fun b w' => rneg_word b w')
  have IA := Lib.hid (rinf_any a w ha)
  have IB := Lib.hid (rinf_any b w hb)
  have NA := Lib.hid (rneg_word a w)
  have NB := Lib.hid (rneg_word b w)
  have WI := Lib.hid (fun b s w' h0 h1 => rwith_any b s w' h0 h1)
  unfold angW angF
  generalize infB a = ix at *
  generalize infB b = iy at *
  generalize sgB a = sx at *
  generalize sgB b = sy at *
  cases iy <;> cases ix <;> cases sx
  all_goals
    go_enter Tryd.func19, Tryd.ntmps19
    go_wp2_with (first
      | (go_at_call_of 16 (Value.int .u64 (a : Int)); refine NA.out.mono ?_; rintro e' w1 ⟨rfl, rfl⟩)
      | (go_at_call_of 16 (Value.int .u64 (b : Int)); refine NB.out.mono ?_; rintro e' w1 ⟨rfl, rfl⟩)
      | (go_at_call_of 13 (Value.int .u64 (a : Int)); refine IA.out.mono ?_; rintro e' w1 ⟨rfl, rfl⟩)
      | (go_at_call_of 13 (Value.int .u64 (b : Int)); refine IB.out.mono ?_; rintro e' w1 ⟨rfl, rfl⟩)
      | (go_at_call 18; refine (rwith_any _ _ _ (by decide) (by decide)).mono ?_; rintro e' w1 ⟨rfl, rfl⟩))
    go_ret2
    exact ⟨rfl, rfl⟩
end Go.Proofs.YtembfhepinfmnaaDoor

namespace Go.Proofs.YtembfhepinfmnaaDoor
open Go.RowKit

theorem fin_kind (b : Nat) : finB b = decide (kindN b ≤ 2) := by
  unfold finB kindN
  have := exN_le b
  rw [decide_eq_decide]
  split
  · split <;> simp <;> omega
  · split
    · simp; omega
    · split <;> simp <;> omega
/-- Are all so far numbers? -/
def preF (f : Nat → Nat) : Nat → Bool
  | 0 => true
  | k + 1 => preF f k && finB (f k)
theorem preF_false {f : Nat → Nat} {k n : Nat} (h : k < n) (hf : finB (f k) = false) : preF f n = false := by
  induction n with
  | zero => omega
  | succ n ih =>
    unfold preF
    rcases Nat.lt_or_ge k n with h1 | h1
    · rw [ih h1]; rfl
    · obtain rfl : k = n := by omega
      rw [hf, Bool.and_false]
theorem pre_nums {tag : Int} {a b c d N : Nat} (hN : (if wideT tag then (4 : Int) else 2) = (N : Int)) : numsB tag a b c d = (preF (fourF a b c d) N && (decide (0 ≤ tag) && decide (tag ≤ 20))) := by
  unfold numsB
  cases hw : wideT tag
  · rw [hw] at hN
    obtain rfl : N = 2 := by simp at hN; omega
    simp [preF, fourF, Bool.and_comm]
  · rw [hw] at hN
    obtain rfl : N = 4 := by simp at hN; omega
    simp [preF, fourF, Bool.and_comm, Bool.and_assoc]
theorem wide_cases (tag : Int) : (tag = 4 ∨ tag = 5) ∨ (Hid (wideT tag = false) ∧ (tag == 4) = false ∧ (tag == 5) = false) := by
  by_cases h4 : tag = 4
  · exact .inl (.inl h4)
  · by_cases h5 : tag = 5
    · exact .inl (.inr h5)
    · exact .inr ⟨Lib.hid (by unfold wideT; simp [h4, h5]), by simp [h4], by simp [h5]⟩

set_option maxHeartbeats 2000000 in
theorem rnumbers_any (tag : Int) (a b c d : Nat) (w : World) (ha : a < B64) (hb : b < B64) (hc : c < B64) (hd : d < B64) (ht : -9223372036854775808 ≤ tag ∧ tag ≤ 9223372036854775807) :
    Calls Tryd.prog 34 #[.int .i64 tag, .agg (fourC a b c d)] w (BP w (numsB tag a b c d)) := by
  have k1 := KB.made 24 w (fourC a b c d)
  have b1 := alloc_bel w (.cells (fourC a b c d) 24)
  have KF := Lib.hid (fun k w' => rkind_any (fourF a b c d k) w' (four_lt (k := k) ha hb hc hd))
  obtain ⟨N, hN, hN4⟩ : ∃ N : Nat, Hid ((if wideT tag then (4 : Int) else 2) = (N : Int)) ∧ N ≤ 4 := by
    by_cases h : wideT tag = true
    · exact ⟨4, Lib.hid (by rw [if_pos h]; rfl), by omega⟩
    · exact ⟨2, Lib.hid (by rw [if_neg h]; rfl), by omega⟩
  have HNO : Hid (∀ k, k < N → finB (fourF a b c d k) = false → numsB tag a b c d = false) := Lib.hid (fun k hk h => by rw [pre_nums hN.out, preF_false hk h]; rfl)
  have HYES : Hid (preF (fourF a b c d) N = true → numsB tag a b c d = (decide (0 ≤ tag) && decide (tag ≤ 20))) := Lib.hid (fun h => by rw [pre_nums hN.out, h]; rfl)
  generalize numsB tag a b c d = r at *
  rcases wide_cases tag with (rfl | rfl) | ⟨hw, h4, h5⟩
  · obtain rfl : N = 4 := by have h := hN.out; rw [if_pos (by decide)] at h; omega
    clear hN hN4
    go_enter Tryd.func34, Tryd.ntmps34
    go_wp2_with fail
    generalize w.alloc _ = w1 at *
    go_loop [6] (fun s6 => ∃ k : Nat, k ≤ 4 ∧ s6 = .int .i64 (k : Int) ∧ Hid (preF (fourF a b c d) k = true)) (fun s6 => 4 - (intOf s6).toNat)
    case atStart => exact ⟨0, Nat.zero_le _, rfl, Lib.hid rfl⟩
    case round =>
      obtain ⟨k, hk, rfl, hp⟩ := hrel
      by_cases hlt : k < 4
      · have j := k1.at_ k (four_at (by omega))
        have hf := fin_kind (fourF a b c d k)
        cases hfb : finB (fourF a b c d k)
        · rw [hfb] at hf
          obtain rfl := HNO.out k hlt hfb
          have hg : decide (2 < (kindN (fourF a b c d k) : Int)) = true := by
            have h2 := hf.symm
            simp at h2 ⊢
            omega
          clear hf hfb HNO HYES hp
          go_wp2_with fail
          refine (KF.out _ _).mono ?_
          rintro e' w2 ⟨rfl, rfl⟩
          go_wp2_with fail
          go_ret
          exact ⟨rfl, b1⟩
        · rw [hfb] at hf
          have hp' : Hid (preF (fourF a b c d) (k + 1) = true) := Lib.hid (by unfold preF; rw [hp.out, hfb]; rfl)
          have hg : decide (2 < (kindN (fourF a b c d k) : Int)) = false := by
            have h2 := hf.symm
            simp at h2 ⊢
            omega
          clear hf hfb HNO HYES hp
          go_wp2_with fail
          refine (KF.out _ _).mono ?_
          rintro e' w2 ⟨rfl, rfl⟩
          go_wp2_with fail
          go_round
          case rel => exact ⟨k + 1, by omega, by go_num, hp'⟩
          case measure => simp [intOf]; omega
      · obtain rfl : k = 4 := by omega
        have hr := HYES.out hp.out
        clear HNO HYES hp
        rw [show (decide ((0 : Int) ≤ 4) && decide ((4 : Int) ≤ 20)) = true by decide] at hr
        subst hr
        go_wp2_with fail
        go_ret
        exact ⟨rfl, b1⟩
  · obtain rfl : N = 4 := by have h := hN.out; rw [if_pos (by decide)] at h; omega
    clear hN hN4
    go_enter Tryd.func34, Tryd.ntmps34
    go_wp2_with fail
    generalize w.alloc _ = w1 at *
    go_loop [6] (fun s6 => ∃ k : Nat, k ≤ 4 ∧ s6 = .int .i64 (k : Int) ∧ Hid (preF (fourF a b c d) k = true)) (fun s6 => 4 - (intOf s6).toNat)
    case atStart => exact ⟨0, Nat.zero_le _, rfl, Lib.hid rfl⟩
    case round =>
      obtain ⟨k, hk, rfl, hp⟩ := hrel
      by_cases hlt : k < 4
      · have j := k1.at_ k (four_at (by omega))
        have hf := fin_kind (fourF a b c d k)
        cases hfb : finB (fourF a b c d k)
        · rw [hfb] at hf
          obtain rfl := HNO.out k hlt hfb
          have hg : decide (2 < (kindN (fourF a b c d k) : Int)) = true := by
            have h2 := hf.symm
            simp at h2 ⊢
            omega
          clear hf hfb HNO HYES hp
          go_wp2_with fail
          refine (KF.out _ _).mono ?_
          rintro e' w2 ⟨rfl, rfl⟩
          go_wp2_with fail
          go_ret
          exact ⟨rfl, b1⟩
        · rw [hfb] at hf
          have hp' : Hid (preF (fourF a b c d) (k + 1) = true) := Lib.hid (by unfold preF; rw [hp.out, hfb]; rfl)
          have hg : decide (2 < (kindN (fourF a b c d k) : Int)) = false := by
            have h2 := hf.symm
            simp at h2 ⊢
            omega
          clear hf hfb HNO HYES hp
          go_wp2_with fail
          refine (KF.out _ _).mono ?_
          rintro e' w2 ⟨rfl, rfl⟩
          go_wp2_with fail
          go_round
          case rel => exact ⟨k + 1, by omega, by go_num, hp'⟩
          case measure => simp [intOf]; omega
      · obtain rfl : k = 4 := by omega
        have hr := HYES.out hp.out
        clear HNO HYES hp
        rw [show (decide ((0 : Int) ≤ 5) && decide ((5 : Int) ≤ 20)) = true by decide] at hr
        subst hr
        go_wp2_with fail
        go_ret
        exact ⟨rfl, b1⟩
  · obtain rfl : N = 2 := by have h := hN.out; rw [hw.out, if_neg (by simp)] at h; omega
    clear hN hN4 hw
    go_enter Tryd.func34, Tryd.ntmps34
    go_wp2_with fail
    generalize w.alloc _ = w1 at *
    go_loop [6] (fun s6 => ∃ k : Nat, k ≤ 2 ∧ s6 = .int .i64 (k : Int) ∧ Hid (preF (fourF a b c d) k = true)) (fun s6 => 2 - (intOf s6).toNat)
    case atStart => exact ⟨0, Nat.zero_le _, rfl, Lib.hid rfl⟩
    case round =>
      obtain ⟨k, hk, rfl, hp⟩ := hrel
      by_cases hlt : k < 2
      · have j := k1.at_ k (four_at (by omega))
        have hf := fin_kind (fourF a b c d k)
        cases hfb : finB (fourF a b c d k)
        · rw [hfb] at hf
          obtain rfl := HNO.out k hlt hfb
          have hg : decide (2 < (kindN (fourF a b c d k) : Int)) = true := by
            have h2 := hf.symm
            simp at h2 ⊢
            omega
          clear hf hfb HNO HYES hp
          go_wp2_with fail
          refine (KF.out _ _).mono ?_
          rintro e' w2 ⟨rfl, rfl⟩
          go_wp2_with fail
          go_ret
          exact ⟨rfl, b1⟩
        · rw [hfb] at hf
          have hp' : Hid (preF (fourF a b c d) (k + 1) = true) := Lib.hid (by unfold preF; rw [hp.out, hfb]; rfl)
          have hg : decide (2 < (kindN (fourF a b c d k) : Int)) = false := by
            have h2 := hf.symm
            simp at h2 ⊢
            omega
          clear hf hfb HNO HYES hp
          go_wp2_with fail
          refine (KF.out _ _).mono ?_
          rintro e' w2 ⟨rfl, rfl⟩
          go_wp2_with fail
          go_round
          case rel => exact ⟨k + 1, by omega, by go_num, hp'⟩
          case measure => simp [intOf]; omega
      · obtain rfl : k = 2 := by omega
        have hr := HYES.out hp.out
        clear HNO HYES hp
        by_cases h0 : 0 ≤ tag
        · by_cases h20 : tag ≤ 20
          · have g1 : decide (0 ≤ tag) = true := decide_eq_true h0
            have g2 : decide (tag ≤ 20) = true := decide_eq_true h20
            rw [g1, g2] at hr
            subst hr
            go_wp2_with fail
            go_ret
            exact ⟨rfl, b1⟩
          · have g1 : decide (0 ≤ tag) = true := decide_eq_true h0
            have g2 : decide (tag ≤ 20) = false := decide_eq_false h20
            rw [g1, g2] at hr
            subst hr
            go_wp2_with fail
            go_ret
            exact ⟨rfl, b1⟩
        · have g1 : decide (0 ≤ tag) = false := decide_eq_false h0
          rw [g1] at hr
          subst hr
          go_wp2_with fail
          go_ret
          exact ⟨rfl, b1⟩
set_option maxHeartbeats 2000000 in
theorem rsing_5 (a b c d : Nat) (w : World) (ha : a < B64) (hb : b < B64) (hc : c < B64) (hd : d < B64) : Calls Tryd.prog 15 #[.int .i64 5, .agg (fourC a b c d)] w (BP w (numsB 5 a b c d && (zerB c && zerB d))) := by
  have k1 := KB.made 24 w (fourC a b c d)
  have b1 := alloc_bel w (.cells (fourC a b c d) 24)
  have NU := Lib.hid (fun w' => rnumbers_any 5 a b c d w' ha hb hc hd (by decide))
  have ZC := Lib.hid (fun w' => rzero11_any c w' hc)
  have ZD := Lib.hid (fun w' => rzero11_any d w' hd)
  generalize zerB c = p at *
  generalize zerB d = q at *
  go_enter Tryd.func15, Tryd.ntmps15
  go_wp2_with fail
  generalize w.alloc _ = w1 at *
  refine (NU.out _).mono ?_
  rintro e' w2 ⟨rfl, bb⟩
  have k1 := k1.adv bb
  have b1 := below_step b1 bb
  clear bb NU
  generalize numsB 5 a b c d = n at *
  cases n
  · go_wp2_with fail
    go_ret
    exact ⟨rfl, b1⟩
  · have hz := k1.2
    have j0 := k1.at_ 0 (v := .int .u64 (a : Int)) rfl
    have j1 := k1.at_ 1 (v := .int .u64 (b : Int)) rfl
    have j2 := k1.at_ 2 (v := .int .u64 (c : Int)) rfl
    have j3 := k1.at_ 3 (v := .int .u64 (d : Int)) rfl
    cases p
    · go_wp2_with fail
      refine (ZC.out _).mono ?_
      rintro e' w3 ⟨rfl, rfl⟩
      go_wp2_with fail
      go_ret
      exact ⟨rfl, b1⟩
    · go_wp2_with fail
      refine (ZC.out _).mono ?_
      rintro e' w3 ⟨rfl, rfl⟩
      go_wp2_with fail
      refine (ZD.out _).mono ?_
      rintro e' w3 ⟨rfl, rfl⟩
      go_wp2_with fail
      go_ret
      exact ⟨rfl, b1⟩
set_option maxHeartbeats 2000000 in
theorem rsing_8 (a b c d : Nat) (w : World) (ha : a < B64) (hb : b < B64) (hc : c < B64) (hd : d < B64) : Calls Tryd.prog 15 #[.int .i64 8, .agg (fourC a b c d)] w (BP w (numsB 8 a b c d && (zerB a && zerB b))) := by
  have k1 := KB.made 24 w (fourC a b c d)
  have b1 := alloc_bel w (.cells (fourC a b c d) 24)
  have NU := Lib.hid (fun w' => rnumbers_any 8 a b c d w' ha hb hc hd (by decide))
  have ZA := Lib.hid (fun w' => rzero11_any a w' ha)
  have ZB := Lib.hid (fun w' => rzero11_any b w' hb)
  generalize zerB a = p at *
  generalize zerB b = q at *
  go_enter Tryd.func15, Tryd.ntmps15
  go_wp2_with fail
  generalize w.alloc _ = w1 at *
  refine (NU.out _).mono ?_
  rintro e' w2 ⟨rfl, bb⟩
  have k1 := k1.adv bb
  have b1 := below_step b1 bb
  clear bb NU
  generalize numsB 8 a b c d = n at *
  cases n
  · go_wp2_with fail
    go_ret
    exact ⟨rfl, b1⟩
  · have hz := k1.2
    have j0 := k1.at_ 0 (v := .int .u64 (a : Int)) rfl
    have j1 := k1.at_ 1 (v := .int .u64 (b : Int)) rfl
    have j2 := k1.at_ 2 (v := .int .u64 (c : Int)) rfl
    have j3 := k1.at_ 3 (v := .int .u64 (d : Int)) rfl
    cases p
    · go_wp2_with fail
      refine (ZA.out _).mono ?_
      rintro e' w3 ⟨rfl, rfl⟩
      go_wp2_with fail
      go_ret
      exact ⟨rfl, b1⟩
    · go_wp2_with fail
      refine (ZA.out _).mono ?_
      rintro e' w3 ⟨rfl, rfl⟩
      go_wp2_with fail
      refine (ZB.out _).mono ?_
      rintro e' w3 ⟨rfl, rfl⟩
      go_wp2_with fail
      go_ret
      exact ⟨rfl, b1⟩
set_option maxHeartbeats 2000000 in
theorem rsing_17 (a b c d : Nat) (w : World) (ha : a < B64) (hb : b < B64) (hc : c < B64) (hd : d < B64) : Calls Tryd.prog 15 #[.int .i64 17, .agg (fourC a b c d)] w (BP w (numsB 17 a b c d && (zerB a && oneB b))) := by
  have k1 := KB.made 24 w (fourC a b c d)
  have b1 := alloc_bel w (.cells (fourC a b c d) 24)
  have NU := Lib.hid (fun w' => rnumbers_any 17 a b c d w' ha hb hc hd (by decide))
  have ZA := Lib.hid (fun w' => rzero11_any a w' ha)
  have OB := Lib.hid (fun w' => rone_any b w')
  generalize zerB a = p at *
  generalize oneB b = q at *
  go_enter Tryd.func15, Tryd.ntmps15
  go_wp2_with fail
  generalize w.alloc _ = w1 at *
  refine (NU.out _).mono ?_
  rintro e' w2 ⟨rfl, bb⟩
  have k1 := k1.adv bb
  have b1 := below_step b1 bb
  clear bb NU
  generalize numsB 17 a b c d = n at *
  cases n
  · go_wp2_with fail
    go_ret
    exact ⟨rfl, b1⟩
  · have hz := k1.2
    have j0 := k1.at_ 0 (v := .int .u64 (a : Int)) rfl
    have j1 := k1.at_ 1 (v := .int .u64 (b : Int)) rfl
    have j2 := k1.at_ 2 (v := .int .u64 (c : Int)) rfl
    have j3 := k1.at_ 3 (v := .int .u64 (d : Int)) rfl
    cases p
    · go_wp2_with fail
      refine (ZA.out _).mono ?_
      rintro e' w3 ⟨rfl, rfl⟩
      go_wp2_with fail
      go_ret
      exact ⟨rfl, b1⟩
    · go_wp2_with fail
      refine (ZA.out _).mono ?_
      rintro e' w3 ⟨rfl, rfl⟩
      go_wp2_with fail
      refine (OB.out _).mono ?_
      rintro e' w3 ⟨rfl, rfl⟩
      go_wp2_with fail
      go_ret
      exact ⟨rfl, b1⟩
set_option maxHeartbeats 2000000 in
theorem rsing_20 (a b c d : Nat) (w : World) (ha : a < B64) (hb : b < B64) (hc : c < B64) (hd : d < B64) : Calls Tryd.prog 15 #[.int .i64 20, .agg (fourC a b c d)] w (BP w (numsB 20 a b c d && (oneB a && zerB b))) := by
  have k1 := KB.made 24 w (fourC a b c d)
  have b1 := alloc_bel w (.cells (fourC a b c d) 24)
  have NU := Lib.hid (fun w' => rnumbers_any 20 a b c d w' ha hb hc hd (by decide))
  have OA := Lib.hid (fun w' => rone_any a w')
  have ZB := Lib.hid (fun w' => rzero11_any b w' hb)
  generalize oneB a = p at *
  generalize zerB b = q at *
  go_enter Tryd.func15, Tryd.ntmps15
  go_wp2_with fail
  generalize w.alloc _ = w1 at *
  refine (NU.out _).mono ?_
  rintro e' w2 ⟨rfl, bb⟩
  have k1 := k1.adv bb
  have b1 := below_step b1 bb
  clear bb NU
  generalize numsB 20 a b c d = n at *
  cases n
  · go_wp2_with fail
    go_ret
    exact ⟨rfl, b1⟩
  · have hz := k1.2
    have j0 := k1.at_ 0 (v := .int .u64 (a : Int)) rfl
    have j1 := k1.at_ 1 (v := .int .u64 (b : Int)) rfl
    have j2 := k1.at_ 2 (v := .int .u64 (c : Int)) rfl
    have j3 := k1.at_ 3 (v := .int .u64 (d : Int)) rfl
    cases p
    · go_wp2_with fail
      refine (OA.out _).mono ?_
      rintro e' w3 ⟨rfl, rfl⟩
      go_wp2_with fail
      go_ret
      exact ⟨rfl, b1⟩
    · go_wp2_with fail
      refine (OA.out _).mono ?_
      rintro e' w3 ⟨rfl, rfl⟩
      go_wp2_with fail
      refine (ZB.out _).mono ?_
      rintro e' w3 ⟨rfl, rfl⟩
      go_wp2_with fail
      go_ret
      exact ⟨rfl, b1⟩
set_option maxHeartbeats 2000000 in
theorem rsing_no (tag : Int) (a b c d : Nat) (w : World) (ha : a < B64) (hb : b < B64) (hc : c < B64) (hd : d < B64) (ht : -9223372036854775808 ≤ tag ∧ tag ≤ 9223372036854775807) (q5 : tag ≠ 5) (q8 : tag ≠ 8) (q17 : tag ≠ 17) (q20 : tag ≠ 20) : Calls Tryd.prog 15 #[.int .i64 tag, .agg (fourC a b c d)] w (BP w false) := by
  have k1 := KB.made 24 w (fourC a b c d)
  have b1 := alloc_bel w (.cells (fourC a b c d) 24)
  have NU := Lib.hid (fun w' => rnumbers_any tag a b c d w' ha hb hc hd ht)
  have g5 : (tag == 5) = false := by simp [q5]
  have g8 : (tag == 8) = false := by simp [q8]
  have g17 : (tag == 17) = false := by simp [q17]
  have g20 : (tag == 20) = false := by simp [q20]
  clear q5 q8 q17 q20
  go_enter Tryd.func15, Tryd.ntmps15
  go_wp2_with fail
  generalize w.alloc _ = w1 at *
  refine (NU.out _).mono ?_
  rintro e' w2 ⟨rfl, bb⟩
  have k1 := k1.adv bb
  have b1 := below_step b1 bb
  clear bb NU
  generalize numsB tag a b c d = n at *
  cases n
  · go_wp2_with fail
    go_ret
    exact ⟨rfl, b1⟩
  · go_wp2_with fail
    go_ret
    exact ⟨rfl, b1⟩
theorem rsingular_any (tag : Int) (a b c d : Nat) (w : World) (ha : a < B64) (hb : b < B64) (hc : c < B64) (hd : d < B64) (ht : -9223372036854775808 ≤ tag ∧ tag ≤ 9223372036854775807) : Calls Tryd.prog 15 #[.int .i64 tag, .agg (fourC a b c d)] w (BP w (singB tag a b c d)) := by
  by_cases h5 : tag = 5
  · subst h5
    exact rsing_5 a b c d w ha hb hc hd
  · by_cases h8 : tag = 8
    · subst h8
      exact rsing_8 a b c d w ha hb hc hd
    · by_cases h17 : tag = 17
      · subst h17
        exact rsing_17 a b c d w ha hb hc hd
      · by_cases h20 : tag = 20
        · subst h20
          exact rsing_20 a b c d w ha hb hc hd
        · have h : singB tag a b c d = false := by
            unfold singB
            rw [if_neg h5, if_neg h8, if_neg h17, if_neg h20, Bool.and_false]
          rw [h]
          exact rsing_no tag a b c d w ha hb hc hd ht h5 h8 h17 h20
end Go.Proofs.YtembfhepinfmnaaDoor
