/-
  volvellelaw13.awake.
  What the table tells, for the laws One and Pairs. No program is named here.
  What the table tells of the conjugate. No program is named here.
-/
import Derived.Laws.StructEq
import Derived.Test.YtembfhepinfmnaaDoorPlPGPk3
import Derived.Test.YtembfhepinfmnaaDoorPlPGPk4
namespace Go.Proofs.YtembfhepinfmnaaDoor
open Go.RowKit

theorem eq2_run (a b c d : Int) (w : World) : (Op.equalIn 10000 26 (.agg #[.int .u64 a, .int .u64 b]) (.agg #[.int .u64 c, .int .u64 d])).run Tryd.prog w = .ok (a == c && b == d) w := by
  have u3 := Tryd.underlying22
  have a3 := Tryd.isAgg22
  have z3 := Tryd.sizeOf22
  rw [show (10000 : Nat) = 9999 + 1 from rfl, Op.equalIn]
  simp only [Sem.run_bind, run_underlying Tryd.underlying26, Result.andThen_ok]
  simp only [Std.Legacy.Range.forIn_eq_forIn_range', Std.Legacy.Range.size, Nat.sub_zero, Nat.add_sub_cancel, Nat.div_one, List.range'_succ, List.range'_zero, List.forIn_cons, List.forIn_nil]
  go_simp
  by_cases h1 : a = c <;> by_cases h2 : b = d <;> simp [h1, h2]
theorem spec_awake : specN 6 9221120237041090560 9218868437227405312 0 0 = ⟨9218868437227405312, 9218868437227405312, 0⟩ ∧ isSp 6 9221120237041090560 9218868437227405312 0 0 = true := by
  constructor
  · rfl
  · rfl
set_option maxHeartbeats 2000000 in
theorem awake13 (w : World) (hT : Tab w) : Calls Tryd.prog 6 #[] w (TruePost w) := by
  have SP := Lib.hid (special_any 6 9221120237041090560 9218868437227405312 0 0 w hT (by unfold B64; omega) (by unfold B64; omega) (by unfold B64; omega) (by unfold B64; omega))
  rw [spec_awake.1, spec_awake.2] at SP
  have EQ := eq2_run 9218868437227405312 9218868437227405312 9218868437227405312 9218868437227405312
  go_enter Tryd.func6, Tryd.ntmps6
  go_wp2_with fail
  refine SP.out.mono ?_
  rintro e' w1 ⟨rfl, bb⟩
  go_wp2_with fail
  go_ret
  exact ⟨rfl, below_step bb (alloc_bel _ _)⟩
end Go.Proofs.YtembfhepinfmnaaDoor

namespace Go.Proofs.YtembfhepinfmnaaDoor
open Go.RowKit

/-- A word, and whether it is no number: then it is NaN. -/
def WK (x : Int) (k : Bool) : Prop := ∃ X : Nat, x = (X : Int) ∧ X < B64 ∧ notB X = k ∧ (k = true → X = 9221120237041090560)
theorem wk_nan : WK 9221120237041090560 true := ⟨9221120237041090560, rfl, by unfold B64; omega, by decide +kernel, fun _ => rfl⟩
theorem wk_inf (s : Bool) : WK (wI 9218868437227405312 s) false := by
  cases s
  · exact ⟨9218868437227405312, rfl, by unfold B64; omega, by decide +kernel, fun h => by cases h⟩
  · exact ⟨18442240474082181120, rfl, by unfold B64; omega, by decide +kernel, fun h => by cases h⟩
theorem wk_inf0 : WK 9218868437227405312 false := wk_inf false
theorem wk_inf1 : WK 18442240474082181120 false := wk_inf true
theorem wk_sg (s : Bool) : WK (sgI s) false := by
  cases s
  · exact ⟨0, rfl, by unfold B64; omega, by decide +kernel, fun h => by cases h⟩
  · exact ⟨9223372036854775808, rfl, by unfold B64; omega, by decide +kernel, fun h => by cases h⟩
theorem wk_zero : WK 0 false := wk_sg false
theorem wk_w0 (s : Bool) : WK (wI 0 s) false := by
  cases s
  · exact wk_sg false
  · exact wk_sg true
theorem wk_pi (s : Bool) : WK (wI 4614256656552045848 s) false := by
  cases s
  · exact ⟨4614256656552045848, rfl, by unfold B64; omega, by decide +kernel, fun h => by cases h⟩
  · exact ⟨13837628693406821656, rfl, by unfold B64; omega, by decide +kernel, fun h => by cases h⟩
theorem wk_half (s : Bool) : WK (wI 4609753056924675352 s) false := by
  cases s
  · exact ⟨4609753056924675352, rfl, by unfold B64; omega, by decide +kernel, fun h => by cases h⟩
  · exact ⟨13833125093779451160, rfl, by unfold B64; omega, by decide +kernel, fun h => by cases h⟩
theorem wk_quarter (s : Bool) : WK (wI 4605249457297304856 s) false := by
  cases s
  · exact ⟨4605249457297304856, rfl, by unfold B64; omega, by decide +kernel, fun h => by cases h⟩
  · exact ⟨13828621494152080664, rfl, by unfold B64; omega, by decide +kernel, fun h => by cases h⟩
theorem wk_three (s : Bool) : WK (wI 4612488097114038738 s) false := by
  cases s
  · exact ⟨4612488097114038738, rfl, by unfold B64; omega, by decide +kernel, fun h => by cases h⟩
  · exact ⟨13835860133968814546, rfl, by unfold B64; omega, by decide +kernel, fun h => by cases h⟩
theorem wk_ang (sx sy ix iy : Bool) : WK (angW sx sy ix iy) false := by
  unfold angW
  split
  · exact wk_three sy
  · split
    · exact wk_quarter sy
    · split
      · exact wk_half sy
      · split
        · exact wk_pi sy
        · exact wk_w0 sy
theorem wk_pick {b : Nat} (hb : b < B64) : WK (if notB b then 9221120237041090560 else (b : Int)) (notB b) := by
  cases h : notB b
  · exact ⟨b, by simp, hb, h, fun h => by cases h⟩
  · exact wk_nan
theorem wk_clean {b : Nat} (hb : b < B64) : WK (cleanI b) (notB b) := by
  have e : cleanI b = if notB b then 9221120237041090560 else (b : Int) := by
    unfold cleanI notB
    by_cases h : kindN b = 4 <;> simp [h]
  rw [e]
  exact wk_pick hb
theorem wk_flip {b : Nat} (hb : b < B64) : WK (if notB b then 9221120237041090560 else (flipN b : Int)) (notB b) := by
  have e : notB (flipN b) = notB b := by unfold notB; rw [flip_kind hb]
  have h := wk_pick (flip_lt hb)
  rw [e] at h
  exact h
/-- What the law One asks of two words and their flags; nn: is a word that counts no number? -/
structure One (t : TW) (nn : Bool) (ka kb : Bool) : Prop where
  a : WK t.a ka
  b : WK t.b kb
  f : t.f = 0 ∨ t.f = 1 ∨ t.f = 8 ∨ t.f = 16 ∨ t.f = 17
  c : decide (t.f = 8) = ((ka && kb) && !nn && !(decide (t.f = 16) || decide (t.f = 17)))
theorem one_last (nn : Bool) : One ⟨9221120237041090560, 9221120237041090560, if (!nn) = true then 8 else 0⟩ nn true true := by
  cases nn
  · exact ⟨wk_nan, wk_nan, by simp, by decide⟩
  · exact ⟨wk_nan, wk_nan, by simp, by decide⟩
theorem one_no {x y : Int} {f : Int} {nn ka kb : Bool} (ha : WK x ka) (hb : WK y kb) (hf : f = 0 ∨ f = 1 ∨ f = 16 ∨ f = 17) (hk : f = 0 ∨ f = 1 → (ka && kb && !nn) = false) : One ⟨x, y, f⟩ nn ka kb := by
  refine ⟨ha, hb, by rcases hf with h | h | h | h <;> simp [h], ?_⟩
  rcases hf with rfl | rfl | rfl | rfl
  · rw [hk (.inl rfl)]; rfl
  · rw [hk (.inr rfl)]; rfl
  · simp
  · simp
theorem any_twoN {tag : Int} {a b c d : Nat} (h : wideT tag = false) : anyN tag a b c d = (notB a || notB b) := by
  unfold anyN
  rw [h, Bool.false_and, Bool.or_false]
theorem angF_01 (sx iy : Bool) : angF sx iy = 0 ∨ angF sx iy = 1 := by unfold angF; split <;> simp
theorem told_one (tag : Int) (a b c d : Nat) (ha : a < B64) (hb : b < B64) : ∃ ka kb, One (toldN tag (spN tag a b c d)) (anyN tag a b c d) ka kb := by
  by_cases h2 : tag = 2
  · subst h2
    rw [told_2 a b c d hb]
    refine ⟨_, _, one_no (wk_clean ha) (wk_flip hb) (.inl rfl) (fun _ => ?_)⟩
    rw [any_twoN rfl]
    cases notB a <;> cases notB b <;> rfl
  · by_cases h3 : tag = 3
    · subst h3
      rw [told_3]
      by_cases h : (infB a || infB b) = true
      · rw [if_pos h]; exact ⟨_, _, one_no wk_inf0 (wk_sg _) (.inl rfl) (fun _ => rfl)⟩
      · rw [if_neg h]
        refine ⟨_, _, one_no (wk_clean ha) (wk_clean hb) (.inl rfl) (fun _ => ?_)⟩
        rw [any_twoN rfl]
        cases notB a <;> cases notB b <;> rfl
    · by_cases h0 : tag = 0
      · subst h0
        rw [told_0]
        by_cases h : (infB a || infB b) = true
        · rw [if_pos h]; exact ⟨_, _, one_no wk_inf0 wk_zero (.inl rfl) (fun _ => rfl)⟩
        · rw [if_neg h]; exact ⟨_, _, one_last _⟩
      · by_cases h1 : tag = 1
        · subst h1
          rw [told_1]
          by_cases h : (!anyN 1 a b c d) = true
          · rw [if_pos h]; exact ⟨_, _, one_no (wk_ang _ _ _ _) wk_zero (by rcases angF_01 (sgB a) (infB b) with h | h <;> simp [h]) (fun _ => rfl)⟩
          · rw [if_neg h]; exact ⟨_, _, one_last _⟩
        · by_cases h6 : tag = 6
          · subst h6
            rw [told_6]
            split
            · exact ⟨_, _, one_no wk_inf0 (wk_inf _) (.inl rfl) (fun _ => rfl)⟩
            · by_cases h : (!anyN 6 a b c d) = true
              · rw [if_pos h]
                split
                · exact ⟨_, _, one_no wk_zero (wk_inf _) (.inl rfl) (fun _ => rfl)⟩
                · exact ⟨_, _, one_no wk_inf0 (wk_sg _) (.inl rfl) (fun _ => rfl)⟩
              · rw [if_neg h]
                exact ⟨_, _, one_last _⟩
          · by_cases h7 : tag = 7
            · subst h7
              rw [told_7]
              split
              · split
                · exact ⟨_, _, one_no wk_zero (wk_sg _) (.inl rfl) (fun _ => rfl)⟩
                · exact ⟨_, _, one_no wk_inf0 (wk_sg _) (.inl rfl) (fun _ => rfl)⟩
              · exact ⟨_, _, one_last _⟩
            · by_cases h8 : tag = 8
              · subst h8
                rw [told_8]
                split
                · refine ⟨_, false, one_no wk_inf1 ?_ ?_ (fun _ => rfl)⟩
                  · split
                    · exact wk_pi _
                    · exact wk_w0 _
                  · split <;> simp
                · by_cases h : (!anyN 8 a b c d) = true
                  · rw [if_pos h]
                    exact ⟨_, _, one_no wk_inf0 (wk_ang _ _ _ _) (by rcases angF_01 (sgB a) (infB b) with h | h <;> simp [h]) (fun _ => rfl)⟩
                  · rw [if_neg h]
                    exact ⟨_, _, one_last _⟩
              · by_cases h17 : tag = 17
                · subst h17
                  rw [told_17]
                  split
                  · exact ⟨_, _, one_no (wk_sg _) (wk_inf _) (by simp) (fun h => by simp at h)⟩
                  · exact ⟨_, _, one_last _⟩
                · by_cases h20 : tag = 20
                  · subst h20
                    rw [told_20]
                    split
                    · exact ⟨_, _, one_no (wk_inf _) (wk_sg _) (by simp) (fun h => by simp at h)⟩
                    · exact ⟨_, _, one_last _⟩
                  · by_cases h5 : tag = 5
                    · subst h5
                      rw [told_5]
                      split
                      · have p : ∀ (z s : Bool), ∃ k, WK (if z = true then 9221120237041090560 else wI 9218868437227405312 s) k := fun z s => by
                          cases z
                          · exact ⟨_, wk_inf s⟩
                          · exact ⟨_, wk_nan⟩
                        obtain ⟨ka, hka⟩ := p (zerB a) (sgB a ^^ sgB c)
                        obtain ⟨kb, hkb⟩ := p (zerB b) (sgB b ^^ sgB c)
                        exact ⟨ka, kb, one_no hka hkb (by simp) (fun h => by simp at h)⟩
                      · exact ⟨_, _, one_last _⟩
                    · rw [told_no tag a b c d h2 h3 h0 h1 h6 h7 h8 h17 h20 h5]
                      exact ⟨_, _, one_last _⟩
end Go.Proofs.YtembfhepinfmnaaDoor

namespace Go.Proofs.YtembfhepinfmnaaDoor
open Go.RowKit

def fl (x : Int) : Int := if x = 9221120237041090560 then x else if 9223372036854775808 ≤ x then x - 9223372036854775808 else x + 9223372036854775808
theorem fl_nat {X : Nat} : fl (X : Int) = if X = 9221120237041090560 then (X : Int) else (flipN X : Int) := by
  unfold fl flipN
  by_cases h : X = 9221120237041090560
  · rw [if_pos h, if_pos (by omega)]
  · rw [if_neg h, if_neg (by omega)]
    split <;> split <;> omega
theorem fl_w {c : Int} (s : Bool) (h0 : 0 ≤ c) (h1 : c < 9223372036854775808) (hn : c ≠ 9221120237041090560) : fl (wI c s) = wI c (!s) := by
  unfold fl wI
  cases s
  · simp only [Bool.false_eq_true, if_false, Bool.not_false, if_true]
    rw [if_neg hn, if_neg (by omega)]
  · simp only [if_true, Bool.not_true, Bool.false_eq_true, if_false]
    rw [if_neg (by omega), if_pos (by omega)]
    omega
theorem fl_sg (s : Bool) : fl (sgI s) = sgI (!s) := by cases s <;> rfl
theorem fl_ang (sx sy ix iy : Bool) : fl (angW sx sy ix iy) = angW sx (!sy) ix iy := by
  unfold angW
  by_cases h1 : (iy && (ix && sx)) = true
  · rw [if_pos h1, if_pos h1, fl_w _ (by decide) (by decide) (by decide)]
  · rw [if_neg h1, if_neg h1]
    by_cases h2 : (iy && ix) = true
    · rw [if_pos h2, if_pos h2, fl_w _ (by decide) (by decide) (by decide)]
    · rw [if_neg h2, if_neg h2]
      by_cases h3 : iy = true
      · rw [if_pos h3, if_pos h3, fl_w _ (by decide) (by decide) (by decide)]
      · rw [if_neg h3, if_neg h3]
        by_cases h4 : sx = true
        · rw [if_pos h4, if_pos h4, fl_w _ (by decide) (by decide) (by decide)]
        · rw [if_neg h4, if_neg h4, fl_w _ (by decide) (by decide) (by decide)]
theorem not_nan {b : Nat} (h : notB b = false) : b ≠ 9221120237041090560 := fun e => by
  subst e
  revert h
  decide +kernel
theorem fl_pick {b : Nat} : fl (if notB b then 9221120237041090560 else (b : Int)) = if notB b then 9221120237041090560 else (flipN b : Int) := by
  cases h : notB b
  · simp only [Bool.false_eq_true, if_false]
    rw [fl_nat, if_neg (not_nan h)]
  · rfl
theorem clean_pick (b : Nat) : cleanI b = if notB b then 9221120237041090560 else (b : Int) := by
  unfold cleanI notB
  by_cases h : kindN b = 4 <;> simp [h]
theorem flip_inf {b : Nat} (hb : b < B64) : infB (flipN b) = infB b := by unfold infB; rw [flip_kind hb]
theorem flip_not {b : Nat} (hb : b < B64) : notB (flipN b) = notB b := by unfold notB; rw [flip_kind hb]
theorem flip_zer {b : Nat} (hb : b < B64) : zerB (flipN b) = zerB b := by unfold zerB; rw [flip_lo hb]
theorem flip_one {b : Nat} (hb : b < B64) : oneB (flipN b) = oneB b := by unfold oneB; rw [flip_lo hb]
theorem flip_fin {b : Nat} (hb : b < B64) : finB (flipN b) = finB b := by
  have h := flip_lo hb
  unfold finB exN
  unfold loN at h
  rw [h]
theorem flip_anyI {b : Nat} (hb : b < B64) (tag : Int) (a c d : Nat) : anyI tag a (flipN b) c d = anyI tag a b c d := by unfold anyI; rw [flip_inf hb]
theorem flip_anyN {b : Nat} (hb : b < B64) (tag : Int) (a c d : Nat) : anyN tag a (flipN b) c d = anyN tag a b c d := by unfold anyN; rw [flip_not hb]
theorem flip_sing {b : Nat} (hb : b < B64) (tag : Int) (a c d : Nat) : singB tag a (flipN b) c d = singB tag a b c d := by unfold singB numsB; rw [flip_fin hb, flip_zer hb, flip_one hb]
theorem flip_isSp {b : Nat} (hb : b < B64) (tag : Int) (a c d : Nat) : isSp tag a (flipN b) c d = isSp tag a b c d := by unfold isSp; rw [flip_anyI hb, flip_anyN hb, flip_sing hb]
def flT (tag : Int) (t : TW) : TW := if tag = 1 then ⟨fl t.a, t.b, t.f⟩ else ⟨t.a, fl t.b, t.f⟩
theorem flT_last (tag : Int) (f : Int) : flT tag ⟨9221120237041090560, 9221120237041090560, f⟩ = ⟨9221120237041090560, 9221120237041090560, f⟩ := by
  unfold flT
  split <;> rfl
theorem flT_ne {tag : Int} (h : tag ≠ 1) (x y f : Int) : flT tag ⟨x, y, f⟩ = ⟨x, fl y, f⟩ := by unfold flT; rw [if_neg h]
theorem fl_if (p : Prop) [Decidable p] (t u : TW) (tag : Int) : flT tag (if p then t else u) = if p then flT tag t else flT tag u := by split <;> rfl
theorem told_pair (tag : Int) (a b c d : Nat) (hb : b < B64) (h0 : tag ≠ 0) (h4 : tag ≠ 4) (h5 : tag ≠ 5) : toldN tag (spN tag a (flipN b) c d) = flT tag (toldN tag (spN tag a b c d)) := by
  have hf := flip_lt hb
  by_cases h2 : tag = 2
  · subst h2
    rw [told_2 a _ c d hf, told_2 a b c d hb, flT_ne (by decide), flip_flip hb, flip_not hb]
    congr 1
    rw [← clean_flip hb, clean_pick, flip_not hb]
    cases h : notB b
    · simp only [Bool.false_eq_true, if_false]
      have hn : flipN b ≠ 9221120237041090560 := not_nan (by rw [flip_not hb]; exact h)
      rw [fl_nat, if_neg hn, flip_flip hb]
    · rfl
  · by_cases h3 : tag = 3
    · subst h3
      rw [told_3, told_3, fl_if, flT_ne (by decide), flT_ne (by decide), flip_inf hb, flip_sg hb, fl_sg, clean_flip hb, clean_pick b, fl_pick]
    · by_cases h1 : tag = 1
      · subst h1
        rw [told_1, told_1, fl_if, flT_last, flip_inf hb, flip_sg hb, flip_anyN hb]
        unfold flT
        rw [if_pos rfl]
        simp only [fl_ang]
      · by_cases h6 : tag = 6
        · subst h6
          rw [told_6, told_6, fl_if, fl_if, fl_if, flT_last, flT_ne (by decide), flT_ne (by decide), flT_ne (by decide), flip_inf hb, flip_sg hb, flip_anyN hb, fl_sg, fl_w _ (by decide) (by decide) (by decide)]
        · by_cases h7 : tag = 7
          · subst h7
            rw [told_7, told_7, fl_if, fl_if, flT_last, flT_ne (by decide), flT_ne (by decide), flip_zer hb, flip_sg hb, flip_anyN hb, fl_sg]
          · by_cases h8 : tag = 8
            · subst h8
              rw [told_8, told_8, fl_if, fl_if, flT_last, flT_ne (by decide), flT_ne (by decide), flip_inf hb, flip_sg hb, flip_anyN hb, flip_sing hb, fl_ang]
              congr 2
              by_cases hs : sgB a = true
              · rw [if_pos hs, if_pos hs, fl_w _ (by decide) (by decide) (by decide)]
              · rw [if_neg hs, if_neg hs, fl_w _ (by decide) (by decide) (by decide)]
            · by_cases h17 : tag = 17
              · subst h17
                rw [told_17, told_17, fl_if, flT_last, flT_ne (by decide), flip_sg hb, flip_anyN hb, flip_sing hb, fl_w _ (by decide) (by decide) (by decide)]
              · by_cases h20 : tag = 20
                · subst h20
                  rw [told_20, told_20, fl_if, flT_last, flT_ne (by decide), flip_sg hb, flip_anyN hb, flip_sing hb, fl_sg]
                · rw [told_no tag a _ c d h2 h3 h0 h1 h6 h7 h8 h17 h20 h5, told_no tag a b c d h2 h3 h0 h1 h6 h7 h8 h17 h20 h5, flT_last, flip_anyN hb]
end Go.Proofs.YtembfhepinfmnaaDoor
