/-
  span's sum of two dyads, with all its bits.
  volvelleref02's Both.
  Add of both.
  Sub of both.
-/
import Derived.Test.YtodjldhppbbhdaaGreatDoorPlSerGNumbers
import Derived.Test.YtodjldhppbbhdaaGreatDoorPlSerGDy10
import Derived.Test.YtodjldhppbbhdaaGreatDoorPlSerGDy13
import Derived.Test.YtodjldhppbbhdaaGreatDoorPlSerGSp3
import Derived.Test.YtodjldhppbbhdaaGreatDoorPlSerGSp4
namespace Go.Proofs.YtodjldhppbbhdaaGreatDoor
open Go.RowKit

/-- What is cut doesn't hang on how a number is written. -/
theorem cut_shift (neg up : Bool) (V j p : Nat) (e : Int) : cutD neg (V * 2 ^ j) (e - (j : Int)) false p up = cutD neg V e false p up := by
  rcases Nat.eq_zero_or_pos V with h0 | h0
  · subst h0; rw [Nat.zero_mul, cut_zero, cut_zero]
  · rcases Nat.lt_or_ge (nb V) p with h | h
    · have h1 := nb_mul_pow h0 j
      obtain ⟨D, hD⟩ : ∃ D, D = nb V + j - p := ⟨_, rfl⟩
      have hDj : D ≤ j := by omega
      have h2 : V * 2 ^ j = V * 2 ^ (j - D) * 2 ^ D := by rw [Nat.mul_assoc, ← Nat.pow_add]; congr 2; omega
      have h3 : V * 2 ^ j / 2 ^ D = V * 2 ^ (j - D) := by rw [h2, Nat.mul_div_cancel _ (Nat.two_pow_pos D)]
      unfold cutD
      rw [h1, ← hD, h3, ← h2, show nb V - p = 0 by omega]
      simp only [Nat.pow_zero, Nat.div_one, Nat.mul_one, ne_eq, not_true_eq_false, decide_false, Bool.or_self, Bool.false_and, Bool.false_eq_true, if_false, Nat.add_zero]
      have h4 := mkD_pow neg V (j - D) e
      rw [show e - (j : Int) + ((D : Nat) : Int) = e - ((j - D : Nat) : Int) by omega, h4]
      simp
    · have := cut_more (V := V) (t := 0) (j := j) (p := p) neg up e false false h h0 (Nat.two_pow_pos j) (by simp)
      rw [Nat.add_zero] at this
      exact this
theorem cut_wd (neg up : Bool) (V p : Nat) (e : Int) : cutD (wdD neg V e).neg (wdD neg V e).m (wdD neg V e).e false p up = cutD neg V e false p up := by
  unfold wdD
  by_cases h0 : V = 0
  · subst h0
    rw [if_pos rfl, cut_zero]
    exact cut_zero _ _ _ _
  · rw [if_neg h0]
    have h1 := (od_spec (show 0 < V by omega)).1
    have h2 := cut_shift neg up (od V) (v2 V) p (e + (v2 V : Int))
    rw [← h1, show e + (v2 V : Int) - (v2 V : Int) = e by omega] at h2
    exact h2.symm
/-- The sum of two plain dyads, not trimmed of its zeros. -/
def sumN (r s : DR) : DR :=
  if r.m = 0 then s else if s.m = 0 then r else
    if r.neg = s.neg then ⟨true, r.neg, onE r.m r.e s.e + onE s.m s.e r.e, min r.e s.e⟩ else
      if onE s.m s.e r.e ≤ onE r.m r.e s.e then ⟨true, r.neg, onE r.m r.e s.e - onE s.m s.e r.e, min r.e s.e⟩ else ⟨true, s.neg, onE s.m s.e r.e - onE r.m r.e s.e, min r.e s.e⟩
theorem sum_cut {r s : DR} (h1 : PlainR r) (p : Nat) (up : Bool) :
    cutD (addD r.neg s.neg r.m s.m r.e s.e).neg (addD r.neg s.neg r.m s.m r.e s.e).m (addD r.neg s.neg r.m s.m r.e s.e).e false p up = cutD (sumN r s).neg (sumN r s).m (sumN r s).e false p up := by
  unfold addD sumN sideX sideY sideE
  by_cases h0 : r.m = 0
  · have hz := (h1.zero h0).2
    simp only [h0, if_true, Nat.lt_irrefl, false_and, if_false, decide_true, Bool.true_and, Nat.zero_add, hz, Bool.false_or]
    exact cut_wd _ _ _ _ _
  · by_cases h0' : s.m = 0
    · simp only [h0, h0', if_true, if_false, Nat.lt_irrefl, false_and, and_false, decide_false, Bool.false_and, Bool.or_false, Nat.add_zero]
      exact cut_wd _ _ _ _ _
    · have hX : 0 < onE r.m r.e s.e := onE_pos (by omega)
      have hY : 0 < onE s.m s.e r.e := onE_pos (by omega)
      simp only [h0, h0', if_false, hX, hY, true_and]
      by_cases hn : r.neg = s.neg
      · rw [if_neg (by simpa using hn), if_pos hn]
        have : decide (onE r.m r.e s.e = 0) = false := by simp; omega
        rw [this, Bool.false_and, Bool.or_false]
        exact cut_wd _ _ _ _ _
      · rw [if_pos hn, if_neg hn]
        by_cases hle : onE s.m s.e r.e ≤ onE r.m r.e s.e
        · rw [if_pos hle, if_pos hle]; exact cut_wd _ _ _ _ _
        · rw [if_neg hle, if_neg hle]; exact cut_wd _ _ _ _ _
theorem onE_bits {V : Nat} {e o : Int} (h : nb V ≤ 16384) (h1 : -262144 ≤ e) (h2 : e ≤ 262144) (h3 : -262144 ≤ o) (h4 : o ≤ 262144) : nb (onE V e o) ≤ 540672 := by
  unfold onE
  rcases Nat.eq_zero_or_pos V with h0 | h0
  · subst h0; rw [Nat.zero_mul, nb_zero]; omega
  · rw [nb_mul_pow h0]; omega
structure WideB (r : DR) : Prop where
  bits : nb r.m ≤ 600000
  e1 : -300000 ≤ r.e
  e2 : r.e ≤ 300000
theorem sumN_wide {r s : DR} (h1 : PlainR r) (h2 : PlainR s) : WideB (sumN r s) := by
  have b1 := onE_bits h1.bits h1.e1 h1.e2 h2.e1 h2.e2
  have b2 := onE_bits h2.bits h2.e1 h2.e2 h1.e1 h1.e2
  have := h1.bits
  have := h2.bits
  have := h1.e1
  have := h1.e2
  have := h2.e1
  have := h2.e2
  unfold sumN
  by_cases h0 : r.m = 0
  · rw [if_pos h0]; exact ⟨by omega, by omega, by omega⟩
  · rw [if_neg h0]
    by_cases h0' : s.m = 0
    · rw [if_pos h0']; exact ⟨by omega, by omega, by omega⟩
    · rw [if_neg h0']
      by_cases hn : r.neg = s.neg
      · rw [if_pos hn]; exact ⟨by have := nb_add b1 b2; simp only; omega, by simp only; omega, by simp only; omega⟩
      · rw [if_neg hn]
        by_cases hle : onE s.m s.e r.e ≤ onE r.m r.e s.e
        · rw [if_pos hle]; exact ⟨by have := nb_mono (Nat.sub_le (onE r.m r.e s.e) (onE s.m s.e r.e)); simp only; omega, by simp only; omega, by simp only; omega⟩
        · rw [if_neg hle]; exact ⟨by have := nb_mono (Nat.sub_le (onE s.m s.e r.e) (onE r.m r.e s.e)); simp only; omega, by simp only; omega, by simp only; omega⟩

/-- A function's own blocks and numbers, where it has no work. -/
def KL (w : World) : List (TypeId × Nat × Array Value) → Prop
  | [] => True
  | (T, a, cs) :: r => KC T w a cs ∧ KL w r
theorem KL.adv {w w' : World} (b : Below w.heap.size w w') : ∀ {ks : List (TypeId × Nat × Array Value)}, KL w ks → KL w' ks
  | [], _ => trivial
  | (_, _, _) :: _, h => ⟨h.1.adv b, KL.adv b h.2⟩
structure Pu (w wi : World) (ks : List (TypeId × Nat × Array Value)) (ns : List (Value × Nat)) : Prop where
  bel : Below w.heap.size w wi
  ks : KL wi ks
  ns : NS wi ns
section
variable {w wi wj : World} {ks : List (TypeId × Nat × Array Value)} {ns : List (Value × Nat)}
theorem Pu.below (h : Pu w wi ks ns) (b : Below wi.heap.size wi wj) : Pu w wj ks ns := ⟨below_step h.bel b, h.ks.adv b, h.ns.adv b⟩
theorem Pu.drew (h : Pu w wi ks ns) : Pu w wi.drew ks ns := h.below (Below.refl _ wi).drew
theorem Pu.num (h : Pu w wi ks ns) {v : Value} {V : Nat} (n : Num wi v V) : Pu w wi ks ((v, V) :: ns) := ⟨h.bel, h.ks, n, h.ns⟩
theorem Pu.alloc (h : Pu w wi ks ns) (T : TypeId) (cs : Array Value) : Pu w (wi.alloc (.cells cs T)) ((T, wi.heap.size, cs) :: ks) ns :=
  ⟨below_step h.bel (alloc_bel wi _), ⟨KC.made T wi cs, h.ks.adv (alloc_bel wi _)⟩, h.ns.adv (alloc_bel wi _)⟩
end
/-- The last step of a call that answers a number (or a dyad): it is written into its own block. -/
theorem Pu.give {w wi : World} {ks : List (TypeId × Nat × Array Value)} {ns : List (Value × Nat)} (h : Pu w wi ks ns) {T : TypeId} {gr : Nat} (k : KC T wi gr zd) (hg : w.heap.size ≤ gr) {v : Value} {V : Nat} (n : Num wi v V) (x y z : Value) :
    Num (put3 wi gr x y z) v V ∧ Below w.heap.size w (put3 wi gr x y z) := ⟨num_put3 n k x y z, below_only h.bel (only_put3 _ _ _ _ _) hg⟩
-- SUM
set_option maxRecDepth 8000 in
set_option maxHeartbeats 4000000 in
theorem sum_any3 {r s : DR} {A B : Option Addr} {n c m d : Nat} (w : World) (ha : Num w (.slice A n c) r.m) (hb : Num w (.slice B m d) s.m) (hr : PlainR r) (hs : PlainR s) :
    Calls Tryz.prog 85 #[dyv r.neg A n c r.e, dyv s.neg B m d s.e] w (DOne w (sumN r s)) := by
  have hbl := Below.refl w.heap.size w
  have P : Pu w (((w.alloc (cd3 (.bool r.neg) (.slice A n c) (.int .i64 r.e))).alloc (cd3 (.bool s.neg) (.slice B m d) (.int .i64 s.e))).alloc (.cells zd 94)) [(94, w.heap.size + 1 + 1, zd), (27, w.heap.size + 1, #[.bool s.neg, .slice B m d, .int .i64 s.e]), (27, w.heap.size, #[.bool r.neg, .slice A n c, .int .i64 r.e])] [] := by
    have h := ((Pu.alloc (⟨hbl, trivial, trivial⟩ : Pu w w [] []) 27 #[.bool r.neg, .slice A n c, .int .i64 r.e]).alloc 27 #[.bool s.neg, .slice B m d, .int .i64 s.e]).alloc 94 zd
    rw [show ((w.alloc (.cells #[.bool r.neg, .slice A n c, .int .i64 r.e] 27)).alloc (.cells #[.bool s.neg, .slice B m d, .int .i64 s.e] 27)).heap.size = w.heap.size + 1 + 1 by simp, show (w.alloc (.cells #[.bool r.neg, .slice A n c, .int .i64 r.e] 27)).heap.size = w.heap.size + 1 by simp] at h
    exact h
  have hA := ha.empty
  have hB := hb.empty
  clear hbl
  by_cases h0 : n = 0
  · subst h0
    have HT : Hid (sumN r s = s) := Lib.hid (by unfold sumN; rw [if_pos (hA.1 rfl)])
    have ka0 := P.ks.2.2.1.at_ 0 _ rfl
    have ka1 := P.ks.2.2.1.at_ 1 _ rfl
    have ka2 := P.ks.2.2.1.at_ 2 _ rfl
    have kal := P.ks.2.2.1.2
    have kb0 := P.ks.2.1.at_ 0 _ rfl
    have kb1 := P.ks.2.1.at_ 1 _ rfl
    have kb2 := P.ks.2.1.at_ 2 _ rfl
    have kbl := P.ks.2.1.2
    go_enter Tryz.func85, Tryz.ntmps85
    go_upto_region 2 with fail
    generalize ((w.alloc (cd3 (.bool r.neg) (.slice A 0 c) (.int .i64 r.e))).alloc (cd3 (.bool s.neg) (.slice B m d) (.int .i64 s.e))).alloc (.cells zd 94) = w1 at *
    have kR := P.ks.1
    have q0 := kR.at_ 0 _ rfl
    have q1 := kR.at_ 1 _ rfl
    have q2 := kR.at_ 2 _ rfl
    have qf0 := kR.fr 0
    have qf1 := kR.fr 1
    have qf2 := kR.fr 2
    go_wp2_with fail
    rw [HT.out]
    obtain ⟨hn9, hb9⟩ := P.give kR (by omega) (hb.below P.bel) (.bool s.neg) (.slice B m d) (.int .i64 s.e)
    exact bodyPost_ret (v := .agg #[.bool s.neg, .slice B m d, .int .i64 s.e]) (by simp [results, Tryz.results85, go_sem, q0, q1, q2]) rfl ⟨B, m, d, rfl, hn9, hb9⟩
  have h0b : ((n : Int) == 0) = false := by simp; omega
  have h0c : ¬ r.m = 0 := fun h => h0 (hA.2 h)
  by_cases h1 : m = 0
  · subst h1
    have HT : Hid (sumN r s = r) := Lib.hid (by unfold sumN; rw [if_neg h0c, if_pos (hB.1 rfl)])
    clear h0c
    have ka0 := P.ks.2.2.1.at_ 0 _ rfl
    have ka1 := P.ks.2.2.1.at_ 1 _ rfl
    have ka2 := P.ks.2.2.1.at_ 2 _ rfl
    have kal := P.ks.2.2.1.2
    have kb0 := P.ks.2.1.at_ 0 _ rfl
    have kb1 := P.ks.2.1.at_ 1 _ rfl
    have kb2 := P.ks.2.1.at_ 2 _ rfl
    have kbl := P.ks.2.1.2
    go_enter Tryz.func85, Tryz.ntmps85
    go_upto_region 4 with fail
    generalize ((w.alloc (cd3 (.bool r.neg) (.slice A n c) (.int .i64 r.e))).alloc (cd3 (.bool s.neg) (.slice B 0 d) (.int .i64 s.e))).alloc (.cells zd 94) = w1 at *
    have kR := P.ks.1
    have q0 := kR.at_ 0 _ rfl
    have q1 := kR.at_ 1 _ rfl
    have q2 := kR.at_ 2 _ rfl
    have qf0 := kR.fr 0
    have qf1 := kR.fr 1
    have qf2 := kR.fr 2
    go_wp2_with fail
    rw [HT.out]
    obtain ⟨hn9, hb9⟩ := P.give kR (by omega) (ha.below P.bel) (.bool r.neg) (.slice A n c) (.int .i64 r.e)
    exact bodyPost_ret (v := .agg #[.bool r.neg, .slice A n c, .int .i64 r.e]) (by simp [results, Tryz.results85, go_sem, q0, q1, q2]) rfl ⟨A, n, c, rfl, hn9, hb9⟩
  have h1b : ((m : Int) == 0) = false := by simp; omega
  have h1c : ¬ s.m = 0 := fun h => h1 (hB.2 h)
  have re1 := hr.e1
  have re2 := hr.e2
  have se1 := hs.e1
  have se2 := hs.e2
  have rb := hr.bits
  have sb := hs.bits
  obtain ⟨E, hE⟩ : ∃ E, min r.e s.e = E := ⟨_, rfl⟩
  obtain ⟨j, hj⟩ : ∃ j : Nat, r.e - E = (j : Int) := ⟨(r.e - E).toNat, by omega⟩
  obtain ⟨k, hk⟩ : ∃ k : Nat, s.e - E = (k : Int) := ⟨(s.e - E).toNat, by omega⟩
  have hX : r.m * 2 ^ j = onE r.m r.e s.e := by unfold onE; rw [hE, hj, Int.toNat_natCast]
  have hY : s.m * 2 ^ k = onE s.m s.e r.e := by unfold onE; rw [show min s.e r.e = E by omega, hk, Int.toNat_natCast]
  have bX := onE_bits hr.bits re1 re2 se1 se2
  have bY := onE_bits hs.bits se1 se2 re1 re2
  have HS : Hid (sumN r s = if r.neg = s.neg then ⟨true, r.neg, onE r.m r.e s.e + onE s.m s.e r.e, E⟩ else if onE s.m s.e r.e ≤ onE r.m r.e s.e then ⟨true, r.neg, onE r.m r.e s.e - onE s.m s.e r.e, E⟩ else ⟨true, s.neg, onE s.m s.e r.e - onE r.m r.e s.e, E⟩) := Lib.hid (by unfold sumN; rw [if_neg h0c, if_neg h1c, hE])
  have hw1 : IntKind.i64.wrap (r.e - E) = (j : Int) := by rw [wrap_id (by omega) (by omega), hj]
  have hw2 : IntKind.i64.wrap (s.e - E) = (k : Int) := by rw [wrap_id (by omega) (by omega), hk]
  have hj2 : j ≤ 1048576 := by omega
  have hk2 : k ≤ 1048576 := by omega
  have H1 : Hid (∀ w', Below w.heap.size w w' → Calls Tryz.prog 72 #[.slice A n c, .int .i64 (j : Int)] w' (NP w' (onE r.m r.e s.e))) := Lib.hid (fun w' b => by rw [← hX]; exact shlN w' (ha.below b) (by omega) hj2)
  have H2 : Hid (∀ w', Below w.heap.size w w' → Calls Tryz.prog 72 #[.slice B m d, .int .i64 (k : Int)] w' (NP w' (onE s.m s.e r.e))) := Lib.hid (fun w' b => by rw [← hY]; exact shlN w' (hb.below b) (by omega) hk2)
  clear h0 h1 h0c h1c hA hB hj hk hX hY
  generalize onE r.m r.e s.e = X at *
  generalize onE s.m s.e r.e = Y at *
  have ka0 := P.ks.2.2.1.at_ 0 _ rfl
  have ka1 := P.ks.2.2.1.at_ 1 _ rfl
  have ka2 := P.ks.2.2.1.at_ 2 _ rfl
  have kal := P.ks.2.2.1.2
  have kb0 := P.ks.2.1.at_ 0 _ rfl
  have kb1 := P.ks.2.1.at_ 1 _ rfl
  have kb2 := P.ks.2.1.at_ 2 _ rfl
  have kbl := P.ks.2.1.2
  go_enter Tryz.func85, Tryz.ntmps85
  go_upto_region 6 with fail
  generalize ((w.alloc (cd3 (.bool r.neg) (.slice A n c) (.int .i64 r.e))).alloc (cd3 (.bool s.neg) (.slice B m d) (.int .i64 s.e))).alloc (.cells zd 94) = w1 at *
  clear ka0 ka1 ka2 kal kb0 kb1 kb2 kbl
  have HC : Hid (∀ w' ns, Pu w w' [(94, w.heap.size + 1 + 1, zd), (27, w.heap.size + 1, #[.bool s.neg, .slice B m d, .int .i64 s.e]), (27, w.heap.size, #[.bool r.neg, .slice A n c, .int .i64 r.e])] ns → w'.cell? ⟨w.heap.size, 1, none⟩ = some (.slice A n c) ∧ w'.cell? ⟨w.heap.size, 2, none⟩ = some (.int .i64 r.e) ∧ w'.cell? ⟨w.heap.size + 1, 1, none⟩ = some (.slice B m d) ∧ w'.cell? ⟨w.heap.size + 1, 2, none⟩ = some (.int .i64 s.e)) := Lib.hid (fun w' ns h => ⟨h.ks.2.2.1.at_ 1 _ rfl, h.ks.2.2.1.at_ 2 _ rfl, h.ks.2.1.at_ 1 _ rfl, h.ks.2.1.at_ 2 _ rfl⟩)
  have PC := P.drew
  clear P
  have XS := HC.out _ _ PC
  go_region_held3 (fun w' => w'.cell? ⟨w.heap.size, 1, none⟩ = some (.slice A n c) ∧ w'.cell? ⟨w.heap.size, 2, none⟩ = some (.int .i64 r.e) ∧ w'.cell? ⟨w.heap.size + 1, 1, none⟩ = some (.slice B m d) ∧ w'.cell? ⟨w.heap.size + 1, 2, none⟩ = some (.int .i64 s.e))
    (first | with_reducible exact HC.out _ _ PC | with_reducible exact XS)
    (first
      | (go_at_call_of 72 (Value.slice A n c); refine (H1.out _ PC.bel).mono ?_; rintro e' v1 ⟨A4, p4, c4, rfl, n4, b4⟩; have PQ := (PC.below b4).num n4; clear PC; have PC := PQ; clear PQ)
      | (go_at_call_of 72 (Value.slice B m d); refine (H2.out _ PC.bel).mono ?_; rintro e' v2 ⟨A5, p5, c5, rfl, n5, b5⟩; have PQ := (PC.below b5).num n5; clear PC; have PC := PQ; clear PQ))
  have P := PC
  clear PC XS HC H1 H2 n4 b4 n5 b5
  by_cases hn : r.neg = s.neg
  · skip
    have hnb : (r.neg == s.neg) = true := by simpa using hn
    have HT := Lib.hid (HS.out.trans (if_pos hn))
    clear HS hn
    have ka0 := P.ks.2.2.1.at_ 0 _ rfl
    have ka1 := P.ks.2.2.1.at_ 1 _ rfl
    have ka2 := P.ks.2.2.1.at_ 2 _ rfl
    have kal := P.ks.2.2.1.2
    have kb0 := P.ks.2.1.at_ 0 _ rfl
    have kb1 := P.ks.2.1.at_ 1 _ rfl
    have kb2 := P.ks.2.1.at_ 2 _ rfl
    have kbl := P.ks.2.1.2
    go_upto_region 8 with fail
    clear ka0 ka1 ka2 kal kb0 kb1 kb2 kbl
    have HC : Hid (∀ w' ns, Pu w w' [(94, w.heap.size + 1 + 1, zd), (27, w.heap.size + 1, #[.bool s.neg, .slice B m d, .int .i64 s.e]), (27, w.heap.size, #[.bool r.neg, .slice A n c, .int .i64 r.e])] ns → w'.cell? ⟨w.heap.size, 0, none⟩ = some (.bool r.neg)) := Lib.hid (fun w' ns h => h.ks.2.2.1.at_ 0 _ rfl)
    have HK : Hid (∀ w' w9 ns, Pu w w' [(94, w.heap.size + 1 + 1, zd), (27, w.heap.size + 1, #[.bool s.neg, .slice B m d, .int .i64 s.e]), (27, w.heap.size, #[.bool r.neg, .slice A n c, .int .i64 r.e])] ns → Only w' w9 (w.heap.size + 1 + 1) → w9.cell? ⟨w.heap.size, 0, none⟩ = some (.bool r.neg)) := Lib.hid (fun w' w9 ns h o => (h.ks.2.2.1.only o (by omega)).at_ 0 _ rfl)
    have PC := P.drew
    clear P
    have XS := HC.out _ _ PC
    go_region_held3 (fun w' => w'.cell? ⟨w.heap.size, 0, none⟩ = some (.bool r.neg))
      (first | with_reducible exact HC.out _ _ P9 | with_reducible exact HK.out _ _ _ P9 (only_put3 _ _ _ _ _) | with_reducible exact XS)
      (first | (go_at_call 48; refine (addN _ PC.ns.2.1 PC.ns.1 (by omega) (by omega)).mono ?_; rintro e' v3 ⟨A6, p6, c6, rfl, n6, b6⟩; have P9 := (PC.below b6).num n6; have q0 := P9.ks.1.at_ 0 _ rfl; have q1 := P9.ks.1.at_ 1 _ rfl; have q2 := P9.ks.1.at_ 2 _ rfl; have qf0 := P9.ks.1.fr 0; have qf1 := P9.ks.1.fr 1; have qf2 := P9.ks.1.fr 2))
    go_wp2_with fail
    rw [HT.out]
    obtain ⟨hn9, hb9⟩ := P9.give P9.ks.1 (by omega) P9.ns.1 (.bool r.neg) (.slice A6 p6 c6) (.int .i64 E)
    exact bodyPost_ret (v := .agg #[.bool r.neg, .slice A6 p6 c6, .int .i64 E]) (by simp [results, Tryz.results85, go_sem, q0, q1, q2]) rfl ⟨A6, p6, c6, rfl, hn9, hb9⟩
  · skip
    have hnb : (r.neg == s.neg) = false := by simpa using hn
    have HS2 := Lib.hid (HS.out.trans (if_neg hn))
    clear HS hn
    by_cases hle : Y ≤ X
    · skip
      have HT := Lib.hid (HS2.out.trans (if_pos hle))
      clear HS2
      have ka0 := P.ks.2.2.1.at_ 0 _ rfl
      have ka1 := P.ks.2.2.1.at_ 1 _ rfl
      have ka2 := P.ks.2.2.1.at_ 2 _ rfl
      have kal := P.ks.2.2.1.2
      have kb0 := P.ks.2.1.at_ 0 _ rfl
      have kb1 := P.ks.2.1.at_ 1 _ rfl
      have kb2 := P.ks.2.1.at_ 2 _ rfl
      have kbl := P.ks.2.1.2
      go_wp2_with fail
      refine (subN _ P.ns.2.1 P.ns.1 (by omega) (by omega) hle).mono ?_
      rintro e' v3 ⟨A6, p6, c6, rfl, n6, b6⟩
      replace P := (P.below b6).num n6
      clear hle b6 n6 ka0 ka1 ka2 kal kb0 kb1 kb2 kbl
      have ka0 := P.ks.2.2.1.at_ 0 _ rfl
      have ka1 := P.ks.2.2.1.at_ 1 _ rfl
      have ka2 := P.ks.2.2.1.at_ 2 _ rfl
      have kal := P.ks.2.2.1.2
      have kb0 := P.ks.2.1.at_ 0 _ rfl
      have kb1 := P.ks.2.1.at_ 1 _ rfl
      have kb2 := P.ks.2.1.at_ 2 _ rfl
      have kbl := P.ks.2.1.2
      have kR := P.ks.1
      have q0 := kR.at_ 0 _ rfl
      have q1 := kR.at_ 1 _ rfl
      have q2 := kR.at_ 2 _ rfl
      have qf0 := kR.fr 0
      have qf1 := kR.fr 1
      have qf2 := kR.fr 2
      go_wp2_with fail
      rw [HT.out]
      obtain ⟨hn9, hb9⟩ := P.give kR (by omega) P.ns.1 (.bool r.neg) (.slice A6 p6 c6) (.int .i64 E)
      exact bodyPost_ret (v := .agg #[.bool r.neg, .slice A6 p6 c6, .int .i64 E]) (by simp [results, Tryz.results85, go_sem, q0, q1, q2]) rfl ⟨A6, p6, c6, rfl, hn9, hb9⟩
    · skip
      have HT := Lib.hid (HS2.out.trans (if_neg hle))
      have hlt : X < Y := by omega
      clear HS2
      have ka0 := P.ks.2.2.1.at_ 0 _ rfl
      have ka1 := P.ks.2.2.1.at_ 1 _ rfl
      have ka2 := P.ks.2.2.1.at_ 2 _ rfl
      have kal := P.ks.2.2.1.2
      have kb0 := P.ks.2.1.at_ 0 _ rfl
      have kb1 := P.ks.2.1.at_ 1 _ rfl
      have kb2 := P.ks.2.1.at_ 2 _ rfl
      have kbl := P.ks.2.1.2
      go_wp2_with fail
      refine (subNo _ P.ns.2.1 P.ns.1 (by omega) (by omega) hlt).mono ?_
      rintro e' v3 ⟨rfl, b6⟩
      replace P := P.below b6
      clear b6 hle ka0 ka1 ka2 kal kb0 kb1 kb2 kbl
      have ka0 := P.ks.2.2.1.at_ 0 _ rfl
      have ka1 := P.ks.2.2.1.at_ 1 _ rfl
      have ka2 := P.ks.2.2.1.at_ 2 _ rfl
      have kal := P.ks.2.2.1.2
      have kb0 := P.ks.2.1.at_ 0 _ rfl
      have kb1 := P.ks.2.1.at_ 1 _ rfl
      have kb2 := P.ks.2.1.at_ 2 _ rfl
      have kbl := P.ks.2.1.2
      go_wp2_with fail
      refine (subN _ P.ns.1 P.ns.2.1 (by omega) (by omega) (by omega)).mono ?_
      rintro e' v4 ⟨A6, p6, c6, rfl, n6, b6⟩
      replace P := (P.below b6).num n6
      clear b6 n6 ka0 ka1 ka2 kal kb0 kb1 kb2 kbl
      have ka0 := P.ks.2.2.1.at_ 0 _ rfl
      have ka1 := P.ks.2.2.1.at_ 1 _ rfl
      have ka2 := P.ks.2.2.1.at_ 2 _ rfl
      have kal := P.ks.2.2.1.2
      have kb0 := P.ks.2.1.at_ 0 _ rfl
      have kb1 := P.ks.2.1.at_ 1 _ rfl
      have kb2 := P.ks.2.1.at_ 2 _ rfl
      have kbl := P.ks.2.1.2
      have kR := P.ks.1
      have q0 := kR.at_ 0 _ rfl
      have q1 := kR.at_ 1 _ rfl
      have q2 := kR.at_ 2 _ rfl
      have qf0 := kR.fr 0
      have qf1 := kR.fr 1
      have qf2 := kR.fr 2
      go_wp2_with fail
      rw [HT.out]
      obtain ⟨hn9, hb9⟩ := P.give kR (by omega) P.ns.1 (.bool s.neg) (.slice A6 p6 c6) (.int .i64 E)
      exact bodyPost_ret (v := .agg #[.bool s.neg, .slice A6 p6 c6, .int .i64 E]) (by simp [results, Tryz.results85, go_sem, q0, q1, q2]) rfl ⟨A6, p6, c6, rfl, hn9, hb9⟩
end Go.Proofs.YtodjldhppbbhdaaGreatDoor

namespace Go.Proofs.YtodjldhppbbhdaaGreatDoor
open Go.RowKit

/-- The sum of two plain dyads, cut. -/
def sumC (r s : DR) (p : Nat) (up : Bool) : DR := cutD (sumN r s).neg (sumN r s).m (sumN r s).e false p up
theorem plIf_sumC (r s : DR) (p : Nat) (up : Bool) : PlIf (sumC r s p up) := plIf_cut _ _ _ _ _ _
theorem wd_bound (neg : Bool) (V : Nat) (e : Int) : nb (wdD neg V e).m ≤ nb V ∧ (wdD neg V e).e ≤ max e 0 + nb V ∧ min e 0 ≤ (wdD neg V e).e := by
  unfold wdD
  by_cases h : V = 0
  · rw [if_pos h]; simp only [DR.zero, nb_zero]; omega
  · rw [if_neg h]
    have h1 := nb_mono (od_le V)
    have h2 := v2_lt_nb (show 0 < V by omega)
    simp only
    omega
theorem add_bound {r s : DR} (h1 : PlainR r) (h2 : PlainR s) : nb (addD r.neg s.neg r.m s.m r.e s.e).m ≤ 600000 ∧ (addD r.neg s.neg r.m s.m r.e s.e).e ≤ 1000000 ∧ -300000 ≤ (addD r.neg s.neg r.m s.m r.e s.e).e ∧ nb (sideX r.m s.m r.e s.e) ≤ 540672 ∧ nb (sideY r.m s.m r.e s.e) ≤ 540672 := by
  obtain ⟨b1, b2⟩ := side_bits r.m s.m r.e s.e (K := 16384) (D := 524288) h1.bits h2.bits (by have := h1.e2; have := h2.e1; omega) (by have := h2.e2; have := h1.e1; omega)
  have hE : -262144 ≤ sideE r.m s.m r.e s.e ∧ sideE r.m s.m r.e s.e ≤ 262144 := by
    have := h1.e1
    have := h1.e2
    have := h2.e1
    have := h2.e2
    unfold sideE
    split
    · omega
    · split <;> omega
  refine ⟨?_, ?_, ?_, by omega, by omega⟩
  all_goals
    unfold addD
    generalize sideX r.m s.m r.e s.e = X at *
    generalize sideY r.m s.m r.e s.e = Y at *
    generalize sideE r.m s.m r.e s.e = E at *
    have g1 := nb_add b1 b2
    have g2 := nb_mono (Nat.sub_le X Y)
    have g3 := nb_mono (Nat.sub_le Y X)
    split
    · split
      · have := wd_bound r.neg (X - Y) E; omega
      · have := wd_bound s.neg (Y - X) E; omega
    · have := wd_bound (r.neg || (decide (X = 0) && s.neg)) (X + Y) E; omega
set_option maxRecDepth 8000 in
set_option maxHeartbeats 4000000 in
theorem rboth_any {r s : DR} {A B : Option Addr} {n c m d : Nat} (p : Nat) (up : Bool) (w : World) (ha : Num w (.slice A n c) r.m) (hb : Num w (.slice B m d) s.m) (hr : PlainR r) (hs : PlainR s) (hp : p ≤ 8192) (hT : Tab w) :
    Calls Tryz.prog 59 #[dyv r.neg A n c r.e, dyv s.neg B m d s.e, .int .i64 (p : Int), .bool up] w (DP w (sumC r s p up)) := by
  have hbl := Below.refl w.heap.size w
  have P : Pu w (((w.alloc (cd3 (.bool r.neg) (.slice A n c) (.int .i64 r.e))).alloc (cd3 (.bool s.neg) (.slice B m d) (.int .i64 s.e))).alloc (cd3 (.bool false) (.slice none 0 0) (.int .i64 0))) [(27, w.heap.size + 1 + 1, zd), (27, w.heap.size + 1, #[.bool s.neg, .slice B m d, .int .i64 s.e]), (27, w.heap.size, #[.bool r.neg, .slice A n c, .int .i64 r.e])] [] := by
    have h := ((Pu.alloc (⟨hbl, trivial, trivial⟩ : Pu w w [] []) 27 #[.bool r.neg, .slice A n c, .int .i64 r.e]).alloc 27 #[.bool s.neg, .slice B m d, .int .i64 s.e]).alloc 27 zd
    rw [show ((w.alloc (.cells #[.bool r.neg, .slice A n c, .int .i64 r.e] 27)).alloc (.cells #[.bool s.neg, .slice B m d, .int .i64 s.e] 27)).heap.size = w.heap.size + 1 + 1 by simp, show (w.alloc (.cells #[.bool r.neg, .slice A n c, .int .i64 r.e] 27)).heap.size = w.heap.size + 1 by simp] at h
    exact h
  obtain ⟨q1, q2, q3, q4, q5⟩ := add_bound hr hs
  have e1 := hr.e1
  have e2 := hr.e2
  have e3 := hs.e1
  have e4 := hs.e2
  have e5 := hr.bits
  have e6 := hs.bits
  have AD := Lib.hid (add2_any r.neg s.neg A B n c m d r.m s.m r.e s.e _ (ha.below P.bel) (hb.below P.bel) (by omega) (by omega) (by omega) (by omega) (by omega) (by omega) (by omega) (by omega) (hT.below P.bel))
  have HT : Hid (sumC r s p up = cutD (addD r.neg s.neg r.m s.m r.e s.e).neg (addD r.neg s.neg r.m s.m r.e s.e).m (addD r.neg s.neg r.m s.m r.e s.e).e false p up) := Lib.hid (sum_cut hr p up).symm
  have HTb : Hid (∀ w', Below w.heap.size w w' → Tab w') := Lib.hid (fun w' b => hT.below b)
  generalize addD r.neg s.neg r.m s.m r.e s.e = q at *
  clear hbl e1 e2 e3 e4 e5 e6 q4 q5
  have ka0 := P.ks.2.2.1.at_ 0 _ rfl
  have ka1 := P.ks.2.2.1.at_ 1 _ rfl
  have ka2 := P.ks.2.2.1.at_ 2 _ rfl
  have kb0 := P.ks.2.1.at_ 0 _ rfl
  have kb1 := P.ks.2.1.at_ 1 _ rfl
  have kb2 := P.ks.2.1.at_ 2 _ rfl
  go_enter Tryz.func59, Tryz.ntmps59
  go_wp2_with fail
  refine AD.out.mono ?_
  clear AD ka0 ka1 ka2 kb0 kb1 kb2
  generalize ((w.alloc (cd3 (.bool r.neg) (.slice A n c) (.int .i64 r.e))).alloc (cd3 (.bool s.neg) (.slice B m d) (.int .i64 s.e))).alloc (cd3 (.bool false) (.slice none 0 0) (.int .i64 0)) = w1 at *
  rintro e' w2 ⟨A1, n1, c1, rfl, m1, b1⟩
  have P2 := (P.below b1).num m1
  clear P m1 b1
  have hl := P2.ks.1.2
  go_wp2_with fail
  have P3 := P2.alloc 27 #[.bool q.neg, .slice A1 n1 c1, .int .i64 q.e]
  generalize w2.alloc (.cells #[.bool q.neg, .slice A1 n1 c1, .int .i64 q.e] 27) = w3 at *
  clear P2 hl
  have HP : Hid (∃ P' : Nat, p = P') := Lib.hid ⟨p, rfl⟩
  have CU := Lib.hid (cutting_any q.neg A1 n1 c1 q.m q.e false p up w3 P3.ns.1 (by omega) hp (HTb.out _ P3.bel) (by omega) (by omega))
  have hx := P3.ks.2.1.2
  refine CU.out.mono ?_
  rintro e' w4 h4
  obtain ⟨A2, n2, c2, rfl, m2, b2⟩ := h4.dp
  have P4 := (P3.below b2).num m2
  clear P3 m2 b2 CU hx h4
  generalize cutD q.neg q.m q.e false p up = z at *
  have kR := P4.ks.2.1
  have s0 := kR.at_ 0 _ rfl
  have s1 := kR.at_ 1 _ rfl
  have s2 := kR.at_ 2 _ rfl
  have rf0 := kR.fr 0
  have rf1 := kR.fr 1
  have rf2 := kR.fr 2
  go_wp2_with fail
  rw [HT.out]
  obtain ⟨hn9, hb9⟩ := P4.give kR (by omega) P4.ns.1 (.bool z.neg) (.slice A2 n2 c2) (.int .i64 z.e)
  exact bodyPost_ret (v := .tuple #[.agg #[.bool z.neg, .slice A2 n2 c2, .int .i64 z.e], .bool z.ok]) (by simp [results, Tryz.results59, go_sem, s0, s1, s2]) rfl ⟨A2, n2, c2, rfl, hn9, hb9⟩
end Go.Proofs.YtodjldhppbbhdaaGreatDoor

namespace Go.Proofs.YtodjldhppbbhdaaGreatDoor
open Go.RowKit
variable {TW : TypeId}

def addS (p : Int) (bad : Bool) (lo hi lo' hi' : DR) : SRes := twoS (bad2 p bad lo hi lo' hi') (sumC lo lo' p.toNat false) (sumC hi hi' p.toNat true)
theorem sgood_add {p : Int} {bad : Bool} {lo hi lo' hi' : DR} : SGood (addS p bad lo hi lo' hi') := sgood_two (plIf_sumC _ _ _ _) (plIf_sumC _ _ _ _)
set_option maxRecDepth 8000 in
set_option maxHeartbeats 4000000 in
theorem rsadd_any {lo hi lo' hi' : DR} {A B A' B' : Option Addr} {n c m d n' c' m' d' : Nat} (g : Nat) (p : Int) (bad : Bool) (w : World) (hW : Wk 41 w g p bad) (ha : DIn w A n c lo) (hb : DIn w B m d hi) (ha' : DIn w A' n' c' lo') (hb' : DIn w B' m' d' hi') (hT : Tab w) :
    Calls Tryz.prog 27 #[.pointer (some ⟨g, 0, none⟩), spv lo.neg A n c lo.e hi.neg B m d hi.e, spv lo'.neg A' n' c' lo'.e hi'.neg B' m' d' hi'.e] w (SPost 41 w g p (addS p bad lo hi lo' hi')) := by
  have S := st2 hW (.bool lo.neg) (.slice A n c) (.int .i64 lo.e) (.bool hi.neg) (.slice B m d) (.int .i64 hi.e) (.bool lo'.neg) (.slice A' n' c') (.int .i64 lo'.e) (.bool hi'.neg) (.slice B' m' d') (.int .i64 hi'.e)
  have TK := rtake2 g p bad _ S.W (ha.wk hW S.O) (hb.wk hW S.O) (ha'.wk hW S.O) (hb'.wk hW S.O)
  rw [show (((w.alloc (co6 (.bool lo.neg) (.slice A n c) (.int .i64 lo.e) (.bool hi.neg) (.slice B m d) (.int .i64 hi.e))).alloc (co6 (.bool lo'.neg) (.slice A' n' c') (.int .i64 lo'.e) (.bool hi'.neg) (.slice B' m' d') (.int .i64 hi'.e))).alloc z6).heap.size = w.heap.size + 1 + 1 + 1 by simp] at TK
  have TKH := Lib.hid TK
  clear TK
  have k0 := S.ks.2.2.1.1
  have k0_0 := k0.at_ 0 _ rfl
  have k0_1 := k0.at_ 1 _ rfl
  have k0_2 := k0.at_ 2 _ rfl
  have k0_3 := k0.at_ 3 _ rfl
  have k0_4 := k0.at_ 4 _ rfl
  have k0_5 := k0.at_ 5 _ rfl
  have k0l := k0.2
  clear k0
  have k1 := S.ks.2.1.1
  have k1_0 := k1.at_ 0 _ rfl
  have k1_1 := k1.at_ 1 _ rfl
  have k1_2 := k1.at_ 2 _ rfl
  have k1_3 := k1.at_ 3 _ rfl
  have k1_4 := k1.at_ 4 _ rfl
  have k1_5 := k1.at_ 5 _ rfl
  have k1l := k1.2
  clear k1
  go_enter Tryz.func27, Tryz.ntmps27
  go_wp2_with fail
  refine TKH.out.mono ?_
  clear TKH
  clear k0_0 k0_1 k0_2 k0_3 k0_4 k0_5 k0l k1_0 k1_1 k1_2 k1_3 k1_4 k1_5 k1l
  generalize ((w.alloc (co6 (.bool lo.neg) (.slice A n c) (.int .i64 lo.e) (.bool hi.neg) (.slice B m d) (.int .i64 hi.e))).alloc (co6 (.bool lo'.neg) (.slice A' n' c') (.int .i64 lo'.e) (.bool hi'.neg) (.slice B' m' d') (.int .i64 hi'.e))).alloc z6 = w1 at *
  rintro e' w2 ⟨rfl, hW2, o2⟩
  replace S := S.only o2 hW2
  clear o2 hW2
  obtain ⟨bo, hbo⟩ : ∃ b : Bool, Hid (bad2 p bad lo hi lo' hi' = b) := ⟨_, Lib.hid rfl⟩
  rw [hbo.out] at S
  rw [hbo.out]
  cases bo
  rotate_left
  · have HT : Hid (addS p bad lo hi lo' hi' = SRes.no) := Lib.hid (by unfold addS; rw [hbo.out]; rfl)
    have kR := S.ks.1.1
    have s0 := kR.at_ 0 _ rfl
    have s1 := kR.at_ 1 _ rfl
    have s2 := kR.at_ 2 _ rfl
    have s3 := kR.at_ 3 _ rfl
    have s4 := kR.at_ 4 _ rfl
    have s5 := kR.at_ 5 _ rfl
    have rf0 := kR.fr 0
    have rf1 := kR.fr 1
    have rf2 := kR.fr 2
    have rf3 := kR.fr 3
    have rf4 := kR.fr 4
    have rf5 := kR.fr 5
    go_wp2_with fail
    rw [HT.out]
    obtain ⟨q1, q2, q3, q4⟩ := S.give (lo := DR.zero) (hi := DR.zero) (num_nil _) (num_nil _) kR (by omega)
    exact bodyPost_ret (v := spv false none 0 0 0 false none 0 0 0) (by simp [results, Tryz.results27, go_sem, s0, s1, s2, s3, s4, s5]) rfl ⟨none, 0, 0, none, 0, 0, rfl, q1, q2, q3, q4⟩
  · skip
    obtain ⟨hbad, hp, hR, hR'⟩ := bad2_false hbo.out
    obtain ⟨P, hP⟩ : ∃ P : Nat, p = (P : Int) := ⟨p.toNat, by omega⟩
    have hPt : p.toNat = P := by omega
    have HT : Hid (addS p bad lo hi lo' hi' = keepS false (sumC lo lo' P false) (sumC hi hi' P true) ((sumC lo lo' P false).ok && (sumC hi hi' P true).ok)) := Lib.hid (by unfold addS; rw [hbo.out, hPt]; rfl)
    have D1 : Hid (∀ w', Only w w' g → Calls Tryz.prog 59 #[dyv lo.neg A n c lo.e, dyv lo'.neg A' n' c' lo'.e, .int .i64 p, .bool false] w' (DP w' (sumC lo lo' P false))) := Lib.hid (fun w' o => by rw [hP]; exact rboth_any P false w' ((ha.wk hW o).num hR.l) ((ha'.wk hW o).num hR'.l) (ha.plain hR.l) (ha'.plain hR'.l) (by omega) (hT.wk hW o))
    have D2 : Hid (∀ w', Only w w' g → Calls Tryz.prog 59 #[dyv hi.neg B m d hi.e, dyv hi'.neg B' m' d' hi'.e, .int .i64 p, .bool true] w' (DP w' (sumC hi hi' P true))) := Lib.hid (fun w' o => by rw [hP]; exact rboth_any P true w' ((hb.wk hW o).num hR.h) ((hb'.wk hW o).num hR'.h) (hb.plain hR.h) (hb'.plain hR'.h) (by omega) (hT.wk hW o))
    generalize sumC lo lo' P false = r1 at *
    generalize sumC hi hi' P true = r2 at *
    clear hbo hbad hP hPt hR hR'
    go_upto_region 3 with fail
    go_cut [7, 8] (fun sd so wx => ∃ g2 A2 n2 c2, sd = .pointer (some ⟨g2, 0, none⟩) ∧ so = .bool r1.ok ∧ w.heap.size ≤ g2 ∧ St 41 w g p false wx [(27, g2, #[.bool r1.neg, .slice A2 n2 c2, .int .i64 r1.e]), (29, w.heap.size + 1 + 1, zs), (29, w.heap.size + 1, #[.bool lo'.neg, .slice A' n' c', .int .i64 lo'.e, .bool hi'.neg, .slice B' m' d', .int .i64 hi'.e]), (29, w.heap.size, #[.bool lo.neg, .slice A n c, .int .i64 lo.e, .bool hi.neg, .slice B m d, .int .i64 hi.e])] [(.slice A2 n2 c2, r1.m)])
    case first =>
      have HC : Hid (∀ w', St 41 w g p false w' [(29, w.heap.size + 1 + 1, zs), (29, w.heap.size + 1, #[.bool lo'.neg, .slice A' n' c', .int .i64 lo'.e, .bool hi'.neg, .slice B' m' d', .int .i64 hi'.e]), (29, w.heap.size, #[.bool lo.neg, .slice A n c, .int .i64 lo.e, .bool hi.neg, .slice B m d, .int .i64 hi.e])] [] → w'.cell? ⟨w.heap.size, 0, none⟩ = some (.bool lo.neg) ∧ w'.cell? ⟨w.heap.size, 1, none⟩ = some (.slice A n c) ∧ w'.cell? ⟨w.heap.size, 2, none⟩ = some (.int .i64 lo.e) ∧ w'.cell? ⟨w.heap.size + 1, 0, none⟩ = some (.bool lo'.neg) ∧ w'.cell? ⟨w.heap.size + 1, 1, none⟩ = some (.slice A' n' c') ∧ w'.cell? ⟨w.heap.size + 1, 2, none⟩ = some (.int .i64 lo'.e) ∧ w'.cell? ⟨g, 0, none⟩ = some (.int .i64 p)) := Lib.hid (fun w' h => ⟨h.ks.2.2.1.1.at_ 0 _ rfl, h.ks.2.2.1.1.at_ 1 _ rfl, h.ks.2.2.1.1.at_ 2 _ rfl, h.ks.2.1.1.at_ 0 _ rfl, h.ks.2.1.1.at_ 1 _ rfl, h.ks.2.1.1.at_ 2 _ rfl, h.wc.1⟩)
      have hz0 := S.ks.1.1.2
      have hz1 := S.ks.2.1.1.2
      have hz2 := S.ks.2.2.1.1.2
      have hz : w.heap.size ≤ w2.heap.size := S.size
      have SD := S.drew
      have SA := SD.below (alloc_bel w2.drew (cd3 (.bool false) (.slice none 0 0) (.int .i64 0)))
      have XS1 := HC.out _ SD
      clear S
      go_region_held3 (fun w' => w'.cell? ⟨w.heap.size, 0, none⟩ = some (.bool lo.neg) ∧ w'.cell? ⟨w.heap.size, 1, none⟩ = some (.slice A n c) ∧ w'.cell? ⟨w.heap.size, 2, none⟩ = some (.int .i64 lo.e) ∧ w'.cell? ⟨w.heap.size + 1, 0, none⟩ = some (.bool lo'.neg) ∧ w'.cell? ⟨w.heap.size + 1, 1, none⟩ = some (.slice A' n' c') ∧ w'.cell? ⟨w.heap.size + 1, 2, none⟩ = some (.int .i64 lo'.e) ∧ w'.cell? ⟨g, 0, none⟩ = some (.int .i64 p))
        (first | exact XS1 | exact HC.out _ (SD.below b1) | exact HC.out _ SA | exact HC.out _ (SA.below b1) | exact HC.out _ ((SD.below b1).below (alloc_bel _ _)) | exact HC.out _ ((SA.below b1).put KZ1.kc hz ⟨by omega, by omega, by omega, trivial⟩ _ _ _))
        (first | (go_at_call 59; refine (D1.out _ (by first | exact SD.O | exact SA.O)).mono ?_; rintro e' v1 ⟨A1, p1, c1, rfl, n1, b1⟩; first | (have KZ1 : K3 v1 w2.heap.size (.bool false) (.slice none 0 0) (.int .i64 0) := (K3.made w2.drew (.bool false) (.slice none 0 0) (.int .i64 0)).adv b1; obtain ⟨kf0, kf1, kf2⟩ := KZ1.frozen; obtain ⟨kc0, kc1, kc2, kc3⟩ := KZ1.cell) | skip))
      all_goals (go_wp2_with fail; go_meet; first | exact ⟨_, _, _, _, rfl, rfl, Nat.le_trans hz b1.size, ((SD.below b1).num n1).alloc _ _⟩ | exact ⟨_, _, _, _, rfl, rfl, hz, ((SA.below b1).num n1).putK KZ1.kc hz ⟨by omega, by omega, by omega, trivial⟩ _ _ _⟩)
    case rest =>
      clear S
      obtain ⟨g2, A2, n2, c2, rfl, rfl, hg2, S⟩ := hcut
      go_upto_region 4 with fail
      go_cut [9, 10] (fun sd so wx => ∃ g3 A3 n3 c3, sd = .pointer (some ⟨g3, 0, none⟩) ∧ so = .bool r2.ok ∧ w.heap.size ≤ g3 ∧ St 41 w g p false wx [(27, g3, #[.bool r2.neg, .slice A3 n3 c3, .int .i64 r2.e]), (27, g2, #[.bool r1.neg, .slice A2 n2 c2, .int .i64 r1.e]), (29, w.heap.size + 1 + 1, zs), (29, w.heap.size + 1, #[.bool lo'.neg, .slice A' n' c', .int .i64 lo'.e, .bool hi'.neg, .slice B' m' d', .int .i64 hi'.e]), (29, w.heap.size, #[.bool lo.neg, .slice A n c, .int .i64 lo.e, .bool hi.neg, .slice B m d, .int .i64 hi.e])] [(.slice A3 n3 c3, r2.m), (.slice A2 n2 c2, r1.m)])
      case first =>
        have HC : Hid (∀ w', St 41 w g p false w' [(27, g2, #[.bool r1.neg, .slice A2 n2 c2, .int .i64 r1.e]), (29, w.heap.size + 1 + 1, zs), (29, w.heap.size + 1, #[.bool lo'.neg, .slice A' n' c', .int .i64 lo'.e, .bool hi'.neg, .slice B' m' d', .int .i64 hi'.e]), (29, w.heap.size, #[.bool lo.neg, .slice A n c, .int .i64 lo.e, .bool hi.neg, .slice B m d, .int .i64 hi.e])] [(.slice A2 n2 c2, r1.m)] → w'.cell? ⟨w.heap.size, 3, none⟩ = some (.bool hi.neg) ∧ w'.cell? ⟨w.heap.size, 4, none⟩ = some (.slice B m d) ∧ w'.cell? ⟨w.heap.size, 5, none⟩ = some (.int .i64 hi.e) ∧ w'.cell? ⟨w.heap.size + 1, 3, none⟩ = some (.bool hi'.neg) ∧ w'.cell? ⟨w.heap.size + 1, 4, none⟩ = some (.slice B' m' d') ∧ w'.cell? ⟨w.heap.size + 1, 5, none⟩ = some (.int .i64 hi'.e) ∧ w'.cell? ⟨g, 0, none⟩ = some (.int .i64 p)) := Lib.hid (fun w' h => ⟨h.ks.2.2.2.1.1.at_ 3 _ rfl, h.ks.2.2.2.1.1.at_ 4 _ rfl, h.ks.2.2.2.1.1.at_ 5 _ rfl, h.ks.2.2.1.1.at_ 3 _ rfl, h.ks.2.2.1.1.at_ 4 _ rfl, h.ks.2.2.1.1.at_ 5 _ rfl, h.wc.1⟩)
        have hz0 := S.ks.1.1.2
        have hz1 := S.ks.2.1.1.2
        have hz2 := S.ks.2.2.1.1.2
        have hz3 := S.ks.2.2.2.1.1.2
        have hz : w.heap.size ≤ wc.heap.size := S.size
        have SD := S.drew
        have SA := SD.below (alloc_bel wc.drew (cd3 (.bool false) (.slice none 0 0) (.int .i64 0)))
        have XS1 := HC.out _ SD
        clear S
        go_region_held3 (fun w' => w'.cell? ⟨w.heap.size, 3, none⟩ = some (.bool hi.neg) ∧ w'.cell? ⟨w.heap.size, 4, none⟩ = some (.slice B m d) ∧ w'.cell? ⟨w.heap.size, 5, none⟩ = some (.int .i64 hi.e) ∧ w'.cell? ⟨w.heap.size + 1, 3, none⟩ = some (.bool hi'.neg) ∧ w'.cell? ⟨w.heap.size + 1, 4, none⟩ = some (.slice B' m' d') ∧ w'.cell? ⟨w.heap.size + 1, 5, none⟩ = some (.int .i64 hi'.e) ∧ w'.cell? ⟨g, 0, none⟩ = some (.int .i64 p))
          (first | exact XS1 | exact HC.out _ (SD.below b1) | exact HC.out _ SA | exact HC.out _ (SA.below b1) | exact HC.out _ ((SD.below b1).below (alloc_bel _ _)) | exact HC.out _ ((SA.below b1).put KZ1.kc hz ⟨by omega, by omega, by omega, by omega, trivial⟩ _ _ _))
          (first | (go_at_call 59; refine (D2.out _ (by first | exact SD.O | exact SA.O)).mono ?_; rintro e' v1 ⟨A1, p1, c1, rfl, n1, b1⟩; first | (have KZ1 : K3 v1 wc.heap.size (.bool false) (.slice none 0 0) (.int .i64 0) := (K3.made wc.drew (.bool false) (.slice none 0 0) (.int .i64 0)).adv b1; obtain ⟨kf0, kf1, kf2⟩ := KZ1.frozen; obtain ⟨kc0, kc1, kc2, kc3⟩ := KZ1.cell) | skip))
        all_goals (go_wp2_with fail; go_meet; first | exact ⟨_, _, _, _, rfl, rfl, Nat.le_trans hz b1.size, ((SD.below b1).num n1).alloc _ _⟩ | exact ⟨_, _, _, _, rfl, rfl, hz, ((SA.below b1).num n1).putK KZ1.kc hz ⟨by omega, by omega, by omega, by omega, trivial⟩ _ _ _⟩)
      case rest =>
        clear S
        obtain ⟨g3, A3, n3, c3, rfl, rfl, hg3, S⟩ := hcut
        have k4 := S.ks.2.1.1
        have k4_0 := k4.at_ 0 _ rfl
        have k4_1 := k4.at_ 1 _ rfl
        have k4_2 := k4.at_ 2 _ rfl
        have k4l := k4.2
        clear k4
        have k5 := S.ks.1.1
        have k5_0 := k5.at_ 0 _ rfl
        have k5_1 := k5.at_ 1 _ rfl
        have k5_2 := k5.at_ 2 _ rfl
        have k5l := k5.2
        clear k5
        go_wp2_with fail
        refine (give_any g p false r1 r2 A2 A3 n2 c2 n3 c3 r1.ok r2.ok _ S.W S.ns.2.1 S.ns.1).mono ?_
        rintro e' w7 ⟨A9, p9, c9, B9, q9, d9, rfl, m1, m2, hW9, o9⟩
        replace S := S.only o9 hW9
        clear o9 hW9
        clear k4_0 k4_1 k4_2 k4l k5_0 k5_1 k5_2 k5l
        generalize keepS false r1 r2 (r1.ok && r2.ok) = r at *
        have kR := S.ks.2.2.1.1
        have s0 := kR.at_ 0 _ rfl
        have s1 := kR.at_ 1 _ rfl
        have s2 := kR.at_ 2 _ rfl
        have s3 := kR.at_ 3 _ rfl
        have s4 := kR.at_ 4 _ rfl
        have s5 := kR.at_ 5 _ rfl
        have rf0 := kR.fr 0
        have rf1 := kR.fr 1
        have rf2 := kR.fr 2
        have rf3 := kR.fr 3
        have rf4 := kR.fr 4
        have rf5 := kR.fr 5
        go_wp2_with fail
        rw [HT.out]
        obtain ⟨q1, q2, q3, q4⟩ := S.give (lo := r.lo) (hi := r.hi) m1 m2 kR (by omega)
        exact bodyPost_ret (v := spv r.lo.neg A9 p9 c9 r.lo.e r.hi.neg B9 q9 d9 r.hi.e) (by simp [results, Tryz.results27, go_sem, s0, s1, s2, s3, s4, s5]) rfl ⟨A9, p9, c9, B9, q9, d9, rfl, q1, q2, q3, q4⟩
set_option maxRecDepth 8000 in
set_option maxHeartbeats 4000000 in
theorem sadd_any {lo hi lo' hi' : DR} {A B A' B' : Option Addr} {n c m d n' c' m' d' : Nat} (g : Nat) (p : Int) (bad : Bool) (w : World) (hW : Wk TW w g p bad) (ha : DIn w A n c lo) (hb : DIn w B m d hi) (ha' : DIn w A' n' c' lo') (hb' : DIn w B' m' d' hi') (hT : Tab w) :
    Calls Tryz.prog 43 #[.pointer (some ⟨g, 0, none⟩), spv lo.neg A n c lo.e hi.neg B m d hi.e, spv lo'.neg A' n' c' lo'.e hi'.neg B' m' d' hi'.e] w (SPost TW w g p (addS p bad lo hi lo' hi')) := by
  have S := st2 hW (.bool lo.neg) (.slice A n c) (.int .i64 lo.e) (.bool hi.neg) (.slice B m d) (.int .i64 hi.e) (.bool lo'.neg) (.slice A' n' c') (.int .i64 lo'.e) (.bool hi'.neg) (.slice B' m' d') (.int .i64 hi'.e)
  have TK := take2 g p bad _ S.W (ha.wk hW S.O) (hb.wk hW S.O) (ha'.wk hW S.O) (hb'.wk hW S.O)
  rw [show (((w.alloc (co6 (.bool lo.neg) (.slice A n c) (.int .i64 lo.e) (.bool hi.neg) (.slice B m d) (.int .i64 hi.e))).alloc (co6 (.bool lo'.neg) (.slice A' n' c') (.int .i64 lo'.e) (.bool hi'.neg) (.slice B' m' d') (.int .i64 hi'.e))).alloc z6).heap.size = w.heap.size + 1 + 1 + 1 by simp] at TK
  have TKH := Lib.hid TK
  clear TK
  have k0 := S.ks.2.2.1.1
  have k0_0 := k0.at_ 0 _ rfl
  have k0_1 := k0.at_ 1 _ rfl
  have k0_2 := k0.at_ 2 _ rfl
  have k0_3 := k0.at_ 3 _ rfl
  have k0_4 := k0.at_ 4 _ rfl
  have k0_5 := k0.at_ 5 _ rfl
  have k0l := k0.2
  clear k0
  have k1 := S.ks.2.1.1
  have k1_0 := k1.at_ 0 _ rfl
  have k1_1 := k1.at_ 1 _ rfl
  have k1_2 := k1.at_ 2 _ rfl
  have k1_3 := k1.at_ 3 _ rfl
  have k1_4 := k1.at_ 4 _ rfl
  have k1_5 := k1.at_ 5 _ rfl
  have k1l := k1.2
  clear k1
  go_enter Tryz.func43, Tryz.ntmps43
  go_wp2_with fail
  refine TKH.out.mono ?_
  clear TKH
  clear k0_0 k0_1 k0_2 k0_3 k0_4 k0_5 k0l k1_0 k1_1 k1_2 k1_3 k1_4 k1_5 k1l
  generalize ((w.alloc (co6 (.bool lo.neg) (.slice A n c) (.int .i64 lo.e) (.bool hi.neg) (.slice B m d) (.int .i64 hi.e))).alloc (co6 (.bool lo'.neg) (.slice A' n' c') (.int .i64 lo'.e) (.bool hi'.neg) (.slice B' m' d') (.int .i64 hi'.e))).alloc z6 = w1 at *
  rintro e' w2 ⟨rfl, hW2, o2⟩
  replace S := S.only o2 hW2
  clear o2 hW2
  obtain ⟨bo, hbo⟩ : ∃ b : Bool, Hid (bad2 p bad lo hi lo' hi' = b) := ⟨_, Lib.hid rfl⟩
  rw [hbo.out] at S
  rw [hbo.out]
  cases bo
  rotate_left
  · have HT : Hid (addS p bad lo hi lo' hi' = SRes.no) := Lib.hid (by unfold addS; rw [hbo.out]; rfl)
    have kR := S.ks.1.1
    have s0 := kR.at_ 0 _ rfl
    have s1 := kR.at_ 1 _ rfl
    have s2 := kR.at_ 2 _ rfl
    have s3 := kR.at_ 3 _ rfl
    have s4 := kR.at_ 4 _ rfl
    have s5 := kR.at_ 5 _ rfl
    have rf0 := kR.fr 0
    have rf1 := kR.fr 1
    have rf2 := kR.fr 2
    have rf3 := kR.fr 3
    have rf4 := kR.fr 4
    have rf5 := kR.fr 5
    go_wp2_with fail
    rw [HT.out]
    obtain ⟨q1, q2, q3, q4⟩ := S.give (lo := DR.zero) (hi := DR.zero) (num_nil _) (num_nil _) kR (by omega)
    exact bodyPost_ret (v := spv false none 0 0 0 false none 0 0 0) (by simp [results, Tryz.results43, go_sem, s0, s1, s2, s3, s4, s5]) rfl ⟨none, 0, 0, none, 0, 0, rfl, q1, q2, q3, q4⟩
  · skip
    obtain ⟨hbad, hp, hR, hR'⟩ := bad2_false hbo.out
    obtain ⟨P, hP⟩ : ∃ P : Nat, p = (P : Int) := ⟨p.toNat, by omega⟩
    have hPt : p.toNat = P := by omega
    have HT : Hid (addS p bad lo hi lo' hi' = outwS P (sumN lo lo') (sumN hi hi')) := Lib.hid (by unfold addS; rw [hbo.out, hPt]; rfl)
    have D1 : Hid (∀ w', Only w w' g → Calls Tryz.prog 85 #[dyv lo.neg A n c lo.e, dyv lo'.neg A' n' c' lo'.e] w' (DOne w' (sumN lo lo'))) := Lib.hid (fun w' o => sum_any3 w' ((ha.wk hW o).num hR.l) ((ha'.wk hW o).num hR'.l) (ha.plain hR.l) (ha'.plain hR'.l))
    have D2 : Hid (∀ w', Only w w' g → Calls Tryz.prog 85 #[dyv hi.neg B m d hi.e, dyv hi'.neg B' m' d' hi'.e] w' (DOne w' (sumN hi hi'))) := Lib.hid (fun w' o => sum_any3 w' ((hb.wk hW o).num hR.h) ((hb'.wk hW o).num hR'.h) (hb.plain hR.h) (hb'.plain hR'.h))
    have wd1 := sumN_wide (ha.plain hR.l) (ha'.plain hR'.l)
    have wd2 := sumN_wide (hb.plain hR.h) (hb'.plain hR'.h)
    have OW : Hid (∀ w' A1 n1 c1 A2 n2 c2, Wk TW w' g p false → Only w w' g → Num w' (.slice A1 n1 c1) (sumN lo lo').m → Num w' (.slice A2 n2 c2) (sumN hi hi').m → Calls Tryz.prog 84 #[.pointer (some ⟨g, 0, none⟩), dyv (sumN lo lo').neg A1 n1 c1 (sumN lo lo').e, dyv (sumN hi hi').neg A2 n2 c2 (sumN hi hi').e] w' (SPost TW w' g p (outwS P (sumN lo lo') (sumN hi hi')))) := Lib.hid (fun w' A1 n1 c1 A2 n2 c2 k o h1 h2 => by
      rw [hP] at k ⊢
      exact outward_any g P (by omega) w' k h1 h2 ⟨by have := wd1.bits; omega, by have := wd1.e1; omega, by have := wd1.e2; omega⟩ ⟨by have := wd2.bits; omega, by have := wd2.e1; omega, by have := wd2.e2; omega⟩ (hT.wk hW o))
    clear wd1 wd2
    generalize outwS P (sumN lo lo') (sumN hi hi') = z at *
    generalize sumN lo lo' = r1 at *
    generalize sumN hi hi' = r2 at *
    clear hbo hbad hP hPt hR hR'
    have HC : Hid (∀ w' bd ns, St TW w g p bd w' [(29, w.heap.size + 1 + 1, zs), (29, w.heap.size + 1, #[.bool lo'.neg, .slice A' n' c', .int .i64 lo'.e, .bool hi'.neg, .slice B' m' d', .int .i64 hi'.e]), (29, w.heap.size, #[.bool lo.neg, .slice A n c, .int .i64 lo.e, .bool hi.neg, .slice B m d, .int .i64 hi.e])] ns → w'.cell? ⟨w.heap.size, 0, none⟩ = some (.bool lo.neg) ∧ w'.cell? ⟨w.heap.size, 1, none⟩ = some (.slice A n c) ∧ w'.cell? ⟨w.heap.size, 2, none⟩ = some (.int .i64 lo.e) ∧ w'.cell? ⟨w.heap.size, 3, none⟩ = some (.bool hi.neg) ∧ w'.cell? ⟨w.heap.size, 4, none⟩ = some (.slice B m d) ∧ w'.cell? ⟨w.heap.size, 5, none⟩ = some (.int .i64 hi.e) ∧ w'.cell? ⟨w.heap.size + 1, 0, none⟩ = some (.bool lo'.neg) ∧ w'.cell? ⟨w.heap.size + 1, 1, none⟩ = some (.slice A' n' c') ∧ w'.cell? ⟨w.heap.size + 1, 2, none⟩ = some (.int .i64 lo'.e) ∧ w'.cell? ⟨w.heap.size + 1, 3, none⟩ = some (.bool hi'.neg) ∧ w'.cell? ⟨w.heap.size + 1, 4, none⟩ = some (.slice B' m' d') ∧ w'.cell? ⟨w.heap.size + 1, 5, none⟩ = some (.int .i64 hi'.e)) := Lib.hid (fun w' bd ns h => ⟨h.ks.2.2.1.1.at_ 0 _ rfl, h.ks.2.2.1.1.at_ 1 _ rfl, h.ks.2.2.1.1.at_ 2 _ rfl, h.ks.2.2.1.1.at_ 3 _ rfl, h.ks.2.2.1.1.at_ 4 _ rfl, h.ks.2.2.1.1.at_ 5 _ rfl, h.ks.2.1.1.at_ 0 _ rfl, h.ks.2.1.1.at_ 1 _ rfl, h.ks.2.1.1.at_ 2 _ rfl, h.ks.2.1.1.at_ 3 _ rfl, h.ks.2.1.1.at_ 4 _ rfl, h.ks.2.1.1.at_ 5 _ rfl⟩)
    have HK : Hid (∀ w' w9 bd ns, St TW w g p bd w' [(29, w.heap.size + 1 + 1, zs), (29, w.heap.size + 1, #[.bool lo'.neg, .slice A' n' c', .int .i64 lo'.e, .bool hi'.neg, .slice B' m' d', .int .i64 hi'.e]), (29, w.heap.size, #[.bool lo.neg, .slice A n c, .int .i64 lo.e, .bool hi.neg, .slice B m d, .int .i64 hi.e])] ns → Only w' w9 (w.heap.size + 1 + 1) → w9.cell? ⟨w.heap.size, 0, none⟩ = some (.bool lo.neg) ∧ w9.cell? ⟨w.heap.size, 1, none⟩ = some (.slice A n c) ∧ w9.cell? ⟨w.heap.size, 2, none⟩ = some (.int .i64 lo.e) ∧ w9.cell? ⟨w.heap.size, 3, none⟩ = some (.bool hi.neg) ∧ w9.cell? ⟨w.heap.size, 4, none⟩ = some (.slice B m d) ∧ w9.cell? ⟨w.heap.size, 5, none⟩ = some (.int .i64 hi.e) ∧ w9.cell? ⟨w.heap.size + 1, 0, none⟩ = some (.bool lo'.neg) ∧ w9.cell? ⟨w.heap.size + 1, 1, none⟩ = some (.slice A' n' c') ∧ w9.cell? ⟨w.heap.size + 1, 2, none⟩ = some (.int .i64 lo'.e) ∧ w9.cell? ⟨w.heap.size + 1, 3, none⟩ = some (.bool hi'.neg) ∧ w9.cell? ⟨w.heap.size + 1, 4, none⟩ = some (.slice B' m' d') ∧ w9.cell? ⟨w.heap.size + 1, 5, none⟩ = some (.int .i64 hi'.e)) := Lib.hid (fun w' w9 bd ns h o => ⟨(h.ks.2.2.1.1.only o (by omega)).at_ 0 _ rfl, (h.ks.2.2.1.1.only o (by omega)).at_ 1 _ rfl, (h.ks.2.2.1.1.only o (by omega)).at_ 2 _ rfl, (h.ks.2.2.1.1.only o (by omega)).at_ 3 _ rfl, (h.ks.2.2.1.1.only o (by omega)).at_ 4 _ rfl, (h.ks.2.2.1.1.only o (by omega)).at_ 5 _ rfl, (h.ks.2.1.1.only o (by omega)).at_ 0 _ rfl, (h.ks.2.1.1.only o (by omega)).at_ 1 _ rfl, (h.ks.2.1.1.only o (by omega)).at_ 2 _ rfl, (h.ks.2.1.1.only o (by omega)).at_ 3 _ rfl, (h.ks.2.1.1.only o (by omega)).at_ 4 _ rfl, (h.ks.2.1.1.only o (by omega)).at_ 5 _ rfl⟩)
    have LC := S.drew
    clear S
    have XS := HC.out _ _ _ LC
    go_upto_region 3 with fail
    go_region_held3 (fun w' => w'.cell? ⟨w.heap.size, 0, none⟩ = some (.bool lo.neg) ∧ w'.cell? ⟨w.heap.size, 1, none⟩ = some (.slice A n c) ∧ w'.cell? ⟨w.heap.size, 2, none⟩ = some (.int .i64 lo.e) ∧ w'.cell? ⟨w.heap.size, 3, none⟩ = some (.bool hi.neg) ∧ w'.cell? ⟨w.heap.size, 4, none⟩ = some (.slice B m d) ∧ w'.cell? ⟨w.heap.size, 5, none⟩ = some (.int .i64 hi.e) ∧ w'.cell? ⟨w.heap.size + 1, 0, none⟩ = some (.bool lo'.neg) ∧ w'.cell? ⟨w.heap.size + 1, 1, none⟩ = some (.slice A' n' c') ∧ w'.cell? ⟨w.heap.size + 1, 2, none⟩ = some (.int .i64 lo'.e) ∧ w'.cell? ⟨w.heap.size + 1, 3, none⟩ = some (.bool hi'.neg) ∧ w'.cell? ⟨w.heap.size + 1, 4, none⟩ = some (.slice B' m' d') ∧ w'.cell? ⟨w.heap.size + 1, 5, none⟩ = some (.int .i64 hi'.e))
      (first | with_reducible exact HC.out v3 _ _ L9 | (refine HK.out v3 _ _ _ L9 ?_; with_reducible exact only_put6 _ _ _ _ _ _ _ _) | with_reducible exact HC.out _ _ _ LC | with_reducible exact XS)
      (first
        | (go_at_call_of 85 (Value.agg #[Value.bool lo.neg, Value.slice A n c, Value.int .i64 lo.e]); refine (D1.out _ LC.O).mono ?_; rintro e' v1 ⟨A1, n1, c1, rfl, m1, b1⟩; have LQ := (LC.below b1).num m1; clear LC; have LC := LQ; clear LQ; clear m1 b1)
        | (go_at_call_of 85 (Value.agg #[Value.bool hi.neg, Value.slice B m d, Value.int .i64 hi.e]); refine (D2.out _ LC.O).mono ?_; rintro e' v2 ⟨A2, n2, c2, rfl, m2, b2⟩; have LQ := (LC.below b2).num m2; clear LC; have LC := LQ; clear LQ; clear m2 b2)
        | (go_at_call 84; refine (OW.out _ _ _ _ _ _ _ LC.W LC.O LC.ns.2.1 LC.ns.1).mono ?_; rintro e' v3 ⟨A9, p9, c9, B9, q9, d9, rfl, m1, m2, hW9, o9⟩; have L9 := ((LC.only o9 hW9).num m2).num m1; have s0 := L9.ks.1.1.at_ 0 _ rfl; have s1 := L9.ks.1.1.at_ 1 _ rfl; have s2 := L9.ks.1.1.at_ 2 _ rfl; have s3 := L9.ks.1.1.at_ 3 _ rfl; have s4 := L9.ks.1.1.at_ 4 _ rfl; have s5 := L9.ks.1.1.at_ 5 _ rfl; have rf0 := L9.ks.1.1.fr 0; have rf1 := L9.ks.1.1.fr 1; have rf2 := L9.ks.1.1.fr 2; have rf3 := L9.ks.1.1.fr 3; have rf4 := L9.ks.1.1.fr 4; have rf5 := L9.ks.1.1.fr 5))
    go_wp2_with fail
    rw [HT.out]
    obtain ⟨y1, y2, y3, y4⟩ := L9.give (lo := z.lo) (hi := z.hi) L9.ns.1 L9.ns.2.1 L9.ks.1.1 (by omega)
    exact bodyPost_ret (v := spv (z.lo).neg A9 p9 c9 (z.lo).e (z.hi).neg B9 q9 d9 (z.hi).e) (by simp [results, Tryz.results43, go_sem, s0, s1, s2, s3, s4, s5]) rfl ⟨A9, p9, c9, B9, q9, d9, rfl, y1, y2, y3, y4⟩
end Go.Proofs.YtodjldhppbbhdaaGreatDoor

namespace Go.Proofs.YtodjldhppbbhdaaGreatDoor
open Go.RowKit
variable {TW : TypeId}

/-- Differences: the sum of the one and of the other with the other sign. -/
def subS (p : Int) (bad : Bool) (lo hi lo' hi' : DR) : SRes := addS p (negS p bad lo' hi').bad lo hi (negS p bad lo' hi').lo (negS p bad lo' hi').hi
theorem sgood_sub {p : Int} {bad : Bool} {lo hi lo' hi' : DR} : SGood (subS p bad lo hi lo' hi') := sgood_add
theorem sgood_neg {p : Int} {bad : Bool} {lo hi : DR} (h1 : lo.ok = true → PlainR lo) (h2 : hi.ok = true → PlainR hi) : SGood (negS p bad lo hi) := sgood_two (plIf_negI h2) (plIf_negI h1)
theorem sub_bad {p : Int} {bad : Bool} {lo hi lo' hi' : DR} (h : bad2 p bad lo hi lo' hi' = true) : subS p bad lo hi lo' hi' = SRes.no := by
  unfold subS
  cases h1 : bad1 p bad lo' hi'
  · obtain ⟨rfl, hp, hR⟩ := bad1_false h1
    have hr : rightI lo' hi' = true := by
      unfold bad1 at h1
      simp only [Bool.or_eq_false_iff, Bool.not_eq_false'] at h1
      exact h1.2
    have hpb : pBad p = false := by unfold pBad; simp; omega
    have hl : rightI lo hi = false := by
      unfold bad2 at h
      rw [hpb, hr] at h
      simpa using h
    unfold addS bad2
    rw [hl]
    simp [twoS]
  · have : negS p bad lo' hi' = SRes.no := by unfold negS twoS; rw [h1]; rfl
    rw [this]
    rfl
set_option maxRecDepth 8000 in
set_option maxHeartbeats 4000000 in
theorem ssub_any {lo hi lo' hi' : DR} {A B A' B' : Option Addr} {n c m d n' c' m' d' : Nat} (g : Nat) (p : Int) (bad : Bool) (w : World) (hW : Wk TW w g p bad) (ha : DIn w A n c lo) (hb : DIn w B m d hi) (ha' : DIn w A' n' c' lo') (hb' : DIn w B' m' d' hi') (hT : Tab w) :
    Calls Tryz.prog 20 #[.pointer (some ⟨g, 0, none⟩), spv lo.neg A n c lo.e hi.neg B m d hi.e, spv lo'.neg A' n' c' lo'.e hi'.neg B' m' d' hi'.e] w (SPost TW w g p (subS p bad lo hi lo' hi')) := by
  have S := st2 hW (.bool lo.neg) (.slice A n c) (.int .i64 lo.e) (.bool hi.neg) (.slice B m d) (.int .i64 hi.e) (.bool lo'.neg) (.slice A' n' c') (.int .i64 lo'.e) (.bool hi'.neg) (.slice B' m' d') (.int .i64 hi'.e)
  obtain ⟨x, hx⟩ : ∃ x, x = negS p bad lo' hi' := ⟨_, rfl⟩
  have GX : SGood x := by rw [hx]; exact sgood_neg (fun h => ha'.plain h) (fun h => hb'.plain h)
  have N1 : Hid (∀ w', Wk TW w' g p bad → Only w w' g → Calls Tryz.prog 32 #[.pointer (some ⟨g, 0, none⟩), spv lo'.neg A' n' c' lo'.e hi'.neg B' m' d' hi'.e] w' (SPost TW w' g p x)) := Lib.hid (fun w' k o => by rw [hx]; exact neg_I g p bad w' k (ha'.wk hW o) (hb'.wk hW o) (hT.wk hW o))
  have N2 : Hid (∀ w' X1 x1 y1 X2 x2 y2, Wk TW w' g p x.bad → Only w w' g → Num w' (.slice X1 x1 y1) x.lo.m → Num w' (.slice X2 x2 y2) x.hi.m → Calls Tryz.prog 43 #[.pointer (some ⟨g, 0, none⟩), spv lo.neg A n c lo.e hi.neg B m d hi.e, spv x.lo.neg X1 x1 y1 x.lo.e x.hi.neg X2 x2 y2 x.hi.e] w' (SPost TW w' g p (addS p x.bad lo hi x.lo x.hi))) := Lib.hid (fun w' X1 x1 y1 X2 x2 y2 k o h1 h2 => sadd_any g p x.bad w' k (ha.wk hW o) (hb.wk hW o) (DIn.of_num h1 GX.l2 GX.l1) (DIn.of_num h2 GX.h2 GX.h1) (hT.wk hW o))
  have HT : Hid (subS p bad lo hi lo' hi' = addS p x.bad lo hi x.lo x.hi) := Lib.hid (by unfold subS; rw [← hx])
  generalize addS p x.bad lo hi x.lo x.hi = z at *
  clear hx GX
  go_enter Tryz.func20, Tryz.ntmps20
  go_upto_region 1 with fail
  generalize ((w.alloc (co6 (.bool lo.neg) (.slice A n c) (.int .i64 lo.e) (.bool hi.neg) (.slice B m d) (.int .i64 hi.e))).alloc (co6 (.bool lo'.neg) (.slice A' n' c') (.int .i64 lo'.e) (.bool hi'.neg) (.slice B' m' d') (.int .i64 hi'.e))).alloc z6 = w1 at *
  have HC : Hid (∀ w' bd ns, St TW w g p bd w' [(29, w.heap.size + 1 + 1, zs), (29, w.heap.size + 1, #[.bool lo'.neg, .slice A' n' c', .int .i64 lo'.e, .bool hi'.neg, .slice B' m' d', .int .i64 hi'.e]), (29, w.heap.size, #[.bool lo.neg, .slice A n c, .int .i64 lo.e, .bool hi.neg, .slice B m d, .int .i64 hi.e])] ns → w'.cell? ⟨w.heap.size, 0, none⟩ = some (.bool lo.neg) ∧ w'.cell? ⟨w.heap.size, 1, none⟩ = some (.slice A n c) ∧ w'.cell? ⟨w.heap.size, 2, none⟩ = some (.int .i64 lo.e) ∧ w'.cell? ⟨w.heap.size, 3, none⟩ = some (.bool hi.neg) ∧ w'.cell? ⟨w.heap.size, 4, none⟩ = some (.slice B m d) ∧ w'.cell? ⟨w.heap.size, 5, none⟩ = some (.int .i64 hi.e) ∧ w'.cell? ⟨w.heap.size + 1, 0, none⟩ = some (.bool lo'.neg) ∧ w'.cell? ⟨w.heap.size + 1, 1, none⟩ = some (.slice A' n' c') ∧ w'.cell? ⟨w.heap.size + 1, 2, none⟩ = some (.int .i64 lo'.e) ∧ w'.cell? ⟨w.heap.size + 1, 3, none⟩ = some (.bool hi'.neg) ∧ w'.cell? ⟨w.heap.size + 1, 4, none⟩ = some (.slice B' m' d') ∧ w'.cell? ⟨w.heap.size + 1, 5, none⟩ = some (.int .i64 hi'.e)) := Lib.hid (fun w' bd ns h => ⟨h.ks.2.2.1.1.at_ 0 _ rfl, h.ks.2.2.1.1.at_ 1 _ rfl, h.ks.2.2.1.1.at_ 2 _ rfl, h.ks.2.2.1.1.at_ 3 _ rfl, h.ks.2.2.1.1.at_ 4 _ rfl, h.ks.2.2.1.1.at_ 5 _ rfl, h.ks.2.1.1.at_ 0 _ rfl, h.ks.2.1.1.at_ 1 _ rfl, h.ks.2.1.1.at_ 2 _ rfl, h.ks.2.1.1.at_ 3 _ rfl, h.ks.2.1.1.at_ 4 _ rfl, h.ks.2.1.1.at_ 5 _ rfl⟩)
  have HK : Hid (∀ w' w9 bd ns, St TW w g p bd w' [(29, w.heap.size + 1 + 1, zs), (29, w.heap.size + 1, #[.bool lo'.neg, .slice A' n' c', .int .i64 lo'.e, .bool hi'.neg, .slice B' m' d', .int .i64 hi'.e]), (29, w.heap.size, #[.bool lo.neg, .slice A n c, .int .i64 lo.e, .bool hi.neg, .slice B m d, .int .i64 hi.e])] ns → Only w' w9 (w.heap.size + 1 + 1) → w9.cell? ⟨w.heap.size, 0, none⟩ = some (.bool lo.neg) ∧ w9.cell? ⟨w.heap.size, 1, none⟩ = some (.slice A n c) ∧ w9.cell? ⟨w.heap.size, 2, none⟩ = some (.int .i64 lo.e) ∧ w9.cell? ⟨w.heap.size, 3, none⟩ = some (.bool hi.neg) ∧ w9.cell? ⟨w.heap.size, 4, none⟩ = some (.slice B m d) ∧ w9.cell? ⟨w.heap.size, 5, none⟩ = some (.int .i64 hi.e) ∧ w9.cell? ⟨w.heap.size + 1, 0, none⟩ = some (.bool lo'.neg) ∧ w9.cell? ⟨w.heap.size + 1, 1, none⟩ = some (.slice A' n' c') ∧ w9.cell? ⟨w.heap.size + 1, 2, none⟩ = some (.int .i64 lo'.e) ∧ w9.cell? ⟨w.heap.size + 1, 3, none⟩ = some (.bool hi'.neg) ∧ w9.cell? ⟨w.heap.size + 1, 4, none⟩ = some (.slice B' m' d') ∧ w9.cell? ⟨w.heap.size + 1, 5, none⟩ = some (.int .i64 hi'.e)) := Lib.hid (fun w' w9 bd ns h o => ⟨(h.ks.2.2.1.1.only o (by omega)).at_ 0 _ rfl, (h.ks.2.2.1.1.only o (by omega)).at_ 1 _ rfl, (h.ks.2.2.1.1.only o (by omega)).at_ 2 _ rfl, (h.ks.2.2.1.1.only o (by omega)).at_ 3 _ rfl, (h.ks.2.2.1.1.only o (by omega)).at_ 4 _ rfl, (h.ks.2.2.1.1.only o (by omega)).at_ 5 _ rfl, (h.ks.2.1.1.only o (by omega)).at_ 0 _ rfl, (h.ks.2.1.1.only o (by omega)).at_ 1 _ rfl, (h.ks.2.1.1.only o (by omega)).at_ 2 _ rfl, (h.ks.2.1.1.only o (by omega)).at_ 3 _ rfl, (h.ks.2.1.1.only o (by omega)).at_ 4 _ rfl, (h.ks.2.1.1.only o (by omega)).at_ 5 _ rfl⟩)
  have LC := S.drew
  clear S
  have XS := HC.out _ _ _ LC
  go_upto_region 1 with fail
  go_region_held3 (fun w' => w'.cell? ⟨w.heap.size, 0, none⟩ = some (.bool lo.neg) ∧ w'.cell? ⟨w.heap.size, 1, none⟩ = some (.slice A n c) ∧ w'.cell? ⟨w.heap.size, 2, none⟩ = some (.int .i64 lo.e) ∧ w'.cell? ⟨w.heap.size, 3, none⟩ = some (.bool hi.neg) ∧ w'.cell? ⟨w.heap.size, 4, none⟩ = some (.slice B m d) ∧ w'.cell? ⟨w.heap.size, 5, none⟩ = some (.int .i64 hi.e) ∧ w'.cell? ⟨w.heap.size + 1, 0, none⟩ = some (.bool lo'.neg) ∧ w'.cell? ⟨w.heap.size + 1, 1, none⟩ = some (.slice A' n' c') ∧ w'.cell? ⟨w.heap.size + 1, 2, none⟩ = some (.int .i64 lo'.e) ∧ w'.cell? ⟨w.heap.size + 1, 3, none⟩ = some (.bool hi'.neg) ∧ w'.cell? ⟨w.heap.size + 1, 4, none⟩ = some (.slice B' m' d') ∧ w'.cell? ⟨w.heap.size + 1, 5, none⟩ = some (.int .i64 hi'.e))
    (first | with_reducible exact HC.out v3 _ _ L9 | (refine HK.out v3 _ _ _ L9 ?_; with_reducible exact only_put6 _ _ _ _ _ _ _ _) | with_reducible exact HC.out _ _ _ LC | with_reducible exact XS)
    (first
      | (go_at_call 32; refine (N1.out _ LC.W LC.O).mono ?_; rintro e' v1 ⟨X1, x1, y1, X2, x2, y2, rfl, m1, m2, hW1, o1⟩; have LQ := ((LC.only o1 hW1).num m2).num m1; clear LC; have LC := LQ; clear LQ; clear m1 m2 hW1 o1)
      | (go_at_call 43; refine (N2.out _ _ _ _ _ _ _ LC.W LC.O LC.ns.1 LC.ns.2.1).mono ?_; rintro e' v3 ⟨A9, p9, c9, B9, q9, d9, rfl, m1, m2, hW9, o9⟩; have L9 := ((LC.only o9 hW9).num m2).num m1; have s0 := L9.ks.1.1.at_ 0 _ rfl; have s1 := L9.ks.1.1.at_ 1 _ rfl; have s2 := L9.ks.1.1.at_ 2 _ rfl; have s3 := L9.ks.1.1.at_ 3 _ rfl; have s4 := L9.ks.1.1.at_ 4 _ rfl; have s5 := L9.ks.1.1.at_ 5 _ rfl; have rf0 := L9.ks.1.1.fr 0; have rf1 := L9.ks.1.1.fr 1; have rf2 := L9.ks.1.1.fr 2; have rf3 := L9.ks.1.1.fr 3; have rf4 := L9.ks.1.1.fr 4; have rf5 := L9.ks.1.1.fr 5))
  go_wp2_with fail
  rw [HT.out]
  obtain ⟨y1, y2, y3, y4⟩ := L9.give (lo := z.lo) (hi := z.hi) L9.ns.1 L9.ns.2.1 L9.ks.1.1 (by omega)
  exact bodyPost_ret (v := spv (z.lo).neg A9 p9 c9 (z.lo).e (z.hi).neg B9 q9 d9 (z.hi).e) (by simp [results, Tryz.results20, go_sem, s0, s1, s2, s3, s4, s5]) rfl ⟨A9, p9, c9, B9, q9, d9, rfl, y1, y2, y3, y4⟩
set_option maxRecDepth 8000 in
set_option maxHeartbeats 4000000 in
theorem rssub_any {lo hi lo' hi' : DR} {A B A' B' : Option Addr} {n c m d n' c' m' d' : Nat} (g : Nat) (p : Int) (bad : Bool) (w : World) (hW : Wk 41 w g p bad) (ha : DIn w A n c lo) (hb : DIn w B m d hi) (ha' : DIn w A' n' c' lo') (hb' : DIn w B' m' d' hi') (hT : Tab w) :
    Calls Tryz.prog 26 #[.pointer (some ⟨g, 0, none⟩), spv lo.neg A n c lo.e hi.neg B m d hi.e, spv lo'.neg A' n' c' lo'.e hi'.neg B' m' d' hi'.e] w (SPost 41 w g p (subS p bad lo hi lo' hi')) := by
  have S := st2 hW (.bool lo.neg) (.slice A n c) (.int .i64 lo.e) (.bool hi.neg) (.slice B m d) (.int .i64 hi.e) (.bool lo'.neg) (.slice A' n' c') (.int .i64 lo'.e) (.bool hi'.neg) (.slice B' m' d') (.int .i64 hi'.e)
  have TK := rtake2 g p bad _ S.W (ha.wk hW S.O) (hb.wk hW S.O) (ha'.wk hW S.O) (hb'.wk hW S.O)
  rw [show (((w.alloc (co6 (.bool lo.neg) (.slice A n c) (.int .i64 lo.e) (.bool hi.neg) (.slice B m d) (.int .i64 hi.e))).alloc (co6 (.bool lo'.neg) (.slice A' n' c') (.int .i64 lo'.e) (.bool hi'.neg) (.slice B' m' d') (.int .i64 hi'.e))).alloc z6).heap.size = w.heap.size + 1 + 1 + 1 by simp] at TK
  have TKH := Lib.hid TK
  clear TK
  have k0 := S.ks.2.2.1.1
  have k0_0 := k0.at_ 0 _ rfl
  have k0_1 := k0.at_ 1 _ rfl
  have k0_2 := k0.at_ 2 _ rfl
  have k0_3 := k0.at_ 3 _ rfl
  have k0_4 := k0.at_ 4 _ rfl
  have k0_5 := k0.at_ 5 _ rfl
  have k0l := k0.2
  clear k0
  have k1 := S.ks.2.1.1
  have k1_0 := k1.at_ 0 _ rfl
  have k1_1 := k1.at_ 1 _ rfl
  have k1_2 := k1.at_ 2 _ rfl
  have k1_3 := k1.at_ 3 _ rfl
  have k1_4 := k1.at_ 4 _ rfl
  have k1_5 := k1.at_ 5 _ rfl
  have k1l := k1.2
  clear k1
  go_enter Tryz.func26, Tryz.ntmps26
  go_wp2_with fail
  refine TKH.out.mono ?_
  clear TKH
  clear k0_0 k0_1 k0_2 k0_3 k0_4 k0_5 k0l k1_0 k1_1 k1_2 k1_3 k1_4 k1_5 k1l
  generalize ((w.alloc (co6 (.bool lo.neg) (.slice A n c) (.int .i64 lo.e) (.bool hi.neg) (.slice B m d) (.int .i64 hi.e))).alloc (co6 (.bool lo'.neg) (.slice A' n' c') (.int .i64 lo'.e) (.bool hi'.neg) (.slice B' m' d') (.int .i64 hi'.e))).alloc z6 = w1 at *
  rintro e' w2 ⟨rfl, hW2, o2⟩
  replace S := S.only o2 hW2
  clear o2 hW2
  obtain ⟨bo, hbo⟩ : ∃ b : Bool, Hid (bad2 p bad lo hi lo' hi' = b) := ⟨_, Lib.hid rfl⟩
  rw [hbo.out] at S
  rw [hbo.out]
  cases bo
  rotate_left
  · have HT : Hid (subS p bad lo hi lo' hi' = SRes.no) := Lib.hid (sub_bad hbo.out)
    have kR := S.ks.1.1
    have s0 := kR.at_ 0 _ rfl
    have s1 := kR.at_ 1 _ rfl
    have s2 := kR.at_ 2 _ rfl
    have s3 := kR.at_ 3 _ rfl
    have s4 := kR.at_ 4 _ rfl
    have s5 := kR.at_ 5 _ rfl
    have rf0 := kR.fr 0
    have rf1 := kR.fr 1
    have rf2 := kR.fr 2
    have rf3 := kR.fr 3
    have rf4 := kR.fr 4
    have rf5 := kR.fr 5
    go_wp2_with fail
    rw [HT.out]
    obtain ⟨q1, q2, q3, q4⟩ := S.give (lo := DR.zero) (hi := DR.zero) (num_nil _) (num_nil _) kR (by omega)
    exact bodyPost_ret (v := spv false none 0 0 0 false none 0 0 0) (by simp [results, Tryz.results26, go_sem, s0, s1, s2, s3, s4, s5]) rfl ⟨none, 0, 0, none, 0, 0, rfl, q1, q2, q3, q4⟩
  · skip
    obtain ⟨hbad, hp, hR, hR'⟩ := bad2_false hbo.out
    obtain ⟨x, hx⟩ : ∃ x, x = negS p false lo' hi' := ⟨_, rfl⟩
    have GX : SGood x := by rw [hx]; exact sgood_neg (fun h => ha'.plain h) (fun h => hb'.plain h)
    have N1 : Hid (∀ w', Wk 41 w' g p false → Only w w' g → Calls Tryz.prog 57 #[.pointer (some ⟨g, 0, none⟩), spv lo'.neg A' n' c' lo'.e hi'.neg B' m' d' hi'.e] w' (SPost 41 w' g p x)) := Lib.hid (fun w' k o => by rw [hx]; exact rneg_I g p false w' k (ha'.wk hW o) (hb'.wk hW o) (hT.wk hW o))
    have N2 : Hid (∀ w' X1 x1 y1 X2 x2 y2, Wk 41 w' g p x.bad → Only w w' g → Num w' (.slice X1 x1 y1) x.lo.m → Num w' (.slice X2 x2 y2) x.hi.m → Calls Tryz.prog 27 #[.pointer (some ⟨g, 0, none⟩), spv lo.neg A n c lo.e hi.neg B m d hi.e, spv x.lo.neg X1 x1 y1 x.lo.e x.hi.neg X2 x2 y2 x.hi.e] w' (SPost 41 w' g p (addS p x.bad lo hi x.lo x.hi))) := Lib.hid (fun w' X1 x1 y1 X2 x2 y2 k o h1 h2 => rsadd_any g p x.bad w' k (ha.wk hW o) (hb.wk hW o) (DIn.of_num h1 GX.l2 GX.l1) (DIn.of_num h2 GX.h2 GX.h1) (hT.wk hW o))
    have HT : Hid (subS p bad lo hi lo' hi' = addS p x.bad lo hi x.lo x.hi) := Lib.hid (by unfold subS; rw [hbad, ← hx])
    generalize addS p x.bad lo hi x.lo x.hi = z at *
    clear hx GX hbo hbad hp hR hR'
    have HC : Hid (∀ w' bd ns, St 41 w g p bd w' [(29, w.heap.size + 1 + 1, zs), (29, w.heap.size + 1, #[.bool lo'.neg, .slice A' n' c', .int .i64 lo'.e, .bool hi'.neg, .slice B' m' d', .int .i64 hi'.e]), (29, w.heap.size, #[.bool lo.neg, .slice A n c, .int .i64 lo.e, .bool hi.neg, .slice B m d, .int .i64 hi.e])] ns → w'.cell? ⟨w.heap.size, 0, none⟩ = some (.bool lo.neg) ∧ w'.cell? ⟨w.heap.size, 1, none⟩ = some (.slice A n c) ∧ w'.cell? ⟨w.heap.size, 2, none⟩ = some (.int .i64 lo.e) ∧ w'.cell? ⟨w.heap.size, 3, none⟩ = some (.bool hi.neg) ∧ w'.cell? ⟨w.heap.size, 4, none⟩ = some (.slice B m d) ∧ w'.cell? ⟨w.heap.size, 5, none⟩ = some (.int .i64 hi.e) ∧ w'.cell? ⟨w.heap.size + 1, 0, none⟩ = some (.bool lo'.neg) ∧ w'.cell? ⟨w.heap.size + 1, 1, none⟩ = some (.slice A' n' c') ∧ w'.cell? ⟨w.heap.size + 1, 2, none⟩ = some (.int .i64 lo'.e) ∧ w'.cell? ⟨w.heap.size + 1, 3, none⟩ = some (.bool hi'.neg) ∧ w'.cell? ⟨w.heap.size + 1, 4, none⟩ = some (.slice B' m' d') ∧ w'.cell? ⟨w.heap.size + 1, 5, none⟩ = some (.int .i64 hi'.e)) := Lib.hid (fun w' bd ns h => ⟨h.ks.2.2.1.1.at_ 0 _ rfl, h.ks.2.2.1.1.at_ 1 _ rfl, h.ks.2.2.1.1.at_ 2 _ rfl, h.ks.2.2.1.1.at_ 3 _ rfl, h.ks.2.2.1.1.at_ 4 _ rfl, h.ks.2.2.1.1.at_ 5 _ rfl, h.ks.2.1.1.at_ 0 _ rfl, h.ks.2.1.1.at_ 1 _ rfl, h.ks.2.1.1.at_ 2 _ rfl, h.ks.2.1.1.at_ 3 _ rfl, h.ks.2.1.1.at_ 4 _ rfl, h.ks.2.1.1.at_ 5 _ rfl⟩)
    have HK : Hid (∀ w' w9 bd ns, St 41 w g p bd w' [(29, w.heap.size + 1 + 1, zs), (29, w.heap.size + 1, #[.bool lo'.neg, .slice A' n' c', .int .i64 lo'.e, .bool hi'.neg, .slice B' m' d', .int .i64 hi'.e]), (29, w.heap.size, #[.bool lo.neg, .slice A n c, .int .i64 lo.e, .bool hi.neg, .slice B m d, .int .i64 hi.e])] ns → Only w' w9 (w.heap.size + 1 + 1) → w9.cell? ⟨w.heap.size, 0, none⟩ = some (.bool lo.neg) ∧ w9.cell? ⟨w.heap.size, 1, none⟩ = some (.slice A n c) ∧ w9.cell? ⟨w.heap.size, 2, none⟩ = some (.int .i64 lo.e) ∧ w9.cell? ⟨w.heap.size, 3, none⟩ = some (.bool hi.neg) ∧ w9.cell? ⟨w.heap.size, 4, none⟩ = some (.slice B m d) ∧ w9.cell? ⟨w.heap.size, 5, none⟩ = some (.int .i64 hi.e) ∧ w9.cell? ⟨w.heap.size + 1, 0, none⟩ = some (.bool lo'.neg) ∧ w9.cell? ⟨w.heap.size + 1, 1, none⟩ = some (.slice A' n' c') ∧ w9.cell? ⟨w.heap.size + 1, 2, none⟩ = some (.int .i64 lo'.e) ∧ w9.cell? ⟨w.heap.size + 1, 3, none⟩ = some (.bool hi'.neg) ∧ w9.cell? ⟨w.heap.size + 1, 4, none⟩ = some (.slice B' m' d') ∧ w9.cell? ⟨w.heap.size + 1, 5, none⟩ = some (.int .i64 hi'.e)) := Lib.hid (fun w' w9 bd ns h o => ⟨(h.ks.2.2.1.1.only o (by omega)).at_ 0 _ rfl, (h.ks.2.2.1.1.only o (by omega)).at_ 1 _ rfl, (h.ks.2.2.1.1.only o (by omega)).at_ 2 _ rfl, (h.ks.2.2.1.1.only o (by omega)).at_ 3 _ rfl, (h.ks.2.2.1.1.only o (by omega)).at_ 4 _ rfl, (h.ks.2.2.1.1.only o (by omega)).at_ 5 _ rfl, (h.ks.2.1.1.only o (by omega)).at_ 0 _ rfl, (h.ks.2.1.1.only o (by omega)).at_ 1 _ rfl, (h.ks.2.1.1.only o (by omega)).at_ 2 _ rfl, (h.ks.2.1.1.only o (by omega)).at_ 3 _ rfl, (h.ks.2.1.1.only o (by omega)).at_ 4 _ rfl, (h.ks.2.1.1.only o (by omega)).at_ 5 _ rfl⟩)
    have LC := S.drew
    clear S
    have XS := HC.out _ _ _ LC
    go_upto_region 3 with fail
    go_region_held3 (fun w' => w'.cell? ⟨w.heap.size, 0, none⟩ = some (.bool lo.neg) ∧ w'.cell? ⟨w.heap.size, 1, none⟩ = some (.slice A n c) ∧ w'.cell? ⟨w.heap.size, 2, none⟩ = some (.int .i64 lo.e) ∧ w'.cell? ⟨w.heap.size, 3, none⟩ = some (.bool hi.neg) ∧ w'.cell? ⟨w.heap.size, 4, none⟩ = some (.slice B m d) ∧ w'.cell? ⟨w.heap.size, 5, none⟩ = some (.int .i64 hi.e) ∧ w'.cell? ⟨w.heap.size + 1, 0, none⟩ = some (.bool lo'.neg) ∧ w'.cell? ⟨w.heap.size + 1, 1, none⟩ = some (.slice A' n' c') ∧ w'.cell? ⟨w.heap.size + 1, 2, none⟩ = some (.int .i64 lo'.e) ∧ w'.cell? ⟨w.heap.size + 1, 3, none⟩ = some (.bool hi'.neg) ∧ w'.cell? ⟨w.heap.size + 1, 4, none⟩ = some (.slice B' m' d') ∧ w'.cell? ⟨w.heap.size + 1, 5, none⟩ = some (.int .i64 hi'.e))
      (first | with_reducible exact HC.out v3 _ _ L9 | (refine HK.out v3 _ _ _ L9 ?_; with_reducible exact only_put6 _ _ _ _ _ _ _ _) | with_reducible exact HC.out _ _ _ LC | with_reducible exact XS)
      (first
        | (go_at_call 57; refine (N1.out _ LC.W LC.O).mono ?_; rintro e' v1 ⟨X1, x1, y1, X2, x2, y2, rfl, m1, m2, hW1, o1⟩; have LQ := ((LC.only o1 hW1).num m2).num m1; clear LC; have LC := LQ; clear LQ; clear m1 m2 hW1 o1)
        | (go_at_call 27; refine (N2.out _ _ _ _ _ _ _ LC.W LC.O LC.ns.1 LC.ns.2.1).mono ?_; rintro e' v3 ⟨A9, p9, c9, B9, q9, d9, rfl, m1, m2, hW9, o9⟩; have L9 := ((LC.only o9 hW9).num m2).num m1; have s0 := L9.ks.1.1.at_ 0 _ rfl; have s1 := L9.ks.1.1.at_ 1 _ rfl; have s2 := L9.ks.1.1.at_ 2 _ rfl; have s3 := L9.ks.1.1.at_ 3 _ rfl; have s4 := L9.ks.1.1.at_ 4 _ rfl; have s5 := L9.ks.1.1.at_ 5 _ rfl; have rf0 := L9.ks.1.1.fr 0; have rf1 := L9.ks.1.1.fr 1; have rf2 := L9.ks.1.1.fr 2; have rf3 := L9.ks.1.1.fr 3; have rf4 := L9.ks.1.1.fr 4; have rf5 := L9.ks.1.1.fr 5))
    go_wp2_with fail
    rw [HT.out]
    obtain ⟨y1, y2, y3, y4⟩ := L9.give (lo := z.lo) (hi := z.hi) L9.ns.1 L9.ns.2.1 L9.ks.1.1 (by omega)
    exact bodyPost_ret (v := spv (z.lo).neg A9 p9 c9 (z.lo).e (z.hi).neg B9 q9 d9 (z.hi).e) (by simp [results, Tryz.results26, go_sem, s0, s1, s2, s3, s4, s5]) rfl ⟨A9, p9, c9, B9, q9, d9, rfl, y1, y2, y3, y4⟩
end Go.Proofs.YtodjldhppbbhdaaGreatDoor
