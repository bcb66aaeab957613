/-
  What lies in memory while a call of dyad works: its parameters, and the place of its answer. What plain dyads are.
  volvelleref02: Plain, Same; volvellelaw02.both.
-/
import Derived.Deep.QuietTactic
import Derived.BigQuiet
import Derived.Test.YtilmbdbcgbndmaaDoorPlOGNumbers
import Derived.Test.YtilmbdbcgbndmaaDoorPlOGDy1
namespace Go.Proofs.YtilmbdbcgbndmaaDoor
open Go.RowKit

/-- The world of a call with two dyads a and b. -/
structure F3 (w w1 : World) (na : Bool) (A : Option Addr) (n c : Nat) (ea : Int) (nb' : Bool) (B : Option Addr) (m d : Nat) (eb : Int) : Prop where
  bel : Below w.heap.size w w1
  ka : Blk3 w1 w.heap.size (.bool na) (.slice A n c) (.int .i64 ea)
  kb : Blk3 w1 (w.heap.size + 1) (.bool nb') (.slice B m d) (.int .i64 eb)
  kr : Blk3 w1 (w.heap.size + 1 + 1) (.bool false) (.slice none 0 0) (.int .i64 0)
  sz : w.heap.size + 3 ≤ w1.heap.size
  tab : Tab w1
/-- .. and with one dyad. -/
structure F2 (w w1 : World) (na : Bool) (A : Option Addr) (n c : Nat) (ea : Int) : Prop where
  bel : Below w.heap.size w w1
  ka : Blk3 w1 w.heap.size (.bool na) (.slice A n c) (.int .i64 ea)
  kr : Blk3 w1 (w.heap.size + 1) (.bool false) (.slice none 0 0) (.int .i64 0)
  sz : w.heap.size + 2 ≤ w1.heap.size
  tab : Tab w1
section
variable {w w1 w2 : World} {na nb' : Bool} {A B : Option Addr} {n c m d : Nat} {ea eb : Int}
theorem F3.adv (h : F3 w w1 na A n c ea nb' B m d eb) (b : Below w1.heap.size w1 w2) : F3 w w2 na A n c ea nb' B m d eb := by
  have := h.sz
  exact ⟨h.bel.trans (b.mono h.bel.size), h.ka.below b (by omega), h.kb.below b (by omega), h.kr.below b (by omega), Nat.le_trans h.sz b.size, h.tab.below b⟩
theorem F2.adv (h : F2 w w1 na A n c ea) (b : Below w1.heap.size w1 w2) : F2 w w2 na A n c ea := by
  have := h.sz
  exact ⟨h.bel.trans (b.mono h.bel.size), h.ka.below b (by omega), h.kr.below b (by omega), Nat.le_trans h.sz b.size, h.tab.below b⟩
theorem F3.drew (h : F3 w w1 na A n c ea nb' B m d eb) : F3 w w1.drew na A n c ea nb' B m d eb := ⟨h.bel.drew, h.ka, h.kb, h.kr, h.sz, h.tab⟩
theorem F2.drew (h : F2 w w1 na A n c ea) : F2 w w1.drew na A n c ea := ⟨h.bel.drew, h.ka, h.kr, h.sz, h.tab⟩
end
theorem F2.start (w : World) (na : Bool) (A : Option Addr) (n c : Nat) (ea : Int) (hT : Tab w) :
    F2 w ((w.alloc (.cells #[.bool na, .slice A n c, .int .i64 ea] 24)).alloc (.cells #[.bool false, .slice none 0 0, .int .i64 0] 24)) na A n c ea := by
  have bA : Below w.heap.size w (w.alloc (.cells #[.bool na, .slice A n c, .int .i64 ea] 24)) := (Below.refl _ w).alloc (Nat.le_refl _) _
  have bB := bA.alloc bA.size (.cells #[.bool false, .slice none 0 0, .int .i64 0] 24)
  have kd := (Blk3.made w (.bool na) (.slice A n c) (.int .i64 ea)).below ((Below.refl (w.heap.size + 1) _).alloc (by simp) (.cells #[.bool false, .slice none 0 0, .int .i64 0] 24)) (by simp)
  have kr := Blk3.made (w.alloc (.cells #[.bool na, .slice A n c, .int .i64 ea] 24)) (.bool false) (.slice none 0 0) (.int .i64 0)
  rw [show (w.alloc (.cells #[.bool na, .slice A n c, .int .i64 ea] 24)).heap.size = w.heap.size + 1 by simp] at kr
  exact ⟨bB, kd, kr, by simp, hT.below bB⟩
theorem F3.start (w : World) (na : Bool) (A : Option Addr) (n c : Nat) (ea : Int) (nb' : Bool) (B : Option Addr) (m d : Nat) (eb : Int) (hT : Tab w) :
    F3 w (((w.alloc (.cells #[.bool na, .slice A n c, .int .i64 ea] 24)).alloc (.cells #[.bool nb', .slice B m d, .int .i64 eb] 24)).alloc (.cells #[.bool false, .slice none 0 0, .int .i64 0] 24)) na A n c ea nb' B m d eb := by
  have bA : Below w.heap.size w (w.alloc (.cells #[.bool na, .slice A n c, .int .i64 ea] 24)) := (Below.refl _ w).alloc (Nat.le_refl _) _
  have bB := bA.alloc bA.size (.cells #[.bool nb', .slice B m d, .int .i64 eb] 24)
  have bC := bB.alloc bB.size (.cells #[.bool false, .slice none 0 0, .int .i64 0] 24)
  have ka := ((Blk3.made w (.bool na) (.slice A n c) (.int .i64 ea)).below ((Below.refl (w.heap.size + 1) _).alloc (by simp) (.cells #[.bool nb', .slice B m d, .int .i64 eb] 24)) (by simp)).below
    ((Below.refl (w.heap.size + 1) _).alloc (by simp) (.cells #[.bool false, .slice none 0 0, .int .i64 0] 24)) (by simp)
  have kb := (Blk3.made (w.alloc (.cells #[.bool na, .slice A n c, .int .i64 ea] 24)) (.bool nb') (.slice B m d) (.int .i64 eb)).below ((Below.refl (w.heap.size + 2) _).alloc (by simp) (.cells #[.bool false, .slice none 0 0, .int .i64 0] 24)) (by simp)
  have kr := Blk3.made ((w.alloc (.cells #[.bool na, .slice A n c, .int .i64 ea] 24)).alloc (.cells #[.bool nb', .slice B m d, .int .i64 eb] 24)) (.bool false) (.slice none 0 0) (.int .i64 0)
  rw [show (w.alloc (.cells #[.bool na, .slice A n c, .int .i64 ea] 24)).heap.size = w.heap.size + 1 by simp] at kb
  rw [show ((w.alloc (.cells #[.bool na, .slice A n c, .int .i64 ea] 24)).alloc (.cells #[.bool nb', .slice B m d, .int .i64 eb] 24)).heap.size = w.heap.size + 1 + 1 by simp] at kr
  exact ⟨bC, ka, kb, kr, by simp, hT.below bC⟩

/-- What is known of a plain dyad. -/
structure PlainF (neg : Bool) (n : Nat) (x : Nat → Nat) (e : Int) : Prop where
  len : n ≤ 256
  cn : Cn n x
  bits : nb (vs B64 x n) ≤ 16384
  e1 : -262144 ≤ e
  e2 : e ≤ 262144
  zero : n = 0 → e = 0 ∧ neg = false
  odd : 0 < n → vs B64 x n % 2 = 1
theorem nb_lt_words {V n : Nat} (h : nb V ≤ 64 * n) : V < B64 ^ n := by rw [B64_pow, ← Nat.pow_mul]; exact (nb_le_iff _ _).1 h
theorem vs_odd {x : Nat → Nat} {n : Nat} (h : x 0 % 2 = 1) : vs B64 x (n + 1) % 2 = 1 := by
  rw [vs_cons, B64_pow, show (2 : Nat) ^ 64 = 2 * 2 ^ 63 by decide, Nat.mul_assoc, Nat.add_mul_mod_self_left]; exact h
theorem plain_facts {neg : Bool} {n : Nat} {x : Nat → Nat} {e : Int} (h : plainB neg n x e = true) : PlainF neg n x e := by
  unfold plainB at h
  rcases n with _ | n
  · simp only [if_true] at h
    simp at h
    obtain ⟨rfl, rfl⟩ := h
    exact ⟨by omega, .inl rfl, by rw [vs_zero, nb_zero]; omega, by omega, by omega, fun _ => ⟨rfl, rfl⟩, fun h => absurd h (by omega)⟩
  · rw [if_neg (by omega)] at h
    simp only [Nat.add_sub_cancel, Bool.and_eq_true, decide_eq_true_eq] at h
    obtain ⟨⟨⟨h1, h2⟩, h3⟩, h4⟩ := h
    have hc : Cn (n + 1) x := .inr (by simpa using h2)
    rw [MB_eq] at h3
    refine ⟨?_, hc, h3, h4.1, h4.2, fun h => absurd h (by omega), fun _ => vs_odd h1⟩
    exact cn_le B64_gt hc (nb_lt_words (n := 256) (by omega))
theorem PlainF.pos {neg : Bool} {n : Nat} {x : Nat → Nat} {e : Int} (h : PlainF neg n x e) : 0 < n ↔ 0 < vs B64 x n := by
  constructor
  · intro hn; have := h.odd hn; omega
  · intro hv
    rcases Nat.eq_zero_or_pos n with h0 | h0
    · subst h0; rw [vs_zero] at hv; omega
    · exact h0
end Go.Proofs.YtilmbdbcgbndmaaDoor

namespace Go.Proofs.YtilmbdbcgbndmaaDoor
open Go.RowKit

theorem rem_two (x : Nat) : (x : Int) % 2 = ((x % 2 : Nat) : Int) := by omega
theorem long_nb {n : Nat} {x : Nat → Nat} (h : x n ≠ 0) (hn : 256 < n + 1) : ¬ nb (vs B64 x (n + 1)) ≤ MB := fun hb => by
  rw [MB_eq] at hb
  have h1 := vs_ge (b := B64) (n := n + 1) (f := x) (.inr (by simpa using h)) (by omega)
  have h2 : vs B64 x (n + 1) < B64 ^ 256 := nb_lt_words (by omega)
  have h3 : B64 ^ (n + 1 - 1) < B64 ^ 256 := by omega
  have := (Nat.pow_lt_pow_iff_right B64_gt).1 h3
  omega

theorem rplain_none (neg : Bool) (A : Option Addr) (c : Nat) (x : Nat → Nat) (e : Int) (w : World) :
    Calls Tryd.prog 25 #[dyv neg A 0 c e] w (BoolPost w (plainB neg 0 x e)) := by
  have b1 : Below w.heap.size w (w.alloc (.cells #[.bool neg, .slice A 0 c, .int .i64 e] 24)) := (Below.refl _ w).alloc (Nat.le_refl _) _
  by_cases h : e = 0
  · subst h
    cases neg
    · go_enter Tryd.func25, Tryd.ntmps25
      go_wp2_with fail
      go_ret
      exact ⟨rfl, b1⟩
    · go_enter Tryd.func25, Tryd.ntmps25
      go_wp2_with fail
      go_ret
      exact ⟨rfl, b1⟩
  · have hd : plainB neg 0 x e = false := by simp [plainB, h]
    have he : (e == 0) = false := by simp [h]
    rw [hd]
    go_enter Tryd.func25, Tryd.ntmps25
    go_wp2_with fail
    go_ret
    exact ⟨rfl, b1⟩

set_option maxRecDepth 8000 in
set_option maxHeartbeats 2000000 in
theorem rplain_any (neg : Bool) (A : Option Addr) (n c : Nat) (x : Nat → Nat) (e : Int) (w : World) (ha : Sl w A n c x) (hn : n ≤ 400000) :
    Calls Tryd.prog 25 #[dyv neg A n c e] w (BoolPost w (plainB neg n x e)) := by
  rcases n with _ | n
  · exact rplain_none neg A c x e w
  · obtain ⟨ad, rfl, hab, hx0, hc0⟩ := ha.at_ (k := 0) (by omega)
    obtain ⟨ad', e1, _, hx1, hc1⟩ := ha.at_ (k := n) (by omega)
    obtain rfl : ad = ad' := by injection e1
    clear e1
    rw [show ad.add 0 = ad from by simp [Addr.add]] at hc0
    have hab1 : (ad.add n).block < w.heap.size := by rw [block_of_add]; exact hab
    have b1 : Below w.heap.size w (w.alloc (.cells #[.bool neg, .slice (some ad) (n + 1) c, .int .i64 e] 24)) := (Below.refl _ w).alloc (Nat.le_refl _) _
    have k1 := Blk3.made w (.bool neg) (.slice (some ad) (n + 1) c) (.int .i64 e)
    have hgs : w.heap.size < (w.alloc (.cells #[.bool neg, .slice (some ad) (n + 1) c, .int .i64 e] 24)).heap.size := by simp
    have hB := rbits_any (some ad) (n + 1) c x _ (ha.below b1) (by omega)
    have hn1 : ((n : Int) + 1 == 0) = false := by simp; omega
    have hrem := rem_two (x 0)
    have HB := Lib.hid hB
    have hspec : plainB neg (n + 1) x e = (decide (x 0 % 2 = 1) && decide (x n ≠ 0) && decide (nb (vs B64 x (n + 1)) ≤ MB) && decide (fitE e)) := by
      unfold plainB; rw [if_neg (by omega), Nat.add_sub_cancel]
    clear hB
    have hb2 : x 0 % 2 < 2 := Nat.mod_lt _ (by omega)
    by_cases h2 : x n = 0
    · rw [hspec, show (decide (x 0 % 2 = 1) && decide (x n ≠ 0) && decide (nb (vs B64 x (n + 1)) ≤ MB) && decide (fitE e)) = false by simp [h2]]
      rw [h2] at hc1
      clear hspec
      go_enter Tryd.func25, Tryd.ntmps25
      go_wp2_with fail
      go_ret
      exact ⟨rfl, b1⟩
    · have hne : ((x n : Int) != 0) = true := by simp; omega
      have hlong := Lib.hid (fun h => long_nb (x := x) h2 (h : 256 < n + 1))
      by_cases h1 : x 0 % 2 = 1
      · rw [hspec, show (decide (x 0 % 2 = 1) && decide (x n ≠ 0) && decide (nb (vs B64 x (n + 1)) ≤ MB) && decide (fitE e)) = (decide (nb (vs B64 x (n + 1)) ≤ MB) && decide (fitE e)) by simp [h1, h2]]
        have hr1 : (((x 0 % 2 : Nat) : Int) == 1) = true := by rw [h1]; rfl
        clear hspec hb2 h1
        generalize x 0 % 2 = rm at *
        generalize x n = yn at *
        generalize x 0 = y0 at *
        generalize vs B64 x (n + 1) = V at *
        by_cases h256 : n + 1 ≤ 256
        · go_enter Tryd.func25, Tryd.ntmps25
          go_wp2_with fail
          refine HB.out.mono ?_
          rintro e' w2 ⟨L, rfl, hL, b⟩
          obtain rfl := nb_eq hL
          have b2 := b1.trans (b.mono b1.size)
          obtain ⟨c0, c1, c2⟩ := (k1.below b hgs).cell
          clear b hL k1 HB
          generalize nb V = L at *
          by_cases h3 : L ≤ MB
          · have h3' := h3
            rw [MB_eq] at h3'
            by_cases h4 : -262144 ≤ e
            · by_cases h5 : e ≤ 262144
              · have hd := Lib.hid (show (decide (L ≤ MB) && decide (fitE e)) = true by simp [h3, fitE, h4, h5])
                go_wp2_with fail
                go_ret
                exact ⟨by rw [hd.out]; rfl, b2⟩
              · have hd := Lib.hid (show (decide (L ≤ MB) && decide (fitE e)) = false by rw [decide_eq_false (fun h : fitE e => h5 h.2), Bool.and_false])
                have h5b : decide (e ≤ 262144) = false := decide_eq_false h5
                go_wp2_with fail
                go_ret
                exact ⟨by rw [hd.out]; rfl, b2⟩
            · have hd := Lib.hid (show (decide (L ≤ MB) && decide (fitE e)) = false by rw [decide_eq_false (fun h : fitE e => h4 h.1), Bool.and_false])
              have hd2 := Lib.hid (decide_eq_false (fun h : fitE e => h4 h.1))
              go_wp2_with fail
              go_ret
              exact ⟨by first | (rw [hd.out]; rfl) | (rw [hd2.out]; rfl), b2⟩
          · have hd := Lib.hid (show (decide (L ≤ MB) && decide (fitE e)) = false by simp [h3])
            rw [MB_eq] at h3
            go_wp2_with fail
            go_ret
            exact ⟨by rw [hd.out]; rfl, b2⟩
        · have hd := Lib.hid (show (decide (nb V ≤ MB) && decide (fitE e)) = false by simp [hlong.out (by omega)])
          rw [hd.out]
          go_enter Tryd.func25, Tryd.ntmps25
          go_wp2_with fail
          go_ret
          exact ⟨rfl, b1⟩
      · rw [hspec, show (decide (x 0 % 2 = 1) && decide (x n ≠ 0) && decide (nb (vs B64 x (n + 1)) ≤ MB) && decide (fitE e)) = false by simp [h1]]
        obtain h0 : x 0 % 2 = 0 := by omega
        rw [h0] at hrem
        clear hspec
        go_enter Tryd.func25, Tryd.ntmps25
        go_wp2_with fail
        go_ret
        exact ⟨rfl, b1⟩

end Go.Proofs.YtilmbdbcgbndmaaDoor
