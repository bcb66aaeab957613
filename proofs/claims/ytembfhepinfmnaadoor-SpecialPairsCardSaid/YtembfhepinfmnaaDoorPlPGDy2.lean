/-
  What lies in memory while a call of dyad works: its parameters, and the place of its answer. What plain dyads are.
-/
import Derived.Deep.QuietTactic
import Derived.BigQuiet
import Derived.Test.YtembfhepinfmnaaDoorPlPGNumbers
import Derived.Test.YtembfhepinfmnaaDoorPlPGDy1
namespace Go.Proofs.YtembfhepinfmnaaDoor
open Go.RowKit

/-- The world of a call with two dyads a and b. -/
structure F3 (w w1 : World) (na : Bool) (A : Option Addr) (n c : Nat) (ea : Int) (nb' : Bool) (B : Option Addr) (m d : Nat) (eb : Int) : Prop where
  bel : Below w.heap.size w w1
  ka : Blk3 w1 w.heap.size (.bool na) (.slice A n c) (.int .i64 ea)
  kb : Blk3 w1 (w.heap.size + 1) (.bool nb') (.slice B m d) (.int .i64 eb)
  kr : Blk3 w1 (w.heap.size + 1 + 1) (.bool false) (.slice none 0 0) (.int .i64 0)
  sz : w.heap.size + 3 ≤ w1.heap.size
  tab : Tab w1
/-- .. and with one dyad. -/
structure F2 (w w1 : World) (na : Bool) (A : Option Addr) (n c : Nat) (ea : Int) : Prop where
  bel : Below w.heap.size w w1
  ka : Blk3 w1 w.heap.size (.bool na) (.slice A n c) (.int .i64 ea)
  kr : Blk3 w1 (w.heap.size + 1) (.bool false) (.slice none 0 0) (.int .i64 0)
  sz : w.heap.size + 2 ≤ w1.heap.size
  tab : Tab w1
section
variable {w w1 w2 : World} {na nb' : Bool} {A B : Option Addr} {n c m d : Nat} {ea eb : Int}
theorem F3.adv (h : F3 w w1 na A n c ea nb' B m d eb) (b : Below w1.heap.size w1 w2) : F3 w w2 na A n c ea nb' B m d eb := by
  have := h.sz
  exact ⟨h.bel.trans (b.mono h.bel.size), h.ka.below b (by omega), h.kb.below b (by omega), h.kr.below b (by omega), Nat.le_trans h.sz b.size, h.tab.below b⟩
theorem F2.adv (h : F2 w w1 na A n c ea) (b : Below w1.heap.size w1 w2) : F2 w w2 na A n c ea := by
  have := h.sz
  exact ⟨h.bel.trans (b.mono h.bel.size), h.ka.below b (by omega), h.kr.below b (by omega), Nat.le_trans h.sz b.size, h.tab.below b⟩
theorem F3.drew (h : F3 w w1 na A n c ea nb' B m d eb) : F3 w w1.drew na A n c ea nb' B m d eb := ⟨h.bel.drew, h.ka, h.kb, h.kr, h.sz, h.tab⟩
theorem F2.drew (h : F2 w w1 na A n c ea) : F2 w w1.drew na A n c ea := ⟨h.bel.drew, h.ka, h.kr, h.sz, h.tab⟩
end
theorem F2.start (w : World) (na : Bool) (A : Option Addr) (n c : Nat) (ea : Int) (hT : Tab w) :
    F2 w ((w.alloc (.cells #[.bool na, .slice A n c, .int .i64 ea] 52)).alloc (.cells #[.bool false, .slice none 0 0, .int .i64 0] 52)) na A n c ea := by
  have bA : Below w.heap.size w (w.alloc (.cells #[.bool na, .slice A n c, .int .i64 ea] 52)) := (Below.refl _ w).alloc (Nat.le_refl _) _
  have bB := bA.alloc bA.size (.cells #[.bool false, .slice none 0 0, .int .i64 0] 52)
  have kd := (Blk3.made w (.bool na) (.slice A n c) (.int .i64 ea)).below ((Below.refl (w.heap.size + 1) _).alloc (by simp) (.cells #[.bool false, .slice none 0 0, .int .i64 0] 52)) (by simp)
  have kr := Blk3.made (w.alloc (.cells #[.bool na, .slice A n c, .int .i64 ea] 52)) (.bool false) (.slice none 0 0) (.int .i64 0)
  rw [show (w.alloc (.cells #[.bool na, .slice A n c, .int .i64 ea] 52)).heap.size = w.heap.size + 1 by simp] at kr
  exact ⟨bB, kd, kr, by simp, hT.below bB⟩
theorem F3.start (w : World) (na : Bool) (A : Option Addr) (n c : Nat) (ea : Int) (nb' : Bool) (B : Option Addr) (m d : Nat) (eb : Int) (hT : Tab w) :
    F3 w (((w.alloc (.cells #[.bool na, .slice A n c, .int .i64 ea] 52)).alloc (.cells #[.bool nb', .slice B m d, .int .i64 eb] 52)).alloc (.cells #[.bool false, .slice none 0 0, .int .i64 0] 52)) na A n c ea nb' B m d eb := by
  have bA : Below w.heap.size w (w.alloc (.cells #[.bool na, .slice A n c, .int .i64 ea] 52)) := (Below.refl _ w).alloc (Nat.le_refl _) _
  have bB := bA.alloc bA.size (.cells #[.bool nb', .slice B m d, .int .i64 eb] 52)
  have bC := bB.alloc bB.size (.cells #[.bool false, .slice none 0 0, .int .i64 0] 52)
  have ka := ((Blk3.made w (.bool na) (.slice A n c) (.int .i64 ea)).below ((Below.refl (w.heap.size + 1) _).alloc (by simp) (.cells #[.bool nb', .slice B m d, .int .i64 eb] 52)) (by simp)).below
    ((Below.refl (w.heap.size + 1) _).alloc (by simp) (.cells #[.bool false, .slice none 0 0, .int .i64 0] 52)) (by simp)
  have kb := (Blk3.made (w.alloc (.cells #[.bool na, .slice A n c, .int .i64 ea] 52)) (.bool nb') (.slice B m d) (.int .i64 eb)).below ((Below.refl (w.heap.size + 2) _).alloc (by simp) (.cells #[.bool false, .slice none 0 0, .int .i64 0] 52)) (by simp)
  have kr := Blk3.made ((w.alloc (.cells #[.bool na, .slice A n c, .int .i64 ea] 52)).alloc (.cells #[.bool nb', .slice B m d, .int .i64 eb] 52)) (.bool false) (.slice none 0 0) (.int .i64 0)
  rw [show (w.alloc (.cells #[.bool na, .slice A n c, .int .i64 ea] 52)).heap.size = w.heap.size + 1 by simp] at kb
  rw [show ((w.alloc (.cells #[.bool na, .slice A n c, .int .i64 ea] 52)).alloc (.cells #[.bool nb', .slice B m d, .int .i64 eb] 52)).heap.size = w.heap.size + 1 + 1 by simp] at kr
  exact ⟨bC, ka, kb, kr, by simp, hT.below bC⟩

/-- What is known of a plain dyad. -/
structure PlainF (neg : Bool) (n : Nat) (x : Nat → Nat) (e : Int) : Prop where
  len : n ≤ 256
  cn : Cn n x
  bits : nb (vs B64 x n) ≤ 16384
  e1 : -262144 ≤ e
  e2 : e ≤ 262144
  zero : n = 0 → e = 0 ∧ neg = false
  odd : 0 < n → vs B64 x n % 2 = 1
theorem nb_lt_words {V n : Nat} (h : nb V ≤ 64 * n) : V < B64 ^ n := by rw [B64_pow, ← Nat.pow_mul]; exact (nb_le_iff _ _).1 h
theorem vs_odd {x : Nat → Nat} {n : Nat} (h : x 0 % 2 = 1) : vs B64 x (n + 1) % 2 = 1 := by
  rw [vs_cons, B64_pow, show (2 : Nat) ^ 64 = 2 * 2 ^ 63 by decide, Nat.mul_assoc, Nat.add_mul_mod_self_left]; exact h
theorem plain_facts {neg : Bool} {n : Nat} {x : Nat → Nat} {e : Int} (h : plainB neg n x e = true) : PlainF neg n x e := by
  unfold plainB at h
  rcases n with _ | n
  · simp only [if_true] at h
    simp at h
    obtain ⟨rfl, rfl⟩ := h
    exact ⟨by omega, .inl rfl, by rw [vs_zero, nb_zero]; omega, by omega, by omega, fun _ => ⟨rfl, rfl⟩, fun h => absurd h (by omega)⟩
  · rw [if_neg (by omega)] at h
    simp only [Nat.add_sub_cancel, Bool.and_eq_true, decide_eq_true_eq] at h
    obtain ⟨⟨⟨h1, h2⟩, h3⟩, h4⟩ := h
    have hc : Cn (n + 1) x := .inr (by simpa using h2)
    rw [MB_eq] at h3
    refine ⟨?_, hc, h3, h4.1, h4.2, fun h => absurd h (by omega), fun _ => vs_odd h1⟩
    exact cn_le B64_gt hc (nb_lt_words (n := 256) (by omega))
theorem PlainF.pos {neg : Bool} {n : Nat} {x : Nat → Nat} {e : Int} (h : PlainF neg n x e) : 0 < n ↔ 0 < vs B64 x n := by
  constructor
  · intro hn; have := h.odd hn; omega
  · intro hv
    rcases Nat.eq_zero_or_pos n with h0 | h0
    · subst h0; rw [vs_zero] at hv; omega
    · exact h0
end Go.Proofs.YtembfhepinfmnaaDoor
