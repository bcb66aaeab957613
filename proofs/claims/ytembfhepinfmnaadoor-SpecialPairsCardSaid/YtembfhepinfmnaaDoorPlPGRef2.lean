/-
  volvelleref01.Mul: the document's product.
  volvelleref01.times: digits by a digit; volvelleref01.guess: a digit that isn't too great.
  volvelleref01.DivMod: the document's quotient and remainder, digit by digit.
-/
import Derived.Test.YtembfhepinfmnaaDoorShelf
import Derived.Test.YtembfhepinfmnaaDoorPlPGNumbers
import Derived.Test.YtembfhepinfmnaaDoorPlPGLists
import Derived.Test.YtembfhepinfmnaaDoorPlPGNat1
import Derived.Test.YtembfhepinfmnaaDoorPlPGNat6
import Derived.Test.YtembfhepinfmnaaDoorPlPGRef1
namespace Go.Proofs.YtembfhepinfmnaaDoor
open Go.RowKit

/-- k digits of one line of a product are done from off on; cy is carried. -/
def LineInv (t : TypeId) (w wr : World) (g N off a : Nat) (F y : Nat → Nat) (k cy : Nat) : Prop :=
  ∃ F', cy < 65536 ∧ Row t wr g N F' ∧ Only w wr g ∧ (∀ j, j < N → F' j < 65536) ∧ (∀ j, j < off ∨ off + k ≤ j → F' j = F j) ∧
    vs 65536 (fun j => F' (off + j)) k + cy * 65536 ^ k = vs 65536 (fun j => F (off + j)) k + vs 65536 (fun j => a * y j) k

theorem LineInv.step {t : TypeId} {w wr : World} {g N off a : Nat} {F F' y : Nat → Nat} {k cy s b : Nat} (hcy : cy < 65536) (hrow : Row t wr g N F') (hon : Only w wr g) (hd : ∀ j, j < N → F' j < 65536)
    (hag : ∀ j, j < off ∨ off + k ≤ j → F' j = F j) (hv : vs 65536 (fun j => F' (off + j)) k + cy * 65536 ^ k = vs 65536 (fun j => F (off + j)) k + vs 65536 (fun j => a * y j) k)
    (hs : F' (off + k) = s) (hb : y k = b) (ha' : a < 65536) (hb' : b < 65536) (hs' : s < 65536) :
    LineInv t w (wr.setCell ⟨g, off + k, none⟩ (.int .u64 (((s + a * b + cy) % 65536 : Nat) : Int))) g N off a F y (k + 1) ((s + a * b + cy) / 65536) := by
  have hm : a * b ≤ 65535 * 65535 := Nat.mul_le_mul (by omega) (by omega)
  have hr : (s + a * b + cy) % 65536 < B64 := by unfold B64; omega
  refine ⟨upd F' (off + k) ((s + a * b + cy) % 65536), by omega, hrow.set_ _ _ hr, hon.set_ _ _, fun j hj => ?_, fun j hj => ?_, ?_⟩
  · unfold upd; split
    · omega
    · exact hd j hj
  · rw [upd_other _ _ _ _ (by omega)]; exact hag j (by omega)
  · rw [vs_succ, vs_succ, vs_succ, upd_same]
    have e : vs 65536 (fun j => upd F' (off + k) ((s + a * b + cy) % 65536) (off + j)) k = vs 65536 (fun j => F' (off + j)) k := vs_congr fun j hj => upd_other _ _ _ _ (by omega)
    rw [e, ← hag (off + k) (by omega), hs, hb]
    exact step_add hv (by omega)

theorem LineInv.drewN {t : TypeId} {w wr : World} {g N off a : Nat} {F y : Nat → Nat} {k cy : Nat} (h : LineInv t w wr g N off a F y k cy) (n : Nat) : LineInv t w (wr.drewN n) g N off a F y k cy := by
  obtain ⟨F', h1, h2, h3, h4⟩ := h
  exact ⟨F', h1, h2, ⟨h3.os, h3.tape, h3.output, h3.size, h3.block⟩, h4⟩

end Go.Proofs.YtembfhepinfmnaaDoor

namespace Go.Proofs.YtembfhepinfmnaaDoor
open Go.RowKit

/-- k digits of y by d are done; cy is carried. -/
def TimesInv (F y : Nat → Nat) (d k cy : Nat) : Prop := (∀ j, j < k → F j < 65536) ∧ vs 65536 F k + cy * 65536 ^ k = vs 65536 y k * d
theorem carry_small {D V cy k Y d : Nat} (hD : 0 < D) (h : V + cy * D ^ k = Y * d) (hY : Y < D ^ k) (hd : d ≤ D) : cy < D := by
  have hp : 0 < D ^ k := Nat.pow_pos hD
  have h1 : Y * d ≤ Y * D := Nat.mul_le_mul_left _ hd
  have h2 : Y * D < D ^ k * D := Nat.mul_lt_mul_of_pos_right hY hD
  have h3 : cy * D ^ k < D * D ^ k := by rw [Nat.mul_comm D]; omega
  exact Nat.lt_of_mul_lt_mul_right h3
theorem TimesInv.carry {F y : Nat → Nat} {d k cy : Nat} (h : TimesInv F y d k cy) (hy : ∀ j, j < k → y j < 65536) (hd : d ≤ 65536) : cy < 65536 :=
  carry_small (D := 65536) (by omega) h.2 (vs_lt hy) hd
theorem TimesInv.step {F y : Nat → Nat} {d k cy b p : Nat} (h : TimesInv F y d k cy) (hb : y k = b) (hp : p = b * d) : TimesInv (upd F k ((p + cy) % 65536)) y d (k + 1) ((p + cy) / 65536) := by
  obtain ⟨h2, h3⟩ := h
  refine ⟨fun j hj => ?_, ?_⟩
  · unfold upd; split
    · omega
    · exact h2 j (by omega)
  · rw [vs_succ, vs_succ, upd_same, vs_upd_ge _ _ _ _ _ (Nat.le_refl _), hb, Nat.add_mul]
    have h4 := step_add (V := vs 65536 F k) (S := vs 65536 y k * d) (Y := 0) (s := p) (y := 0) (c := cy) (b := 65536) (n := k) (r := (p + cy) % 65536) (d := (p + cy) / 65536) (by omega) (by omega)
    rw [Nat.zero_mul] at h4
    have e : b * 65536 ^ k * d = p * 65536 ^ k := by rw [hp]; ac_rfl
    rw [e]
    omega

end Go.Proofs.YtembfhepinfmnaaDoor

namespace Go.Proofs.YtembfhepinfmnaaDoor
open Go.RowKit

/-- A literal of one word. -/
theorem Own.one (t : TypeId) (w : World) (a : Nat) (ha : a < B64) : Own t (w.alloc (.cells #[.int .u64 ((a : Nat) : Int)] t)) w.heap.size (.slice (some ⟨w.heap.size, 0, none⟩) 1 1) 1 (fun _ => a) :=
  ⟨⟨by rw [cellsOf_len], .inr ⟨w.heap.size, 1, _, rfl, Nat.le_refl _, heap_alloc_new w _, Nat.le_refl _, by simp only [maxLen]; omega, by simp, by rfl⟩⟩, fun _ _ => ha⟩

/-- The digits from k on are done: their quotient lies in F, and rem is left. -/
def RDivInv (X F : Nat → Nat) (p k D rem : Nat) : Prop :=
  rem < D ∧ (∀ j, F j < 65536) ∧ vs 65536 (fun j => X (k + j)) (p - k) = vs 65536 (fun j => F (k + j)) (p - k) * D + rem

theorem rdiv_eq {X1 Q D rem a L low r : Nat} (h : X1 = Q * D + rem) (hL : a + 65536 * rem = L) (hr : L = low * D + r) : a + 65536 * X1 = (low + 65536 * Q) * D + r := by
  rw [h, Nat.mul_add, Nat.add_mul]
  have : 65536 * (Q * D) = 65536 * Q * D := by rw [Nat.mul_assoc]
  omega
theorem RDivInv.step {X F : Nat → Nat} {p i D rem a L low : Nat} (h : RDivInv X F p (i + 1) D rem) (hi : i < p) (ha : X i = a) (hL : a + 65536 * rem = L) (hlow : low < 65536) (h1 : low * D ≤ L) (h2 : L < (low + 1) * D) :
    RDivInv X (upd F i low) p i D (L - low * D) := by
  obtain ⟨hr, hF, hv⟩ := h
  refine ⟨?_, fun j => ?_, ?_⟩
  · rw [Nat.add_mul, Nat.one_mul] at h2; omega
  · unfold upd; split
    · exact hlow
    · exact hF j
  · obtain ⟨m, hm⟩ : ∃ m, p - i = m + 1 := ⟨p - i - 1, by omega⟩
    have hm' : p - (i + 1) = m := by omega
    rw [hm, vs_cons, vs_cons]
    rw [hm'] at hv
    have e1 : vs 65536 (fun j => X (i + (j + 1))) m = vs 65536 (fun j => X (i + 1 + j)) m := vs_congr fun j _ => by rw [show i + (j + 1) = i + 1 + j by omega]
    have e2 : vs 65536 (fun j => upd F i low (i + (j + 1))) m = vs 65536 (fun j => F (i + 1 + j)) m := vs_congr fun j _ => by rw [upd_other _ _ _ _ (by omega), show i + (j + 1) = i + 1 + j by omega]
    rw [e1, e2]
    simp only [Nat.add_zero]
    rw [upd_same, ha]
    exact rdiv_eq hv hL (by omega)
end Go.Proofs.YtembfhepinfmnaaDoor
