/-
  volvelleref01.Mul: the document's product.
  volvelleref01.times: digits by a digit; volvelleref01.guess: a digit that isn't too great.
  volvelleref01.guess: a digit that isn't too great.
  volvelleref01.DivMod: the document's quotient and remainder, digit by digit.
-/
import Derived.Test.YtadieepcpkpblaaDoorPkNumbers
import Derived.Test.YtadieepcpkpblaaDoorPkNat3
import Derived.Test.YtadieepcpkpblaaDoorPkNat6
import Derived.Test.YtadieepcpkpblaaDoorPkRef1
namespace Go.Proofs.YtadieepcpkpblaaDoor
open Go.RowKit

/-- k digits of one line of a product are done from off on; cy is carried. -/
def LineInv (t : TypeId) (w wr : World) (g N off a : Nat) (F y : Nat → Nat) (k cy : Nat) : Prop :=
  ∃ F', cy < 65536 ∧ Row t wr g N F' ∧ Only w wr g ∧ (∀ j, j < N → F' j < 65536) ∧ (∀ j, j < off ∨ off + k ≤ j → F' j = F j) ∧
    vs 65536 (fun j => F' (off + j)) k + cy * 65536 ^ k = vs 65536 (fun j => F (off + j)) k + vs 65536 (fun j => a * y j) k

theorem LineInv.step {t : TypeId} {w wr : World} {g N off a : Nat} {F F' y : Nat → Nat} {k cy s b : Nat} (hcy : cy < 65536) (hrow : Row t wr g N F') (hon : Only w wr g) (hd : ∀ j, j < N → F' j < 65536)
    (hag : ∀ j, j < off ∨ off + k ≤ j → F' j = F j) (hv : vs 65536 (fun j => F' (off + j)) k + cy * 65536 ^ k = vs 65536 (fun j => F (off + j)) k + vs 65536 (fun j => a * y j) k)
    (hs : F' (off + k) = s) (hb : y k = b) (ha' : a < 65536) (hb' : b < 65536) (hs' : s < 65536) :
    LineInv t w (wr.setCell ⟨g, off + k, none⟩ (.int .u64 (((s + a * b + cy) % 65536 : Nat) : Int))) g N off a F y (k + 1) ((s + a * b + cy) / 65536) := by
  have hm : a * b ≤ 65535 * 65535 := Nat.mul_le_mul (by omega) (by omega)
  have hr : (s + a * b + cy) % 65536 < B64 := by unfold B64; omega
  refine ⟨upd F' (off + k) ((s + a * b + cy) % 65536), by omega, hrow.set_ _ _ hr, hon.set_ _ _, fun j hj => ?_, fun j hj => ?_, ?_⟩
  · unfold upd; split
    · omega
    · exact hd j hj
  · rw [upd_other _ _ _ _ (by omega)]; exact hag j (by omega)
  · rw [vs_succ, vs_succ, vs_succ, upd_same]
    have e : vs 65536 (fun j => upd F' (off + k) ((s + a * b + cy) % 65536) (off + j)) k = vs 65536 (fun j => F' (off + j)) k := vs_congr fun j hj => upd_other _ _ _ _ (by omega)
    rw [e, ← hag (off + k) (by omega), hs, hb]
    exact step_add hv (by omega)

theorem LineInv.drewN {t : TypeId} {w wr : World} {g N off a : Nat} {F y : Nat → Nat} {k cy : Nat} (h : LineInv t w wr g N off a F y k cy) (n : Nat) : LineInv t w (wr.drewN n) g N off a F y k cy := by
  obtain ⟨F', h1, h2, h3, h4⟩ := h
  exact ⟨F', h1, h2, ⟨h3.os, h3.tape, h3.output, h3.size, h3.block⟩, h4⟩

/-- What holds when i digits of x are done. -/
def RMulInv (t : TypeId) (w wr : World) (g N q : Nat) (x y : Nat → Nat) (i : Nat) : Prop :=
  ∃ F, Row t wr g N F ∧ Below g w wr ∧ (∀ j, j < N → F j < 65536) ∧ vs 65536 F (i + q) = vs 65536 x i * vs 65536 y q ∧ ∀ j, i + q ≤ j → j < N → F j = 0

theorem rmul_round {t : TypeId} {w wr w3 : World} {g N q i a cy : Nat} {F x y : Nat → Nat} (hxi : x i = a) (hb : Below g w wr) (hg : g < wr.heap.size)
    (hv : vs 65536 F (i + q) = vs 65536 x i * vs 65536 y q) (hz : ∀ j, i + q ≤ j → j < N → F j = 0) (h : LineInv t wr w3 g N i a F y q cy) :
    RMulInv t w (w3.setCell ⟨g, i + q, none⟩ (.int .u64 ((cy : Nat) : Int))) g N q x y (i + 1) := by
  obtain ⟨F', h1, h2, h3, hd, h4, h5⟩ := h
  have hcy : cy < B64 := by unfold B64; omega
  refine ⟨upd F' (i + q) cy, h2.set_ _ _ hcy, (Only.below hb h3 (by omega) (Nat.le_refl _)).setCell (Nat.le_refl _) _, fun j hj => ?_, ?_, fun j hj hjN => ?_⟩
  · unfold upd; split
    · exact h1
    · exact hd j hj
  · have e1 : i + 1 + q = i + q + 1 := by omega
    rw [e1, vs_succ, upd_same, vs_upd_ge _ _ _ _ _ (Nat.le_refl _), vs_add, vs_succ, hxi, Nat.add_mul, ← hv, vs_add 65536 F]
    have e2 : vs 65536 F' i = vs 65536 F i := vs_congr fun j hj => h4 j (by omega)
    rw [vs_mul] at h5
    have e3 : 65536 ^ i * (vs 65536 (fun j => F' (i + j)) q + cy * 65536 ^ q) = 65536 ^ i * (vs 65536 (fun j => F (i + j)) q + a * vs 65536 y q) := by rw [h5]
    rw [Nat.mul_add, Nat.mul_add] at e3
    have e4 : cy * 65536 ^ (i + q) = 65536 ^ i * (cy * 65536 ^ q) := by rw [Nat.pow_add]; ac_rfl
    have e5 : a * 65536 ^ i * vs 65536 y q = 65536 ^ i * (a * vs 65536 y q) := by ac_rfl
    omega
  · rw [upd_other _ _ _ _ (by omega), h4 j (by omega)]; exact hz j (by omega) hjN

end Go.Proofs.YtadieepcpkpblaaDoor

namespace Go.Proofs.YtadieepcpkpblaaDoor
open Go.RowKit

/-- k digits of y by d are done; cy is carried. -/
def TimesInv (F y : Nat → Nat) (d k cy : Nat) : Prop := (∀ j, j < k → F j < 65536) ∧ vs 65536 F k + cy * 65536 ^ k = vs 65536 y k * d
theorem carry_small {D V cy k Y d : Nat} (hD : 0 < D) (h : V + cy * D ^ k = Y * d) (hY : Y < D ^ k) (hd : d ≤ D) : cy < D := by
  have hp : 0 < D ^ k := Nat.pow_pos hD
  have h1 : Y * d ≤ Y * D := Nat.mul_le_mul_left _ hd
  have h2 : Y * D < D ^ k * D := Nat.mul_lt_mul_of_pos_right hY hD
  have h3 : cy * D ^ k < D * D ^ k := by rw [Nat.mul_comm D]; omega
  exact Nat.lt_of_mul_lt_mul_right h3
theorem TimesInv.carry {F y : Nat → Nat} {d k cy : Nat} (h : TimesInv F y d k cy) (hy : ∀ j, j < k → y j < 65536) (hd : d ≤ 65536) : cy < 65536 :=
  carry_small (D := 65536) (by omega) h.2 (vs_lt hy) hd
theorem TimesInv.step {F y : Nat → Nat} {d k cy b p : Nat} (h : TimesInv F y d k cy) (hb : y k = b) (hp : p = b * d) : TimesInv (upd F k ((p + cy) % 65536)) y d (k + 1) ((p + cy) / 65536) := by
  obtain ⟨h2, h3⟩ := h
  refine ⟨fun j hj => ?_, ?_⟩
  · unfold upd; split
    · omega
    · exact h2 j (by omega)
  · rw [vs_succ, vs_succ, upd_same, vs_upd_ge _ _ _ _ _ (Nat.le_refl _), hb, Nat.add_mul]
    have h4 := step_add (V := vs 65536 F k) (S := vs 65536 y k * d) (Y := 0) (s := p) (y := 0) (c := cy) (b := 65536) (n := k) (r := (p + cy) % 65536) (d := (p + cy) / 65536) (by omega) (by omega)
    rw [Nat.zero_mul] at h4
    have e : b * 65536 ^ k * d = p * 65536 ^ k := by rw [hp]; ac_rfl
    rw [e]
    omega

/-- The digits that guess looks at: zeros where there are none. -/
def at0 (f : Nat → Nat) (n j : Nat) : Nat := if j < n then f j else 0
def RGuessPost (w : World) (L Y : Nat) (e : Ending) (w' : World) : Prop := ∃ g : Nat, e = .returned (.int .u64 (g : Int)) ∧ g ≤ 65535 ∧ g * Y ≤ L ∧ w = w'

theorem rguess_one {g o y0 l1 l0 L : Nat} (hg : g ≤ o / (y0 * 65536 + 1)) (ho : o = (l1 * 65536 + l0) * 65536) (hL : l1 * 65536 + l0 ≤ L) : g * y0 ≤ L := by
  have h1 : g * (y0 * 65536 + 1) ≤ o := Nat.le_trans (Nat.mul_le_mul_right _ hg) (Nat.div_mul_le_self _ _)
  rw [Nat.mul_add, ← Nat.mul_assoc] at h1
  omega
theorem rguess_two {g o top P Y L : Nat} (hg : g ≤ o / (top + 1)) (hY : Y ≤ (top + 1) * P) (hL : o * P ≤ L) : g * Y ≤ L := by
  have h1 : g * (top + 1) ≤ o := Nat.le_trans (Nat.mul_le_mul_right _ hg) (Nat.div_mul_le_self _ _)
  have h2 : g * Y ≤ g * ((top + 1) * P) := Nat.mul_le_mul_left _ hY
  have h3 : g * (top + 1) * P ≤ o * P := Nat.mul_le_mul_right _ h1
  rw [Nat.mul_assoc] at h3
  omega
end Go.Proofs.YtadieepcpkpblaaDoor

namespace Go.Proofs.YtadieepcpkpblaaDoor
open Go.RowKit

theorem vs_two' (f : Nat → Nat) : vs 65536 f 2 = f 1 * 65536 + f 0 := by
  simp only [vs, Nat.pow_zero, Nat.mul_one, Nat.zero_add, Nat.pow_one]
  omega

/-- What t digits from n downwards come to. -/
def ovr (f : Nat → Nat) (p n : Nat) : Nat → Nat
  | 0 => 0
  | t + 1 => ovr f p n t * 65536 + (if t ≤ n then at0 f p (n - t) else 0)
theorem at0_lt {f : Nat → Nat} {p : Nat} (h : ∀ j, j < p → f j < 65536) (j : Nat) : at0 f p j < 65536 := by
  unfold at0; split
  · exact h j (by assumption)
  · omega
theorem ovr_lt {f : Nat → Nat} {p n : Nat} (h : ∀ j, j < p → f j < 65536) : ovr f p n 0 = 0 ∧ ovr f p n 1 ≤ 65535 ∧ ovr f p n 2 ≤ 4294967295 ∧ ovr f p n 3 ≤ 281474976710655 := by
  have d : ∀ t, (if t ≤ n then at0 f p (n - t) else 0) < 65536 := fun t => by
    split
    · exact at0_lt h _
    · omega
  have d0 := d 0
  have d1 := d 1
  have d2 := d 2
  have e1 : ovr f p n 1 = ovr f p n 0 * 65536 + (if 0 ≤ n then at0 f p (n - 0) else 0) := rfl
  have e2 : ovr f p n 2 = ovr f p n 1 * 65536 + (if 1 ≤ n then at0 f p (n - 1) else 0) := rfl
  have e3 : ovr f p n 3 = ovr f p n 2 * 65536 + (if 2 ≤ n then at0 f p (n - 2) else 0) := rfl
  have e0 : ovr f p n 0 = 0 := rfl
  refine ⟨e0, by omega, by omega, by omega⟩

theorem over_le {f : Nat → Nat} {p k L : Nat} (hL : vs 65536 f p = L) : ((at0 f p (k + 2) * 65536 + at0 f p (k + 1)) * 65536 + at0 f p k) * 65536 ^ k ≤ L := by
  have h1 : vs 65536 (at0 f p) (p + (k + 3)) = vs 65536 f p := vs_pad 65536 f p _ (by omega)
  rw [← hL, ← h1, show p + (k + 3) = k + (3 + p) by omega, vs_add, vs_add]
  have e : vs 65536 (fun j => at0 f p (k + j)) 3 = (at0 f p (k + 2) * 65536 + at0 f p (k + 1)) * 65536 + at0 f p k := by
    simp only [vs, Nat.pow_zero, Nat.mul_one, Nat.zero_add, Nat.pow_one, Nat.add_zero]
    omega
  rw [e, Nat.mul_comm]
  exact Nat.le_trans (Nat.mul_le_mul_left _ (Nat.le_add_right _ _)) (Nat.le_add_left _ _)
theorem ovr_three {f : Nat → Nat} {p k : Nat} : ovr f p (k + 2) 3 = (at0 f p (k + 2) * 65536 + at0 f p (k + 1)) * 65536 + at0 f p k := by
  have e1 : ovr f p (k + 2) 1 = ovr f p (k + 2) 0 * 65536 + (if 0 ≤ k + 2 then at0 f p (k + 2 - 0) else 0) := rfl
  have e2 : ovr f p (k + 2) 2 = ovr f p (k + 2) 1 * 65536 + (if 1 ≤ k + 2 then at0 f p (k + 2 - 1) else 0) := rfl
  have e3 : ovr f p (k + 2) 3 = ovr f p (k + 2) 2 * 65536 + (if 2 ≤ k + 2 then at0 f p (k + 2 - 2) else 0) := rfl
  have e0 : ovr f p (k + 2) 0 = 0 := rfl
  rw [e3, e2, e1, e0, if_pos (by omega), if_pos (by omega), if_pos (by omega), show k + 2 - 0 = k + 2 by omega, show k + 2 - 1 = k + 1 by omega, show k + 2 - 2 = k by omega]
  omega
theorem ovr_one {f : Nat → Nat} {p : Nat} : ovr f p 1 3 = (at0 f p 1 * 65536 + at0 f p 0) * 65536 := by
  have e1 : ovr f p 1 1 = ovr f p 1 0 * 65536 + (if 0 ≤ 1 then at0 f p (1 - 0) else 0) := rfl
  have e2 : ovr f p 1 2 = ovr f p 1 1 * 65536 + (if 1 ≤ 1 then at0 f p (1 - 1) else 0) := rfl
  have e3 : ovr f p 1 3 = ovr f p 1 2 * 65536 + (if 2 ≤ 1 then at0 f p (1 - 2) else 0) := rfl
  have e0 : ovr f p 1 0 = 0 := rfl
  rw [e3, e2, e1, e0, if_pos (by omega), if_pos (by omega), if_neg (by omega), show 1 - 0 = 1 by omega, show 1 - 1 = 0 by omega]
  omega

end Go.Proofs.YtadieepcpkpblaaDoor

namespace Go.Proofs.YtadieepcpkpblaaDoor
open Go.RowKit

/-- A literal of one word. -/
theorem Own.one (t : TypeId) (w : World) (a : Nat) (ha : a < B64) : Own t (w.alloc (.cells #[.int .u64 ((a : Nat) : Int)] t)) w.heap.size (.slice (some ⟨w.heap.size, 0, none⟩) 1 1) 1 (fun _ => a) :=
  ⟨⟨by rw [cellsOf_len], .inr ⟨w.heap.size, 1, _, rfl, Nat.le_refl _, heap_alloc_new w _, Nat.le_refl _, by simp only [maxLen]; omega, by simp, by rfl⟩⟩, fun _ _ => ha⟩

theorem vs_cat_one (b a : Nat) (R : Nat → Nat) (l : Nat) : vs b (cat (fun _ => a) 1 R) (1 + l) = a + b * vs b R l := by
  rw [vs_add, vs_succ, vs_zero]
  have e : vs b (fun j => cat (fun _ => a) 1 R (1 + j)) l = vs b R l := vs_congr fun j _ => by
    unfold cat; rw [if_neg (by omega), show 1 + j - 1 = j by omega]
  rw [e]; simp [cat]

/-- The digits from k on are done: their quotient lies in F, and rem is left. -/
def RDivInv (X F : Nat → Nat) (p k D rem : Nat) : Prop :=
  rem < D ∧ (∀ j, F j < 65536) ∧ vs 65536 (fun j => X (k + j)) (p - k) = vs 65536 (fun j => F (k + j)) (p - k) * D + rem

theorem rdiv_eq {X1 Q D rem a L low r : Nat} (h : X1 = Q * D + rem) (hL : a + 65536 * rem = L) (hr : L = low * D + r) : a + 65536 * X1 = (low + 65536 * Q) * D + r := by
  rw [h, Nat.mul_add, Nat.add_mul]
  have : 65536 * (Q * D) = 65536 * Q * D := by rw [Nat.mul_assoc]
  omega
theorem RDivInv.step {X F : Nat → Nat} {p i D rem a L low : Nat} (h : RDivInv X F p (i + 1) D rem) (hi : i < p) (ha : X i = a) (hL : a + 65536 * rem = L) (hlow : low < 65536) (h1 : low * D ≤ L) (h2 : L < (low + 1) * D) :
    RDivInv X (upd F i low) p i D (L - low * D) := by
  obtain ⟨hr, hF, hv⟩ := h
  refine ⟨?_, fun j => ?_, ?_⟩
  · rw [Nat.add_mul, Nat.one_mul] at h2; omega
  · unfold upd; split
    · exact hlow
    · exact hF j
  · obtain ⟨m, hm⟩ : ∃ m, p - i = m + 1 := ⟨p - i - 1, by omega⟩
    have hm' : p - (i + 1) = m := by omega
    rw [hm, vs_cons, vs_cons]
    rw [hm'] at hv
    have e1 : vs 65536 (fun j => X (i + (j + 1))) m = vs 65536 (fun j => X (i + 1 + j)) m := vs_congr fun j _ => by rw [show i + (j + 1) = i + 1 + j by omega]
    have e2 : vs 65536 (fun j => upd F i low (i + (j + 1))) m = vs 65536 (fun j => F (i + 1 + j)) m := vs_congr fun j _ => by rw [upd_other _ _ _ _ (by omega), show i + (j + 1) = i + 1 + j by omega]
    rw [e1, e2]
    simp only [Nat.add_zero]
    rw [upd_same, ha]
    exact rdiv_eq hv hL (by omega)
theorem low_lt {low D L a rem : Nat} (h1 : low * D ≤ L) (hL : a + 65536 * rem = L) (ha : a < 65536) (hr : rem < D) : low < 65536 := by
  have h : low * D < 65536 * D := by omega
  exact Nat.lt_of_mul_lt_mul_right h
theorem RDivInv.fin {X F : Nat → Nat} {p D rem : Nat} (h : RDivInv X F p 0 D rem) : vs 65536 F p = vs 65536 X p / D ∧ rem = vs 65536 X p % D := by
  obtain ⟨hr, _, hv⟩ := h
  simp only [Nat.zero_add, Nat.sub_zero] at hv
  rw [hv]
  refine ⟨?_, ?_⟩
  · rw [Nat.mul_comm, Nat.mul_add_div (by omega), Nat.div_eq_of_lt hr, Nat.add_zero]
  · rw [Nat.mul_comm, Nat.mul_add_mod, Nat.mod_eq_of_lt hr]

end Go.Proofs.YtadieepcpkpblaaDoor
