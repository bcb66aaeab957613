/-
  volvelleref01.times: digits by a digit; volvelleref01.guess: a digit that isn't too great.
-/
import Derived.Test.YtigobkjbckgniaaRef4
import Derived.Test.YtigobkjbckgniaaDivMath
namespace Go.Proofs.Ytigobkjbckgniaa
open Go.RowKit

/-- k digits of y by d are done; cy is carried. -/
def TimesInv (F y : Nat → Nat) (d k cy : Nat) : Prop := (∀ j, j < k → F j < 65536) ∧ vs 65536 F k + cy * 65536 ^ k = vs 65536 y k * d
theorem carry_small {D V cy k Y d : Nat} (hD : 0 < D) (h : V + cy * D ^ k = Y * d) (hY : Y < D ^ k) (hd : d ≤ D) : cy < D := by
  have hp : 0 < D ^ k := Nat.pow_pos hD
  have h1 : Y * d ≤ Y * D := Nat.mul_le_mul_left _ hd
  have h2 : Y * D < D ^ k * D := Nat.mul_lt_mul_of_pos_right hY hD
  have h3 : cy * D ^ k < D * D ^ k := by rw [Nat.mul_comm D]; omega
  exact Nat.lt_of_mul_lt_mul_right h3
theorem TimesInv.carry {F y : Nat → Nat} {d k cy : Nat} (h : TimesInv F y d k cy) (hy : ∀ j, j < k → y j < 65536) (hd : d ≤ 65536) : cy < 65536 :=
  carry_small (D := 65536) (by omega) h.2 (vs_lt hy) hd
theorem TimesInv.step {F y : Nat → Nat} {d k cy b p : Nat} (h : TimesInv F y d k cy) (hb : y k = b) (hp : p = b * d) : TimesInv (upd F k ((p + cy) % 65536)) y d (k + 1) ((p + cy) / 65536) := by
  obtain ⟨h2, h3⟩ := h
  refine ⟨fun j hj => ?_, ?_⟩
  · unfold upd; split
    · omega
    · exact h2 j (by omega)
  · rw [vs_succ, vs_succ, upd_same, vs_upd_ge _ _ _ _ _ (Nat.le_refl _), hb, Nat.add_mul]
    have h4 := step_add (V := vs 65536 F k) (S := vs 65536 y k * d) (Y := 0) (s := p) (y := 0) (c := cy) (b := 65536) (n := k) (r := (p + cy) % 65536) (d := (p + cy) / 65536) (by omega) (by omega)
    rw [Nat.zero_mul] at h4
    have e : b * 65536 ^ k * d = p * 65536 ^ k := by rw [hp]; ac_rfl
    rw [e]
    omega

set_option maxHeartbeats 400000 in
theorem times_any (A : Option Addr) (n c : Nat) (y : Nat → Nat) (d : Nat) (w : World) (hs : Sl w A n c y) (hy : ∀ j, j < n → y j < 65536) (hn : n ≤ 500000) (hd : d ≤ 65536) :
    Calls Try.prog 48 #[.slice A n c, .int .u64 (d : Int)] w (DigPost w (n + 1) (vs 65536 y n * d)) := by
  have G := Lib.hid hy
  clear hy
  go_enter Try.func48, Try.ntmps48
  go_wp2_with fail
  go_loopw [5, 6, 7] (fun v s6 s7 wr => ∃ k cy F, k ≤ n ∧ s7 = .int .i64 ((k : Nat) : Int) ∧ s6 = .int .u64 ((cy : Nat) : Int) ∧ Own 38 wr w.heap.size v k F ∧ TimesInv F y d k cy ∧ Below w.heap.size w wr) (fun _ _ i _ => n - (intOf i).toNat)
  case atStart => exact ⟨0, 0, y, Nat.zero_le _, rfl, rfl, Own.nil _ _ _ _, ⟨fun j h => absurd h (by omega), by rw [vs_zero, Nat.zero_mul, Nat.zero_mul]⟩, Below.refl _ _⟩
  case round =>
    obtain ⟨k, cy, F, hk, rfl, rfl, hown, hinv, hbw⟩ := hrel
    have hcy := hinv.carry (fun j hj => G.out j (by omega)) hd
    by_cases hlt : k < n
    · obtain ⟨ad, rfl, hb1, _, hc1⟩ := (hs.below hbw).at_ hlt
      have g1 := G.out k hlt
      have hpb : y k * d ≤ 4294901760 := by have : y k * d ≤ 65535 * 65536 := Nat.mul_le_mul (by omega) (by omega); omega
      have em : IntKind.u64.wrap ((y k : Int) * (d : Int)) = ((y k * d : Nat) : Int) := by rw [← Int.natCast_mul]; exact u64_nat _ (by omega)
      have hst := Lib.hid (hinv.step rfl rfl)
      generalize y k * d = p at *
      generalize y k = b at *
      go_wp2_with (at_builtin; refine wpList_append_int rfl (.tmp 23) (.tmp 26) 22 rfl w.heap.size 38 Try.underlying22 info64 _ k F rfl hown ((p + cy) % 65536) _ (by omega) rfl (by unfold B64; omega) (by omega) hbw.size ?_; intro v1 w3 hown1 hbel)
      go_roundw
      case rel => exact ⟨k + 1, (p + cy) / 65536, _, by omega, by go_num, by go_num, hown1, hst.out, hbel _ _ (Nat.le_refl _) hbw⟩
      case measure => simp [intOf]; omega
    · obtain rfl : k = n := by omega
      have hfin : Hid (vs 65536 (upd F k cy) (k + 1) = vs 65536 y k * d) := Lib.hid (by rw [vs_succ, upd_same, vs_upd_ge _ _ _ _ _ (Nat.le_refl _), hinv.2])
      have hdig : Hid (∀ j, j < k + 1 → upd F k cy j < 65536) := Lib.hid (fun j hj => by
        unfold upd; split
        · omega
        · exact hinv.1 j (by omega))
      go_wp2_with (at_builtin; refine wpList_append_int rfl (.tmp 30) (.tmp 32) 22 rfl w.heap.size 38 Try.underlying22 info64 _ k F rfl hown cy _ rfl rfl (by unfold B64; omega) (by omega) hbw.size ?_; intro v1 w3 hown1 hbel)
      have hb3 := hbel _ _ (Nat.le_refl _) hbw
      obtain ⟨A3, c5, rfl, s3, _⟩ := hown1.sl
      refine (cut_any A3 (k + 1) c5 _ w3 s3 (by omega)).mono ?_
      rintro e w4 ⟨rfl, rfl⟩
      go_wp2_with fail
      go_ret
      have l := tl_le (upd F k cy) (k + 1)
      exact ⟨A3, _, c5, _, rfl, s3.take l, l, fun j hj => hdig.out j (by omega), tl_cn _ _, by rw [vs_tl, hfin.out], hb3⟩

/-- The digits that guess looks at: zeros where there are none. -/
def at0 (f : Nat → Nat) (n j : Nat) : Nat := if j < n then f j else 0
def RGuessPost (w : World) (L Y : Nat) (e : Ending) (w' : World) : Prop := ∃ g : Nat, e = .returned (.int .u64 (g : Int)) ∧ g ≤ 65535 ∧ g * Y ≤ L ∧ w = w'

theorem rguess_one {g o y0 l1 l0 L : Nat} (hg : g ≤ o / (y0 * 65536 + 1)) (ho : o = (l1 * 65536 + l0) * 65536) (hL : l1 * 65536 + l0 ≤ L) : g * y0 ≤ L := by
  have h1 : g * (y0 * 65536 + 1) ≤ o := Nat.le_trans (Nat.mul_le_mul_right _ hg) (Nat.div_mul_le_self _ _)
  rw [Nat.mul_add, ← Nat.mul_assoc] at h1
  omega
theorem rguess_two {g o top P Y L : Nat} (hg : g ≤ o / (top + 1)) (hY : Y ≤ (top + 1) * P) (hL : o * P ≤ L) : g * Y ≤ L := by
  have h1 : g * (top + 1) ≤ o := Nat.le_trans (Nat.mul_le_mul_right _ hg) (Nat.div_mul_le_self _ _)
  have h2 : g * Y ≤ g * ((top + 1) * P) := Nat.mul_le_mul_left _ hY
  have h3 : g * (top + 1) * P ≤ o * P := Nat.mul_le_mul_right _ h1
  rw [Nat.mul_assoc] at h3
  omega
end Go.Proofs.Ytigobkjbckgniaa
