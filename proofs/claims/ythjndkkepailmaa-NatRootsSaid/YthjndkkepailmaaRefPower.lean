/-
  volvelleref01.power: 2 to the n.
-/
import Derived.Test.YthjndkkepailmaaRoot2
namespace Go.Proofs.Ythjndkkepailmaa
open Go.RowKit

theorem vs_single (W P : Nat) : vs B64 (upd (fun _ => 0) W P) (W + 1) = P * B64 ^ W := by
  rw [vs_succ, upd_same, vs_upd_ge _ _ _ _ _ (Nat.le_refl _)]
  have : ∀ k, vs B64 (fun _ => 0) k = 0 := fun k => by
    induction k with
    | zero => rfl
    | succ k ih => rw [vs_succ, ih, Nat.zero_mul]
  rw [this, Nat.zero_add]

set_option maxHeartbeats 400000 in
theorem power_core (s W r P : Nat) (w : World) (hW : W ≤ 400000) (eW : (s : Int) / 64 = (W : Int)) (er : (s : Int) % 64 = (r : Int)) (hs : s ≤ 30000000)
    (eP : IntKind.u64.wrap ((2 : Int) ^ r) = (P : Int)) (hP1 : 1 ≤ P) (hP2 : P ≤ 9223372036854775808) :
    Calls Try.prog 18 #[.int .i64 (s : Int)] w (NumPost w (P * B64 ^ W)) := by
  have hmk : (Instr.makeSlice 22 (.int .i64 ((W : Int) + 1)) (.int .i64 ((W : Int) + 1))).run Try.prog w =
      .ok (.slice (some ⟨w.heap.size, 0, none⟩) (W + 1) (W + 1)) (w.alloc (.cells (madeCells #[.int .u64 0] (W + 1)) 25)) := make_run (W + 1) (by omega) w
  have hrow := Row.made 25 w (W + 1)
  have hbe : Below w.heap.size w (w.alloc (.cells (madeCells #[.int .u64 0] (W + 1)) 25)) := (Below.refl _ w).alloc (Nat.le_refl _) _
  generalize w.alloc (.cells (madeCells #[.int .u64 0] (W + 1)) 25) = w1 at *
  have hrc := hrow.cell (i := W) (by omega)
  have hrf := hrow.frozen W
  have hrow3 := hrow.set_ W P (by unfold B64; omega)
  have b3 := hbe.setCell (p := ⟨w.heap.size, W, none⟩) (Nat.le_refl _) (.int .u64 ((P : Nat) : Int))
  go_enter Try.func18, Try.ntmps18
  go_wp2_with fail
  go_ret
  refine ⟨_, rfl, ⟨_, W + 1, W + 1, _, rfl, hrow3.sl0 (W + 1) (W + 1) (Nat.le_refl _) (Nat.le_refl _), .inr ?_, vs_single W P⟩, b3⟩
  rw [Nat.add_sub_cancel, upd_same]; omega

theorem power_any (s : Nat) (w : World) (hs : s ≤ 20000000) : Calls Try.prog 18 #[.int .i64 (s : Int)] w (NumPost w (2 ^ s)) := by
  rw [pow_split s, Nat.mul_comm]
  have hr : s % 64 ≤ 63 := by omega
  have h63 : 2 ^ (s % 64) ≤ 2 ^ 63 := Nat.pow_le_pow_right (by omega) hr
  refine power_core s (s / 64) (s % 64) (2 ^ (s % 64)) w (by omega) (by omega) (by omega) (by omega) ?_ (Nat.two_pow_pos _) h63
  have e := shl_word 1 (s % 64)
  have e2 : 2 ^ (s % 64) % B64 = 2 ^ (s % 64) := Nat.mod_eq_of_lt (by rw [B64_pow]; exact Nat.lt_of_le_of_lt h63 (by decide))
  rw [Nat.one_mul, e2, show ((1 : Nat) : Int) * 2 ^ (s % 64) = 2 ^ (s % 64) by simp] at e
  exact e
end Go.Proofs.Ythjndkkepailmaa
