/-
  nat.raise: a number times 2 to the s.
-/
import Derived.Test.YthjndkkepailmaaKit
import Derived.Test.YthjndkkepailmaaView
import Derived.Test.YthjndkkepailmaaAdd
import Derived.Test.YthjndkkepailmaaShiftMath
namespace Go.Proofs.Ythjndkkepailmaa
open Go.RowKit

def RaiseInv (t : TypeId) (w wr : World) (g N W r : Nat) (x : Nat → Nat) (i : Nat) : Prop :=
  ∃ F, Row t wr g N F ∧ Below g w wr ∧ F (W + i) < 2 ^ r ∧ (∀ j, W + i < j → j < N → F j = 0) ∧ vs B64 F (W + i) + F (W + i) * B64 ^ (W + i) = vs B64 x i * B64 ^ W * 2 ^ r

theorem RaiseInv.step {t : TypeId} {w wr : World} {g N W r i xi : Nat} {x F : Nat → Nat} (hr : r ≤ 63) (hx : x i = xi) (hxB : xi < B64) (hrow : Row t wr g N F) (hb : Below g w wr) (hlt : F (W + i) < 2 ^ r)
    (hz : ∀ j, W + i < j → j < N → F j = 0) (hv : vs B64 F (W + i) + F (W + i) * B64 ^ (W + i) = vs B64 x i * B64 ^ W * 2 ^ r) :
    RaiseInv t w ((wr.setCell ⟨g, W + i, none⟩ (.int .u64 ((F (W + i) + xi * 2 ^ r % B64 : Nat) : Int))).setCell ⟨g, W + i + 1, none⟩ (.int .u64 ((xi / 2 ^ (64 - r) : Nat) : Int))) g N W r x (i + 1) := by
  have h1 := low_add_lt (F (W + i)) xi r (by omega) hlt
  have h2 := shr_lt xi r (by omega) hxB
  have h3 : xi / 2 ^ (64 - r) < B64 := Nat.lt_of_le_of_lt (Nat.div_le_self _ _) hxB
  refine ⟨_, (hrow.set_ (W + i) _ h1).set_ (W + i + 1) _ h3, (hb.setCell (Nat.le_refl _) _).setCell (Nat.le_refl _) _, ?_, fun j hj hjN => ?_, ?_⟩
  · rw [← Nat.add_assoc, upd_same]; exact h2
  · rw [upd_other _ _ _ _ (by omega), upd_other _ _ _ _ (by omega)]; exact hz j (by omega) hjN
  · rw [← Nat.add_assoc, upd_same, vs_upd_ge _ _ _ _ _ (Nat.le_refl _), vs_succ, upd_same, vs_upd_ge _ _ _ _ _ (Nat.le_refl _), step_shl (by omega) hv, vs_succ, hx]
    congr 1
    rw [Nat.add_mul, Nat.pow_add]
    congr 1
    ac_rfl

set_option maxHeartbeats 400000 in
theorem raise_core (A : Option Addr) (n c : Nat) (x : Nat → Nat) (s W r : Nat) (w : World) (ha : Sl w A n c x) (hn : n ≤ 400000) (hn0 : 0 < n) (hW : W ≤ 400000) (hr : r ≤ 63) (eW : (s : Int) / 64 = (W : Int)) (er : (s : Int) % 64 = (r : Int)) (hs : s ≤ 30000000) :
    Calls Try.prog 31 #[.slice A n c, .int .i64 (s : Int)] w (NumPost w (vs B64 x n * B64 ^ W * 2 ^ r)) := by
  have hmk : ∀ u : World, (Instr.makeSlice 22 (.int .i64 ((W : Int) + (n : Int) + 1)) (.int .i64 ((W : Int) + (n : Int) + 1))).run Try.prog u =
      .ok (.slice (some ⟨u.heap.size, 0, none⟩) (W + n + 1) (W + n + 1)) (u.alloc (.cells (madeCells #[.int .u64 0] (W + n + 1)) 25)) := fun u => by
    have h := make_run (W + n + 1) (by omega) u
    rw [Int.natCast_add, Int.natCast_add] at h
    exact h
  have zeros : ∀ k, vs B64 (fun _ => 0) k = 0 := fun k => by induction k with | zero => rfl | succ k ih => rw [vs_succ, ih]; simp
  have h00 : RaiseInv 25 w (w.alloc (.cells (madeCells #[.int .u64 0] (W + n + 1)) 25)) w.heap.size (W + n + 1) W r x 0 :=
    ⟨_, Row.made 25 w (W + n + 1), (Below.refl _ w).alloc (Nat.le_refl _) _, Nat.two_pow_pos _, fun _ _ _ => rfl, by simp [zeros, vs_zero]⟩
  clear zeros
  generalize hN : W + n + 1 = N at *
  have HN := Lib.hid hN
  have hN1 : W + n + 1 ≤ N := by omega
  have hN2 : N ≤ W + n + 1 := by omega
  clear hN
  have hn' : ((n : Int) == 0) = false := by simp; omega
  go_enter Try.func31, Try.ntmps31
  go_wp2_with fail
  clear eW er hmk
  go_loopw [26] (fun s26 wr => ∃ i : Nat, i ≤ n ∧ s26 = .int .i64 (i : Int) ∧ RaiseInv 25 w wr w.heap.size N W r x i) (fun s26 _ => n - (intOf s26).toNat)
  case atStart => exact ⟨0, Nat.zero_le _, rfl, h00⟩
  case round =>
    clear h00
    obtain ⟨i, hi, rfl, F, hrow, hb, hlt, hz, hv⟩ := hrel
    have HZ := Lib.hid hz
    have HV := Lib.hid hv
    clear hz hv
    by_cases hin : i < n
    · obtain ⟨ad, rfl, hb1, hx64, hcell⟩ := (ha.below hb).at_ hin
      have hst := Lib.hid (RaiseInv.step hr rfl hx64 hrow hb hlt HZ.out HV.out)
      have hrc := hrow.cell (i := W + i) (by omega)
      have hrf := hrow.frozen (W + i)
      have hFB := hrow.2 (W + i) (by omega)
      have eo : bits .or .u64 (F (W + i) : Int) (IntKind.u64.wrap ((x i : Int) * 2 ^ r)) = ((F (W + i) + x i * 2 ^ r % B64 : Nat) : Int) := by rw [shl_word]; exact low_or_int _ _ _ (by omega) hlt hFB
      have es : (x i : Int) / 2 ^ (64 - r) = ((x i / 2 ^ (64 - r) : Nat) : Int) := shr_word _ _
      have hrow2 := hrow.set_ (W + i) _ (low_add_lt (F (W + i)) (x i) r (by omega) hlt)
      have hrc2 := hrow2.cell (i := W + i + 1) (by omega)
      have hrf2 := hrow2.frozen (W + i + 1)
      clear hrow2
      generalize F (W + i) + x i * 2 ^ r % B64 = v1 at *
      generalize x i / 2 ^ (64 - r) = v2 at *
      go_wp2_with fail
      go_roundw
      case rel => exact ⟨i + 1, by omega, by go_num, hst.out⟩
      case measure => simp [intOf]; omega
    · obtain rfl : i = n := by omega
      go_wp2_with fail
      have hsl := hrow.sl0 N N (Nat.le_refl _) (Nat.le_refl _)
      refine (view_raw _ N N _ wr hsl (by omega)).mono ?_
      rintro e w5 ⟨rfl, rfl⟩
      go_wp2_with fail
      go_ret
      have hnum := viewV_num hsl
      have e1 : vs B64 F N = vs B64 x i * B64 ^ W * 2 ^ r := by rw [← HN.out, vs_succ, HV.out]
      rw [e1] at hnum
      exact ⟨_, rfl, hnum, hb⟩

theorem raise_any (A : Option Addr) (n c : Nat) (x : Nat → Nat) (s : Nat) (w : World) (ha : Sl w A n c x) (hn : n ≤ 400000) (hs : s ≤ 20000000) :
    Calls Try.prog 31 #[.slice A n c, .int .i64 (s : Int)] w (NumPost w (vs B64 x n * 2 ^ s)) := by
  rcases Nat.eq_zero_or_pos n with h0 | h0
  · subst h0
    rw [vs_zero, Nat.zero_mul]
    go_enter Try.func31, Try.ntmps31
    go_wp2_with fail
    go_ret
    exact ⟨_, rfl, ⟨none, 0, 0, x, rfl, Sl.none_ _ _ _ _, .inl rfl, rfl⟩, Below.refl _ _⟩
  · rw [pow_split s, ← Nat.mul_assoc]
    exact raise_core A n c x s (s / 64) (s % 64) w ha hn h0 (by omega) (by omega) (by omega) (by omega) (by omega)
end Go.Proofs.Ythjndkkepailmaa
