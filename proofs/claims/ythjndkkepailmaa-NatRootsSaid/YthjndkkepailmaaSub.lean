/-
  nat.subFrom, nat.Sub: differences.
-/
import Derived.Test.YthjndkkepailmaaKit
import Derived.Test.YthjndkkepailmaaView
import Derived.Test.YthjndkkepailmaaCmp
import Derived.Test.YthjndkkepailmaaAdd
import Derived.Shelf.Spec.BitsCarry
namespace Go.Proofs.Ythjndkkepailmaa
open Go.RowKit

theorem sub64_run (x y b : Nat) (hx : x < B64) (hy : y < B64) (hb : b ≤ 1) (w : World) :
    ∃ r d : Nat, r + (y + b) = x + d * B64 ∧ r < B64 ∧ d ≤ 1 ∧
      (callFunc 52 #[.int .u64 x, .int .u64 y, .int .u64 b]).run Try.prog w = .ok (.value (.tuple #[.int .u64 (r : Int), .int .u64 (d : Int)])) w := by
  refine ⟨(x + 18446744073709551616 - y - b) % 18446744073709551616, if x < y + b then 1 else 0, ?_, ?_, ?_, ?_⟩
  · unfold B64 at *; split <;> omega
  · unfold B64; omega
  · split <;> omega
  · rw [run_callFunc_extern Try.func52 (by kernel_rfl) (by kernel_rfl) (by kernel_rfl) (e := sub64Entry) (by kernel_rfl), run_sub64 x y b hb]
    rfl

/-- What holds while y (m words) is taken from n words of a row from off on: k places are done, d is borrowed. -/
def SubInv (t : TypeId) (D : Nat) (w wr : World) (g N off : Nat) (F F' y : Nat → Nat) (m k d : Nat) : Prop :=
  d ≤ D ∧ Row t wr g N F' ∧ Only w wr g ∧ (∀ j, j < off ∨ off + k ≤ j → F' j = F j) ∧
    vs B64 (fun j => F' (off + j)) k + vs B64 (fun j => if j < m then y j else 0) k = vs B64 (fun j => F (off + j)) k + d * B64 ^ k

theorem step_sub {V S Y c b n s y r d : Nat} (h : V + Y = S + c * b ^ n) (hr : r + (y + c) = s + d * b) : V + r * b ^ n + (Y + y * b ^ n) = S + s * b ^ n + d * b ^ (n + 1) := by
  have h1 : (r + (y + c)) * b ^ n = (s + d * b) * b ^ n := by rw [hr]
  rw [Nat.add_mul, Nat.add_mul, Nat.add_mul] at h1
  have h2 : d * b ^ (n + 1) = d * b * b ^ n := by rw [Nat.pow_succ]; ac_rfl
  omega

section
variable {t : TypeId} {w wr : World} {g N off : Nat} {F F' y : Nat → Nat} {m k d D : Nat}
theorem SubInv.start (h : Row t w g N F) : SubInv t D w w g N off F F y m 0 0 := ⟨Nat.zero_le _, h, Only.refl _ _, fun _ _ => rfl, by simp [vs_zero]⟩
theorem SubInv.step (h : SubInv t D w wr g N off F F' y m k d) {r d' : Nat} (hr : r + ((if k < m then y k else 0) + d) = F (off + k) + d' * B64) (h1 : r < B64) (h2 : d' ≤ D) :
    SubInv t D w (wr.setCell ⟨g, off + k, none⟩ (.int .u64 ((r : Nat) : Int))) g N off F (upd F' (off + k) r) y m (k + 1) d' := by
  obtain ⟨_, hrow, hon, hag, hv⟩ := h
  refine ⟨h2, hrow.set_ _ _ h1, hon.set_ _ _, fun j hj => ?_, ?_⟩
  · rw [upd_other _ _ _ _ (by omega)]; exact hag j (by omega)
  · rw [vs_succ, vs_succ, vs_succ, upd_same]
    have e : vs B64 (fun j => upd F' (off + k) r (off + j)) k = vs B64 (fun j => F' (off + j)) k := vs_congr fun j hj => upd_other _ _ _ _ (by omega)
    rw [e]
    exact step_sub hv hr
theorem SubInv.rest (h : SubInv t D w wr g N off F F' y m k 0) (hm : m ≤ k) (i : Nat) : SubInv t D w wr g N off F F' y m (k + i) 0 := by
  induction i with
  | zero => exact h
  | succ i ih =>
    obtain ⟨_, hrow, hon, hag, hv⟩ := ih
    refine ⟨Nat.zero_le _, hrow, hon, fun j hj => h.2.2.2.1 j (by omega), ?_⟩
    rw [← Nat.add_assoc, vs_succ, vs_succ, vs_succ, if_neg (by omega), h.2.2.2.1 (off + (k + i)) (by omega)]
    simp only [Nat.zero_mul, Nat.add_zero] at hv ⊢
    omega
end

def SubPost (t : TypeId) (w : World) (g N off n : Nat) (F y : Nat → Nat) (m : Nat) (e : Ending) (w' : World) : Prop :=
  e = .returned (.tuple #[]) ∧ ∃ F' d, SubInv t 1 w w' g N off F F' y m n d

set_option maxHeartbeats 400000 in
theorem subFrom_any (g off n c N : Nat) (F : Nat → Nat) (A : Option Addr) (m cb : Nat) (y : Nat → Nat) (w : World) (hr : Row 25 w g N F) (hoff : off + n ≤ N) (hN : N ≤ 1000000)
    (hy : Sl w A m cb y) (hmn : m ≤ n) (hne : 0 < m → ∀ ad, A = some ad → ad.block ≠ g) :
    Calls Try.prog 47 #[.slice (some ⟨g, off, none⟩) n c, .slice A m cb] w (SubPost 25 w g N off n F y m) := by
  go_enter Try.func47, Try.ntmps47
  go_wp2
  go_loopw [4, 10] (fun cy i wr => ∃ k d F', k ≤ m ∧ i = .int .i64 ((k : Nat) : Int) ∧ cy = .int .u64 ((d : Nat) : Int) ∧ SubInv 25 1 w wr g N off F F' y m k d) (fun _ i _ => m - (intOf i).toNat)
  case atStart => exact ⟨0, 0, F, Nat.zero_le _, rfl, rfl, SubInv.start hr⟩
  case round =>
    obtain ⟨k, d, F', hk, rfl, rfl, hinv⟩ := hrel
    by_cases hlt : k < m
    · obtain ⟨ad, rfl, hb, hx64, hcell⟩ := (hy.only hinv.2.2.1 hne).at_ hlt
      have hrc := hinv.2.1.cell (i := off + k) (by omega)
      have hrf := hinv.2.1.frozen (off + k)
      have hF : Hid (F' (off + k) = F (off + k)) := hinv.2.2.2.1 _ (by omega)
      have hFs := hinv.2.1.2 (off + k) (by omega)
      obtain ⟨r, d', h1, h2, h3, h4⟩ := sub64_run (F' (off + k)) (y k) d hFs hx64 hinv.1 wr
      have H1 := Lib.hid h1
      clear h1
      go_wp2
      go_roundw
      case rel => exact ⟨k + 1, d', upd F' (off + k) r, by omega, by go_num, rfl, hinv.step (by rw [← hF.out, if_pos hlt]; exact H1.out) h2 h3⟩
      case measure => simp [intOf]; omega
    · obtain rfl : k = m := by omega
      clear hlt hk
      go_wp2
      go_loopw [4, 7] (fun cy i wr => ∃ q d F', k ≤ q ∧ q ≤ n ∧ i = .int .i64 ((q : Nat) : Int) ∧ cy = .int .u64 ((d : Nat) : Int) ∧ SubInv 25 1 w wr g N off F F' y k q d) (fun _ i _ => n - (intOf i).toNat)
      case atStart => exact ⟨k, d, F', Nat.le_refl _, hmn, rfl, rfl, hinv⟩
      case round =>
        clear hinv
        obtain ⟨q, d, F', hq, hqn, rfl, rfl, hinv⟩ := hrel
        by_cases hlt : q < n
        · by_cases hd : d = 0
          · subst hd
            go_wp2
            go_end0
            exact ⟨rfl, F', 0, by have := hinv.rest hq (n - q); rwa [Nat.add_sub_cancel' hqn] at this⟩
          · have hdn : ((d : Int) != 0) = true := by simp; omega
            have hrc := hinv.2.1.cell (i := off + q) (by omega)
            have hrf := hinv.2.1.frozen (off + q)
            have hF : Hid (F' (off + q) = F (off + q)) := hinv.2.2.2.1 _ (by omega)
            have hFs := hinv.2.1.2 (off + q) (by omega)
            obtain ⟨r, d', h1, h2, h3, h4⟩ := sub64_run (F' (off + q)) 0 d hFs B64_pos hinv.1 wr
            rw [show ((0 : Nat) : Int) = 0 from rfl] at h4
            have H1 := Lib.hid h1
            clear h1
            go_wp2
            go_roundw
            case rel => exact ⟨q + 1, d', upd F' (off + q) r, by omega, by omega, by go_num, rfl, hinv.step (by rw [← hF.out, if_neg (by omega)]; exact H1.out) h2 h3⟩
            case measure => simp [intOf]; omega
        · obtain rfl : q = n := by omega
          go_wp2
          go_end0
          exact ⟨rfl, F', d, hinv⟩
end Go.Proofs.Ythjndkkepailmaa
