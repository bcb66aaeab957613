/-
  nat.subTimes: x times b is taken from words.
-/
import Derived.Test.YthjndkkepailmaaSub
import Derived.Test.YthjndkkepailmaaMul
namespace Go.Proofs.Ythjndkkepailmaa
open Go.RowKit

theorem sub_times_step {x y s c H L l1 o1 h1 d1 r o2 c' d2 : Nat} (hx : x < B64) (hy : y < B64) (hc : c < B64) (hr : r < B64) (hp : H * B64 + L = x * y) (e1 : l1 + o1 * B64 = L + c + 0) (e2 : h1 + d1 * B64 = H + 0 + o1)
    (e3 : r + (l1 + 0) = s + o2 * B64) (e4 : c' + d2 * B64 = h1 + 0 + o2) : r + (x * y + c) = s + c' * B64 := by
  have hB := B64_pos
  have ht : x * y ≤ (B64 - 1) * (B64 - 1) := Nat.mul_le_mul (by omega) (by omega)
  have hsq : (B64 - 1) * (B64 - 1) + 2 * B64 = B64 * B64 + 1 := by
    obtain ⟨k, hk⟩ : ∃ k, B64 = k + 1 := ⟨B64 - 1, by omega⟩
    rw [hk]; simp only [Nat.add_sub_cancel, Nat.add_mul, Nat.mul_add]; omega
  have h0 : s + (H + o1 + o2) * B64 = r + (x * y + c) := by rw [Nat.add_mul, Nat.add_mul]; omega
  have hlt : H + o1 + o2 < B64 := by
    rcases Nat.lt_or_ge (H + o1 + o2) B64 with h | h
    · exact h
    · have h5 : B64 * B64 ≤ (H + o1 + o2) * B64 := Nat.mul_le_mul_right _ h
      omega
  have z1 : d1 = 0 := by
    rcases Nat.eq_zero_or_pos d1 with h | h
    · exact h
    · have : 1 * B64 ≤ d1 * B64 := Nat.mul_le_mul_right _ h
      omega
  subst z1
  have z2 : d2 = 0 := by
    rcases Nat.eq_zero_or_pos d2 with h | h
    · exact h
    · have : 1 * B64 ≤ d2 * B64 := Nat.mul_le_mul_right _ h
      omega
  subst z2
  have e5 : c' = H + o1 + o2 := by omega
  rw [e5]; omega

def SubTimesPost (t : TypeId) (w : World) (g N off : Nat) (F : Nat → Nat) (y : Nat → Nat) (m x : Nat) (e : Ending) (w' : World) : Prop :=
  ∃ F' d, e = .returned (.int .u64 ((d : Nat) : Int)) ∧ SubInv t (B64 - 1) w w' g N off F F' (fun j => x * y j) m m d

set_option maxHeartbeats 1000000 in
theorem subTimes_any (g off n c N : Nat) (F : Nat → Nat) (A : Option Addr) (m cb : Nat) (y : Nat → Nat) (x : Nat) (w : World) (hr : Row 25 w g N F) (hoff : off + m ≤ N) (hN : N ≤ 1000000) (hcap : n ≤ c)
    (hy : Sl w A m cb y) (hmn : m ≤ n) (hne : 0 < m → ∀ ad, A = some ad → ad.block ≠ g) (hx : x < B64) :
    Calls Try.prog 54 #[.slice (some ⟨g, off, none⟩) n c, .slice A m cb, .int .u64 (x : Int)] w (SubTimesPost 25 w g N off F y m x) := by
  go_enter Try.func54, Try.ntmps54
  go_wp2
  go_loopw [7, 19] (fun cy i wr => ∃ k d F', k ≤ m ∧ i = .int .i64 ((k : Nat) : Int) ∧ cy = .int .u64 ((d : Nat) : Int) ∧ SubInv 25 (B64 - 1) w wr g N off F F' (fun j => x * y j) m k d) (fun _ i _ => m - (intOf i).toNat)
  case atStart => exact ⟨0, 0, F, Nat.zero_le _, rfl, rfl, SubInv.start hr⟩
  case round =>
    obtain ⟨k, d, F', hk, rfl, rfl, hinv⟩ := hrel
    by_cases hlt : k < m
    · obtain ⟨ad, rfl, hb, hy64, hcell⟩ := (hy.only hinv.2.2.1 hne).at_ hlt
      have hrc := hinv.2.1.cell (i := off + k) (by omega)
      have hrf := hinv.2.1.frozen (off + k)
      have hF : Hid (F' (off + k) = F (off + k)) := hinv.2.2.2.1 _ (by omega)
      have hFs := hinv.2.1.2 (off + k) (by omega)
      have hd64 : d < B64 := by have := hinv.1; have := B64_pos; omega
      obtain ⟨H, L, hp, hH, hL, hmul⟩ := mul64_run x (y k) hx hy64 wr
      obtain ⟨l1, o1, e1, g1, g1', a1⟩ := add64_run L d 0 (by omega) wr
      have ho1 := g1' hL hd64
      obtain ⟨h1, d1, e2, g2, g2', a2⟩ := add64_run H 0 o1 ho1 wr
      obtain ⟨r, o2, e3, g3, g3', a3⟩ := sub64_run (F' (off + k)) l1 0 hFs g1 (by omega) wr
      obtain ⟨c', d2, e4, g4, g4', a4⟩ := add64_run h1 0 o2 g3' (wr.setCell ⟨g, off + k, none⟩ (.int .u64 (r : Int)))
      rw [show ((0 : Nat) : Int) = 0 from rfl] at a1 a2 a3 a4
      have key : Hid (r + (x * y k + d) = F' (off + k) + c' * B64) := Lib.hid (sub_times_step hx hy64 hd64 g3 hp e1 e2 e3 e4)
      have HM := Lib.hid hmul
      clear hp e1 e2 e3 e4 g1' g2' g4' hmul
      go_wp2_with fail
      refine HM.out.mono ?_
      rintro e w' ⟨rfl, rfl⟩
      go_wp2_with fail
      go_roundw
      case rel => exact ⟨k + 1, c', upd F' (off + k) r, by omega, by go_num, rfl, hinv.step (by rw [← hF.out, if_pos hlt]; exact key.out) g3 (by omega)⟩
      case measure => simp [intOf]; omega
    · obtain rfl : k = m := by omega
      go_wp2
      go_ret
      exact ⟨F', d, rfl, hinv⟩
end Go.Proofs.Ythjndkkepailmaa
