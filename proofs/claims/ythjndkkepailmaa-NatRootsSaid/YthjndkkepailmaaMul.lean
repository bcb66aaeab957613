/-
  nat.addTimes: x times b is added into words; nat.Mul: products.
-/
import Derived.Test.YthjndkkepailmaaKit
import Derived.Test.YthjndkkepailmaaView
import Derived.Test.YthjndkkepailmaaAdd
import Derived.Test.YthjndkkepailmaaShelf
namespace Go.Proofs.Ythjndkkepailmaa
open Go.RowKit

/-- The carry of one step of a product fits a word. -/
theorem mul_step {x y s c H L l1 o1 h1 d1 r o2 c' d2 : Nat} (hx : x < B64) (hy : y < B64) (hs : s < B64) (hc : c < B64) (hp : H * B64 + L = x * y) (e1 : l1 + o1 * B64 = L + s + 0) (e2 : h1 + d1 * B64 = H + 0 + o1)
    (e3 : r + o2 * B64 = l1 + c + 0) (e4 : c' + d2 * B64 = h1 + 0 + o2) : r + c' * B64 = s + x * y + c := by
  have hB := B64_pos
  have ht : x * y ≤ (B64 - 1) * (B64 - 1) := Nat.mul_le_mul (by omega) (by omega)
  have hsq : (B64 - 1) * (B64 - 1) + 2 * B64 = B64 * B64 + 1 := by
    obtain ⟨k, hk⟩ : ∃ k, B64 = k + 1 := ⟨B64 - 1, by omega⟩
    rw [hk]; simp only [Nat.add_sub_cancel, Nat.add_mul, Nat.mul_add]; omega
  have h0 : (H + o1 + o2) * B64 + r = s + x * y + c := by rw [Nat.add_mul, Nat.add_mul]; omega
  have hlt : H + o1 + o2 < B64 := by
    rcases Nat.lt_or_ge (H + o1 + o2) B64 with h | h
    · exact h
    · have h5 : B64 * B64 ≤ (H + o1 + o2) * B64 := Nat.mul_le_mul_right _ h
      omega
  have z1 : d1 = 0 := by
    rcases Nat.eq_zero_or_pos d1 with h | h
    · exact h
    · have : 1 * B64 ≤ d1 * B64 := Nat.mul_le_mul_right _ h
      omega
  subst z1
  have z2 : d2 = 0 := by
    rcases Nat.eq_zero_or_pos d2 with h | h
    · exact h
    · have : 1 * B64 ≤ d2 * B64 := Nat.mul_le_mul_right _ h
      omega
  subst z2
  have e5 : c' = H + o1 + o2 := by omega
  rw [e5]; omega

theorem mul64_run (x y : Nat) (hx : x < B64) (hy : y < B64) (w : World) :
    ∃ H L : Nat, H * B64 + L = x * y ∧ H < B64 ∧ L < B64 ∧ Calls Try.prog 44 #[.int .u64 x, .int .u64 y] w fun e w' => e = .returned (.tuple #[.int .u64 (H : Int), .int .u64 (L : Int)]) ∧ w' = w := by
  refine ⟨x * y / 18446744073709551616, x * y % 18446744073709551616, ?_, ?_, ?_, Try.bits_Mul64 x y hx hy w⟩
  · unfold B64; omega
  · unfold B64 at *
    exact Nat.div_lt_of_lt_mul (Nat.mul_lt_mul'' hx hy)
  · unfold B64; omega

def TimesPost (t : TypeId) (w : World) (g N off : Nat) (F : Nat → Nat) (y : Nat → Nat) (m x : Nat) (e : Ending) (w' : World) : Prop :=
  ∃ F' d, e = .returned (.int .u64 ((d : Nat) : Int)) ∧ AddInv t (B64 - 1) w w' g N off F F' (fun j => x * y j) m m d

set_option maxHeartbeats 1000000 in
theorem addTimes_any (g off n c N : Nat) (F : Nat → Nat) (A : Option Addr) (m cb : Nat) (y : Nat → Nat) (x : Nat) (w : World) (hr : Row 25 w g N F) (hoff : off + m ≤ N) (hN : N ≤ 1000000) (hcap : n ≤ c)
    (hy : Sl w A m cb y) (hmn : m ≤ n) (hne : 0 < m → ∀ ad, A = some ad → ad.block ≠ g) (hx : x < B64) :
    Calls Try.prog 25 #[.slice (some ⟨g, off, none⟩) n c, .slice A m cb, .int .u64 (x : Int)] w (TimesPost 25 w g N off F y m x) := by
  go_enter Try.func25, Try.ntmps25
  go_wp2
  go_loopw [7, 19] (fun cy i wr => ∃ k d F', k ≤ m ∧ i = .int .i64 ((k : Nat) : Int) ∧ cy = .int .u64 ((d : Nat) : Int) ∧ AddInv 25 (B64 - 1) w wr g N off F F' (fun j => x * y j) m k d) (fun _ i _ => m - (intOf i).toNat)
  case atStart => exact ⟨0, 0, F, Nat.zero_le _, rfl, rfl, AddInv.start hr⟩
  case round =>
    obtain ⟨k, d, F', hk, rfl, rfl, hinv⟩ := hrel
    by_cases hlt : k < m
    · obtain ⟨ad, rfl, hb, hy64, hcell⟩ := (hy.only hinv.2.2.1 hne).at_ hlt
      have hrc := hinv.2.1.cell (i := off + k) (by omega)
      have hrf := hinv.2.1.frozen (off + k)
      have hF : Hid (F' (off + k) = F (off + k)) := hinv.2.2.2.1 _ (by omega)
      have hFs := hinv.2.1.2 (off + k) (by omega)
      have hd64 : d < B64 := by have := hinv.1; have := B64_pos; omega
      obtain ⟨H, L, hp, hH, hL, hmul⟩ := mul64_run x (y k) hx hy64 wr
      obtain ⟨l1, o1, e1, g1, g1', a1⟩ := add64_run L (F' (off + k)) 0 (by omega) wr
      have ho1 := g1' hL hFs
      obtain ⟨h1, d1, e2, g2, g2', a2⟩ := add64_run H 0 o1 ho1 wr
      obtain ⟨r, o2, e3, g3, g3', a3⟩ := add64_run l1 d 0 (by omega) wr
      have ho2 := g3' g1 hd64
      obtain ⟨c', d2, e4, g4, g4', a4⟩ := add64_run h1 0 o2 ho2 (wr.setCell ⟨g, off + k, none⟩ (.int .u64 (r : Int)))
      rw [show ((0 : Nat) : Int) = 0 from rfl] at a1 a2 a3 a4
      have key : Hid (r + c' * B64 = F' (off + k) + x * y k + d) := Lib.hid (mul_step hx hy64 hFs hd64 hp e1 e2 e3 e4)
      have HM := Lib.hid hmul
      clear hp e1 e2 e3 e4 g1' g2' g3' g4' hmul
      go_wp2_with fail
      refine HM.out.mono ?_
      rintro e w' ⟨rfl, rfl⟩
      go_wp2_with fail
      go_roundw
      case rel => exact ⟨k + 1, c', upd F' (off + k) r, by omega, by go_num, rfl, hinv.step (by rw [← hF.out, if_pos hlt]; exact key.out) g3 (by omega)⟩
      case measure => simp [intOf]; omega
    · obtain rfl : k = m := by omega
      go_wp2
      go_ret
      exact ⟨F', d, rfl, hinv⟩
end Go.Proofs.Ythjndkkepailmaa
