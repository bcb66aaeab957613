/-
  volvelleref01: digits of 16 bits, and words of digits.
-/
import Derived.Test.YthjndkkepailmaaRef1
import Derived.Test.YthjndkkepailmaaDiv64
namespace Go.Proofs.Ythjndkkepailmaa
open Go.RowKit

/-- Digit j of the words x. -/
def dg (x : Nat → Nat) (j : Nat) : Nat := x (j / 4) / 65536 ^ (j % 4) % 65536
theorem dg_lt (x : Nat → Nat) (j : Nat) : dg x j < 65536 := Nat.mod_lt _ (by omega)
theorem dg_at (x : Nat → Nat) (i k : Nat) (h : k < 4) : dg x (4 * i + k) = x i / 65536 ^ k % 65536 := by
  unfold dg
  rw [show (4 * i + k) / 4 = i by omega, show (4 * i + k) % 4 = k by omega]
theorem pow4 (n : Nat) : 65536 ^ (4 * n) = B64 ^ n := by
  rw [Nat.pow_mul]; congr 1
theorem vs_dg (x : Nat → Nat) (n : Nat) (h : ∀ j, j < n → x j < B64) : vs 65536 (dg x) (4 * n) = vs B64 x n := by
  induction n with
  | zero => rfl
  | succ n ih =>
    have h1 := h n (by omega)
    rw [Nat.mul_succ, vs_add, ih (fun j hj => h j (by omega)), pow4, vs_succ B64 x n]
    have e : vs 65536 (fun j => dg x (4 * n + j)) 4 = x n := by
      simp only [vs, Nat.zero_add]
      rw [dg_at x n 0 (by omega), dg_at x n 1 (by omega), dg_at x n 2 (by omega), dg_at x n 3 (by omega)]
      unfold B64 at h1
      simp only [Nat.pow_zero, Nat.div_one, Nat.pow_one, Nat.mul_one]
      omega
    rw [e, Nat.mul_comm]

def digitsPost (w : World) (x : Nat → Nat) (n : Nat) (e : Ending) (w' : World) : Prop := ∃ A c, e = .returned (.slice A (tl (dg x) (4 * n)) c) ∧ Sl w' A (tl (dg x) (4 * n)) c (dg x) ∧ Below w.heap.size w w'

set_option maxHeartbeats 400000 in
theorem digits_any (A : Option Addr) (n c : Nat) (x : Nat → Nat) (w : World) (h : Sl w A n c x) (hn : n ≤ 200000) :
    Calls Try.prog 37 #[.slice A n c] w (digitsPost w x n) := by
  go_enter Try.func37, Try.ntmps37
  go_wp2
  go_loopw [3, 4] (fun v i wr => ∃ k : Nat, k ≤ n ∧ i = .int .i64 (k : Int) ∧ Own 25 wr w.heap.size v (4 * k) (dg x) ∧ Below w.heap.size w wr) (fun _ i _ => n - (intOf i).toNat)
  case atStart => exact ⟨0, Nat.zero_le _, rfl, Own.nil _ _ _ _, Below.refl _ _⟩
  case round =>
    obtain ⟨k, hk, rfl, hown, hbw⟩ := hrel
    by_cases hlt : k < n
    · obtain ⟨ad, rfl, hb, hx64, hcell⟩ := (h.below hbw).at_ hlt
      obtain ⟨wo, rfl⟩ : ∃ wo : World, wo = wr := ⟨_, rfl⟩
      go_wp2
      go_loopw [3, 5, 6] (fun v z i wr => ∃ m : Nat, m ≤ 4 ∧ i = .int .i64 (m : Int) ∧ z = .int .u64 ((x k / 65536 ^ m : Nat) : Int) ∧ Own 25 wr w.heap.size v (4 * k + m) (dg x) ∧ Below w.heap.size w wr) (fun _ _ i _ => 4 - (intOf i).toNat)
      case atStart => exact ⟨0, by omega, rfl, by simp, hown, hbw⟩
      case round =>
        clear hown hbw hcell hb
        obtain ⟨m, hm, rfl, rfl, hown, hbw⟩ := hrel
        by_cases hm4 : m < 4
        · have hz : x k / 65536 ^ m ≤ 18446744073709551615 := by
            have := Nat.div_le_self (x k) (65536 ^ m)
            unfold B64 at hx64; omega
          have hdg : Hid (dg x (4 * k + m) = x k / 65536 ^ m % 65536) := Lib.hid (dg_at x k m hm4)
          have hnext : Hid (x k / 65536 ^ (m + 1) = x k / 65536 ^ m / 65536) := Lib.hid (by rw [Nat.pow_succ, Nat.div_div_eq_div_mul])
          generalize x k / 65536 ^ m = z at *
          go_wp2_with (at_builtin; refine wpList_append_int rfl (.tmp 21) (.tmp 24) 22 rfl w.heap.size 25 Try.underlying22 info64 _ (4 * k + m) (dg x) rfl hown (z % 65536) _ (by simp) rfl (by unfold B64; omega) (by omega) hbw.size ?_; intro v1 w1 hown1 hbel)
          go_roundw
          case rel => exact ⟨m + 1, by omega, by go_num, by rw [hnext.out]; rfl, hown1.congr (fun j hj => by unfold upd; split; (rename_i e; rw [e, hdg.out]); rfl), hbel _ _ (Nat.le_refl _) hbw⟩
          case measure => simp [intOf]; omega
        · obtain rfl : m = 4 := by omega
          go_wp2
          go_roundw
          case rel => exact ⟨k + 1, by omega, by go_num, by rw [Nat.mul_succ]; exact hown, hbw⟩
          case measure => simp [intOf]; omega
    · obtain rfl : k = n := by omega
      obtain ⟨A2, c2, rfl, s2, _⟩ := hown.sl
      go_wp2_with fail
      refine (cut_any A2 (4 * k) c2 (dg x) wr s2 (by omega)).mono ?_
      rintro e w5 ⟨rfl, rfl⟩
      go_wp2_with fail
      go_ret
      exact ⟨A2, c2, rfl, s2.take (tl_le _ _), hbw⟩

def padf (f : Nat → Nat) (m : Nat) : Nat → Nat := fun j => if j < m then f j else 0
theorem padf_lt {f : Nat → Nat} {m : Nat} (h : ∀ j, j < m → f j < 65536) (j : Nat) : padf f m j < 65536 := by
  unfold padf; split
  · exact h j (by assumption)
  · omega
/-- Word t of the digits d. -/
def wd (d : Nat → Nat) (t : Nat) : Nat := vs 65536 (fun j => d (4 * t + j)) 4
theorem wd_lt {d : Nat → Nat} (h : ∀ j, d j < 65536) (t : Nat) : wd d t < B64 := by
  have := vs_lt (b := 65536) (f := fun j => d (4 * t + j)) (n := 4) (fun j _ => h _)
  exact this
theorem wd_ne {d : Nat → Nat} {t j : Nat} (hj : j < 4) (h : d (4 * t + j) ≠ 0) : wd d t ≠ 0 := by
  unfold wd
  simp only [vs, Nat.zero_add]
  have : j = 0 ∨ j = 1 ∨ j = 2 ∨ j = 3 := by omega
  rcases this with rfl | rfl | rfl | rfl <;> omega
theorem wd_eq (d : Nat → Nat) (t : Nat) : vs 65536 (fun j => d (4 * t + j)) 4 = wd d t := by unfold wd; rfl
theorem vs_wd (d : Nat → Nat) (T : Nat) : vs B64 (wd d) T = vs 65536 d (4 * T) := by
  induction T with
  | zero => rw [Nat.mul_zero, vs_zero, vs_zero]
  | succ T ih =>
    have h1 := vs_add 65536 d (4 * T) 4
    rw [wd_eq, pow4, ← ih] at h1
    have h2 := vs_succ B64 (wd d) T
    have h3 : 4 * (T + 1) = 4 * T + 4 := by omega
    rw [h3, h1, h2, Nat.mul_comm]
theorem part_lt {d : Nat → Nat} (h : ∀ j, d j < 65536) (s K : Nat) (hK : 1 ≤ K) : vs 65536 (fun j => d (s + K + j)) (4 - K) ≤ 281474976710655 := by
  have h1 := vs_lt (b := 65536) (f := fun j => d (s + K + j)) (n := 4 - K) (fun j _ => h _)
  have h2 : 65536 ^ (4 - K) ≤ 65536 ^ 3 := Nat.pow_le_pow_right (by omega) (by omega)
  omega
theorem part_step (d : Nat → Nat) (s K : Nat) (hK : K < 4) : vs 65536 (fun j => d (s + K + j)) (4 - K) = vs 65536 (fun j => d (s + (K + 1) + j)) (4 - (K + 1)) * 65536 + d (s + K) := by
  obtain ⟨r, hr⟩ : ∃ r, 4 - K = r + 1 := ⟨3 - K, by omega⟩
  rw [hr, vs_cons, show 4 - (K + 1) = r by omega, Nat.mul_comm, Nat.add_comm]
  congr 2
  exact vs_congr fun j _ => by congr 1; omega

set_option maxHeartbeats 400000 in
theorem words_any (A : Option Addr) (n c : Nat) (f : Nat → Nat) (w : World) (h : Sl w A n c f) (hd : ∀ j, j < n → f j < 65536) (hn : n ≤ 1000000) :
    Calls Try.prog 38 #[.slice A n c] w (NumPost w (vs 65536 f n)) := by
  have hl := tl_le f n
  have hs := h.take hl
  have hcn := tl_cn f n
  rw [← vs_tl 65536 f n]
  have C := Lib.hid (cut_any A n c f w h hn)
  have hp : Hid (∀ j, padf f (tl f n) j < 65536) := Lib.hid (padf_lt fun j hj => hd j (by omega))
  clear hd h
  generalize tl f n = m at *
  go_enter Try.func38, Try.ntmps38
  go_wp2_with fail
  refine C.out.mono ?_
  rintro e w' ⟨rfl, rfl⟩
  go_wp2_with fail
  go_loopw [3, 4] (fun v s4 wr => ∃ t i : Nat, i ≤ m + 3 ∧ s4 = .int .i64 (i : Int) ∧ Hid (i = 4 * t) ∧ Own 25 wr w.heap.size v t (wd (padf f m)) ∧ Below w.heap.size w wr) (fun _ i _ => m + 4 - (intOf i).toNat)
  case atStart => exact ⟨0, 0, by omega, rfl, Lib.hid rfl, Own.nil _ _ _ _, Below.refl _ _⟩
  case round =>
    obtain ⟨t, i, hi, rfl, hit, hown, hbw⟩ := hrel
    by_cases hlt : i < m
    · obtain ⟨wo, rfl⟩ : ∃ wo : World, wo = wr := ⟨_, rfl⟩
      have hsw := hs.below hbw
      go_wp2
      go_loop [5, 6] (fun s5 s6 => ∃ K z : Nat, K ≤ 4 ∧ s6 = .int .i64 ((K : Int) - 1) ∧ s5 = .int .u64 (z : Int) ∧ Hid (z = vs 65536 (fun j => padf f m (i + K + j)) (4 - K))) (fun _ i => (intOf i + 1).toNat)
      case atStart => exact ⟨4, 0, by omega, rfl, rfl, Lib.hid rfl⟩
      case round =>
        obtain ⟨K, z, hK, rfl, rfl, hz⟩ := hrel
        rcases K with _ | K
        · have hz' : Hid (z = wd (padf f m) t) := Lib.hid (by rw [hz.out, hit.out]; rfl)
          have hzB : z < B64 := by rw [hz'.out]; exact wd_lt hp.out t
          clear hz
          go_wp2_with (at_builtin; refine wpList_append_int rfl (.tmp 35) (.tmp 37) 22 rfl w.heap.size 25 Try.underlying22 info64 _ t (wd (padf f m)) rfl hown z _ rfl rfl hzB (by have := hit.out; omega) hbw.size ?_; intro v1 w1 hown1 hbel)
          go_roundw
          case rel => exact ⟨t + 1, i + 4, by omega, by go_num, Lib.hid (by rw [hit.out]; omega), hown1.congr (fun j hj => by unfold upd; split; (rename_i e; rw [e, hz'.out]); rfl), hbel _ _ (Nat.le_refl _) hbw⟩
          case measure => simp [intOf]; omega
        · rw [show (((K + 1 : Nat) : Int) - 1) = (K : Int) from by omega]
          have hzb : z ≤ 281474976710655 := by rw [hz.out]; exact part_lt hp.out i (K + 1) (by omega)
          have hst := Lib.hid (part_step (padf f m) i K (by omega))
          by_cases hik : i + K < m
          · obtain ⟨ad, rfl, hb, hx64, hcell⟩ := hsw.at_ hik
            have hfd : f (i + K) ≤ 65535 := by have := hp.out (i + K); unfold padf at this; rw [if_pos hik] at this; omega
            have hpd : Hid (padf f m (i + K) = f (i + K)) := Lib.hid (by unfold padf; rw [if_pos hik])
            generalize f (i + K) = y at *
            go_wp2
            go_round
            case rel => exact ⟨K, z * 65536 + y, by omega, by go_num, by go_num, Lib.hid (by rw [hst.out, ← hz.out, hpd.out])⟩
            case measure => simp [intOf]
          · have hpd : Hid (padf f m (i + K) = 0) := Lib.hid (by unfold padf; rw [if_neg hik])
            go_wp2
            go_round
            case rel => exact ⟨K, z * 65536, by omega, by go_num, by go_num, Lib.hid (by rw [hst.out, ← hz.out, hpd.out, Nat.add_zero])⟩
            case measure => simp [intOf]
    · obtain ⟨A2, c2, rfl, s2, _⟩ := hown.sl
      go_wp2_with fail
      go_ret
      refine ⟨_, rfl, ⟨A2, t, c2, _, rfl, s2, ?_, ?_⟩, hbw⟩
      · rcases Nat.eq_zero_or_pos t with h0 | h0
        · exact .inl h0
        · have hit' := hit.out
          rcases hcn with hm | hm
          · omega
          · refine .inr (wd_ne (j := m - 1 - 4 * (t - 1)) (by omega) ?_)
            rw [show 4 * (t - 1) + (m - 1 - 4 * (t - 1)) = m - 1 by omega]
            unfold padf; rw [if_pos (by omega)]; exact hm
      · rw [vs_wd]
        have hit' := hit.out
        exact vs_pad 65536 f m (4 * t) (by omega)
end Go.Proofs.Ythjndkkepailmaa
