/-
  volvelleref01: minus, Sub.
-/
import Derived.Test.YthjndkkepailmaaRef3
namespace Go.Proofs.Ythjndkkepailmaa
open Go.RowKit

/-- k digits of a difference are done; bw is borrowed. -/
def Borrow (F X Y : Nat → Nat) (k bw : Nat) : Prop := bw ≤ 1 ∧ (∀ j, j < k → F j < 65536) ∧ vs 65536 F k + vs 65536 Y k = vs 65536 X k + bw * 65536 ^ k
theorem Borrow.step {F X Y : Nat → Nat} {k bw a b : Nat} (h : Borrow F X Y k bw) (ha : X k = a) (hb : Y k = b) (ha' : a < 65536) (hb' : b < 65536) : Borrow (upd F k ((a + 65536 - bw - b) % 65536)) X Y (k + 1) (1 - (a + 65536 - bw - b) / 65536) := by
  obtain ⟨h1, h2, h3⟩ := h
  refine ⟨by omega, fun j hj => ?_, ?_⟩
  · unfold upd; split
    · omega
    · exact h2 j (by omega)
  · rw [vs_succ, vs_succ, vs_succ, upd_same, vs_upd_ge _ _ _ _ _ (Nat.le_refl _), ha, hb]
    exact step_sub h3 (by omega)
theorem Borrow.end_ {F X Y : Nat → Nat} {p q bw : Nat} (h : Borrow F X (padf Y q) p bw) (hq : q ≤ p) (hle : vs 65536 Y q ≤ vs 65536 X p) : vs 65536 F p = vs 65536 X p - vs 65536 Y q := by
  obtain ⟨_, h2, h3⟩ := h
  rw [vs_padf _ _ _ hq] at h3
  have h4 := vs_lt h2
  rcases Nat.eq_zero_or_pos bw with h0 | h0
  · subst h0; omega
  · have h5 : 1 * 65536 ^ p ≤ bw * 65536 ^ p := Nat.mul_le_mul_right _ h0
    omega

/-- Trimmed digits that stand for V, n of them at most. -/
def DigPost (w : World) (n V : Nat) (e : Ending) (w' : World) : Prop :=
  ∃ A k c F, e = .returned (.slice A k c) ∧ Sl w' A k c F ∧ k ≤ n ∧ (∀ j, j < k → F j < 65536) ∧ Cn k F ∧ vs 65536 F k = V ∧ Below w.heap.size w w'

set_option maxHeartbeats 400000 in
theorem minus_any (A B : Option Addr) (p q c d : Nat) (X Y : Nat → Nat) (w : World) (s1 : Sl w A p c X) (s2 : Sl w B q d Y) (g1 : ∀ j, j < p → X j < 65536) (g2 : ∀ j, j < q → Y j < 65536) (hq : q ≤ p) (hp : p ≤ 900000)
    (hle : vs 65536 Y q ≤ vs 65536 X p) : Calls Try.prog 40 #[.slice A p c, .slice B q d] w (DigPost w p (vs 65536 X p - vs 65536 Y q)) := by
  have G1 := Lib.hid g1
  have G2 := Lib.hid g2
  have HLE := Lib.hid hle
  clear g1 g2 hle
  go_enter Try.func40, Try.ntmps40
  go_wp2_with fail
  go_loopw [5, 6, 7] (fun v s6 s7 wr => ∃ k bw F, k ≤ p ∧ s7 = .int .i64 ((k : Nat) : Int) ∧ s6 = .int .u64 ((bw : Nat) : Int) ∧ Own 25 wr w.heap.size v k F ∧ Borrow F X (padf Y q) k bw ∧ Below w.heap.size w wr) (fun _ _ i _ => p - (intOf i).toNat)
  case atStart => exact ⟨0, 0, X, Nat.zero_le _, rfl, rfl, Own.nil _ _ _ _, ⟨by omega, fun j h => absurd h (by omega), by simp [vs_zero]⟩, Below.refl _ _⟩
  case round =>
    obtain ⟨k, bw, F, hk, rfl, rfl, hown, hbor, hbw⟩ := hrel
    have hcy := hbor.1
    by_cases hkp : k < p
    · obtain ⟨ad, rfl, hb1, hx64, hc1⟩ := (s1.below hbw).at_ hkp
      have g1 := G1.out k hkp
      by_cases hkq : k < q
      · obtain ⟨bd, rfl, hb2, hy64, hc2⟩ := (s2.below hbw).at_ hkq
        have g2 := G2.out k hkq
        have hY : Hid (padf Y q k = Y k) := Lib.hid (by unfold padf; rw [if_pos hkq])
        have hst := Lib.hid (hbor.step rfl hY.out g1 g2)
        generalize X k = a at *
        generalize Y k = b at *
        go_wp2_with (at_builtin; refine wpList_append_int rfl (.tmp 32) (.tmp 35) 22 rfl w.heap.size 25 Try.underlying22 info64 _ k F rfl hown ((a + 65536 - bw - b) % 65536) _ (by omega) rfl (by unfold B64; omega) (by omega) hbw.size ?_; intro v1 w3 hown1 hbel)
        go_roundw
        case rel => exact ⟨k + 1, 1 - (a + 65536 - bw - b) / 65536, _, by omega, by go_num, by go_num, hown1, hst.out, hbel _ _ (Nat.le_refl _) hbw⟩
        case measure => simp [intOf]; omega
      · have hY : Hid (padf Y q k = 0) := Lib.hid (by unfold padf; rw [if_neg hkq])
        have hst := Lib.hid (hbor.step rfl hY.out g1 (by omega))
        generalize X k = a at *
        go_wp2_with (at_builtin; refine wpList_append_int rfl (.tmp 32) (.tmp 35) 22 rfl w.heap.size 25 Try.underlying22 info64 _ k F rfl hown ((a + 65536 - bw - 0) % 65536) _ (by omega) rfl (by unfold B64; omega) (by omega) hbw.size ?_; intro v1 w3 hown1 hbel)
        go_roundw
        case rel => exact ⟨k + 1, 1 - (a + 65536 - bw - 0) / 65536, _, by omega, by go_num, by go_num, hown1, hst.out, hbel _ _ (Nat.le_refl _) hbw⟩
        case measure => simp [intOf]; omega
    · obtain rfl : k = p := by omega
      obtain ⟨A2, c2, rfl, s3, _⟩ := hown.sl
      go_wp2_with fail
      refine (cut_any A2 k c2 F wr s3 (by omega)).mono ?_
      rintro e w5 ⟨rfl, rfl⟩
      go_wp2_with fail
      go_ret
      have l := tl_le F k
      exact ⟨A2, _, c2, F, rfl, s3.take l, l, fun j hj => hbor.2.1 j (by omega), tl_cn F k, by rw [vs_tl, hbor.end_ hq HLE.out], hbw⟩

set_option maxHeartbeats 400000 in
theorem rsub_no (A B : Option Addr) (n m c d : Nat) (x y : Nat → Nat) (w : World) (ha : Sl w A n c x) (hb : Sl w B m d y) (hn : n ≤ 200000) (hm : m ≤ 200000) (hlt : vs B64 x n < vs B64 y m) :
    Calls Try.prog 21 #[.slice A n c, .slice B m d] w (NoPost w) := by
  rw [← dg_val ha, ← dg_val hb] at hlt
  have D1 := Lib.hid (digits_any A n c x w ha hn)
  have l1 := tl_le (dg x) (4 * n)
  have l2 := tl_le (dg y) (4 * m)
  have c1 := tl_cn (dg x) (4 * n)
  have c2 := tl_cn (dg y) (4 * m)
  go_enter Try.func21, Try.ntmps21
  go_wp2_with fail
  refine D1.out.mono ?_
  rintro e w1 ⟨A1, c3, rfl, s1, b1⟩
  go_wp2_with fail
  refine (digits_any B m d y w1 (hb.below b1) hm).mono ?_
  rintro e w2 ⟨A2, c4, rfl, s2, b2⟩
  have C := compare_any A1 A2 _ _ c3 c4 (dg x) (dg y) w2 (s1.below b2) s2 c1 c2 (fun j _ => dg_lt x j) (fun j _ => dg_lt y j) (by omega) (by omega)
  rw [cmpN_lt hlt] at C
  have HC := Lib.hid C
  clear C
  go_wp2_with fail
  refine HC.out.mono ?_
  rintro e w3 ⟨rfl, b3⟩
  go_wp2_with fail
  go_ret2
  exact ⟨rfl, b1.trans ((b2.trans (b3.mono b2.size)).mono b1.size)⟩

set_option maxHeartbeats 400000 in
theorem rsub_yes (A B : Option Addr) (n m c d : Nat) (x y : Nat → Nat) (w : World) (ha : Sl w A n c x) (hb : Sl w B m d y) (hn : n ≤ 200000) (hm : m ≤ 200000) (hle : vs B64 y m ≤ vs B64 x n) :
    Calls Try.prog 21 #[.slice A n c, .slice B m d] w (NumOkPost w (vs B64 x n - vs B64 y m)) := by
  rw [← dg_val ha, ← dg_val hb] at hle ⊢
  have D1 := Lib.hid (digits_any A n c x w ha hn)
  have l1 := tl_le (dg x) (4 * n)
  have l2 := tl_le (dg y) (4 * m)
  have c1 := tl_cn (dg x) (4 * n)
  have c2 := tl_cn (dg y) (4 * m)
  have hqp : tl (dg y) (4 * m) ≤ tl (dg x) (4 * n) := cn_le (by omega) c2 (Nat.lt_of_le_of_lt hle (vs_lt (fun j _ => dg_lt x j)))
  go_enter Try.func21, Try.ntmps21
  go_wp2_with fail
  refine D1.out.mono ?_
  rintro e w1 ⟨A1, c3, rfl, s1, b1⟩
  go_wp2_with fail
  refine (digits_any B m d y w1 (hb.below b1) hm).mono ?_
  rintro e w2 ⟨A2, c4, rfl, s2, b2⟩
  have s1' := s1.below b2
  have C := compare_any A1 A2 _ _ c3 c4 (dg x) (dg y) w2 s1' s2 c1 c2 (fun j _ => dg_lt x j) (fun j _ => dg_lt y j) (by omega) (by omega)
  obtain ⟨r, hr0, hr1⟩ : ∃ r : Nat, cmpN (vs 65536 (dg x) (tl (dg x) (4 * n))) (vs 65536 (dg y) (tl (dg y) (4 * m))) = (r : Int) ∧ r ≤ 1 := by
    rcases Nat.lt_or_ge (vs 65536 (dg y) (tl (dg y) (4 * m))) (vs 65536 (dg x) (tl (dg x) (4 * n))) with h | h
    · exact ⟨1, by rw [cmpN_gt h]; rfl, by omega⟩
    · exact ⟨0, by rw [Nat.le_antisymm h hle, cmpN_eq]; rfl, by omega⟩
  rw [hr0] at C
  have HC := Lib.hid C
  clear C hr0
  go_wp2_with fail
  refine HC.out.mono ?_
  rintro e w3 ⟨rfl, b3⟩
  go_wp2_with fail
  refine (minus_any A1 A2 _ _ c3 c4 (dg x) (dg y) w3 (s1'.below b3) (s2.below b3) (fun j _ => dg_lt x j) (fun j _ => dg_lt y j) hqp (by omega) hle).mono ?_
  rintro e w4 ⟨A5, k, c5, F, rfl, s5, hkn, hF, hcF, hvF, b4⟩
  have HV := Lib.hid hvF
  clear hvF
  go_wp2_with fail
  refine (words_any A5 k c5 F w4 s5 hF (by omega)).mono ?_
  rintro e w5 ⟨v5, rfl, hnum, b5⟩
  rw [HV.out] at hnum
  go_wp2_with fail
  go_ret2
  refine ⟨v5, rfl, hnum, ?_⟩
  have b34 := b3.trans (b4.mono b3.size)
  have b345 := b34.trans (b5.mono b34.size)
  exact b1.trans ((b2.trans (b345.mono b2.size)).mono b1.size)
end Go.Proofs.Ythjndkkepailmaa
