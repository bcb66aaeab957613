/-
  volvelleref01: Cmp, Add, minus, Sub: what the document answers, in plain numbers.
-/
import Derived.Test.YthjndkkepailmaaRef2
import Derived.Test.YthjndkkepailmaaSub2
namespace Go.Proofs.Ythjndkkepailmaa
open Go.RowKit

theorem dg_val {w : World} {A : Option Addr} {n c : Nat} {x : Nat → Nat} (h : Sl w A n c x) : vs 65536 (dg x) (tl (dg x) (4 * n)) = vs B64 x n := by rw [vs_tl, vs_dg x n h.small]

theorem rcmp_any (A B : Option Addr) (n m c d : Nat) (x y : Nat → Nat) (w : World) (ha : Sl w A n c x) (hb : Sl w B m d y) (hn : n ≤ 200000) (hm : m ≤ 200000) :
    Calls Try.prog 19 #[.slice A n c, .slice B m d] w (CmpPost w (cmpN (vs B64 x n) (vs B64 y m))) := by
  rw [← dg_val ha, ← dg_val hb]
  have D1 := Lib.hid (digits_any A n c x w ha hn)
  have l1 := tl_le (dg x) (4 * n)
  have l2 := tl_le (dg y) (4 * m)
  have c1 := tl_cn (dg x) (4 * n)
  have c2 := tl_cn (dg y) (4 * m)
  go_enter Try.func19, Try.ntmps19
  go_wp2_with fail
  refine D1.out.mono ?_
  rintro e w1 ⟨A1, c3, rfl, s1, b1⟩
  go_wp2_with fail
  refine (digits_any B m d y w1 (hb.below b1) hm).mono ?_
  rintro e w2 ⟨A2, c4, rfl, s2, b2⟩
  go_wp2_with fail
  refine (compare_any A1 A2 _ _ c3 c4 (dg x) (dg y) w2 (s1.below b2) s2 c1 c2 (fun j _ => dg_lt x j) (fun j _ => dg_lt y j) (by omega) (by omega)).mono ?_
  rintro e w3 ⟨rfl, b3⟩
  go_wp2_with fail
  go_ret
  exact ⟨rfl, b1.trans ((b2.trans (b3.mono b2.size)).mono b1.size)⟩

/-- k digits of a sum are done; cy is carried. -/
def Carry (F X Y : Nat → Nat) (k cy : Nat) : Prop := cy ≤ 1 ∧ (∀ j, j < k → F j < 65536) ∧ vs 65536 F k + cy * 65536 ^ k = vs 65536 X k + vs 65536 Y k
theorem Carry.step {F X Y : Nat → Nat} {k cy a b : Nat} (h : Carry F X Y k cy) (ha : X k = a) (hb : Y k = b) (ha' : a < 65536) (hb' : b < 65536) : Carry (upd F k ((cy + a + b) % 65536)) X Y (k + 1) ((cy + a + b) / 65536) := by
  obtain ⟨h1, h2, h3⟩ := h
  refine ⟨by omega, fun j hj => ?_, ?_⟩
  · unfold upd; split
    · omega
    · exact h2 j (by omega)
  · rw [vs_succ, vs_succ, vs_succ, upd_same, vs_upd_ge _ _ _ _ _ (Nat.le_refl _), ha, hb]
    exact step_add h3 (by omega)

theorem vs_padf (f : Nat → Nat) (m n : Nat) (h : m ≤ n) : vs 65536 (padf f m) n = vs 65536 f m := vs_pad 65536 f m n h

set_option maxHeartbeats 400000 in
theorem radd_any (A B : Option Addr) (n m c d : Nat) (x y : Nat → Nat) (w : World) (ha : Sl w A n c x) (hb : Sl w B m d y) (hn : n ≤ 100000) (hm : m ≤ 100000) :
    Calls Try.prog 17 #[.slice A n c, .slice B m d] w (NumPost w (vs B64 x n + vs B64 y m)) := by
  rw [← dg_val ha, ← dg_val hb]
  have D1 := Lib.hid (digits_any A n c x w ha (by omega))
  have D2 : Hid (∀ w1, Below w.heap.size w w1 → Calls Try.prog 37 #[.slice B m d] w1 (digitsPost w1 y m)) := Lib.hid fun w1 b1 => digits_any B m d y w1 (hb.below b1) (by omega)
  have l1 := tl_le (dg x) (4 * n)
  have l2 := tl_le (dg y) (4 * m)
  unfold digitsPost at D1 D2
  have G1 : Hid (∀ j, dg x j < 65536) := Lib.hid (dg_lt x)
  have G2 : Hid (∀ j, dg y j < 65536) := Lib.hid (dg_lt y)
  generalize dg x = X at *
  generalize dg y = Y at *
  generalize tl X (4 * n) = p at *
  generalize tl Y (4 * m) = q at *
  go_enter Try.func17, Try.ntmps17
  go_wp2_with fail
  refine D1.out.mono ?_
  rintro e w1 ⟨A1, c3, rfl, s1, b1⟩
  go_wp2_with fail
  refine (D2.out w1 b1).mono ?_
  rintro e w2 ⟨A2, c4, rfl, s2, b2⟩
  have s1' := s1.below b2
  have b12 : Below w.heap.size w w2 := b1.trans (b2.mono b1.size)
  clear s1 b1 b2
  go_wp2_with fail
  go_loopw [7, 8, 9] (fun v s8 s9 wr => ∃ k cy F, k ≤ max p q ∧ s9 = .int .i64 ((k : Nat) : Int) ∧ s8 = .int .u64 ((cy : Nat) : Int) ∧ Own 25 wr w2.heap.size v k F ∧ Carry F (padf X p) (padf Y q) k cy ∧ Below w2.heap.size w2 wr) (fun _ _ i _ => max p q - (intOf i).toNat)
  case atStart => exact ⟨0, 0, X, Nat.zero_le _, rfl, rfl, Own.nil _ _ _ _, ⟨by omega, fun j h => absurd h (by omega), by simp [vs_zero]⟩, Below.refl _ _⟩
  case round =>
    obtain ⟨k, cy, F, hk, rfl, rfl, hown, hcar, hbw⟩ := hrel
    have hcy := hcar.1
    by_cases hkp : k < p
    · obtain ⟨ad, rfl, hb1, hx64, hc1⟩ := (s1'.below hbw).at_ hkp
      have g1 := G1.out k
      have hX : Hid (padf X p k = X k) := Lib.hid (by unfold padf; rw [if_pos hkp])
      by_cases hkq : k < q
      · obtain ⟨bd, rfl, hb2, hy64, hc2⟩ := (s2.below hbw).at_ hkq
        have g2 := G2.out k
        have hY : Hid (padf Y q k = Y k) := Lib.hid (by unfold padf; rw [if_pos hkq])
        have hst := Lib.hid (hcar.step hX.out hY.out g1 g2)
        generalize X k = a at *
        generalize Y k = b at *
        go_wp2_with (at_builtin; refine wpList_append_int rfl (.tmp 48) (.tmp 51) 22 rfl w2.heap.size 25 Try.underlying22 info64 _ k F rfl hown ((cy + a + b) % 65536) _ (by omega) rfl (by unfold B64; omega) (by omega) hbw.size ?_; intro v1 w3 hown1 hbel)
        go_roundw
        case rel => exact ⟨k + 1, (cy + a + b) / 65536, _, by omega, by go_num, by go_num, hown1, hst.out, hbel _ _ (Nat.le_refl _) hbw⟩
        case measure => simp [intOf]; omega
      · have hY : Hid (padf Y q k = 0) := Lib.hid (by unfold padf; rw [if_neg hkq])
        have hst := Lib.hid (hcar.step hX.out hY.out g1 (by omega))
        generalize X k = a at *
        go_wp2_with (at_builtin; refine wpList_append_int rfl (.tmp 48) (.tmp 51) 22 rfl w2.heap.size 25 Try.underlying22 info64 _ k F rfl hown ((cy + a + 0) % 65536) _ (by omega) rfl (by unfold B64; omega) (by omega) hbw.size ?_; intro v1 w3 hown1 hbel)
        go_roundw
        case rel => exact ⟨k + 1, (cy + a + 0) / 65536, _, by omega, by go_num, by go_num, hown1, hst.out, hbel _ _ (Nat.le_refl _) hbw⟩
        case measure => simp [intOf]; omega
    · have hX : Hid (padf X p k = 0) := Lib.hid (by unfold padf; rw [if_neg hkp])
      by_cases hkq : k < q
      · obtain ⟨bd, rfl, hb2, hy64, hc2⟩ := (s2.below hbw).at_ hkq
        have g2 := G2.out k
        have hY : Hid (padf Y q k = Y k) := Lib.hid (by unfold padf; rw [if_pos hkq])
        have hst := Lib.hid (hcar.step hX.out hY.out (by omega) g2)
        generalize Y k = b at *
        go_wp2_with (at_builtin; refine wpList_append_int rfl (.tmp 48) (.tmp 51) 22 rfl w2.heap.size 25 Try.underlying22 info64 _ k F rfl hown ((cy + 0 + b) % 65536) _ (by omega) rfl (by unfold B64; omega) (by omega) hbw.size ?_; intro v1 w3 hown1 hbel)
        go_roundw
        case rel => exact ⟨k + 1, (cy + 0 + b) / 65536, _, by omega, by go_num, by go_num, hown1, hst.out, hbel _ _ (Nat.le_refl _) hbw⟩
        case measure => simp [intOf]; omega
      · have hkpq : k = max p q := by omega
        have hfin : Hid (vs 65536 (upd F k cy) (k + 1) = vs 65536 X p + vs 65536 Y q) := Lib.hid (by
          rw [vs_succ, upd_same, vs_upd_ge _ _ _ _ _ (Nat.le_refl _), hcar.2.2, vs_padf _ _ _ (by omega), vs_padf _ _ _ (by omega)])
        have hdig : Hid (∀ j, j < k + 1 → upd F k cy j < 65536) := Lib.hid (fun j hj => by
          unfold upd; split
          · omega
          · exact hcar.2.1 j (by omega))
        clear hkpq
        go_wp2_with (at_builtin; refine wpList_append_int rfl (.tmp 55) (.tmp 57) 22 rfl w2.heap.size 25 Try.underlying22 info64 _ k F rfl hown cy _ rfl rfl (by unfold B64; omega) (by omega) hbw.size ?_; intro v1 w3 hown1 hbel)
        obtain ⟨A3, c5, rfl, s3, _⟩ := hown1.sl
        refine (words_any A3 (k + 1) c5 _ w3 s3 hdig.out (by omega)).mono ?_
        rintro e w4 ⟨v4, rfl, hnum, b4⟩
        rw [hfin.out] at hnum
        go_wp2_with fail
        go_ret
        have hb3 := hbel _ _ (Nat.le_refl _) hbw
        exact ⟨v4, rfl, hnum, b12.trans ((hb3.trans (b4.mono hb3.size)).mono b12.size)⟩
end Go.Proofs.Ythjndkkepailmaa
