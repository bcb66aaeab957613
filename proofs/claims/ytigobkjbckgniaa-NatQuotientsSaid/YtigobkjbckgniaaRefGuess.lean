/-
  volvelleref01.guess: a digit that isn't too great.
-/
import Derived.Test.YtigobkjbckgniaaRefTimes
namespace Go.Proofs.Ytigobkjbckgniaa
open Go.RowKit

theorem vs_two' (f : Nat → Nat) : vs 65536 f 2 = f 1 * 65536 + f 0 := by
  simp only [vs, Nat.pow_zero, Nat.mul_one, Nat.zero_add, Nat.pow_one]
  omega

/-- What t digits from n downwards come to. -/
def ovr (f : Nat → Nat) (p n : Nat) : Nat → Nat
  | 0 => 0
  | t + 1 => ovr f p n t * 65536 + (if t ≤ n then at0 f p (n - t) else 0)
theorem at0_lt {f : Nat → Nat} {p : Nat} (h : ∀ j, j < p → f j < 65536) (j : Nat) : at0 f p j < 65536 := by
  unfold at0; split
  · exact h j (by assumption)
  · omega
theorem ovr_lt {f : Nat → Nat} {p n : Nat} (h : ∀ j, j < p → f j < 65536) : ovr f p n 0 = 0 ∧ ovr f p n 1 ≤ 65535 ∧ ovr f p n 2 ≤ 4294967295 ∧ ovr f p n 3 ≤ 281474976710655 := by
  have d : ∀ t, (if t ≤ n then at0 f p (n - t) else 0) < 65536 := fun t => by
    split
    · exact at0_lt h _
    · omega
  have d0 := d 0
  have d1 := d 1
  have d2 := d 2
  have e1 : ovr f p n 1 = ovr f p n 0 * 65536 + (if 0 ≤ n then at0 f p (n - 0) else 0) := rfl
  have e2 : ovr f p n 2 = ovr f p n 1 * 65536 + (if 1 ≤ n then at0 f p (n - 1) else 0) := rfl
  have e3 : ovr f p n 3 = ovr f p n 2 * 65536 + (if 2 ≤ n then at0 f p (n - 2) else 0) := rfl
  have e0 : ovr f p n 0 = 0 := rfl
  refine ⟨e0, by omega, by omega, by omega⟩

set_option maxHeartbeats 1000000 in
theorem rguess_walk (A B : Option Addr) (p n c d : Nat) (f y : Nat → Nat) (top : Nat) (w : World) (s1 : Sl w A p c f) (s2 : Sl w B n d y) (hf : ∀ j, j < p → f j < 65536) (hy : ∀ j, j < n → y j < 65536) (hn : 1 ≤ n) (hn' : n ≤ 900000) (hp' : p ≤ 900000)
    (htop : (n = 1 ∧ top = y 0 * 65536) ∨ (2 ≤ n ∧ top = y (n - 1) * 65536 + y (n - 2))) :
    Calls Try.prog 47 #[.slice A p c, .slice B n d] w fun e w' => e = .returned (.int .u64 ((min (ovr f p n 3 / (top + 1)) 65535 : Nat) : Int)) ∧ w = w' := by
  obtain ⟨o0, o1, o2, o3⟩ := ovr_lt (n := n) hf
  have HS : Hid (∀ t, ovr f p n (t + 1) = ovr f p n t * 65536 + (if t ≤ n then at0 f p (n - t) else 0)) := Lib.hid fun _ => rfl
  have G := Lib.hid hf
  clear hf
  have ho : Hid (∀ t, t ≤ 3 → ovr f p n t ≤ 281474976710655) := Lib.hid fun t ht => by
    have : t = 0 ∨ t = 1 ∨ t = 2 ∨ t = 3 := by omega
    rcases this with rfl | rfl | rfl | rfl <;> omega
  have ho2 : Hid (∀ t, t ≤ 2 → ovr f p n t ≤ 4294967295) := Lib.hid fun t ht => by
    have : t = 0 ∨ t = 1 ∨ t = 2 := by omega
    rcases this with rfl | rfl | rfl <;> omega
  have h00 : Hid (ovr f p n 0 = 0) := Lib.hid rfl
  clear o0 o1 o2
  have ht1 : top ≤ 4294967295 := by
    rcases htop with ⟨_, h⟩ | ⟨h1, h⟩
    · have := hy 0 (by omega); omega
    · have := hy (n - 1) (by omega); have := hy (n - 2) (by omega); omega
  have hle : ovr f p n 3 / (top + 1) ≤ ovr f p n 3 := Nat.div_le_self _ _
  have eq1 : IntKind.u64.wrap ((ovr f p n 3 : Int) / ((top : Int) + 1)) = ((ovr f p n 3 / (top + 1) : Nat) : Int) := by
    rw [show ((ovr f p n 3 : Int) / ((top : Int) + 1)) = ((ovr f p n 3 / (top + 1) : Nat) : Int) from rfl]; exact u64_nat _ (by omega)
  generalize ovr f p n 3 / (top + 1) = Q at *
  obtain ⟨bd, rfl, hb1, y1B, c1⟩ := s2.at_ (k := n - 1) (by omega)
  have y1 := hy (n - 1) (by omega)
  rcases htop with ⟨rfl, htop⟩ | ⟨h2, htop⟩
  · have HT := Lib.hid htop
    have et : ((y 0 : Int)) * 65536 = (top : Int) := by omega
    rw [show bd.add (1 - 1) = bd from by simp [Addr.add]] at c1
    clear htop
    go_enter Try.func47, Try.ntmps47
    go_wp2_with fail
    go_loop [7, 8] (fun s7 s8 => ∃ (t o : Nat) (i : Int), t ≤ 3 ∧ i ≤ (1 : Int) - (t : Int) ∧ (1 : Int) - (t : Int) ≤ i ∧ s8 = .int .i64 i ∧ s7 = .int .u64 (o : Int) ∧ Hid (o = ovr f p 1 t)) (fun _ s8 => (intOf s8 - ((1 : Int) - 3)).toNat)
    case atStart => exact ⟨0, 0, (1 : Int), by omega, by omega, by omega, rfl, rfl, h00⟩
    case round =>
      obtain ⟨t, o, i, ht, hi1, hi2, rfl, rfl, ho'⟩ := hrel
      by_cases ht3 : t < 3
      · have hob : o ≤ 4294967295 := by rw [ho'.out]; exact ho2.out t (by omega)
        have hnx := Lib.hid (HS.out t)
        by_cases hi0 : 0 ≤ i
        · obtain ⟨j, rfl⟩ := Int.eq_ofNat_of_zero_le hi0
          have hjt : j = 1 - t := by omega
          have htn : t ≤ 1 := by omega
          by_cases hjp : j < p
          · obtain ⟨ad, rfl, _, _, hcell⟩ := s1.at_ hjp
            have hfj := G.out j hjp
            have hval : Hid (ovr f p 1 (t + 1) = o * 65536 + f j) := Lib.hid (by rw [hnx.out, if_pos htn, ← hjt, ← ho'.out]; unfold at0; rw [if_pos hjp])
            generalize f j = z at *
            clear hjt
            go_wp2_with fail
            go_round
            case rel => exact ⟨t + 1, o * 65536 + z, (j : Int) - 1, by omega, by omega, by omega, rfl, by go_num, Lib.hid hval.out.symm⟩
            case measure => simp [intOf]; omega
          · have hval : Hid (ovr f p 1 (t + 1) = o * 65536) := Lib.hid (by rw [hnx.out, if_pos htn, ← hjt, ← ho'.out]; unfold at0; rw [if_neg hjp, Nat.add_zero])
            clear hjt
            go_wp2_with fail
            go_round
            case rel => exact ⟨t + 1, o * 65536, (j : Int) - 1, by omega, by omega, by omega, rfl, by go_num, Lib.hid hval.out.symm⟩
            case measure => simp [intOf]; omega
        · have hval : Hid (ovr f p 1 (t + 1) = o * 65536) := Lib.hid (by rw [hnx.out, if_neg (by omega), ← ho'.out, Nat.add_zero])
          have hgB : decide ((0 : Int) ≤ i) = false := by simp; omega
          go_wp2_with fail
          go_round
          case rel => exact ⟨t + 1, o * 65536, i - 1, by omega, by omega, by omega, rfl, by go_num, Lib.hid hval.out.symm⟩
          case measure => simp [intOf]; omega
      · obtain rfl : t = 3 := by omega
        have hoe := ho'.out
        rw [← hoe] at eq1
        have ho3 : o ≤ 281474976710655 := by rw [hoe]; exact ho.out 3 (by omega)
        clear hoe ho'
        go_wp2_with fail
        go_ret
        refine ⟨?_, rfl⟩
        first | (simp; done) | (simp; omega)
  · obtain ⟨k, rfl⟩ : ∃ k, n = k + 2 := ⟨n - 2, by omega⟩
    obtain ⟨_, e0, _, _, c0⟩ := s2.at_ (k := k) (by omega)
    injection e0 with e0
    subst e0
    have y0 := hy k (by omega)
    simp only [show k + 2 - 1 = k + 1 by omega, show k + 2 - 2 = k by omega] at c1 y1 htop
    rw [show bd.add (k + 1) = ⟨bd.block, bd.off + (k + 1), none⟩ from by simp [Addr.add]] at c1
    have et : ((y (k + 1) : Int)) * 65536 + (y k : Int) = (top : Int) := by omega
    clear htop hy
    generalize y (k + 1) = z1 at *
    generalize y k = z0 at *
    go_enter Try.func47, Try.ntmps47
    go_wp2_with fail
    go_loop [7, 8] (fun s7 s8 => ∃ (t o : Nat) (i : Int), t ≤ 3 ∧ i ≤ ((k : Int) + 2) - (t : Int) ∧ ((k : Int) + 2) - (t : Int) ≤ i ∧ s8 = .int .i64 i ∧ s7 = .int .u64 (o : Int) ∧ Hid (o = ovr f p (k + 2) t)) (fun _ s8 => (intOf s8 - (((k : Int) + 2) - 3)).toNat)
    case atStart => exact ⟨0, 0, ((k : Int) + 2), by omega, by omega, by omega, rfl, rfl, h00⟩
    case round =>
      obtain ⟨t, o, i, ht, hi1, hi2, rfl, rfl, ho'⟩ := hrel
      by_cases ht3 : t < 3
      · have hob : o ≤ 4294967295 := by rw [ho'.out]; exact ho2.out t (by omega)
        have hnx := Lib.hid (HS.out t)
        by_cases hi0 : 0 ≤ i
        · obtain ⟨j, rfl⟩ := Int.eq_ofNat_of_zero_le hi0
          have hjt : j = (k + 2) - t := by omega
          have htn : t ≤ (k + 2) := by omega
          by_cases hjp : j < p
          · obtain ⟨ad, rfl, _, _, hcell⟩ := s1.at_ hjp
            have hfj := G.out j hjp
            have hval : Hid (ovr f p (k + 2) (t + 1) = o * 65536 + f j) := Lib.hid (by rw [hnx.out, if_pos htn, ← hjt, ← ho'.out]; unfold at0; rw [if_pos hjp])
            generalize f j = z at *
            clear hjt
            go_wp2_with fail
            go_round
            case rel => exact ⟨t + 1, o * 65536 + z, (j : Int) - 1, by omega, by omega, by omega, rfl, by go_num, Lib.hid hval.out.symm⟩
            case measure => simp [intOf]; omega
          · have hval : Hid (ovr f p (k + 2) (t + 1) = o * 65536) := Lib.hid (by rw [hnx.out, if_pos htn, ← hjt, ← ho'.out]; unfold at0; rw [if_neg hjp, Nat.add_zero])
            clear hjt
            go_wp2_with fail
            go_round
            case rel => exact ⟨t + 1, o * 65536, (j : Int) - 1, by omega, by omega, by omega, rfl, by go_num, Lib.hid hval.out.symm⟩
            case measure => simp [intOf]; omega
        · exfalso; omega
      · obtain rfl : t = 3 := by omega
        have hoe := ho'.out
        rw [← hoe] at eq1
        have ho3 : o ≤ 281474976710655 := by rw [hoe]; exact ho.out 3 (by omega)
        clear hoe ho'
        go_wp2_with fail
        go_ret
        refine ⟨?_, rfl⟩
        first | (simp; done) | (simp; omega)

theorem over_le {f : Nat → Nat} {p k L : Nat} (hL : vs 65536 f p = L) : ((at0 f p (k + 2) * 65536 + at0 f p (k + 1)) * 65536 + at0 f p k) * 65536 ^ k ≤ L := by
  have h1 : vs 65536 (at0 f p) (p + (k + 3)) = vs 65536 f p := vs_pad 65536 f p _ (by omega)
  rw [← hL, ← h1, show p + (k + 3) = k + (3 + p) by omega, vs_add, vs_add]
  have e : vs 65536 (fun j => at0 f p (k + j)) 3 = (at0 f p (k + 2) * 65536 + at0 f p (k + 1)) * 65536 + at0 f p k := by
    simp only [vs, Nat.pow_zero, Nat.mul_one, Nat.zero_add, Nat.pow_one, Nat.add_zero]
    omega
  rw [e, Nat.mul_comm]
  exact Nat.le_trans (Nat.mul_le_mul_left _ (Nat.le_add_right _ _)) (Nat.le_add_left _ _)
theorem ovr_three {f : Nat → Nat} {p k : Nat} : ovr f p (k + 2) 3 = (at0 f p (k + 2) * 65536 + at0 f p (k + 1)) * 65536 + at0 f p k := by
  have e1 : ovr f p (k + 2) 1 = ovr f p (k + 2) 0 * 65536 + (if 0 ≤ k + 2 then at0 f p (k + 2 - 0) else 0) := rfl
  have e2 : ovr f p (k + 2) 2 = ovr f p (k + 2) 1 * 65536 + (if 1 ≤ k + 2 then at0 f p (k + 2 - 1) else 0) := rfl
  have e3 : ovr f p (k + 2) 3 = ovr f p (k + 2) 2 * 65536 + (if 2 ≤ k + 2 then at0 f p (k + 2 - 2) else 0) := rfl
  have e0 : ovr f p (k + 2) 0 = 0 := rfl
  rw [e3, e2, e1, e0, if_pos (by omega), if_pos (by omega), if_pos (by omega), show k + 2 - 0 = k + 2 by omega, show k + 2 - 1 = k + 1 by omega, show k + 2 - 2 = k by omega]
  omega
theorem ovr_one {f : Nat → Nat} {p : Nat} : ovr f p 1 3 = (at0 f p 1 * 65536 + at0 f p 0) * 65536 := by
  have e1 : ovr f p 1 1 = ovr f p 1 0 * 65536 + (if 0 ≤ 1 then at0 f p (1 - 0) else 0) := rfl
  have e2 : ovr f p 1 2 = ovr f p 1 1 * 65536 + (if 1 ≤ 1 then at0 f p (1 - 1) else 0) := rfl
  have e3 : ovr f p 1 3 = ovr f p 1 2 * 65536 + (if 2 ≤ 1 then at0 f p (1 - 2) else 0) := rfl
  have e0 : ovr f p 1 0 = 0 := rfl
  rw [e3, e2, e1, e0, if_pos (by omega), if_pos (by omega), if_neg (by omega), show 1 - 0 = 1 by omega, show 1 - 1 = 0 by omega]
  omega

theorem rguess_any (A B : Option Addr) (p n c d : Nat) (f y : Nat → Nat) (w : World) (s1 : Sl w A p c f) (s2 : Sl w B n d y) (hf : ∀ j, j < p → f j < 65536) (hy : ∀ j, j < n → y j < 65536) (hn : 1 ≤ n) (hn' : n ≤ 900000) (hp' : p ≤ 900000) :
    Calls Try.prog 47 #[.slice A p c, .slice B n d] w (RGuessPost w (vs 65536 f p) (vs 65536 y n)) := by
  rcases Nat.lt_or_ge n 2 with h | h
  · obtain rfl : n = 1 := by omega
    refine (rguess_walk A B p 1 c d f y (y 0 * 65536) w s1 s2 hf hy hn hn' hp' (.inl ⟨rfl, rfl⟩)).mono fun e w' ⟨he, hw⟩ => ⟨_, he, Nat.min_le_right _ _, ?_, hw⟩
    have hv : vs 65536 y 1 = y 0 := by rw [vs_succ, vs_zero]; simp
    rw [hv]
    refine rguess_one (Nat.min_le_left _ _) ovr_one ?_
    have h2 : vs 65536 (at0 f p) (p + 2) = vs 65536 f p := vs_pad 65536 f p _ (by omega)
    have h3 := vs_add 65536 (at0 f p) 2 p
    rw [show 2 + p = p + 2 by omega, h2, vs_two'] at h3
    rw [h3]; exact Nat.le_add_right _ _
  · obtain ⟨k, rfl⟩ : ∃ k, n = k + 2 := ⟨n - 2, by omega⟩
    refine (rguess_walk A B p (k + 2) c d f y (y (k + 1) * 65536 + y k) w s1 s2 hf hy hn hn' hp' (.inr ⟨h, rfl⟩)).mono fun e w' ⟨he, hw⟩ => ⟨_, he, Nat.min_le_right _ _, ?_, hw⟩
    have h1 := over_le (k := k) (f := f) (p := p) rfl
    rw [← ovr_three] at h1
    refine rguess_two (P := 65536 ^ k) (Nat.min_le_left _ _) ?_ h1
    have h2 := vs_lt (fun j hj => hy j (by omega) : ∀ j, j < k → y j < 65536)
    have e : vs 65536 y (k + 2) = vs 65536 y k + 65536 ^ k * (y (k + 1) * 65536 + y k) := by rw [vs_add, vs_two']; simp only [Nat.add_zero]
    rw [e, Nat.add_mul, Nat.one_mul, Nat.mul_comm (65536 ^ k)]
    omega
end Go.Proofs.Ytigobkjbckgniaa
