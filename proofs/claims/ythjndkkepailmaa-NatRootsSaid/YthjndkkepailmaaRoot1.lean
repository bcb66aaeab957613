/-
  nat.rootWord, nat.join: the root of a word; two numbers as one.
-/
import Derived.Test.YthjndkkepailmaaBits
import Derived.Test.YthjndkkepailmaaDivAll
namespace Go.Proofs.Ythjndkkepailmaa
open Go.RowKit

/-- The bits of a's root above k are in r. -/
def RW (a r b k : Nat) : Prop := b = 2 ^ k / 2 ∧ r % 2 ^ k = 0 ∧ r + 2 ^ k ≤ 4294967296 ∧ r * r ≤ a ∧ a < (r + 2 ^ k) * (r + 2 ^ k)
theorem RW.pos {a r b k : Nat} (h : RW a r b k) (hb : 0 < b) : ∃ m, k = m + 1 ∧ b = 2 ^ m := by
  rcases k with _ | m
  · have := h.1; simp at this; omega
  · refine ⟨m, rfl, ?_⟩
    rw [h.1, Nat.pow_succ]; omega
theorem RW.or {a r b k : Nat} (h : RW a r b k) (hb : 0 < b) : r ||| b = r + b := by
  obtain ⟨m, rfl, rfl⟩ := h.pos hb
  obtain ⟨_, h2, _⟩ := h
  have hlt : 2 ^ m < 2 ^ (m + 1) := by rw [Nat.pow_succ]; have := Nat.two_pow_pos m; omega
  have e : r = 2 ^ (m + 1) * (r / 2 ^ (m + 1)) := by have := Nat.div_add_mod r (2 ^ (m + 1)); omega
  rw [e, Nat.two_pow_add_eq_or_of_lt hlt]
theorem RW.two {a r b k : Nat} (h : RW a r b k) (hb : 0 < b) : r + b + b ≤ 4294967296 := by
  obtain ⟨m, rfl, rfl⟩ := h.pos hb
  have := h.2.2.1
  rw [Nat.pow_succ] at this
  omega
theorem RW.yes {a r b k : Nat} (h : RW a r b k) (hb : 0 < b) (hp : (r + b) * (r + b) ≤ a) : ∃ m, RW a (r + b) (b / 2) m := by
  obtain ⟨m, rfl, rfl⟩ := h.pos hb
  obtain ⟨_, h2, h3, _, h5⟩ := h
  refine ⟨m, rfl, ?_, by rw [Nat.pow_succ] at h3; omega, hp, ?_⟩
  · have e : r % 2 ^ m = 0 := by
      have : r % (2 ^ m * 2) = 0 := by rw [← Nat.pow_succ]; exact h2
      exact Nat.mod_eq_zero_of_dvd (Nat.dvd_trans (Nat.dvd_mul_right _ _) (Nat.dvd_of_mod_eq_zero this))
    rw [Nat.add_mod, e]; simp
  · rw [show r + 2 ^ m + 2 ^ m = r + 2 ^ (m + 1) by rw [Nat.pow_succ]; omega]; exact h5
theorem RW.no {a r b k : Nat} (h : RW a r b k) (hb : 0 < b) (hp : a < (r + b) * (r + b)) : ∃ m, RW a r (b / 2) m := by
  obtain ⟨m, rfl, rfl⟩ := h.pos hb
  obtain ⟨_, h2, h3, h4, _⟩ := h
  refine ⟨m, rfl, ?_, by rw [Nat.pow_succ] at h3; omega, h4, hp⟩
  have : r % (2 ^ m * 2) = 0 := by rw [← Nat.pow_succ]; exact h2
  exact Nat.mod_eq_zero_of_dvd (Nat.dvd_trans (Nat.dvd_mul_right _ _) (Nat.dvd_of_mod_eq_zero this))
theorem RW.fin {a r k : Nat} (h : RW a r 0 k) : r * r ≤ a ∧ a < (r + 1) * (r + 1) ∧ r < 4294967296 := by
  rcases k with _ | m
  · obtain ⟨_, _, h3, h4, h5⟩ := h
    simp only [Nat.pow_zero] at h3 h5
    exact ⟨h4, h5, by omega⟩
  · have := h.1
    rw [Nat.pow_succ] at this
    have := Nat.two_pow_pos m
    omega
theorem RW.start {a : Nat} (h : a < B64) : RW a 0 2147483648 32 := by
  refine ⟨by decide, by decide, by decide, by omega, ?_⟩
  have e : B64 = (0 + 2 ^ 32) * (0 + 2 ^ 32) := by unfold B64; decide
  omega

theorem sq_lt {t : Nat} (h : t < 4294967296) : t * t < B64 := by
  have h1 : t * t ≤ 4294967295 * 4294967295 := Nat.mul_le_mul (by omega) (by omega)
  have h2 : 4294967295 * 4294967295 < B64 := by unfold B64; decide
  omega

def RootPost (w : World) (a : Nat) (e : Ending) (w' : World) : Prop := ∃ r : Nat, e = .returned (.int .u64 (r : Int)) ∧ r * r ≤ a ∧ a < (r + 1) * (r + 1) ∧ r < 4294967296 ∧ w = w'

set_option maxHeartbeats 400000 in
theorem rootword_any (a : Nat) (ha : a < B64) (w : World) : Calls Try.prog 45 #[.int .u64 (a : Int)] w (RootPost w a) := by
  have h00 := Lib.hid (RW.start ha)
  go_enter Try.func45, Try.ntmps45
  go_wp2_with fail
  go_loop [3, 4] (fun s3 s4 => ∃ k r b : Nat, s3 = .int .u64 (r : Int) ∧ s4 = .int .u64 (b : Int) ∧ Hid (RW a r b k)) (fun _ s4 => (intOf s4).toNat)
  case atStart => exact ⟨32, 0, 2147483648, rfl, rfl, h00⟩
  case round =>
    clear h00
    obtain ⟨k, r, b, rfl, rfl, hI⟩ := hrel
    rcases Nat.eq_zero_or_pos b with hb | hb
    · subst hb
      have hf := Lib.hid hI.out.fin
      go_wp2_with fail
      go_ret
      exact ⟨r, rfl, hf.out.1, hf.out.2.1, hf.out.2.2, rfl⟩
    · have h2 := hI.out.two hb
      have eo : bits .or .u64 (r : Int) (b : Int) = ((r + b : Nat) : Int) := by rw [u64_or_nat r b (by omega) (by omega), hI.out.or hb]
      have hy := Lib.hid (hI.out.yes hb)
      have hn := Lib.hid (hI.out.no hb)
      have ht : r + b < 4294967296 := by omega
      have hsq := sq_lt ht
      have em : IntKind.u64.wrap (((r + b : Nat) : Int) * ((r + b : Nat) : Int)) = (((r + b) * (r + b) : Nat) : Int) := by rw [← Int.natCast_mul]; exact u64_nat _ (by unfold B64 at hsq; omega)
      have hb1 : b / 2 < b := by omega
      generalize (r + b) * (r + b) = p at *
      generalize r + b = t at *
      have es : (b : Int) / 2 = ((b / 2 : Nat) : Int) := by omega
      generalize b / 2 = b1 at *
      by_cases hp : p ≤ a
      · obtain ⟨m, hm⟩ := hy.out hp
        have HM := Lib.hid hm
        clear hm hy hn hI
        go_wp2_with fail
        go_round
        case rel => exact ⟨m, t, b1, by go_num, by go_num, HM⟩
        case measure => simp [intOf]; omega
      · obtain ⟨m, hm⟩ := hn.out (by omega)
        have HM := Lib.hid hm
        clear hm hy hn hI
        go_wp2_with fail
        go_round
        case rel => exact ⟨m, r, b1, by go_num, by go_num, HM⟩
        case measure => simp [intOf]; omega

/-- A number's words: no more than its size asks. -/
theorem Num.sl' {w : World} {v : Value} {V K : Nat} (h : Num w v V) (hK : V < B64 ^ K) : ∃ A n c f, v = .slice A n c ∧ Sl w A n c f ∧ n ≤ K ∧ Cn n f ∧ vs B64 f n = V := by
  obtain ⟨A, n, c, f, hv, hs, hc, he⟩ := h
  exact ⟨A, n, c, f, hv, hs, cn_le B64_gt hc (by rw [he]; exact hK), hc, he⟩
theorem raised_lt {X n k : Nat} (h : X < B64 ^ n) : X * 2 ^ k < B64 ^ (n + (k / 64 + 1)) := by
  have h1 : (2 : Nat) ^ k ≤ B64 ^ (k / 64 + 1) := by
    rw [B64_pow, ← Nat.pow_mul]
    exact Nat.pow_le_pow_right (by omega) (by omega)
  rw [Nat.pow_add]
  exact Nat.mul_lt_mul_of_lt_of_le h h1 (Nat.pow_pos B64_pos)

set_option maxHeartbeats 400000 in
theorem join_any (A B : Option Addr) (n m c d : Nat) (x y : Nat → Nat) (k : Nat) (w : World) (ha : Sl w A n c x) (hb : Sl w B m d y) (hn : n ≤ 400000) (hm : m ≤ 900000) (hk : k ≤ 20000000) :
    Calls Try.prog 30 #[.slice A n c, .slice B m d, .int .i64 (k : Int)] w (NumPost w (vs B64 x n * 2 ^ k + vs B64 y m)) := by
  have hlt := Lib.hid (raised_lt (k := k) (vs_lt ha.small))
  go_enter Try.func30, Try.ntmps30
  go_wp2_with fail
  refine (raise_any A n c x k w ha hn hk).mono ?_
  rintro e w1 ⟨v1, rfl, n1, b1⟩
  obtain ⟨A1, p, c1, f, rfl, s1, hp, _, hv⟩ := n1.sl' hlt.out
  have HV := Lib.hid hv
  clear hv n1
  go_wp2_with fail
  refine (add_any A1 B p m c1 d f y w1 s1 (hb.below b1) (by omega) hm).mono ?_
  rintro e w2 ⟨v2, rfl, n2, b2⟩
  rw [HV.out] at n2
  go_wp2_with fail
  go_ret
  exact ⟨v2, rfl, n2, b1.trans (b2.mono b1.size)⟩
end Go.Proofs.Ythjndkkepailmaa
