/-
  cmp.Compare at int and at uint64; nat.Cmp: the order of two numbers.
-/
import Derived.Test.YthjndkkepailmaaKit
import Derived.Test.YthjndkkepailmaaView
import Derived.Deep.QuietTactic
import Derived.BigQuiet
namespace Go.Proofs.Ythjndkkepailmaa
open Go.RowKit

/-- -1, 0, 1: below, the same, above. -/
def cmpN (a b : Nat) : Int := if a < b then -1 else if b < a then 1 else 0
theorem cmpN_lt {a b : Nat} (h : a < b) : cmpN a b = -1 := by simp [cmpN, h]
theorem cmpN_gt {a b : Nat} (h : b < a) : cmpN a b = 1 := by simp [cmpN, h, Nat.lt_asymm h]
theorem cmpN_eq (a : Nat) : cmpN a a = 0 := by simp [cmpN]

theorem compare_i (a b : Nat) (w : World) : Calls Try.prog 23 #[.int .i64 (a : Int), .int .i64 (b : Int)] w fun e w' => e = .returned (.int .i64 (cmpN a b)) ∧ w' = w := by
  rcases Nat.lt_trichotomy a b with h | rfl | h
  · rw [cmpN_lt h]
    go_enter Try.func23, Try.ntmps23
    go_wp2
    go_ret
    exact ⟨rfl, rfl⟩
  · rw [cmpN_eq]
    go_enter Try.func23, Try.ntmps23
    go_wp2
    go_ret
    exact ⟨rfl, rfl⟩
  · rw [cmpN_gt h]
    have h2 : ¬ a < b := by omega
    go_enter Try.func23, Try.ntmps23
    go_wp2
    go_ret
    exact ⟨rfl, rfl⟩
theorem compare_u (a b : Nat) (w : World) : Calls Try.prog 24 #[.int .u64 (a : Int), .int .u64 (b : Int)] w fun e w' => e = .returned (.int .i64 (cmpN a b)) ∧ w' = w := by
  rcases Nat.lt_trichotomy a b with h | rfl | h
  · rw [cmpN_lt h]
    go_enter Try.func24, Try.ntmps24
    go_wp2
    go_ret
    exact ⟨rfl, rfl⟩
  · rw [cmpN_eq]
    go_enter Try.func24, Try.ntmps24
    go_wp2
    go_ret
    exact ⟨rfl, rfl⟩
  · rw [cmpN_gt h]
    have h2 : ¬ a < b := by omega
    go_enter Try.func24, Try.ntmps24
    go_wp2
    go_ret
    exact ⟨rfl, rfl⟩

theorem vs_top_lt {b k n : Nat} {x y : Nat → Nat} (hx : ∀ j, j < n → x j < b) (hk : k < n) (he : ∀ j, k < j → j < n → x j = y j) (h : x k < y k) : vs b x n < vs b y n := by
  obtain ⟨i, rfl⟩ : ∃ i, n = k + 1 + i := ⟨n - (k + 1), by omega⟩
  rw [vs_add, vs_add b y]
  have e : vs b (fun j => x (k + 1 + j)) i = vs b (fun j => y (k + 1 + j)) i := vs_congr fun j hj => he _ (by omega) (by omega)
  rw [e]
  apply Nat.add_lt_add_right
  rw [vs_succ, vs_succ]
  have h1 := vs_lt (fun j hj => hx j (by omega) : ∀ j, j < k → x j < b)
  have h2 : (x k + 1) * b ^ k ≤ y k * b ^ k := Nat.mul_le_mul_right _ h
  rw [Nat.add_mul, Nat.one_mul] at h2
  omega
theorem cn_vs_lt {b n m : Nat} {x y : Nat → Nat} (hb : 1 < b) (hx : ∀ j, j < n → x j < b) (cy : Cn m y) (h : n < m) : vs b x n < vs b y m := by
  have h1 := vs_lt hx
  have h2 := vs_ge (b := b) cy (by omega)
  have h3 : b ^ n ≤ b ^ (m - 1) := Nat.pow_le_pow_right (by omega) (by omega)
  omega
theorem B64_gt : 1 < B64 := by unfold B64; omega

/-- All places from k on are the same. -/
def Agree (x y : Nat → Nat) (k n : Nat) : Prop := ∀ j, k ≤ j → j < n → x j = y j

theorem Agree.down {x y : Nat → Nat} {k n : Nat} (h : Agree x y (k + 1) n) (e : x k = y k) : Agree x y k n := fun j h1 h2 => by
  rcases Nat.lt_or_ge k j with h3 | h3
  · exact h j h3 h2
  · have h4 : j = k := by omega
    rw [h4]; exact e

def CmpPost (w : World) (r : Int) (e : Ending) (w' : World) : Prop := e = .returned (.int .i64 r) ∧ Below w.heap.size w w'

theorem below_drewN {B : Nat} {a w : World} (h : Below B a w) (n : Nat) : Below B a (w.drewN n) := ⟨h.os, h.tape, h.output, h.size, h.block⟩

set_option maxHeartbeats 400000 in
theorem cmp_any (A B : Option Addr) (n m c d : Nat) (x y : Nat → Nat) (w : World) (ha : Sl w A n c x) (hb : Sl w B m d y) (hn : n ≤ 1000000) (hm : m ≤ 1000000) :
    Calls Try.prog 11 #[.slice A n c, .slice B m d] w (CmpPost w (cmpN (vs B64 x n) (vs B64 y m))) := by
  obtain ⟨A1, c1, e1, s1⟩ := viewV_sl ha
  obtain ⟨B1, d1, e2, s2⟩ := viewV_sl hb
  have l1 := tl_le x n
  have l2 := tl_le y m
  have va := vs_tl B64 x n
  have vb := vs_tl B64 y m
  have ca := tl_cn x n
  have cb := tl_cn y m
  have V1 := view_raw A n c x w ha (by omega)
  have V2 := view_raw B m d y w hb (by omega)
  rw [e1] at V1
  rw [e2] at V2
  rw [← va, ← vb]
  clear va vb e1 e2
  generalize tl x n = p at *
  generalize tl y m = q at *
  have H1 := Lib.hid V1
  have H2 := Lib.hid V2
  clear V1 V2
  by_cases hpq : p = q
  · subst hpq
    go_enter Try.func11, Try.ntmps11
    go_wp2_with fail
    refine H1.out.mono ?_
    rintro e w' ⟨rfl, rfl⟩
    go_wp2_with fail
    refine H2.out.mono ?_
    rintro e w' ⟨rfl, rfl⟩
    go_wp2_with fail
    go_loopw [5] (fun i wr => ∃ k : Nat, k ≤ p ∧ i = .int .i64 ((k : Int) - 1) ∧ Agree x y k p ∧ Below w.heap.size w wr) (fun i _ => (intOf i + 1).toNat)
    case atStart => exact ⟨p, Nat.le_refl _, rfl, fun j h1 h2 => by omega, Below.refl _ _⟩
    case round =>
      obtain ⟨k, hk, rfl, hag, hbw⟩ := hrel
      rcases k with _ | k
      · go_wp2
        go_ret
        refine ⟨?_, hbw⟩
        rw [vs_congr (g := y) fun j hj => hag j (by omega) hj, cmpN_eq]
        rfl
      · obtain ⟨ad, rfl, hb1, hx64, hc1⟩ := (s1.below hbw).at_ (k := k) (by omega)
        obtain ⟨bd, rfl, hb2, hy64, hc2⟩ := (s2.below hbw).at_ (k := k) (by omega)
        by_cases hxy : x k = y k
        · have hne : ((x k : Int) != (y k : Int)) = false := by simp [hxy]
          have HX := Lib.hid hxy
          clear hxy
          go_wp2
          go_quiet (fail)
          go_wp2
          go_roundw
          case rel => exact ⟨k, by omega, by go_num, hag.down HX.out, below_drewN hbw _⟩
          case measure => simp [intOf]
        · have hne : ((x k : Int) != (y k : Int)) = true := by simp; omega
          have hval : Hid (cmpN (x k) (y k) = cmpN (vs B64 x p) (vs B64 y p)) := by
            rcases Nat.lt_or_ge (x k) (y k) with h | h
            · exact Lib.hid (by rw [cmpN_lt h, cmpN_lt (vs_top_lt s1.small (by omega : k < p) (fun j h1 h2 => hag j (by omega) h2) h)])
            · have h : y k < x k := by omega
              exact Lib.hid (by rw [cmpN_gt h, cmpN_gt (vs_top_lt s2.small (by omega : k < p) (fun j h1 h2 => (hag j (by omega) h2).symm) h)])
          go_wp2
          go_quiet (fail)
          have hc1' : (wr.drewN nq).cell? (ad.add k) = some (.int .u64 ((x k : Nat) : Int)) := hc1
          have hc2' : (wr.drewN nq).cell? (bd.add k) = some (.int .u64 ((y k : Nat) : Int)) := hc2
          have hbw' := below_drewN hbw nq
          clear hc1 hc2 hbw hb1 hb2
          generalize wr.drewN nq = w1 at *
          go_wp2
          go_quiet ((go_at_call 24; exact Calls.quiet_of_same (compare_u _ _ _)))
          go_wp2
          go_ret
          exact ⟨by rw [← hval.out]; rfl, below_drewN hbw' _⟩
  · have hne : ((p : Int) != (q : Int)) = true := by simp; omega
    have hval : Hid (cmpN p q = cmpN (vs B64 x p) (vs B64 y q)) := by
      rcases Nat.lt_or_ge p q with h | h
      · exact Lib.hid (by rw [cmpN_lt h, cmpN_lt (cn_vs_lt B64_gt s1.small cb h)])
      · have h : q < p := by omega
        exact Lib.hid (by rw [cmpN_gt h, cmpN_gt (cn_vs_lt B64_gt s2.small ca h)])
    go_enter Try.func11, Try.ntmps11
    go_wp2_with fail
    refine H1.out.mono ?_
    rintro e w' ⟨rfl, rfl⟩
    go_wp2_with fail
    refine H2.out.mono ?_
    rintro e w' ⟨rfl, rfl⟩
    go_wp2_with fail
    refine (compare_i p q _).mono ?_
    rintro e w' ⟨rfl, rfl⟩
    go_wp2_with fail
    go_ret
    exact ⟨by rw [← hval.out]; rfl, Below.refl _ _⟩
end Go.Proofs.Ythjndkkepailmaa
