/-
  nat.Add answers the sum, trimmed.
  cmp.Compare at int and at uint64; nat.Cmp: the order of two numbers.
  volvelleref01: cut, compare, Same, Trim.
  Sizes of sums and products; how many words a number has.
  nat.subFrom, nat.Sub: differences.
  From a walk to a row: arguments that are slices of uint64 (and one int), opened and shut.
-/
import Derived.Test.YtembfhepinfmnaaDoorRows
import Derived.WalkKit
import Derived.ProofKit
import Derived.Outline
import Derived.Lib.Hide
import Derived.Laws.Externs
import Derived.Shelf.Spec.BitsCarry
import Derived.Deep.QuietTactic
import Derived.BigQuiet
import Derived.OpenShut
import Derived.JoinedCond
import Derived.SizedLaws
import Derived.Carry
import Derived.Test.YtembfhepinfmnaaDoorPlPGLists
namespace Go.Proofs.YtembfhepinfmnaaDoor
open Go.RowKit

/-- What a call answers that stands for V; nothing that was there has turned. -/
def NumPost (w : World) (V : Nat) (e : Ending) (w' : World) : Prop := ∃ v, e = .returned v ∧ Num w' v V ∧ Below w.heap.size w w'

end Go.Proofs.YtembfhepinfmnaaDoor

namespace Go.Proofs.YtembfhepinfmnaaDoor
open Go.RowKit

/-- -1, 0, 1: below, the same, above. -/
def cmpN (a b : Nat) : Int := if a < b then -1 else if b < a then 1 else 0
theorem cmpN_lt {a b : Nat} (h : a < b) : cmpN a b = -1 := by simp [cmpN, h]
theorem cmpN_gt {a b : Nat} (h : b < a) : cmpN a b = 1 := by simp [cmpN, h, Nat.lt_asymm h]
theorem cmpN_eq (a : Nat) : cmpN a a = 0 := by simp [cmpN]

theorem compare_i (a b : Nat) (w : World) : Calls Tryd.prog 50 #[.int .i64 (a : Int), .int .i64 (b : Int)] w fun e w' => e = .returned (.int .i64 (cmpN a b)) ∧ w' = w := by
  rcases Nat.lt_trichotomy a b with h | rfl | h
  · rw [cmpN_lt h]
    go_enter Tryd.func50, Tryd.ntmps50
    go_wp2
    go_ret
    exact ⟨rfl, rfl⟩
  · rw [cmpN_eq]
    go_enter Tryd.func50, Tryd.ntmps50
    go_wp2
    go_ret
    exact ⟨rfl, rfl⟩
  · rw [cmpN_gt h]
    have h2 : ¬ a < b := by omega
    go_enter Tryd.func50, Tryd.ntmps50
    go_wp2
    go_ret
    exact ⟨rfl, rfl⟩
theorem compare_u (a b : Nat) (w : World) : Calls Tryd.prog 65 #[.int .u64 (a : Int), .int .u64 (b : Int)] w fun e w' => e = .returned (.int .i64 (cmpN a b)) ∧ w' = w := by
  rcases Nat.lt_trichotomy a b with h | rfl | h
  · rw [cmpN_lt h]
    go_enter Tryd.func65, Tryd.ntmps65
    go_wp2
    go_ret
    exact ⟨rfl, rfl⟩
  · rw [cmpN_eq]
    go_enter Tryd.func65, Tryd.ntmps65
    go_wp2
    go_ret
    exact ⟨rfl, rfl⟩
  · rw [cmpN_gt h]
    have h2 : ¬ a < b := by omega
    go_enter Tryd.func65, Tryd.ntmps65
    go_wp2
    go_ret
    exact ⟨rfl, rfl⟩

theorem vs_top_lt {b k n : Nat} {x y : Nat → Nat} (hx : ∀ j, j < n → x j < b) (hk : k < n) (he : ∀ j, k < j → j < n → x j = y j) (h : x k < y k) : vs b x n < vs b y n := by
  obtain ⟨i, rfl⟩ : ∃ i, n = k + 1 + i := ⟨n - (k + 1), by omega⟩
  rw [vs_add, vs_add b y]
  have e : vs b (fun j => x (k + 1 + j)) i = vs b (fun j => y (k + 1 + j)) i := vs_congr fun j hj => he _ (by omega) (by omega)
  rw [e]
  apply Nat.add_lt_add_right
  rw [vs_succ, vs_succ]
  have h1 := vs_lt (fun j hj => hx j (by omega) : ∀ j, j < k → x j < b)
  have h2 : (x k + 1) * b ^ k ≤ y k * b ^ k := Nat.mul_le_mul_right _ h
  rw [Nat.add_mul, Nat.one_mul] at h2
  omega
theorem cn_vs_lt {b n m : Nat} {x y : Nat → Nat} (hb : 1 < b) (hx : ∀ j, j < n → x j < b) (cy : Cn m y) (h : n < m) : vs b x n < vs b y m := by
  have h1 := vs_lt hx
  have h2 := vs_ge (b := b) cy (by omega)
  have h3 : b ^ n ≤ b ^ (m - 1) := Nat.pow_le_pow_right (by omega) (by omega)
  omega
theorem B64_gt : 1 < B64 := by unfold B64; omega

/-- All places from k on are the same. -/
def Agree (x y : Nat → Nat) (k n : Nat) : Prop := ∀ j, k ≤ j → j < n → x j = y j

theorem Agree.down {x y : Nat → Nat} {k n : Nat} (h : Agree x y (k + 1) n) (e : x k = y k) : Agree x y k n := fun j h1 h2 => by
  rcases Nat.lt_or_ge k j with h3 | h3
  · exact h j h3 h2
  · have h4 : j = k := by omega
    rw [h4]; exact e

def CmpPost (w : World) (r : Int) (e : Ending) (w' : World) : Prop := e = .returned (.int .i64 r) ∧ Below w.heap.size w w'

theorem below_drewN {B : Nat} {a w : World} (h : Below B a w) (n : Nat) : Below B a (w.drewN n) := ⟨h.os, h.tape, h.output, h.size, h.block⟩

set_option maxHeartbeats 400000 in
theorem cmp_any (A B : Option Addr) (n m c d : Nat) (x y : Nat → Nat) (w : World) (ha : Sl w A n c x) (hb : Sl w B m d y) (hn : n ≤ 1000000) (hm : m ≤ 1000000) :
    Calls Tryd.prog 60 #[.slice A n c, .slice B m d] w (CmpPost w (cmpN (vs B64 x n) (vs B64 y m))) := by
  obtain ⟨A1, c1, e1, s1⟩ := viewV_sl ha
  obtain ⟨B1, d1, e2, s2⟩ := viewV_sl hb
  have l1 := tl_le x n
  have l2 := tl_le y m
  have va := vs_tl B64 x n
  have vb := vs_tl B64 y m
  have ca := tl_cn x n
  have cb := tl_cn y m
  have V1 := view_raw A n c x w ha (by omega)
  have V2 := view_raw B m d y w hb (by omega)
  rw [e1] at V1
  rw [e2] at V2
  rw [← va, ← vb]
  clear va vb e1 e2
  generalize tl x n = p at *
  generalize tl y m = q at *
  have H1 := Lib.hid V1
  have H2 := Lib.hid V2
  clear V1 V2
  by_cases hpq : p = q
  · subst hpq
    go_enter Tryd.func60, Tryd.ntmps60
    go_wp2_with fail
    refine H1.out.mono ?_
    rintro e w' ⟨rfl, rfl⟩
    go_wp2_with fail
    refine H2.out.mono ?_
    rintro e w' ⟨rfl, rfl⟩
    go_wp2_with fail
    go_loopw [5] (fun i wr => ∃ k : Nat, k ≤ p ∧ i = .int .i64 ((k : Int) - 1) ∧ Agree x y k p ∧ Below w.heap.size w wr) (fun i _ => (intOf i + 1).toNat)
    case atStart => exact ⟨p, Nat.le_refl _, rfl, fun j h1 h2 => by omega, Below.refl _ _⟩
    case round =>
      obtain ⟨k, hk, rfl, hag, hbw⟩ := hrel
      rcases k with _ | k
      · go_wp2
        go_ret
        refine ⟨?_, hbw⟩
        rw [vs_congr (g := y) fun j hj => hag j (by omega) hj, cmpN_eq]
        rfl
      · obtain ⟨ad, rfl, hb1, hx64, hc1⟩ := (s1.below hbw).at_ (k := k) (by omega)
        obtain ⟨bd, rfl, hb2, hy64, hc2⟩ := (s2.below hbw).at_ (k := k) (by omega)
        by_cases hxy : x k = y k
        · have hne : ((x k : Int) != (y k : Int)) = false := by simp [hxy]
          have HX := Lib.hid hxy
          clear hxy
          go_wp2
          go_quiet (fail)
          go_wp2
          go_roundw
          case rel => exact ⟨k, by omega, by go_num, hag.down HX.out, below_drewN hbw _⟩
          case measure => simp [intOf]
        · have hne : ((x k : Int) != (y k : Int)) = true := by simp; omega
          have hval : Hid (cmpN (x k) (y k) = cmpN (vs B64 x p) (vs B64 y p)) := by
            rcases Nat.lt_or_ge (x k) (y k) with h | h
            · exact Lib.hid (by rw [cmpN_lt h, cmpN_lt (vs_top_lt s1.small (by omega : k < p) (fun j h1 h2 => hag j (by omega) h2) h)])
            · have h : y k < x k := by omega
              exact Lib.hid (by rw [cmpN_gt h, cmpN_gt (vs_top_lt s2.small (by omega : k < p) (fun j h1 h2 => (hag j (by omega) h2).symm) h)])
          go_wp2
          go_quiet (fail)
          have hc1' : (wr.drewN nq).cell? (ad.add k) = some (.int .u64 ((x k : Nat) : Int)) := hc1
          have hc2' : (wr.drewN nq).cell? (bd.add k) = some (.int .u64 ((y k : Nat) : Int)) := hc2
          have hbw' := below_drewN hbw nq
          clear hc1 hc2 hbw hb1 hb2
          generalize wr.drewN nq = w1 at *
          go_wp2
          go_quiet ((go_at_call 65; exact Calls.quiet_of_same (compare_u _ _ _)))
          go_wp2
          go_ret
          exact ⟨by rw [← hval.out]; rfl, below_drewN hbw' _⟩
  · have hne : ((p : Int) != (q : Int)) = true := by simp; omega
    have hval : Hid (cmpN p q = cmpN (vs B64 x p) (vs B64 y q)) := by
      rcases Nat.lt_or_ge p q with h | h
      · exact Lib.hid (by rw [cmpN_lt h, cmpN_lt (cn_vs_lt B64_gt s1.small cb h)])
      · have h : q < p := by omega
        exact Lib.hid (by rw [cmpN_gt h, cmpN_gt (cn_vs_lt B64_gt s2.small ca h)])
    go_enter Tryd.func60, Tryd.ntmps60
    go_wp2_with fail
    refine H1.out.mono ?_
    rintro e w' ⟨rfl, rfl⟩
    go_wp2_with fail
    refine H2.out.mono ?_
    rintro e w' ⟨rfl, rfl⟩
    go_wp2_with fail
    refine (compare_i p q _).mono ?_
    rintro e w' ⟨rfl, rfl⟩
    go_wp2_with fail
    go_ret
    exact ⟨by rw [← hval.out]; rfl, Below.refl _ _⟩
end Go.Proofs.YtembfhepinfmnaaDoor

namespace Go.Proofs.YtembfhepinfmnaaDoor
open Go.RowKit

def TruePost (w : World) (e : Ending) (w' : World) : Prop := e = .returned (.bool true) ∧ Below w.heap.size w w'

end Go.Proofs.YtembfhepinfmnaaDoor

namespace Go.Proofs.YtembfhepinfmnaaDoor
open Go.RowKit

theorem Num.sl {w : World} {v : Value} {V K : Nat} (h : Num w v V) (hK : V < B64 ^ K) : ∃ A n c f, v = .slice A n c ∧ Sl w A n c f ∧ n ≤ K ∧ vs B64 f n = V := by
  obtain ⟨A, n, c, f, hv, hs, hc, he⟩ := h
  exact ⟨A, n, c, f, hv, hs, cn_le B64_gt hc (by rw [he]; exact hK), he⟩
end Go.Proofs.YtembfhepinfmnaaDoor

namespace Go.Proofs.YtembfhepinfmnaaDoor
open Go.RowKit

/-- What holds while y (m words) is taken from n words of a row from off on: k places are done, d is borrowed. -/
def SubInv (t : TypeId) (D : Nat) (w wr : World) (g N off : Nat) (F F' y : Nat → Nat) (m k d : Nat) : Prop :=
  d ≤ D ∧ Row t wr g N F' ∧ Only w wr g ∧ (∀ j, j < off ∨ off + k ≤ j → F' j = F j) ∧
    vs B64 (fun j => F' (off + j)) k + vs B64 (fun j => if j < m then y j else 0) k = vs B64 (fun j => F (off + j)) k + d * B64 ^ k

theorem step_sub {V S Y c b n s y r d : Nat} (h : V + Y = S + c * b ^ n) (hr : r + (y + c) = s + d * b) : V + r * b ^ n + (Y + y * b ^ n) = S + s * b ^ n + d * b ^ (n + 1) := by
  have h1 : (r + (y + c)) * b ^ n = (s + d * b) * b ^ n := by rw [hr]
  rw [Nat.add_mul, Nat.add_mul, Nat.add_mul] at h1
  have h2 : d * b ^ (n + 1) = d * b * b ^ n := by rw [Nat.pow_succ]; ac_rfl
  omega

section
variable {t : TypeId} {w wr : World} {g N off : Nat} {F F' y : Nat → Nat} {m k d D : Nat}
theorem SubInv.start (h : Row t w g N F) : SubInv t D w w g N off F F y m 0 0 := ⟨Nat.zero_le _, h, Only.refl _ _, fun _ _ => rfl, by simp [vs_zero]⟩
theorem SubInv.step (h : SubInv t D w wr g N off F F' y m k d) {r d' : Nat} (hr : r + ((if k < m then y k else 0) + d) = F (off + k) + d' * B64) (h1 : r < B64) (h2 : d' ≤ D) :
    SubInv t D w (wr.setCell ⟨g, off + k, none⟩ (.int .u64 ((r : Nat) : Int))) g N off F (upd F' (off + k) r) y m (k + 1) d' := by
  obtain ⟨_, hrow, hon, hag, hv⟩ := h
  refine ⟨h2, hrow.set_ _ _ h1, hon.set_ _ _, fun j hj => ?_, ?_⟩
  · rw [upd_other _ _ _ _ (by omega)]; exact hag j (by omega)
  · rw [vs_succ, vs_succ, vs_succ, upd_same]
    have e : vs B64 (fun j => upd F' (off + k) r (off + j)) k = vs B64 (fun j => F' (off + j)) k := vs_congr fun j hj => upd_other _ _ _ _ (by omega)
    rw [e]
    exact step_sub hv hr
theorem SubInv.rest (h : SubInv t D w wr g N off F F' y m k 0) (hm : m ≤ k) (i : Nat) : SubInv t D w wr g N off F F' y m (k + i) 0 := by
  induction i with
  | zero => exact h
  | succ i ih =>
    obtain ⟨_, hrow, hon, hag, hv⟩ := ih
    refine ⟨Nat.zero_le _, hrow, hon, fun j hj => h.2.2.2.1 j (by omega), ?_⟩
    rw [← Nat.add_assoc, vs_succ, vs_succ, vs_succ, if_neg (by omega), h.2.2.2.1 (off + (k + i)) (by omega)]
    simp only [Nat.zero_mul, Nat.add_zero] at hv ⊢
    omega
end

end Go.Proofs.YtembfhepinfmnaaDoor

namespace Go.Proofs.YtembfhepinfmnaaDoor
open Go.ChangeShapes Go.WideShapes Go.ChangeAt Go.RowKit

theorem own : ownKnob Tryd.prog.godebug = none := by kernel_rfl
end Go.Proofs.YtembfhepinfmnaaDoor
