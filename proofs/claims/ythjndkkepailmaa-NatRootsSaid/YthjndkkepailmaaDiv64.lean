/-
  math/bits.Div64 where the high word is 0; nat.divWord and nat.DivMod of one word by one word.
-/
import Derived.Test.YthjndkkepailmaaKit
import Derived.Test.YthjndkkepailmaaView
import Derived.Test.YthjndkkepailmaaCmp
import Derived.Test.YthjndkkepailmaaShelf
import Derived.Deep.QuietTactic
import Derived.BigQuiet
namespace Go.Proofs.Ythjndkkepailmaa
open Go.RowKit

theorem u64_nat (z : Nat) (h : z ≤ 18446744073709551615) : IntKind.u64.wrap (z : Int) = (z : Int) := IntWalk.u64_in _ (by omega)

def PairPost (w : World) (q r : Nat) (e : Ending) (w' : World) : Prop := e = .returned (.tuple #[.int .u64 ((q : Nat) : Int), .int .u64 ((r : Nat) : Int)]) ∧ ∃ k, w' = w.drewN k

set_option maxHeartbeats 400000 in
set_option maxRecDepth 100000 in
theorem div64_zero (lo y : Nat) (w : World) (h0 : 0 < y) (h2 : y < B64) (h3 : lo < B64) :
    Calls Try.prog 48 #[.int .u64 0, .int .u64 (lo : Int), .int .u64 (y : Int)] w (PairPost w (lo / y) (lo % y)) := by
  have hy0 : ((y : Int) == 0) = false := by simp; omega
  have hy6 : y ≤ 18446744073709551615 := by unfold B64 at *; omega
  have hlo : lo ≤ 18446744073709551615 := by unfold B64 at *; omega
  have hd : IntKind.u64.wrap ((lo : Int) / (y : Int)) = ((lo / y : Nat) : Int) := by
    have : lo / y ≤ lo := Nat.div_le_self _ _
    rw [show ((lo : Int) / (y : Int)) = ((lo / y : Nat) : Int) from rfl]
    exact u64_nat _ (Nat.le_trans this hlo)
  go_enter Try.func48, Try.ntmps48
  go_wp2_with fail
  go_quiet (fail)
  go_wp2_with fail
  go_ret2
  exact ⟨rfl, _, rfl⟩

theorem vs_cons (b : Nat) (f : Nat → Nat) (m : Nat) : vs b f (m + 1) = f 0 + b * vs b (fun j => f (j + 1)) m := by
  rw [Nat.add_comm, vs_add, vs_succ, vs_zero]
  simp only [Nat.pow_zero, Nat.mul_one, Nat.pow_one, Nat.zero_add]
  rw [vs_congr (f := fun j => f (1 + j)) (g := fun j => f (j + 1)) fun j _ => by rw [Nat.add_comm]]

/-- Of n words of x those from k on are divided by y: the row F has their quotient, r is left. -/
def DivInv (t : TypeId) (w wr : World) (g n y : Nat) (x : Nat → Nat) (k r : Nat) : Prop :=
  ∃ F, Row t wr g n F ∧ Below g w wr ∧ r < y ∧ (k = n → r = 0) ∧ vs B64 (fun j => x (k + j)) (n - k) = vs B64 (fun j => F (k + j)) (n - k) * y + r

theorem DivInv.step {t : TypeId} {w wr w1 : World} {g n y k r xk : Nat} {x F : Nat → Nat} (hk : k < n) (hx : x k = xk) (hrow : Row t wr g n F) (hb : Below g w wr) (hr : r < y)
    (hv : vs B64 (fun j => x (k + 1 + j)) (n - (k + 1)) = vs B64 (fun j => F (k + 1 + j)) (n - (k + 1)) * y + r) (hxk : xk < B64) (hb1 : Below wr.heap.size wr w1) :
    DivInv t w (w1.setCell ⟨g, k, none⟩ (.int .u64 (((r * B64 + xk) / y : Nat) : Int))) g n y x k ((r * B64 + xk) % y) := by
  have hq : (r * B64 + xk) / y < B64 := by
    apply Nat.div_lt_of_lt_mul
    have : (r + 1) * B64 ≤ y * B64 := Nat.mul_le_mul_right _ hr
    rw [Nat.add_mul, Nat.one_mul] at this
    omega
  have hdm := Nat.div_add_mod (r * B64 + xk) y
  have hm : (r * B64 + xk) % y < y := Nat.mod_lt _ (by omega)
  generalize (r * B64 + xk) / y = q at *
  generalize (r * B64 + xk) % y = r' at *
  have hg := hrow.lt
  refine ⟨upd F k q, (hrow.below hb1 hg).set_ _ _ hq, (hb.trans (hb1.mono (by omega))).setCell (Nat.le_refl _) _, hm, fun h => by omega, ?_⟩
  obtain ⟨m, hm2⟩ : ∃ m, n - k = m + 1 := ⟨n - k - 1, by omega⟩
  have hm3 : n - (k + 1) = m := by omega
  rw [hm3] at hv
  rw [hm2, vs_cons, vs_cons]
  have e1 : vs B64 (fun j => x (k + (j + 1))) m = vs B64 (fun j => x (k + 1 + j)) m := vs_congr fun j _ => by congr 1; omega
  have e2 : vs B64 (fun j => upd F k q (k + (j + 1))) m = vs B64 (fun j => F (k + 1 + j)) m := vs_congr fun j _ => by rw [upd_other _ _ _ _ (by omega)]; congr 1; omega
  rw [e1, e2, hv]
  simp only [Nat.add_zero]
  rw [upd_same, hx]
  generalize vs B64 (fun j => F (k + 1 + j)) m = Z at *
  rw [Nat.mul_add, Nat.add_mul]
  have e3 : B64 * (Z * y) = B64 * Z * y := by ac_rfl
  have e4 : y * q = q * y := Nat.mul_comm _ _
  have e5 : B64 * r = r * B64 := Nat.mul_comm _ _
  omega

def WordPost (w : World) (Q R : Nat) (e : Ending) (w' : World) : Prop := ∃ v, e = .returned (.tuple #[v, .int .u64 ((R : Nat) : Int)]) ∧ Num w' v Q ∧ Below w.heap.size w w'

set_option maxHeartbeats 400000 in
theorem divWord_any (A : Option Addr) (n c : Nat) (x : Nat → Nat) (y : Nat) (w : World) (ha : Sl w A n c x) (hn : n ≤ 1000000) (hn0 : 0 < n) (hy : 0 < y)
    (hD : Hid (∀ (hi lo : Nat) (w : World), hi < y → lo < B64 → (n = 1 → hi = 0) → Calls Try.prog 48 #[.int .u64 (hi : Int), .int .u64 (lo : Int), .int .u64 (y : Int)] w (PairPost w ((hi * B64 + lo) / y) ((hi * B64 + lo) % y)))) :
    Calls Try.prog 34 #[.slice A n c, .int .u64 (y : Int)] w (WordPost w (vs B64 x n / y) (vs B64 x n % y)) := by
  have hmk : ∀ u : World, (Instr.makeSlice 22 (.int .i64 (n : Int)) (.int .i64 (n : Int))).run Try.prog u =
      .ok (.slice (some ⟨u.heap.size, 0, none⟩) n n) (u.alloc (.cells (madeCells #[.int .u64 0] n) 25)) := fun u => make_run n (by omega) u
  have h00 : DivInv 25 w (w.alloc (.cells (madeCells #[.int .u64 0] n) 25)) w.heap.size n y x n 0 :=
    ⟨_, Row.made 25 w n, (Below.refl _ w).alloc (Nat.le_refl _) _, hy, fun _ => rfl, by rw [Nat.sub_self]; simp [vs_zero]⟩
  go_enter Try.func34, Try.ntmps34
  go_wp2_with fail
  go_loopw [5, 6] (fun s5 s6 wr => ∃ k r : Nat, k ≤ n ∧ s6 = .int .i64 ((k : Int) - 1) ∧ s5 = .int .u64 (r : Int) ∧ DivInv 25 w wr w.heap.size n y x k r) (fun _ s6 _ => (intOf s6 + 1).toNat)
  case atStart => exact ⟨n, 0, Nat.le_refl _, rfl, rfl, h00⟩
  case round =>
    clear h00 hmk
    obtain ⟨k, r, hk, rfl, rfl, F, hrow, hb, hr, hr0, hv⟩ := hrel
    have HR := Lib.hid hr0
    have HV := Lib.hid hv
    clear hr0 hv
    rcases k with _ | k
    · go_wp2_with fail
      refine (view_raw _ n n _ wr (hrow.sl0 n n (Nat.le_refl _) (Nat.le_refl _)) (by omega)).mono ?_
      rintro e w5 ⟨rfl, rfl⟩
      go_wp2_with fail
      go_ret2
      have hnum := viewV_num (hrow.sl0 n n (Nat.le_refl _) (Nat.le_refl _))
      have hv := HV.out
      simp only [Nat.zero_add, Nat.sub_zero] at hv
      have e1 : vs B64 x n / y = vs B64 F n := by rw [hv, Nat.add_comm, Nat.add_mul_div_right _ _ hy, Nat.div_eq_of_lt hr, Nat.zero_add]
      have e2 : vs B64 x n % y = r := by rw [hv, Nat.add_comm, Nat.add_mul_mod_self_right, Nat.mod_eq_of_lt hr]
      refine ⟨_, ?_, by rw [e1]; exact hnum, hb⟩
      rw [e2]; rfl
    · obtain ⟨ad, rfl, hb1, hx64, hcell⟩ := (ha.below hb).at_ (k := k) (by omega)
      rw [show (((k + 1 : Nat) : Int) - 1) = (k : Int) from by omega]
      go_wp2_with fail
      refine (hD.out r (x k) wr hr hx64 (fun h => HR.out (by omega))).mono ?_
      rintro e w1 ⟨rfl, kk, hw1⟩
      have hb2 : Below wr.heap.size wr w1 := by rw [hw1]; exact below_drewN (Below.refl _ _) kk
      clear hw1
      have hrc := (hrow.below hb2 hrow.lt).cell (i := k) (by omega)
      have hrf := (hrow.below hb2 hrow.lt).frozen k
      have hstep := Lib.hid (DivInv.step (by omega : k < n) rfl hrow hb hr HV.out hx64 hb2)
      generalize (r * B64 + x k) / y = q at *
      generalize (r * B64 + x k) % y = r' at *
      go_wp2_with fail
      go_roundw
      case rel => exact ⟨k, r', by omega, by go_num, rfl, hstep.out⟩
      case measure => simp [intOf]
end Go.Proofs.Ythjndkkepailmaa
