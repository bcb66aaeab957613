/-
  math/bits.Div64 where the high word is 0; nat.divWord and nat.DivMod of one word by one word.
-/
import Derived.Test.YtembfhepinfmnaaDoorShelf
import Derived.Deep.QuietTactic
import Derived.BigQuiet
import Derived.Test.YtembfhepinfmnaaDoorPlPGLists
import Derived.Test.YtembfhepinfmnaaDoorPlPGNat1
namespace Go.Proofs.YtembfhepinfmnaaDoor
open Go.RowKit

theorem vs_cons (b : Nat) (f : Nat → Nat) (m : Nat) : vs b f (m + 1) = f 0 + b * vs b (fun j => f (j + 1)) m := by
  rw [Nat.add_comm, vs_add, vs_succ, vs_zero]
  simp only [Nat.pow_zero, Nat.mul_one, Nat.pow_one, Nat.zero_add]
  rw [vs_congr (f := fun j => f (1 + j)) (g := fun j => f (j + 1)) fun j _ => by rw [Nat.add_comm]]

/-- Of n words of x those from k on are divided by y: the row F has their quotient, r is left. -/
def DivInv (t : TypeId) (w wr : World) (g n y : Nat) (x : Nat → Nat) (k r : Nat) : Prop :=
  ∃ F, Row t wr g n F ∧ Below g w wr ∧ r < y ∧ (k = n → r = 0) ∧ vs B64 (fun j => x (k + j)) (n - k) = vs B64 (fun j => F (k + j)) (n - k) * y + r

theorem DivInv.step {t : TypeId} {w wr w1 : World} {g n y k r xk : Nat} {x F : Nat → Nat} (hk : k < n) (hx : x k = xk) (hrow : Row t wr g n F) (hb : Below g w wr) (hr : r < y)
    (hv : vs B64 (fun j => x (k + 1 + j)) (n - (k + 1)) = vs B64 (fun j => F (k + 1 + j)) (n - (k + 1)) * y + r) (hxk : xk < B64) (hb1 : Below wr.heap.size wr w1) :
    DivInv t w (w1.setCell ⟨g, k, none⟩ (.int .u64 (((r * B64 + xk) / y : Nat) : Int))) g n y x k ((r * B64 + xk) % y) := by
  have hq : (r * B64 + xk) / y < B64 := by
    apply Nat.div_lt_of_lt_mul
    have : (r + 1) * B64 ≤ y * B64 := Nat.mul_le_mul_right _ hr
    rw [Nat.add_mul, Nat.one_mul] at this
    omega
  have hdm := Nat.div_add_mod (r * B64 + xk) y
  have hm : (r * B64 + xk) % y < y := Nat.mod_lt _ (by omega)
  generalize (r * B64 + xk) / y = q at *
  generalize (r * B64 + xk) % y = r' at *
  have hg := hrow.lt
  refine ⟨upd F k q, (hrow.below hb1 hg).set_ _ _ hq, (hb.trans (hb1.mono (by omega))).setCell (Nat.le_refl _) _, hm, fun h => by omega, ?_⟩
  obtain ⟨m, hm2⟩ : ∃ m, n - k = m + 1 := ⟨n - k - 1, by omega⟩
  have hm3 : n - (k + 1) = m := by omega
  rw [hm3] at hv
  rw [hm2, vs_cons, vs_cons]
  have e1 : vs B64 (fun j => x (k + (j + 1))) m = vs B64 (fun j => x (k + 1 + j)) m := vs_congr fun j _ => by congr 1; omega
  have e2 : vs B64 (fun j => upd F k q (k + (j + 1))) m = vs B64 (fun j => F (k + 1 + j)) m := vs_congr fun j _ => by rw [upd_other _ _ _ _ (by omega)]; congr 1; omega
  rw [e1, e2, hv]
  simp only [Nat.add_zero]
  rw [upd_same, hx]
  generalize vs B64 (fun j => F (k + 1 + j)) m = Z at *
  rw [Nat.mul_add, Nat.add_mul]
  have e3 : B64 * (Z * y) = B64 * Z * y := by ac_rfl
  have e4 : y * q = q * y := Nat.mul_comm _ _
  have e5 : B64 * r = r * B64 := Nat.mul_comm _ _
  omega

end Go.Proofs.YtembfhepinfmnaaDoor
