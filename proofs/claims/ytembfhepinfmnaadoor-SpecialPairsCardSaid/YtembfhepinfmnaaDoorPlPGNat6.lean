/-
  nat.divLong: quotient and rest by two words or more.
-/
import Derived.Test.YtembfhepinfmnaaDoorShelf
import Derived.Test.YtembfhepinfmnaaDoorPlPGLists
import Derived.Test.YtembfhepinfmnaaDoorPlPGNat1
import Derived.Test.YtembfhepinfmnaaDoorPlPGNat2
import Derived.Test.YtembfhepinfmnaaDoorPlPGNat5
namespace Go.Proofs.YtembfhepinfmnaaDoor
open Go.RowKit

/-- Words of the quotient from k on are done; what is left lies in L. -/
def LongInv (t : TypeId) (w1 wr : World) (g1 g2 N n m V X k : Nat) : Prop :=
  ∃ L F, Row t wr g1 N L ∧ Row t wr g2 m F ∧ Below g1 w1 wr ∧ (∀ j, k + n ≤ j → j < N → L j = 0) ∧ vs B64 L (k + n) < V * B64 ^ k ∧ X = vs B64 (fun j => F (k + j)) (m - k) * (B64 ^ k * V) + vs B64 L (k + n)

theorem LongInv.step {t : TypeId} {w1 wr w' : World} {g1 g2 N n m V X i q : Nat} {L L' F : Nat → Nat} (him : i < m) (hN : i + n < N) (hL : ∀ j, j < N → L j < B64) (hrowL : Row t w' g1 N L') (hrowF : Row t wr g2 m F) (hon : Only wr w' g1) (hne : g1 ≠ g2) (hg : g1 ≤ g2) (hb : Below g1 w1 wr) (hgw : g1 ≤ wr.heap.size)
    (hz : ∀ j, i + 1 + n ≤ j → j < N → L j = 0) (hX : X = vs B64 (fun j => F (i + 1 + j)) (m - (i + 1)) * (B64 ^ (i + 1) * V) + vs B64 L (i + 1 + n))
    (hq : q < B64) (hag : ∀ j, j < i ∨ i + n + 1 ≤ j → L' j = L j) (hz' : L' (i + n) = 0) (hZ : vs B64 (fun j => L (i + j)) (n + 1) = q * V + vs B64 (fun j => L' (i + j)) n) (hR : vs B64 (fun j => L' (i + j)) n < V) :
    LongInv t w1 (w'.setCell ⟨g2, i, none⟩ (.int .u64 ((q : Nat) : Int))) g1 g2 N n m V X i := by
  refine ⟨L', upd F i q, hrowL.of_block (Below.heap_setCell w' _ _ g1 hne), (hrowF.other hon (fun e => hne e.symm)).set_ i q hq, (Only.below hb hon hgw (Nat.le_refl _)).setCell hg _, fun j hj hjN => ?_, ?_, ?_⟩
  · rcases Nat.lt_or_ge j (i + n + 1) with h | h
    · rw [show j = i + n by omega]; exact hz'
    · rw [hag j (by omega)]; exact hz j (by omega) hjN
  · rw [vs_add]
    have e1 : vs B64 L' i = vs B64 L i := vs_congr fun j hj => hag j (by omega)
    have h1 := vs_lt (fun j hj => hL j (by omega) : ∀ j, j < i → L j < B64)
    rw [e1]
    generalize vs B64 (fun j => L' (i + j)) n = R at *
    have h2 : B64 ^ i * (R + 1) ≤ B64 ^ i * V := Nat.mul_le_mul_left _ hR
    rw [Nat.mul_add, Nat.mul_one] at h2
    rw [Nat.mul_comm V]
    omega
  · rw [vs_add B64 L']
    have e1 : vs B64 L' i = vs B64 L i := vs_congr fun j hj => hag j (by omega)
    rw [hX, show i + 1 + n = i + (n + 1) by omega, vs_add B64 L, hZ, e1]
    obtain ⟨r, hr⟩ : ∃ r, m - i = r + 1 := ⟨m - i - 1, by omega⟩
    rw [hr, vs_cons, show m - (i + 1) = r by omega]
    have e2 : vs B64 (fun j => upd F i q (i + (j + 1))) r = vs B64 (fun j => F (i + 1 + j)) r := vs_congr fun j _ => by rw [upd_other _ _ _ _ (by omega)]; congr 1; omega
    rw [e2]
    simp only [Nat.add_zero]
    rw [upd_same]
    generalize vs B64 (fun j => F (i + 1 + j)) r = Q at *
    generalize vs B64 (fun j => L' (i + j)) n = R at *
    generalize vs B64 L i = S at *
    rw [Nat.add_mul, Nat.mul_add, Nat.pow_succ]
    have e3 : Q * (B64 ^ i * B64 * V) = B64 * Q * (B64 ^ i * V) := by ac_rfl
    have e4 : B64 ^ i * (q * V) = q * (B64 ^ i * V) := by ac_rfl
    rw [e3, e4]
    omega

end Go.Proofs.YtembfhepinfmnaaDoor
