/-
  volvelleref01: Cmp, Add, minus, Sub: what the document answers, in plain numbers.
  volvelleref01: minus, Sub.
  volvelleref01.Shl.
-/
import Derived.Test.YtembfhepinfmnaaDoorPlPGNat1
import Derived.Test.YtembfhepinfmnaaDoorPlPGNat2
import Derived.Test.YtembfhepinfmnaaDoorPlPGNat3
namespace Go.Proofs.YtembfhepinfmnaaDoor
open Go.RowKit

/-- k digits of a sum are done; cy is carried. -/
def Carry (F X Y : Nat → Nat) (k cy : Nat) : Prop := cy ≤ 1 ∧ (∀ j, j < k → F j < 65536) ∧ vs 65536 F k + cy * 65536 ^ k = vs 65536 X k + vs 65536 Y k
theorem Carry.step {F X Y : Nat → Nat} {k cy a b : Nat} (h : Carry F X Y k cy) (ha : X k = a) (hb : Y k = b) (ha' : a < 65536) (hb' : b < 65536) : Carry (upd F k ((cy + a + b) % 65536)) X Y (k + 1) ((cy + a + b) / 65536) := by
  obtain ⟨h1, h2, h3⟩ := h
  refine ⟨by omega, fun j hj => ?_, ?_⟩
  · unfold upd; split
    · omega
    · exact h2 j (by omega)
  · rw [vs_succ, vs_succ, vs_succ, upd_same, vs_upd_ge _ _ _ _ _ (Nat.le_refl _), ha, hb]
    exact step_add h3 (by omega)

end Go.Proofs.YtembfhepinfmnaaDoor

namespace Go.Proofs.YtembfhepinfmnaaDoor
open Go.RowKit

/-- k digits of a difference are done; bw is borrowed. -/
def Borrow (F X Y : Nat → Nat) (k bw : Nat) : Prop := bw ≤ 1 ∧ (∀ j, j < k → F j < 65536) ∧ vs 65536 F k + vs 65536 Y k = vs 65536 X k + bw * 65536 ^ k
theorem Borrow.step {F X Y : Nat → Nat} {k bw a b : Nat} (h : Borrow F X Y k bw) (ha : X k = a) (hb : Y k = b) (ha' : a < 65536) (hb' : b < 65536) : Borrow (upd F k ((a + 65536 - bw - b) % 65536)) X Y (k + 1) (1 - (a + 65536 - bw - b) / 65536) := by
  obtain ⟨h1, h2, h3⟩ := h
  refine ⟨by omega, fun j hj => ?_, ?_⟩
  · unfold upd; split
    · omega
    · exact h2 j (by omega)
  · rw [vs_succ, vs_succ, vs_succ, upd_same, vs_upd_ge _ _ _ _ _ (Nat.le_refl _), ha, hb]
    exact step_sub h3 (by omega)
end Go.Proofs.YtembfhepinfmnaaDoor

namespace Go.Proofs.YtembfhepinfmnaaDoor
open Go.RowKit

/-- What comes over from the word below. -/
def ov (o : Nat → Nat) (r j : Nat) : Nat := if j = 0 then 0 else o (j - 1) / 2 ^ (64 - r)
/-- Word j of o times 2 to the r. -/
def sh (o : Nat → Nat) (r j : Nat) : Nat := o j * 2 ^ r % B64 + ov o r j
def RShInv (t : TypeId) (w wr : World) (g B N : Nat) (o : Nat → Nat) (r k : Nat) : Prop := ∃ F, Row t wr g N F ∧ Below B w wr ∧ (∀ j, k ≤ j → j < N → F j = sh o r j) ∧ ∀ j, j < k → F j = o j
theorem RShInv.step {t : TypeId} {w w' : World} {g B N r k v : Nat} {o F : Nat → Nat} (hF : ∀ j, k < j → j < N → F j = sh o r j) (hG : ∀ j, j < k → F j = o j) (hv : v = sh o r k) (hrow : Row t w' g N (upd F k v)) (hb : Below B w w') : RShInv t w w' g B N o r k := by
  refine ⟨_, hrow, hb, fun j hj hjN => ?_, fun j hj => ?_⟩
  · unfold upd; split
    · rename_i e; rw [e, hv]
    · exact hF j (by omega) hjN
  · rw [upd_other _ _ _ _ (by omega)]; exact hG j (by omega)

end Go.Proofs.YtembfhepinfmnaaDoor
