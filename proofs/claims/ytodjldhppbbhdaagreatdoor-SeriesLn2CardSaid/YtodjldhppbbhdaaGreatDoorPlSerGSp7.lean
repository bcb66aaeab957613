/-
  Div of the code.
-/
import Derived.Deep.CutBlock
import Derived.Test.YtodjldhppbbhdaaGreatDoorPlSerGDy5
import Derived.Test.YtodjldhppbbhdaaGreatDoorPlSerGSp6
namespace Go.Proofs.YtodjldhppbbhdaaGreatDoor
open Go.RowKit
variable {TW : TypeId}

def overI (r s : DR) (p : Int) (up : Bool) : DR := overD (r.ok && s.ok && !decide (s.m = 0) && bitsFitB p) r.neg s.neg r.m s.m r.e s.e p up
theorem plIf_overI (r s : DR) (p : Int) (up : Bool) : PlIf (overI r s p up) := by
  unfold overI overD
  cases (r.ok && s.ok && !decide (s.m = 0) && bitsFitB p)
  · exact plIf_no
  · exact plIf_cut _ _ _ _ _ _
/-- A plain dyad among the numbers of a state. -/
structure Pl (r : DR) : Prop where
  ok : r.ok = true
  pl : plainV r.neg r.m r.e = true
theorem Pl.din {r : DR} {w : World} {A : Option Addr} {n c : Nat} (h : Pl r) (hn : Num w (.slice A n c) r.m) : DIn w A n c r := DIn.of_num hn h.pl h.ok
theorem pl_neg {r : DR} (h : Pl r) : Pl (negI r) := by
  have hk : (negI r).ok = true := by unfold negI; rw [h.ok]; simp only [if_true]; split <;> rfl
  exact ⟨hk, plIf_negI (fun _ => plainR_of h.pl) hk⟩
theorem negS_ok {p : Int} {lo hi : DR} (hp1 : 1 ≤ p) (hp2 : p ≤ 8192) (h1 : RightF lo hi) (l : Pl lo) (h : Pl hi) : negS p false lo hi = ⟨false, negI hi, negI lo⟩ := by
  have hb : bad1 p false lo hi = false := by
    unfold bad1 pBad rightI rightB
    rw [h1.l, h1.h]
    have := h1.le
    simp [this]
    omega
  unfold negS twoS
  rw [hb]
  simp only [Bool.false_eq_true, if_false]
  unfold keepS
  rw [(pl_neg h).ok, (pl_neg l).ok]
  rfl
end Go.Proofs.YtodjldhppbbhdaaGreatDoor
