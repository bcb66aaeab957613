/-
  volvellelaw02.awake: 1 over 3, and 1 and 3.
-/
import Derived.Test.YtmadojejafbpjaaGreatDoorPkDy2
import Derived.Test.YtmadojejafbpjaaGreatDoorPkDy4
import Derived.Test.YtmadojejafbpjaaGreatDoorPkDy5
namespace Go.Proofs.YtmadojejafbpjaaGreatDoor
open Go.RowKit

theorem nb1 : nb 1 = 1 := nb_of (B := 0) (by decide) (by decide)
theorem nb3 : nb 3 = 2 := nb_of (B := 1) (by decide) (by decide)
theorem nb5 : nb 5 = 3 := nb_of (B := 2) (by decide) (by decide)
theorem fit_small {e : Int} (h : -100 ≤ e ∧ e ≤ 100) : fitE e := ⟨by omega, by omega⟩
theorem over_one : overD true false false 1 3 0 0 3 false = ⟨true, false, 5, -4⟩ := by
  unfold overD quoD cutD
  rw [if_pos rfl, nb1, nb3]
  rw [show ((3 : Int).toNat + 2 - 1) = 4 from rfl, show 1 * 2 ^ 4 / 3 = 5 from rfl, nb5]
  simp only [show (3 : Int).toNat = 3 from rfl, Nat.sub_self, Nat.pow_zero, Nat.div_one, Nat.mul_one, bne_self_eq_false, Bool.and_false]
  rw [show (5 + if false = true then 1 else 0) = 5 from rfl]
  exact mkD_plain (by decide) (by rw [nb5, MB_eq]; omega) (fit_small (by decide))
def pairL (A B : Option Addr) (c d : Nat) : DL := ⟨fun _ => false, fun j => if j = 0 then A else B, fun _ => 1, fun j => if j = 0 then c else d, fun j => if j = 0 then (fun _ => 1) else (fun _ => 3), fun _ => 0⟩
theorem plain_one (r : Nat) (hr : r % 2 = 1) (hb : nb r ≤ 16384) : plainB false 1 (fun _ => r) 0 = true := by
  unfold plainB
  rw [if_neg (by omega)]
  have h0 : r ≠ 0 := by omega
  simp [hr, h0, vs_one, fit_small, hb, MB_eq]
theorem sum_pair (A B : Option Addr) (c d : Nat) : sumD (allP (pairL A B c d) 2) (pairL A B c d) 2 = ⟨true, false, 1, 2⟩ := by
  have hall : allP (pairL A B c d) 2 = true := by
    simp only [allP, pairL, Bool.true_and, Bool.and_eq_true]
    exact ⟨plain_one 1 (by decide) (by rw [nb1]; omega), plain_one 3 (by decide) (by rw [nb3]; omega)⟩
  have hlo : loOf (pairL A B c d) 2 = 0 ∧ hiOf (pairL A B c d) 2 = 0 := by
    simp [loOf, hiOf, ext, pairL]
  have hp : part (pairL A B c d) false 0 2 = 4 := by simp [part, pairL, DL.v, vs_one]
  have hq : part (pairL A B c d) true 0 2 = 0 := by simp [part, pairL]
  unfold sumD
  rw [hall, hlo.1, hlo.2, hp, hq]
  simp only [Int.sub_self, Bool.true_and]
  rw [if_pos (by decide), if_pos (by decide)]
  have h := mkD_pow false 1 2 2
  rw [show 1 * 2 ^ 2 = 4 - 0 from rfl, show (2 : Int) - ((2 : Nat) : Int) = 0 from rfl] at h
  rw [h]
  exact mkD_plain (by decide) (by rw [nb1, MB_eq]; omega) (fit_small (by decide))

abbrev cw (r : Nat) : Obj := .cells #[.int .u64 ((r : Nat) : Int)] 47
abbrev cd3 (a b c : Value) : Obj := .cells #[a, b, c] 27
/-- Two numbers of one word as structs, in memory. -/
theorem two_words (w : World) (a b c d e f : Value) (r t : Nat) (hr : r < B64) (ht : t < B64) :
    Below w.heap.size w ((((w.alloc (cw r)).alloc (cw t)).alloc (cd3 a b c)).alloc (cd3 d e f)) ∧
    Sl ((((w.alloc (cw r)).alloc (cw t)).alloc (cd3 a b c)).alloc (cd3 d e f)) (some ⟨w.heap.size, 0, none⟩) 1 1 (fun _ => r) ∧
    Sl ((((w.alloc (cw r)).alloc (cw t)).alloc (cd3 a b c)).alloc (cd3 d e f)) (some ⟨w.heap.size + 1, 0, none⟩) 1 1 (fun _ => t) ∧
    Blk3 ((((w.alloc (cw r)).alloc (cw t)).alloc (cd3 a b c)).alloc (cd3 d e f)) (w.heap.size + 1 + 1) a b c ∧
    Blk3 ((((w.alloc (cw r)).alloc (cw t)).alloc (cd3 a b c)).alloc (cd3 d e f)) (w.heap.size + 1 + 1 + 1) d e f ∧
    w.heap.size + 4 ≤ ((((w.alloc (cw r)).alloc (cw t)).alloc (cd3 a b c)).alloc (cd3 d e f)).heap.size := by
  have k1 := Blk3.made ((w.alloc (cw r)).alloc (cw t)) a b c
  rw [show ((w.alloc (cw r)).alloc (cw t)).heap.size = w.heap.size + 1 + 1 by simp] at k1
  have k2 := Blk3.made (((w.alloc (cw r)).alloc (cw t)).alloc (cd3 a b c)) d e f
  rw [show (((w.alloc (cw r)).alloc (cw t)).alloc (cd3 a b c)).heap.size = w.heap.size + 1 + 1 + 1 by simp] at k2
  refine ⟨((((Below.refl _ w).alloc (Nat.le_refl _) _).alloc (by simp) _).alloc (by simp; omega) _).alloc (by simp; omega) _, (((one_sl _ w r hr).alloc _).alloc _).alloc _, ((one_sl2 _ w _ t ht).alloc _).alloc _,
    k1.below ((Below.refl (w.heap.size + 1 + 1 + 1) _).alloc (by simp) _) (by omega), k2, by simp⟩

theorem num_one {w : World} {A : Option Addr} {c r : Nat} (h : Sl w A 1 c (fun _ => r)) (h0 : r ≠ 0) : Num w (.slice A 1 c) r := ⟨A, 1, c, _, rfl, h, .inr h0, vs_one _ _⟩

end Go.Proofs.YtmadojejafbpjaaGreatDoor
