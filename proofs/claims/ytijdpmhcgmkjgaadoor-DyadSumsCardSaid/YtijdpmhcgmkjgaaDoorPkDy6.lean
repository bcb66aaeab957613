/-
  volvellelaw02.awake: 1 over 3, and 1 and 3.
-/
import Derived.Test.YtijdpmhcgmkjgaaDoorPkDy2
import Derived.Test.YtijdpmhcgmkjgaaDoorPkDy4
import Derived.Test.YtijdpmhcgmkjgaaDoorPkDy5
namespace Go.Proofs.YtijdpmhcgmkjgaaDoor
open Go.RowKit

theorem nb1 : nb 1 = 1 := nb_of (B := 0) (by decide) (by decide)
theorem nb3 : nb 3 = 2 := nb_of (B := 1) (by decide) (by decide)
theorem nb5 : nb 5 = 3 := nb_of (B := 2) (by decide) (by decide)
theorem fit_small {e : Int} (h : -100 ≤ e ∧ e ≤ 100) : fitE e := ⟨by omega, by omega⟩
theorem over_one : overD true false false 1 3 0 0 3 false = ⟨true, false, 5, -4⟩ := by
  unfold overD quoD cutD
  rw [if_pos rfl, nb1, nb3]
  rw [show ((3 : Int).toNat + 2 - 1) = 4 from rfl, show 1 * 2 ^ 4 / 3 = 5 from rfl, nb5]
  simp only [show (3 : Int).toNat = 3 from rfl, Nat.sub_self, Nat.pow_zero, Nat.div_one, Nat.mul_one, bne_self_eq_false, Bool.and_false]
  rw [show (5 + if false = true then 1 else 0) = 5 from rfl]
  exact mkD_plain (by decide) (by rw [nb5, MB_eq]; omega) (fit_small (by decide))
def pairL (A B : Option Addr) (c d : Nat) : DL := ⟨fun _ => false, fun j => if j = 0 then A else B, fun _ => 1, fun j => if j = 0 then c else d, fun j => if j = 0 then (fun _ => 1) else (fun _ => 3), fun _ => 0⟩
theorem plain_one (r : Nat) (hr : r % 2 = 1) (hb : nb r ≤ 16384) : plainB false 1 (fun _ => r) 0 = true := by
  unfold plainB
  rw [if_neg (by omega)]
  have h0 : r ≠ 0 := by omega
  simp [hr, h0, vs_one, fit_small, hb, MB_eq]
theorem sum_pair (A B : Option Addr) (c d : Nat) : sumD (allP (pairL A B c d) 2) (pairL A B c d) 2 = ⟨true, false, 1, 2⟩ := by
  have hall : allP (pairL A B c d) 2 = true := by
    simp only [allP, pairL, Bool.true_and, Bool.and_eq_true]
    exact ⟨plain_one 1 (by decide) (by rw [nb1]; omega), plain_one 3 (by decide) (by rw [nb3]; omega)⟩
  have hlo : loOf (pairL A B c d) 2 = 0 ∧ hiOf (pairL A B c d) 2 = 0 := by
    simp [loOf, hiOf, ext, pairL]
  have hp : part (pairL A B c d) false 0 2 = 4 := by simp [part, pairL, DL.v, vs_one]
  have hq : part (pairL A B c d) true 0 2 = 0 := by simp [part, pairL]
  unfold sumD
  rw [hall, hlo.1, hlo.2, hp, hq]
  simp only [Int.sub_self, Bool.true_and]
  rw [if_pos (by decide), if_pos (by decide)]
  have h := mkD_pow false 1 2 2
  rw [show 1 * 2 ^ 2 = 4 - 0 from rfl, show (2 : Int) - ((2 : Nat) : Int) = 0 from rfl] at h
  rw [h]
  exact mkD_plain (by decide) (by rw [nb1, MB_eq]; omega) (fit_small (by decide))

abbrev cw (r : Nat) : Obj := .cells #[.int .u64 ((r : Nat) : Int)] 66
abbrev cd3 (a b c : Value) : Obj := .cells #[a, b, c] 24
/-- Two numbers of one word as structs, in memory. -/
theorem two_words (w : World) (a b c d e f : Value) (r t : Nat) (hr : r < B64) (ht : t < B64) :
    Below w.heap.size w ((((w.alloc (cw r)).alloc (cw t)).alloc (cd3 a b c)).alloc (cd3 d e f)) ∧
    Sl ((((w.alloc (cw r)).alloc (cw t)).alloc (cd3 a b c)).alloc (cd3 d e f)) (some ⟨w.heap.size, 0, none⟩) 1 1 (fun _ => r) ∧
    Sl ((((w.alloc (cw r)).alloc (cw t)).alloc (cd3 a b c)).alloc (cd3 d e f)) (some ⟨w.heap.size + 1, 0, none⟩) 1 1 (fun _ => t) ∧
    Blk3 ((((w.alloc (cw r)).alloc (cw t)).alloc (cd3 a b c)).alloc (cd3 d e f)) (w.heap.size + 1 + 1) a b c ∧
    Blk3 ((((w.alloc (cw r)).alloc (cw t)).alloc (cd3 a b c)).alloc (cd3 d e f)) (w.heap.size + 1 + 1 + 1) d e f ∧
    w.heap.size + 4 ≤ ((((w.alloc (cw r)).alloc (cw t)).alloc (cd3 a b c)).alloc (cd3 d e f)).heap.size := by
  have k1 := Blk3.made ((w.alloc (cw r)).alloc (cw t)) a b c
  rw [show ((w.alloc (cw r)).alloc (cw t)).heap.size = w.heap.size + 1 + 1 by simp] at k1
  have k2 := Blk3.made (((w.alloc (cw r)).alloc (cw t)).alloc (cd3 a b c)) d e f
  rw [show (((w.alloc (cw r)).alloc (cw t)).alloc (cd3 a b c)).heap.size = w.heap.size + 1 + 1 + 1 by simp] at k2
  refine ⟨((((Below.refl _ w).alloc (Nat.le_refl _) _).alloc (by simp) _).alloc (by simp; omega) _).alloc (by simp; omega) _, (((one_sl _ w r hr).alloc _).alloc _).alloc _, ((one_sl2 _ w _ t ht).alloc _).alloc _,
    k1.below ((Below.refl (w.heap.size + 1 + 1 + 1) _).alloc (by simp) _) (by omega), k2, by simp⟩

theorem num_one {w : World} {A : Option Addr} {c r : Nat} (h : Sl w A 1 c (fun _ => r)) (h0 : r ≠ 0) : Num w (.slice A 1 c) r := ⟨A, 1, c, _, rfl, h, .inr h0, vs_one _ _⟩

set_option maxRecDepth 8000 in
set_option maxHeartbeats 2000000 in
theorem awake_any (w : World) (hT : Tab w) : Calls Tryd.prog 10 #[] w (TruePost w) := by
  obtain ⟨b1, s1, s3, k1, k3, sz1⟩ := two_words w (.bool false) (.slice (some ⟨w.heap.size, 0, none⟩) 1 1) (.int .i64 0) (.bool false) (.slice (some ⟨w.heap.size + 1, 0, none⟩) 1 1) (.int .i64 0) 1 3 (by unfold B64; omega) (by unfold B64; omega)
  have T1 := hT.below b1
  have OV := over_any false false _ _ 1 1 1 1 _ _ 0 0 3 false _ s1 s3 (by omega) (by omega) T1
  rw [plain_one 1 (by decide) (by rw [nb1]; omega), plain_one 3 (by decide) (by rw [nb3]; omega), vs_one, vs_one, show (true && true && !decide (1 = 0) && bitsFitB 3) = true from rfl, over_one] at OV
  have HOV := Lib.hid OV
  clear OV
  go_enter Tryd.func10, Tryd.ntmps10
  go_wp2_with fail
  refine HOV.out.mono ?_
  generalize (((w.alloc (cw 1)).alloc (cw 3)).alloc (cd3 (.bool false) (.slice (some ⟨w.heap.size, 0, none⟩) 1 1) (.int .i64 0))).alloc (cd3 (.bool false) (.slice (some ⟨w.heap.size + 1, 0, none⟩) 1 1) (.int .i64 0)) = w1 at *
  rintro e' w2 ⟨v2, rfl, n2, b⟩
  have b2 := b1.trans (b.mono b1.size)
  have q1 := s1.below b
  have q3 := s3.below b
  have k1' := k1.below b (by omega)
  have k3' := k3.below b (by omega)
  have T2 := T1.below b
  have sz2 : w.heap.size + 4 ≤ w2.heap.size := Nat.le_trans sz1 b.size
  clear HOV b s1 s3 k1 k3 T1 b1 sz1
  obtain ⟨A2, p2, c2, f2, rfl, m2⟩ := n2
  have hg1 : w.heap.size + 1 + 1 < w2.heap.size := by omega
  have hg3 : w.heap.size + 1 + 1 + 1 < w2.heap.size := by omega
  obtain ⟨ca0, ca1, ca2⟩ := k1'.cell
  obtain ⟨cb0, cb1, cb2⟩ := k3'.cell
  go_wp2_with fail
  have bA : Below w2.heap.size w2 (w2.alloc (cd3 (.bool false) (.slice A2 p2 c2) (.int .i64 (-4)))) := (Below.refl _ w2).alloc (Nat.le_refl _) _
  have bB := bA.alloc bA.size (.cells #[.bool false, .slice (some ⟨w.heap.size, 0, none⟩) 1 1, .int .i64 0, .bool false, .slice (some ⟨w.heap.size + 1, 0, none⟩) 1 1, .int .i64 0] 24)
  have kA := (Blk3.made w2 (.bool false) (.slice A2 p2 c2) (.int .i64 (-4))).below ((Below.refl (w2.heap.size + 1) _).alloc (by simp) (.cells #[.bool false, .slice (some ⟨w.heap.size, 0, none⟩) 1 1, .int .i64 0, .bool false, .slice (some ⟨w.heap.size + 1, 0, none⟩) 1 1, .int .i64 0] 24)) (by omega)
  have hcell : ∀ i v, (#[.bool false, .slice (some ⟨w.heap.size, 0, none⟩) 1 1, .int .i64 0, .bool false, .slice (some ⟨w.heap.size + 1, 0, none⟩) 1 1, .int .i64 0] : Array Value)[i]? = some v →
      ((w2.alloc (cd3 (.bool false) (.slice A2 p2 c2) (.int .i64 (-4)))).alloc (.cells #[.bool false, .slice (some ⟨w.heap.size, 0, none⟩) 1 1, .int .i64 0, .bool false, .slice (some ⟨w.heap.size + 1, 0, none⟩) 1 1, .int .i64 0] 24)).cell? ⟨w2.heap.size + 1, i, none⟩ = some v := fun i v h => by
    rw [World.cell?_alloc_at _ _ _ _ (by simp)]; exact h
  have LS : Ls ((w2.alloc (cd3 (.bool false) (.slice A2 p2 c2) (.int .i64 (-4)))).alloc (.cells #[.bool false, .slice (some ⟨w.heap.size, 0, none⟩) 1 1, .int .i64 0, .bool false, .slice (some ⟨w.heap.size + 1, 0, none⟩) 1 1, .int .i64 0] 24))
      (some ⟨w2.heap.size + 1, 0, none⟩) 2 2 (pairL (some ⟨w.heap.size, 0, none⟩) (some ⟨w.heap.size + 1, 0, none⟩) 1 1) := by
    refine ⟨Nat.le_refl _, fun _ => ⟨_, rfl, by simp, fun j hj => ?_⟩, fun j hj => ?_⟩
    · have : j = 0 ∨ j = 1 := by omega
      rcases this with rfl | rfl
      · exact ⟨hcell 0 _ rfl, hcell 1 _ rfl, hcell 2 _ rfl⟩
      · exact ⟨hcell 3 _ rfl, hcell 4 _ rfl, hcell 5 _ rfl⟩
    · have : j = 0 ∨ j = 1 := by omega
      rcases this with rfl | rfl
      · exact q1.below bB
      · exact q3.below bB
  have SM := sum_any _ 2 2 _ _ LS (by omega) (fun j _ => by simp [pairL]) (T2.below bB)
  rw [sum_pair] at SM
  have HSM := Lib.hid SM
  have n2' : Num w2 (.slice A2 p2 c2) 5 := ⟨A2, p2, c2, f2, rfl, m2⟩
  have n3 := n2'.below bB
  have szB : w2.heap.size + 2 ≤ ((w2.alloc (cd3 (.bool false) (.slice A2 p2 c2) (.int .i64 (-4)))).alloc (.cells #[.bool false, .slice (some ⟨w.heap.size, 0, none⟩) 1 1, .int .i64 0, .bool false, .slice (some ⟨w.heap.size + 1, 0, none⟩) 1 1, .int .i64 0] 24)).heap.size := by simp
  clear SM LS hcell
  refine HSM.out.mono ?_
  generalize (w2.alloc (cd3 (.bool false) (.slice A2 p2 c2) (.int .i64 (-4)))).alloc (.cells #[.bool false, .slice (some ⟨w.heap.size, 0, none⟩) 1 1, .int .i64 0, .bool false, .slice (some ⟨w.heap.size + 1, 0, none⟩) 1 1, .int .i64 0] 24) = w3 at *
  rintro e' w4 ⟨v4, rfl, n4, b⟩
  have b34 := bB.trans (b.mono bB.size)
  have b4 := b2.trans (b34.mono b2.size)
  have k14 := k1'.below b34 (by omega)
  have q14 := q1.below b34
  have n24 := n3.below b
  have kA4 := kA.below b (by omega)
  have sz4 : w2.heap.size + 2 ≤ w4.heap.size := Nat.le_trans szB b.size
  clear HSM b b34 bA bB kA n3 n2' q1 q3 T2 k1' k3' ca0 ca1 ca2 cb0 cb1 cb2 szB
  obtain ⟨A4, p4, c4, f4, rfl, m4⟩ := n4
  have n4 : Num w4 (.slice A4 p4 c4) 1 := ⟨A4, p4, c4, f4, rfl, m4⟩
  obtain ⟨ca0, ca1, ca2⟩ := k14.cell
  obtain ⟨cA0, cA1, cA2⟩ := kA4.cell
  have hg1' : w.heap.size + 1 + 1 < w4.heap.size := by omega
  have hgA : w2.heap.size < w4.heap.size := by omega
  go_wp2_with fail
  have bA := (Below.refl w4.heap.size w4).alloc (Nat.le_refl _) (cd3 (.bool false) (.slice A4 p4 c4) (.int .i64 2))
  have bB := bA.alloc bA.size (cw 5)
  have kS := (Blk3.made w4 (.bool false) (.slice A4 p4 c4) (.int .i64 2)).below ((Below.refl (w4.heap.size + 1) _).alloc (by simp) (cw 5)) (by omega)
  have SA := Lib.hid (dsame_any false (-4) _ (n24.below bB) (num_one (one_sl2 _ w4 _ 5 (by unfold B64; omega)) (by omega)) 1 (by omega) (by rw [Nat.pow_one]; unfold B64; omega))
  have n4B := n4.below bB
  have szB : w4.heap.size + 2 ≤ ((w4.alloc (cd3 (.bool false) (.slice A4 p4 c4) (.int .i64 2))).alloc (cw 5)).heap.size := by simp
  refine SA.out.mono ?_
  generalize (w4.alloc (cd3 (.bool false) (.slice A4 p4 c4) (.int .i64 2))).alloc (cw 5) = w5 at *
  rintro e' w6 ⟨rfl, b⟩
  have b46 := bB.trans (b.mono bB.size)
  have b6 := b4.trans (b46.mono b4.size)
  have k16 := k14.below b46 (by omega)
  have q16 := q14.below b46
  have kS6 := kS.below b (by omega)
  have n46 := n4B.below b
  have sz6 : w4.heap.size + 2 ≤ w6.heap.size := Nat.le_trans szB b.size
  clear SA b b46 bA bB kS n4B n24 n4 k14 q14 kA4 ca0 ca1 ca2 cA0 cA1 cA2 szB
  obtain ⟨ca0, ca1, ca2⟩ := k16.cell
  obtain ⟨cS0, cS1, cS2⟩ := kS6.cell
  have hg1'' : w.heap.size + 1 + 1 < w6.heap.size := by omega
  have hgS : w4.heap.size < w6.heap.size := by omega
  go_wp2_with fail
  have bC := (Below.refl w6.heap.size w6).alloc (Nat.le_refl _) (cw 1)
  have SA := Lib.hid (dsame_any false 2 _ (n46.below bC) (num_one (one_sl _ w6 1 (by unfold B64; omega)) (by omega)) 1 (by omega) (by rw [Nat.pow_one]; unfold B64; omega))
  refine SA.out.mono ?_
  rintro e' w7 ⟨rfl, b⟩
  have b67 := bC.trans (b.mono bC.size)
  have b7 := b6.trans (b67.mono b6.size)
  have q17 := q16.below b67
  obtain ⟨cz0, cz1, cz2⟩ := (k16.below b67 (by omega)).cell
  clear SA b b67 bC k16 q16 kS6 n46 ca0 ca1 ca2 cS0 cS1 cS2
  have PL := plain_any false _ 1 1 _ 0 w7 q17 (by omega)
  rw [plain_one 1 (by decide) (by rw [nb1]; omega)] at PL
  have HPL := Lib.hid PL
  clear PL
  go_wp2_with fail
  refine HPL.out.mono ?_
  rintro e' w8 ⟨rfl, b⟩
  have b8 := b7.trans (b.mono b7.size)
  go_wp2_with fail
  go_ret
  exact ⟨rfl, b8⟩
end Go.Proofs.YtijdpmhcgmkjgaaDoor
