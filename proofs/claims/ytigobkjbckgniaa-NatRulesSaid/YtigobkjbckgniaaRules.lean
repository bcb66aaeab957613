/-
  volvellelaw01.NatRules answers true, whatever three slices of words it is given.
-/
import Derived.Test.YtigobkjbckgniaaProducts
import Derived.Test.YtigobkjbckgniaaShifts
import Derived.Test.YtigobkjbckgniaaDivAll
namespace Go.Proofs.Ytigobkjbckgniaa
open Go.RowKit

theorem Num.sl {w : World} {v : Value} {V K : Nat} (h : Num w v V) (hK : V < B64 ^ K) : ∃ A n c f, v = .slice A n c ∧ Sl w A n c f ∧ n ≤ K ∧ vs B64 f n = V := by
  obtain ⟨A, n, c, f, hv, hs, hc, he⟩ := h
  exact ⟨A, n, c, f, hv, hs, cn_le B64_gt hc (by rw [he]; exact hK), he⟩

def triA (A B C : Option Addr) : Nat → Option Addr := fun j => if j = 0 then A else if j = 1 then B else C
def triN (n m l : Nat) : Nat → Nat := fun j => if j = 0 then n else if j = 1 then m else l
theorem tri_cells (w : World) (t : TypeId) (A B C : Option Addr) (n m l c d e : Nat) : ∀ j, j < 3 → (w.alloc (.cells #[.slice A n c, .slice B m d, .slice C l e] t)).cell? ⟨w.heap.size, j, none⟩ = some (.slice (triA A B C j) (triN n m l j) (triN c d e j)) := fun j hj => by
  rw [World.cell?_alloc_at _ _ _ _ rfl]
  have : j = 0 ∨ j = 1 ∨ j = 2 := by omega
  rcases this with rfl | rfl | rfl <;> rfl

set_option maxHeartbeats 400000 in
theorem rules_big (A B C : Option Addr) (n m l c d f : Nat) (w : World) (hn : n ≤ 9223372036854775807) (hm : m ≤ 9223372036854775807) (hl : l ≤ 9223372036854775807) (hbig : 120 < n ∨ 120 < m ∨ 120 < l) :
    Calls Try.prog 8 #[.slice A n c, .slice B m d, .slice C l f] w (TruePost w) := by
  obtain ⟨q, hq, hqn⟩ : ∃ q, q < 3 ∧ 120 < triN n m l q := by
    rcases hbig with h | h | h
    · exact ⟨0, by omega, h⟩
    · exact ⟨1, by omega, h⟩
    · exact ⟨2, by omega, h⟩
  go_enter Try.func8, Try.ntmps8
  go_wp2_with fail
  refine (awake_any w).mono ?_
  rintro e w1 ⟨rfl, b1⟩
  have F := few_no w1.heap.size 3 120 3 (triA A B C) (triN n m l) (triN c d f) (w1.alloc (.cells #[.slice A n c, .slice B m d, .slice C l f] 22)) (by omega) (tri_cells w1 _ A B C n m l c d f)
    (fun j hj => by unfold triN; split; assumption; split <;> assumption) q hq hqn
  have HF := Lib.hid F
  clear F
  go_wp2_with fail
  refine HF.out.mono ?_
  rintro e w2 ⟨rfl, rfl⟩
  go_wp2_with fail
  go_ret
  exact ⟨rfl, b1.alloc b1.size _⟩

set_option maxHeartbeats 2000000 in
theorem rules_small (A B C : Option Addr) (n m l c d f : Nat) (x y z : Nat → Nat) (w : World) (ha : Sl w A n c x) (hb : Sl w B m d y) (hc : Sl w C l f z) (hn : n ≤ 120) (hm : m ≤ 120) (hl : l ≤ 120) :
    Calls Try.prog 8 #[.slice A n c, .slice B m d, .slice C l f] w (TruePost w) := by
  have KX := Lib.hid (Nat.lt_of_lt_of_le (vs_lt ha.small) (Nat.pow_le_pow_right B64_pos hn))
  have KY := Lib.hid (Nat.lt_of_lt_of_le (vs_lt hb.small) (Nat.pow_le_pow_right B64_pos hm))
  have KZ := Lib.hid (Nat.lt_of_lt_of_le (vs_lt hc.small) (Nat.pow_le_pow_right B64_pos hl))
  have KYZ := Lib.hid (sum_bound KY.out KZ.out)
  have KX' := Lib.hid (Nat.lt_of_lt_of_le KX.out (Nat.pow_le_pow_right B64_pos (by omega : 120 ≤ 120 + 1)))
  have KM := Lib.hid (mul_bound KX'.out KYZ.out)
  have KXY := Lib.hid (mul_bound KX.out KY.out)
  have KXZ := Lib.hid (mul_bound KX.out KZ.out)
  go_enter Try.func8, Try.ntmps8
  go_wp2_with fail
  refine (awake_any w).mono ?_
  rintro e w1 ⟨rfl, b1⟩
  have F := few_yes w1.heap.size 3 120 3 (triA A B C) (triN n m l) (triN c d f) (w1.alloc (.cells #[.slice A n c, .slice B m d, .slice C l f] 22)) (by omega) (tri_cells w1 _ A B C n m l c d f)
    (fun j hj => by unfold triN; split; assumption; split <;> assumption)
  have HF := Lib.hid F
  clear F
  go_wp2_with fail
  refine HF.out.mono ?_
  rintro e w2 ⟨rfl, rfl⟩
  have a0 := (ha.below b1).alloc (.cells #[.slice A n c, .slice B m d, .slice C l f] 22)
  have y0 := (hb.below b1).alloc (.cells #[.slice A n c, .slice B m d, .slice C l f] 22)
  have z0 := (hc.below b1).alloc (.cells #[.slice A n c, .slice B m d, .slice C l f] 22)
  have bb : Below w.heap.size w (w1.alloc (.cells #[.slice A n c, .slice B m d, .slice C l f] 22)) := b1.alloc b1.size _
  clear HF b1 ha hb hc
  generalize w1.alloc (.cells #[.slice A n c, .slice B m d, .slice C l f] 22) = W at *
  go_wp2_with fail
  refine (add_any B C m l d f y z W y0 z0 (by omega) (by omega)).mono ?_
  rintro e w1 ⟨v1, rfl, n1, b1⟩
  obtain ⟨A1, p1, c1, f1, rfl, s1, lp1, e1⟩ := n1.sl KYZ.out
  go_wp2_with fail
  refine (mul_any A A1 n p1 c c1 x f1 w1 (a0.below b1) s1 (by omega) (by omega)).mono ?_
  rintro e w2 ⟨v2, rfl, n2, b⟩
  rw [e1] at n2
  have b2 := b1.trans (b.mono b1.size)
  clear b n1 s1 e1
  go_wp2_with fail
  refine (mul_any A B n m c d x y w2 (a0.below b2) (y0.below b2) (by omega) (by omega)).mono ?_
  rintro e w3 ⟨v3, rfl, n3, b⟩
  have b3 := b2.trans (b.mono b2.size)
  have n2' := n2.below b
  clear b n2
  go_wp2_with fail
  refine (mul_any A C n l c f x z w3 (a0.below b3) (z0.below b3) (by omega) (by omega)).mono ?_
  rintro e w4 ⟨v4, rfl, n4, b⟩
  have b4 := b3.trans (b.mono b3.size)
  have n2'' := n2'.below b
  have n3' := n3.below b
  clear b n2' n3
  obtain ⟨A3, p3, c3, f3, rfl, s3, lp3, e3⟩ := n3'.sl KXY.out
  obtain ⟨A4, p4, c4, f4, rfl, s4, lp4, e4⟩ := n4.sl KXZ.out
  go_wp2_with fail
  refine (add_any A3 A4 p3 p4 c3 c4 f3 f4 w4 s3 s4 (by omega) (by omega)).mono ?_
  rintro e w5 ⟨v5, rfl, n5, b⟩
  rw [e3, e4, ← Nat.mul_add] at n5
  have b5 := b4.trans (b.mono b4.size)
  have n2 := n2''.below b
  clear b n2'' n3' n4 s3 s4 e3 e4
  go_wp2_with fail
  refine (same_num w5 n2 n5 (2 * (120 + 1)) (by omega) KM.out).mono ?_
  rintro e w6 ⟨rfl, b⟩
  have b6 := b5.trans (b.mono b5.size)
  clear b n2 n5
  go_wp2_with fail
  refine (mul_any A B n m c d x y w6 (a0.below b6) (y0.below b6) (by omega) (by omega)).mono ?_
  rintro e w7 ⟨v7, rfl, n7, b⟩
  have b7 := b6.trans (b.mono b6.size)
  clear b
  obtain ⟨A7, p7, c7, f7, rfl, s7, lp7, e7⟩ := n7.sl KXY.out
  have E7 := Lib.hid e7
  clear e7 n7
  rcases Nat.eq_zero_or_pos (vs B64 z l) with hz | hz
  · have D := Lib.hid (divmod_no A7 C p7 l c7 f f7 z w7 s7 (z0.below b7) (by omega) (by omega) hz)
    have HZ := Lib.hid hz
    clear hz
    go_wp2_with fail
    refine D.out.mono ?_
    rintro e w8 ⟨rfl, rfl⟩
    go_wp2_with fail
    refine (bits_any C l f z w7 (z0.below b7) (by omega)).mono ?_
    rintro e w9 ⟨Bn, rfl, hB, b⟩
    have hB0 : Bn = 0 := hB.2.1 HZ.out
    subst hB0
    clear hB
    go_wp2_with fail
    go_ret
    exact ⟨rfl, bb.trans ((b7.trans (b.mono b7.size)).mono bb.size)⟩
  · have hR := Nat.mod_lt (vs B64 x n * vs B64 y m) hz
    have hDM := Nat.div_add_mod (vs B64 x n * vs B64 y m) (vs B64 z l)
    have KQ := Lib.hid (Nat.lt_of_le_of_lt (Nat.div_le_self (vs B64 x n * vs B64 y m) (vs B64 z l)) KXY.out)
    have KR := Lib.hid (Nat.lt_trans hR KZ.out)
    have D := divmod_any A7 C p7 l c7 f f7 z w7 s7 (z0.below b7) (by omega) (by omega) hz
    rw [E7.out] at D
    have HD := Lib.hid D
    have HR := Lib.hid hR
    have HDM := Lib.hid hDM
    clear D hR hDM
    obtain ⟨Q, hQ⟩ : ∃ Q, Q = vs B64 x n * vs B64 y m / vs B64 z l := ⟨_, rfl⟩
    obtain ⟨R, hRe⟩ : ∃ R, R = vs B64 x n * vs B64 y m % vs B64 z l := ⟨_, rfl⟩
    rw [← hQ, ← hRe] at HD
    rw [← hQ] at KQ
    rw [← hRe] at KR HR
    rw [← hQ, ← hRe] at HDM
    clear hQ hRe
    go_wp2_with fail
    refine HD.out.mono ?_
    rintro e w8 ⟨vq, vr, rfl, nq, nr, b⟩
    have b8 := b7.trans (b.mono b7.size)
    clear b
    obtain ⟨A8, p8, c8, f8, rfl, s8, lp8, e8⟩ := nq.sl KQ.out
    obtain ⟨A9, p9, c9, f9, rfl, s9, lp9, e9⟩ := nr.sl KR.out
    have E8 := Lib.hid e8
    have E9 := Lib.hid e9
    clear e8 e9 nq nr
    have CC := cmp_any A9 C p9 l c9 f f9 z w8 s9 (z0.below b8) (by omega) (by omega)
    rw [E9.out, cmpN_lt HR.out] at CC
    have HC := Lib.hid CC
    clear CC
    go_wp2_with fail
    refine HC.out.mono ?_
    rintro e w9 ⟨rfl, b⟩
    have b9 := b8.trans (b.mono b8.size)
    have s8' := s8.below b
    have s9' := s9.below b
    clear b s8 s9
    go_wp2_with fail
    refine (mul_any A8 C p8 l c8 f f8 z w9 s8' (z0.below b9) (by omega) (by omega)).mono ?_
    rintro e w10 ⟨v10, rfl, n10, b⟩
    have b10 := b9.trans (b.mono b9.size)
    have s9'' := s9'.below b
    clear b s9' s8'
    rw [E8.out] at n10
    have KQZ : Q * vs B64 z l < B64 ^ (2 * 120) := by have := HDM.out; have := KXY.out; rw [Nat.mul_comm]; omega
    obtain ⟨A10, p10, c10, f10, rfl, s10, lp10, e10⟩ := n10.sl KQZ
    have E10 := Lib.hid e10
    clear e10 KQZ n10
    go_wp2_with fail
    refine (add_any A10 A9 p10 p9 c10 c9 f10 f9 w10 s10 s9'' (by omega) (by omega)).mono ?_
    rintro e w11 ⟨v11, rfl, n11, b⟩
    have b11 := b10.trans (b.mono b10.size)
    clear b s10 s9''
    rw [E10.out, E9.out, Nat.mul_comm, HDM.out] at n11
    obtain ⟨A11, p11, c11, f11, rfl, s11, lp11, e11⟩ := n11.sl KXY.out
    have E11 := Lib.hid e11
    clear e11 n11
    go_wp2_with fail
    refine (mul_any A B n m c d x y w11 (a0.below b11) (y0.below b11) (by omega) (by omega)).mono ?_
    rintro e w12 ⟨v12, rfl, n12, b⟩
    have b12 := b11.trans (b.mono b11.size)
    have s11' := s11.below b
    clear b s11
    obtain ⟨A12, p12, c12, f12, rfl, s12, lp12, e12⟩ := n12.sl KXY.out
    have CC := cmp_any A11 A12 p11 p12 c11 c12 f11 f12 w12 s11' s12 (by omega) (by omega)
    rw [E11.out, e12, cmpN_eq] at CC
    have HC2 := Lib.hid CC
    clear CC n12 e12
    go_wp2_with fail
    refine HC2.out.mono ?_
    rintro e w13 ⟨rfl, b⟩
    have b13 := b12.trans (b.mono b12.size)
    clear b
    go_wp2_with fail
    go_ret
    exact ⟨rfl, bb.trans (b13.mono bb.size)⟩

theorem rules_any (A B C : Option Addr) (n m l c d f : Nat) (x y z : Nat → Nat) (w : World) (ha : Sl w A n c x) (hb : Sl w B m d y) (hc : Sl w C l f z) (hn : n ≤ 9223372036854775807) (hm : m ≤ 9223372036854775807) (hl : l ≤ 9223372036854775807) :
    Calls Try.prog 8 #[.slice A n c, .slice B m d, .slice C l f] w (TruePost w) := by
  by_cases h : n ≤ 120 ∧ m ≤ 120 ∧ l ≤ 120
  · exact rules_small A B C n m l c d f x y z w ha hb hc h.1 h.2.1 h.2.2
  · exact rules_big A B C n m l c d f w hn hm hl (by omega)
end Go.Proofs.Ytigobkjbckgniaa
