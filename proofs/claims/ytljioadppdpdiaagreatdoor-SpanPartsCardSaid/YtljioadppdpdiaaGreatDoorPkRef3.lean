/-
  volvelleref01.power: 2 to the n.
  volvelleref01.Sqrt: the root, bit by bit.
-/
import Derived.Test.YtljioadppdpdiaaGreatDoorPkNumbers
import Derived.Test.YtljioadppdpdiaaGreatDoorPkNat2
import Derived.Test.YtljioadppdpdiaaGreatDoorPkNat7
import Derived.Test.YtljioadppdpdiaaGreatDoorPkRef1
import Derived.Test.YtljioadppdpdiaaGreatDoorPkRef2
namespace Go.Proofs.YtljioadppdpdiaaGreatDoor
open Go.RowKit

theorem vs_single (W P : Nat) : vs B64 (upd (fun _ => 0) W P) (W + 1) = P * B64 ^ W := by
  rw [vs_succ, upd_same, vs_upd_ge _ _ _ _ _ (Nat.le_refl _)]
  have : ∀ k, vs B64 (fun _ => 0) k = 0 := fun k => by
    induction k with
    | zero => rfl
    | succ k ih => rw [vs_succ, ih, Nat.zero_mul]
  rw [this, Nat.zero_add]

set_option maxHeartbeats 400000 in
theorem power_core (s W r P : Nat) (w : World) (hW : W ≤ 400000) (eW : (s : Int) / 64 = (W : Int)) (er : (s : Int) % 64 = (r : Int)) (hs : s ≤ 30000000)
    (eP : IntKind.u64.wrap ((2 : Int) ^ r) = (P : Int)) (hP1 : 1 ≤ P) (hP2 : P ≤ 9223372036854775808) :
    Calls Tryz.prog 110 #[.int .i64 (s : Int)] w (NumPost w (P * B64 ^ W)) := by
  have hmk : (Instr.makeSlice 24 (.int .i64 ((W : Int) + 1)) (.int .i64 ((W : Int) + 1))).run Tryz.prog w =
      .ok (.slice (some ⟨w.heap.size, 0, none⟩) (W + 1) (W + 1)) (w.alloc (.cells (madeCells #[.int .u64 0] (W + 1)) 42)) := make_run (W + 1) (by omega) w
  have hrow := Row.made 42 w (W + 1)
  have hbe : Below w.heap.size w (w.alloc (.cells (madeCells #[.int .u64 0] (W + 1)) 42)) := (Below.refl _ w).alloc (Nat.le_refl _) _
  generalize w.alloc (.cells (madeCells #[.int .u64 0] (W + 1)) 42) = w1 at *
  have hrc := hrow.cell (i := W) (by omega)
  have hrf := hrow.frozen W
  have hrow3 := hrow.set_ W P (by unfold B64; omega)
  have b3 := hbe.setCell (p := ⟨w.heap.size, W, none⟩) (Nat.le_refl _) (.int .u64 ((P : Nat) : Int))
  go_enter Tryz.func110, Tryz.ntmps110
  go_wp2_with fail
  go_ret
  refine ⟨_, rfl, ⟨_, W + 1, W + 1, _, rfl, hrow3.sl0 (W + 1) (W + 1) (Nat.le_refl _) (Nat.le_refl _), .inr ?_, vs_single W P⟩, b3⟩
  rw [Nat.add_sub_cancel, upd_same]; omega

theorem power_any (s : Nat) (w : World) (hs : s ≤ 20000000) : Calls Tryz.prog 110 #[.int .i64 (s : Int)] w (NumPost w (2 ^ s)) := by
  rw [pow_split s, Nat.mul_comm]
  have hr : s % 64 ≤ 63 := by omega
  have h63 : 2 ^ (s % 64) ≤ 2 ^ 63 := Nat.pow_le_pow_right (by omega) hr
  refine power_core s (s / 64) (s % 64) (2 ^ (s % 64)) w (by omega) (by omega) (by omega) (by omega) ?_ (Nat.two_pow_pos _) h63
  have e := shl_word 1 (s % 64)
  have e2 : 2 ^ (s % 64) % B64 = 2 ^ (s % 64) := Nat.mod_eq_of_lt (by rw [B64_pow]; exact Nat.lt_of_le_of_lt h63 (by decide))
  rw [Nat.one_mul, e2, show ((1 : Nat) : Int) * 2 ^ (s % 64) = 2 ^ (s % 64) by simp] at e
  exact e
end Go.Proofs.YtljioadppdpdiaaGreatDoor

namespace Go.Proofs.YtljioadppdpdiaaGreatDoor
open Go.RowKit

/-- The root lies from S on, below S and 2 to the k. -/
def Near (V S k : Nat) : Prop := S * S ≤ V ∧ V < (S + 2 ^ k) * (S + 2 ^ k)
theorem Near.start {V B : Nat} (h : IsBits V B) : Near V 0 ((B + 1) / 2 + 1) := by
  refine ⟨by omega, Nat.lt_of_lt_of_le h.1 ?_⟩
  rw [Nat.zero_add, ← Nat.pow_add]
  exact Nat.pow_le_pow_right (by omega) (by omega)
theorem Near.yes {V S k : Nat} (h : Near V S (k + 1)) (hle : (S + 2 ^ k) * (S + 2 ^ k) ≤ V) : Near V (S + 2 ^ k) k := by
  refine ⟨hle, ?_⟩
  have := h.2
  rw [Nat.pow_succ] at this
  rw [show S + 2 ^ k + 2 ^ k = S + 2 ^ k * 2 by omega]; exact this
theorem Near.no {V S k : Nat} (h : Near V S (k + 1)) (hlt : V < (S + 2 ^ k) * (S + 2 ^ k)) : Near V S k := ⟨h.1, hlt⟩
theorem Near.fin {V S : Nat} (h : Near V S 0) : IsRoot V S (V - S * S) := IsRoot.one h.1 h.2

set_option maxHeartbeats 2000000 in
theorem rsqrt_any (A : Option Addr) (n c : Nat) (x : Nat → Nat) (w : World) (ha : Sl w A n c x) (hn : n ≤ 20000) :
    Calls Tryz.prog 76 #[.slice A n c] w (TwoPost w (vs B64 x n)) := by
  have KV := Lib.hid (vs_lt ha.small)
  go_enter Tryz.func76, Tryz.ntmps76
  go_wp2_with fail
  have bA : Below w.heap.size w (w.alloc (.cells #[] 42)) := (Below.refl _ w).alloc (Nat.le_refl _) _
  refine (rbits_any A n c x _ (ha.below bA) (by omega)).mono ?_
  rintro e w1 ⟨B, rfl, hB, b⟩
  have b1 := bA.trans (b.mono bA.size)
  have hBn := bits_le hB KV.out
  have H0 := Lib.hid (Near.start hB)
  clear hB b bA
  obtain ⟨K, hK⟩ : ∃ K, K = (B + 1) / 2 := ⟨_, rfl⟩
  have eK : ((B : Int) + 1) / 2 = (K : Int) := by omega
  rw [← hK] at H0
  have hK1 : K ≤ 64 * n + 1 := by omega
  clear hK
  have sl0 : Sl w1 (some ⟨w.heap.size, 0, none⟩) 0 0 (fun _ => 0) := Sl.none_ _ _ _ _
  go_wp2_with fail
  go_loopw [4, 6] (fun s4 s6 wr => ∃ (k S : Nat) (i : Int) (L : Option Addr) (l cl : Nat) (f : Nat → Nat), k ≤ K + 1 ∧ i ≤ (k : Int) - 1 ∧ (k : Int) - 1 ≤ i ∧ s6 = .int .i64 i ∧ s4 = .slice L l cl ∧ Sl wr L l cl f ∧ Cn l f ∧ Hid (vs B64 f l = S) ∧ Hid (Near (vs B64 x n) S k) ∧ Below w.heap.size w wr) (fun _ s6 _ => (intOf s6 + 1).toNat)
  case atStart => exact ⟨K + 1, 0, (K : Int), some ⟨w.heap.size, 0, none⟩, 0, 0, fun _ => 0, Nat.le_refl _, by omega, by omega, by rw [eK], rfl, sl0, .inl rfl, Lib.hid rfl, H0, b1⟩
  case round =>
    clear sl0 H0 b1 eK
    obtain ⟨k, S, i, L, l, cl, f, hk, hi1, hi2, rfl, rfl, sL, cL, hS, hnear, hbw⟩ := hrel
    have KS : Hid (S < B64 ^ n) := Lib.hid (by
      rcases Nat.eq_zero_or_pos S with h0 | h0
      · have := KV.out; omega
      · have h1 : S * 1 ≤ S * S := Nat.mul_le_mul_left _ h0
        have := hnear.out.1; have := KV.out; omega)
    have hl : l ≤ n := cn_le B64_gt cL (by rw [hS.out]; exact KS.out)
    by_cases hi0 : 0 ≤ i
    · obtain ⟨j, rfl⟩ := Int.eq_ofNat_of_zero_le hi0
      obtain rfl : k = j + 1 := by omega
      have HP := Lib.hid (power_any j wr (by omega))
      go_wp2_with fail
      refine HP.out.mono ?_
      rintro e w2 ⟨v2, rfl, n2, b⟩
      have b2 := hbw.trans (b.mono hbw.size)
      have sL2 := sL.below b
      clear b HP
      have KP : Hid (2 ^ j < B64 ^ (n + 1)) := Lib.hid (by
        rw [B64_pow, ← Nat.pow_mul]
        exact Nat.pow_lt_pow_right (by omega) (by omega))
      obtain ⟨A2, p2, c2, f2, rfl, s2, lp2, _, e2⟩ := n2.sl' KP.out
      have E2 := Lib.hid e2
      clear e2 n2
      go_wp2_with fail
      refine (radd_any L A2 l p2 cl c2 f f2 w2 sL2 s2 (by omega) (by omega)).mono ?_
      rintro e w3 ⟨v3, rfl, n3, b⟩
      have b3 := b2.trans (b.mono b2.size)
      have sL3 := sL2.below b
      clear b s2 sL2
      rw [hS.out, E2.out] at n3
      have K3 : Hid (S + 2 ^ j < B64 ^ (n + 2)) := Lib.hid (sum_bound (Nat.lt_of_lt_of_le KS.out (Nat.pow_le_pow_right B64_pos (by omega))) KP.out)
      obtain ⟨A3, p3, c3, f3, rfl, s3, lp3, cn3, e3⟩ := n3.sl' K3.out
      have E3 := Lib.hid e3
      have CN3 := Lib.hid cn3
      clear e3 n3 cn3
      have YES := Lib.hid (hnear.out.yes)
      have NO := Lib.hid (hnear.out.no)
      go_wp2_with fail
      refine (rmul_any A3 A3 p3 p3 c3 c3 f3 f3 w3 s3 s3 (by omega) (by omega)).mono ?_
      rintro e w4 ⟨v4, rfl, n4, b⟩
      have b4 := b3.trans (b.mono b3.size)
      have sL4 := sL3.below b
      have s3' := s3.below b
      clear b s3 sL3
      rw [E3.out] at n4
      obtain ⟨A4, p4, c4, f4, rfl, s4, lp4, _, e4⟩ := n4.sl' (mul_bound K3.out K3.out)
      have C := rcmp_any A4 A p4 n c4 c f4 x w4 s4 (ha.below b4) (by omega) (by omega)
      rw [e4] at C
      clear n4 e4
      generalize S + 2 ^ j = T at *
      rcases Nat.lt_or_ge (vs B64 x n) (T * T) with hlt | hle
      · have HN := Lib.hid (NO.out hlt)
        rw [cmpN_gt hlt] at C
        have HC := Lib.hid C
        clear C YES NO hnear hlt
        go_wp2_with fail
        refine HC.out.mono ?_
        rintro e w5 ⟨rfl, b⟩
        have b5 := b4.trans (b.mono b4.size)
        have sL5 := sL4.below b
        clear b HC sL4
        go_wp2_with fail
        go_roundw
        case rel => exact ⟨j, S, (j : Int) - 1, L, l, cl, f, by omega, by omega, by omega, by go_num, rfl, sL5, cL, hS, HN, b5⟩
        case measure => first | (simp [intOf]; done) | (simp [intOf]; omega)
      · have HN := Lib.hid (YES.out hle)
        obtain ⟨r, hr0, hr1⟩ : ∃ r : Int, cmpN (T * T) (vs B64 x n) = r ∧ r ≤ 0 := ⟨_, rfl, by unfold cmpN; split <;> (try split) <;> omega⟩
        rw [hr0] at C
        have HC := Lib.hid C
        clear C YES NO hnear hle hr0
        go_wp2_with fail
        refine HC.out.mono ?_
        rintro e w5 ⟨rfl, b⟩
        have b5 := b4.trans (b.mono b4.size)
        have s5 := s3'.below b
        clear b HC sL4 s3'
        go_wp2_with fail
        go_roundw
        case rel => exact ⟨j, T, (j : Int) - 1, A3, p3, c3, f3, by omega, by omega, by omega, by go_num, rfl, s5, CN3.out, E3, HN, b5⟩
        case measure => first | (simp [intOf]; done) | (simp [intOf]; omega)
    · obtain rfl : k = 0 := by omega
      have HR := Lib.hid hnear.out.fin
      have HLE := Lib.hid hnear.out.1
      clear hnear
      go_wp2_with fail
      refine (rmul_any L L l l cl cl f f wr sL sL (by omega) (by omega)).mono ?_
      rintro e w2 ⟨v2, rfl, n2, b⟩
      have b2 := hbw.trans (b.mono hbw.size)
      have sL2 := sL.below b
      clear b sL
      rw [hS.out] at n2
      obtain ⟨A2, p2, c2, f2, rfl, s2, lp2, _, e2⟩ := n2.sl' (Nat.lt_of_le_of_lt HLE.out KV.out)
      have SB := rsub_yes A A2 n p2 c c2 x f2 w2 (ha.below b2) s2 (by omega) (by omega) (by rw [e2]; exact HLE.out)
      rw [e2] at SB
      have HSB := Lib.hid SB
      clear SB e2 n2
      go_wp2_with fail
      refine HSB.out.mono ?_
      rintro e w3 ⟨v3, rfl, n3, b⟩
      have b3 := b2.trans (b.mono b2.size)
      have nS : Num w3 (.slice L l cl) S := ⟨L, l, cl, f, rfl, sL2.below b, cL, hS.out⟩
      clear b
      go_wp2_with fail
      go_ret2
      exact ⟨_, _, S, _, rfl, nS, n3, HR.out, b3⟩
end Go.Proofs.YtljioadppdpdiaaGreatDoor
