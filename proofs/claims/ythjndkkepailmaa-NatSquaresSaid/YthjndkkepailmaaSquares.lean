/-
  volvellelaw01.NatSquares answers true, whatever slice of words it is given.
-/
import Derived.Test.YthjndkkepailmaaSqrtTen
namespace Go.Proofs.Ythjndkkepailmaa
open Go.RowKit

set_option maxHeartbeats 400000 in
theorem squares_big (A : Option Addr) (n c : Nat) (w : World) (hn : n ≤ 9223372036854775807) (hbig : 60 < n) :
    Calls Try.prog 4 #[.slice A n c] w (TruePost w) := by
  go_enter Try.func4, Try.ntmps4
  go_wp2_with fail
  refine (sqrt_ten w).mono ?_
  rintro e w0 ⟨A0, c0, u0, rfl, s0, b0⟩
  go_wp2_with fail
  refine (awake_any w0).mono ?_
  rintro e w1 ⟨rfl, b⟩
  have b1 := b0.trans (b.mono b0.size)
  have F := few_no w1.heap.size 1 60 1 (fun _ => A) (fun _ => n) (fun _ => c) (w1.alloc (.cells #[.slice A n c] 22)) (by omega) (only_cells w1 _ A n c) (fun _ _ => hn) 0 (by omega) hbig
  have HF := Lib.hid F
  clear F b s0
  go_wp2_with fail
  refine HF.out.mono ?_
  rintro e w2 ⟨rfl, rfl⟩
  go_wp2_with fail
  go_ret
  exact ⟨rfl, b1.alloc b1.size _⟩

theorem next_sq {V s r : Nat} (h : IsRoot V s r) : V < (s + 1) * (s + 1) := by
  have e : (s + 1) * (s + 1) = s * s + 2 * s + 1 := by rw [Nat.add_mul, Nat.mul_add, Nat.mul_one, Nat.one_mul]; omega
  have := h.1; have := h.2
  omega
theorem root_le {V s r : Nat} (h : IsRoot V s r) : s ≤ V ∧ r ≤ V ∧ s * s ≤ V := by
  have h1 := h.1
  rcases Nat.eq_zero_or_pos s with h0 | h0
  · subst h0; omega
  · have : s * 1 ≤ s * s := Nat.mul_le_mul_left _ h0
    omega

set_option maxHeartbeats 2000000 in
theorem squares_small (A : Option Addr) (n c : Nat) (x : Nat → Nat) (w : World) (ha : Sl w A n c x) (hn : n ≤ 60) :
    Calls Try.prog 4 #[.slice A n c] w (TruePost w) := by
  have KX := Lib.hid (Nat.lt_of_lt_of_le (vs_lt ha.small) (Nat.pow_le_pow_right B64_pos hn))
  have KXX := Lib.hid (mul_bound KX.out KX.out)
  go_enter Try.func4, Try.ntmps4
  go_wp2_with fail
  refine (sqrt_ten w).mono ?_
  rintro e w0 ⟨A0, c0, u0, rfl, s0, b0⟩
  go_wp2_with fail
  refine (awake_any w0).mono ?_
  rintro e w1 ⟨rfl, b⟩
  have b1 := b0.trans (b.mono b0.size)
  have F := few_yes w1.heap.size 1 60 1 (fun _ => A) (fun _ => n) (fun _ => c) (w1.alloc (.cells #[.slice A n c] 22)) (by omega) (only_cells w1 _ A n c) (fun _ _ => hn)
  have HF := Lib.hid F
  clear F b s0
  go_wp2_with fail
  refine HF.out.mono ?_
  rintro e w2 ⟨rfl, rfl⟩
  have b2 := b1.alloc b1.size (.cells #[.slice A n c] 22)
  clear HF
  generalize w1.alloc (.cells #[.slice A n c] 22) = w2 at *
  go_wp2_with fail
  refine (sqrt_any A n c x w2 (ha.below b2) (by omega)).mono ?_
  rintro e w3 ⟨v3, u3, s, r, rfl, nv, nu, hr, b⟩
  have b3 := b2.trans (b.mono b2.size)
  clear b
  have HR := Lib.hid hr
  have HL := Lib.hid (root_le hr)
  have HN := Lib.hid (next_sq hr)
  clear hr
  obtain ⟨A3, p3, c3, f3, rfl, s3, lp3, e3⟩ := nv.sl (Nat.lt_of_le_of_lt HL.out.1 KX.out)
  obtain ⟨A4, p4, c4, f4, rfl, s4, lp4, e4⟩ := nu.sl (Nat.lt_of_le_of_lt HL.out.2.1 KX.out)
  have E3 := Lib.hid e3
  have E4 := Lib.hid e4
  clear e3 e4 nv nu
  have bA : Below w3.heap.size w3 (w3.alloc (.cells #[.int .u64 ((1 : Nat) : Int)] 25)) := (Below.refl _ w3).alloc (Nat.le_refl _) _
  have o3 := one_sl 25 w3 1 (by unfold B64; omega)
  have AD := add_any A3 (some ⟨w3.heap.size, 0, none⟩) p3 1 c3 1 f3 (fun _ => 1) _ (s3.below bA) o3 (by omega) (by omega)
  rw [E3.out, vs_one] at AD
  have HAD := Lib.hid AD
  have b5 := b3.trans (bA.mono b3.size)
  have s3' := s3.below bA
  have s4' := s4.below bA
  clear AD bA o3 s3 s4
  go_wp2_with fail
  refine HAD.out.mono ?_
  rintro e w6 ⟨v6, rfl, n6, b⟩
  have b6 := b5.trans (b.mono b5.size)
  have s3 := s3'.below b
  have s4 := s4'.below b
  clear b s3' s4' HAD b5
  have K6 : Hid (s + 1 < B64 ^ (60 + 1)) := Lib.hid (by have := few_lt 1 (by omega) KX.out; have := HL.out.1; omega)
  obtain ⟨A6, p6, c6, f6, rfl, s6, lp6, e6⟩ := n6.sl K6.out
  have E6 := Lib.hid e6
  clear n6 e6
  go_wp2_with fail
  refine (mul_any A3 A3 p3 p3 c3 c3 f3 f3 w6 s3 s3 (by omega) (by omega)).mono ?_
  rintro e w7 ⟨v7, rfl, n7, b⟩
  have b7 := b6.trans (b.mono b6.size)
  have s4' := s4.below b
  have s6' := s6.below b
  clear b s4 s6 s3
  rw [E3.out] at n7
  obtain ⟨A7, p7, c7, f7, rfl, s7, lp7, e7⟩ := n7.sl (Nat.lt_of_le_of_lt HL.out.2.2 KX.out)
  have E7 := Lib.hid e7
  clear n7 e7
  go_wp2_with fail
  refine (add_any A7 A4 p7 p4 c7 c4 f7 f4 w7 s7 s4' (by omega) (by omega)).mono ?_
  rintro e w8 ⟨v8, rfl, n8, b⟩
  have b8 := b7.trans (b.mono b7.size)
  have s6 := s6'.below b
  clear b s4' s6' s7
  rw [E7.out, E4.out, HR.out.1] at n8
  obtain ⟨A8, p8, c8, f8, rfl, s8, lp8, e8⟩ := n8.sl KX.out
  have CC := cmp_any A8 A p8 n c8 c f8 x w8 s8 (ha.below b8) (by omega) (by omega)
  rw [e8, cmpN_eq] at CC
  have HC := Lib.hid CC
  clear n8 e8 CC s8
  go_wp2_with fail
  refine HC.out.mono ?_
  rintro e w9 ⟨rfl, b⟩
  have b9 := b8.trans (b.mono b8.size)
  have s6' := s6.below b
  clear b s6 HC
  go_wp2_with fail
  refine (mul_any A6 A6 p6 p6 c6 c6 f6 f6 w9 s6' s6' (by omega) (by omega)).mono ?_
  rintro e w10 ⟨v10, rfl, n10, b⟩
  have b10 := b9.trans (b.mono b9.size)
  clear b s6'
  rw [E6.out] at n10
  obtain ⟨A10, p10, c10, f10, rfl, s10, lp10, e10⟩ := n10.sl (mul_bound K6.out K6.out)
  have CC := cmp_any A10 A p10 n c10 c f10 x w10 s10 (ha.below b10) (by omega) (by omega)
  rw [e10, cmpN_gt HN.out] at CC
  have HC := Lib.hid CC
  clear n10 e10 CC s10
  go_wp2_with fail
  refine HC.out.mono ?_
  rintro e w11 ⟨rfl, b⟩
  have b11 := b10.trans (b.mono b10.size)
  clear b HC
  go_wp2_with fail
  refine (mul_any A A n n c c x x w11 (ha.below b11) (ha.below b11) (by omega) (by omega)).mono ?_
  rintro e w12 ⟨v12, rfl, n12, b⟩
  have b12 := b11.trans (b.mono b11.size)
  clear b
  obtain ⟨A12, p12, c12, f12, rfl, s12, lp12, e12⟩ := n12.sl KXX.out
  have SQ := sqrt_any A12 p12 c12 f12 w12 s12 (by omega)
  rw [e12] at SQ
  have HS := Lib.hid SQ
  clear n12 e12 SQ
  go_wp2_with fail
  refine HS.out.mono ?_
  rintro e w13 ⟨v13, u13, t, z, rfl, nv, nu, hr, b⟩
  have b13 := b12.trans (b.mono b12.size)
  clear b HS
  obtain ⟨rfl, rfl⟩ := hr.unique (s' := vs B64 x n) (r' := 0) ⟨rfl, Nat.zero_le _⟩
  clear hr
  obtain ⟨A13, p13, c13, f13, rfl, s13, lp13, e13⟩ := nv.sl KX.out
  obtain ⟨A14, p14, c14, f14, rfl, s14, lp14, e14⟩ := nu.sl (K := 0) (by rw [Nat.pow_zero]; omega)
  obtain rfl : p14 = 0 := by omega
  have CC := cmp_any A13 A p13 n c13 c f13 x w13 s13 (ha.below b13) (by omega) (by omega)
  rw [e13, cmpN_eq] at CC
  have HC := Lib.hid CC
  clear nv nu e13 e14 CC s13 s14
  go_wp2_with fail
  refine HC.out.mono ?_
  rintro e w14 ⟨rfl, b⟩
  have b14 := b13.trans (b.mono b13.size)
  clear b HC
  go_wp2_with fail
  go_ret
  exact ⟨rfl, b14⟩

theorem squares_any (A : Option Addr) (n c : Nat) (x : Nat → Nat) (w : World) (ha : Sl w A n c x) (hn : n ≤ 9223372036854775807) :
    Calls Try.prog 4 #[.slice A n c] w (TruePost w) := by
  rcases Nat.lt_or_ge 60 n with h | h
  · exact squares_big A n c w hn h
  · exact squares_small A n c x w ha h
end Go.Proofs.Ythjndkkepailmaa
