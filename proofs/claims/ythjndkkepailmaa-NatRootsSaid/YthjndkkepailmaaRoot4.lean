/-
  nat.root, nat.Sqrt: the root of a number, and what is left.
-/
import Derived.Test.YthjndkkepailmaaRoot3
import Derived.Test.YthjndkkepailmaaRootStep
import Derived.Test.YthjndkkepailmaaBounds
import Derived.Test.YthjndkkepailmaaMul2
namespace Go.Proofs.Ythjndkkepailmaa
open Go.RowKit

theorem bits_ge {V B n : Nat} {x : Nat → Nat} (hB : IsBits V B) (hc : Cn n x) (hV : vs B64 x n = V) (hn : 2 ≤ n) : 65 ≤ B := by
  have h1 := vs_ge (b := B64) hc (by omega)
  have h2 : B64 ^ 1 ≤ B64 ^ (n - 1) := Nat.pow_le_pow_right B64_pos (by omega)
  rw [Nat.pow_one, B64_pow] at h2
  rw [hV] at h1
  have h3 : 2 ^ 64 < 2 ^ B := by have := hB.1; rw [B64_pow] at h1; omega
  have := (Nat.pow_lt_pow_iff_right (by omega : 1 < 2)).1 h3
  omega
theorem bits_le {V B n : Nat} (hB : IsBits V B) (hV : V < B64 ^ n) : B ≤ 64 * n := by
  rcases Nat.eq_zero_or_pos V with h0 | h0
  · have := hB.2.1 h0; omega
  · have h1 := (hB.2.2 (by omega)).2
    rw [B64_pow, ← Nat.pow_mul] at hV
    have := (Nat.pow_lt_pow_iff_right (by omega : 1 < 2)).1 (Nat.lt_of_le_of_lt h1 hV)
    omega

set_option maxHeartbeats 4000000 in
theorem root_any : ∀ (V : Nat) (A : Option Addr) (n c : Nat) (x : Nat → Nat) (w : World), Sl w A n c x → Cn n x → n ≤ 100000 → vs B64 x n = V →
    Calls Try.prog 13 #[.slice A n c] w (TwoPost w V) := by
  intro V
  induction V using Nat.strongRecOn with
  | _ V ih =>
  intro A n c x w ha hcn hn hval
  have IH := Lib.hid ih
  clear ih
  have HV := Lib.hid hval
  have HC := Lib.hid hcn
  have KV := Lib.hid (show V < B64 ^ n from hval ▸ vs_lt ha.small)
  clear hval hcn
  rcases Nat.lt_or_ge n 2 with hlt | hge
  · have S := rootshort_any A n c x w ha (by omega)
    rw [HV.out] at S
    have HS := Lib.hid S
    clear S
    go_enter Try.func13, Try.ntmps13
    go_wp2_with fail
    refine HS.out.mono ?_
    rintro e w1 ⟨v, u, s, r, rfl, n1, n2, hr, b1⟩
    have HR := Lib.hid hr
    clear hr
    go_wp2_with fail
    go_ret2
    exact ⟨v, u, s, r, rfl, n1, n2, HR.out, b1⟩
  · have hnlt : ¬ (n : Int) < 2 := by omega
    go_enter Try.func13, Try.ntmps13
    go_wp2_with fail
    refine (bits_any A n c x w ha (by omega)).mono ?_
    rintro e w1 ⟨B, rfl, hB0, b1⟩
    rw [HV.out] at hB0
    have HB := Lib.hid hB0
    have h65 := bits_ge hB0 HC.out HV.out hge
    have hBn := bits_le hB0 KV.out
    clear hB0
    obtain ⟨k, hk⟩ : ∃ k, k = (B - 1) / 4 := ⟨_, rfl⟩
    have ek : ((B : Int) - 1) / 4 = (k : Int) := by omega
    have hk2 : k ≤ 2000000 := by omega
    have HK := Lib.hid hk
    have HLT := Lib.hid (pow_lt_upper HB.out h65 hk)
    clear hk
    go_wp2_with fail
    refine (lower_any A n c x (2 * k) w1 (ha.below b1) (by omega) (by omega)).mono ?_
    rintro e w2 ⟨v2, rfl, n2, b⟩
    have b2 := b1.trans (b.mono b1.size)
    clear b
    rw [HV.out] at n2
    obtain ⟨A2, p2, c2, f2, rfl, s2, lp2, cn2, e2⟩ := n2.sl' (Nat.lt_trans HLT.out KV.out)
    have R := Lib.hid (IH.out _ HLT.out A2 p2 c2 f2 w2 s2 cn2 (by omega) e2)
    clear n2 s2 cn2 e2
    go_wp2_with fail
    refine R.out.mono ?_
    rintro e w3 ⟨v3, u3, s', r', rfl, nv3, nu3, hr, b⟩
    have b3 := b2.trans (b.mono b2.size)
    clear b R
    have HR := Lib.hid hr
    clear hr
    have HS0 := Lib.hid (root_ge HR.out (upper_ge HB.out h65 HK.out))
    have KS : Hid (s' < B64 ^ n) := Lib.hid (by
      have h1 : s' * 1 ≤ s' * s' := Nat.mul_le_mul_left _ (by have := HS0.out; have := Nat.two_pow_pos k; omega)
      have := HR.out.1; have := HLT.out; have := KV.out; omega)
    have KR : Hid (r' < B64 ^ n) := Lib.hid (by have := HR.out.1; have := HLT.out; have := KV.out; omega)
    obtain ⟨A3, p3, c3, f3, rfl, s3, lp3, _, e3⟩ := nv3.sl' KS.out
    obtain ⟨A4, p4, c4, f4, rfl, s4, lp4, _, e4⟩ := nu3.sl' KR.out
    have E3 := Lib.hid e3
    have E4 := Lib.hid e4
    clear e3 e4 nv3 nu3
    go_wp2_with fail
    refine (lower_any A n c x k w3 (ha.below b3) (by omega) (by omega)).mono ?_
    rintro e w5 ⟨v5, rfl, n5, b⟩
    have b5 := b3.trans (b.mono b3.size)
    have s3' := s3.below b
    have s4' := s4.below b
    clear b s3 s4
    rw [HV.out] at n5
    obtain ⟨A5, p5, c5, f5, rfl, s5, lp5, _, e5⟩ := n5.sl' (Nat.lt_of_le_of_lt (Nat.div_le_self _ _) KV.out)
    have E5 := Lib.hid e5
    clear n5 e5
    go_wp2_with fail
    refine (lowest_any A5 p5 c5 f5 k w5 s5 (by omega)).mono ?_
    rintro e w6 ⟨v6, rfl, n6, b⟩
    have b6 := b5.trans (b.mono b5.size)
    have s3 := s3'.below b
    have s4 := s4'.below b
    clear b s3' s4' s5
    rw [E5.out] at n6
    obtain ⟨A6, p6, c6, f6, rfl, s6, lp6, _, e6⟩ := n6.sl' (Nat.lt_of_le_of_lt (Nat.le_trans (Nat.mod_le _ _) (Nat.div_le_self _ _)) KV.out)
    have E6 := Lib.hid e6
    clear n6 e6
    go_wp2_with fail
    refine (join_any A4 A6 p4 p6 c4 c6 f4 f6 k w6 s4 s6 (by omega) (by omega) (by omega)).mono ?_
    rintro e w7 ⟨v7, rfl, n7, b⟩
    have b7 := b6.trans (b.mono b6.size)
    have s3' := s3.below b
    clear b s3 s4 s6
    rw [E4.out, E6.out] at n7
    have K7 : Hid (r' * 2 ^ k + V / 2 ^ k % 2 ^ k < B64 ^ (2 * n)) := Lib.hid (by
      have h1 : 2 ^ k ≤ V := by
        have h2 : 2 ^ k * 1 ≤ 2 ^ k * 2 ^ k := Nat.mul_le_mul_left _ (Nat.two_pow_pos k)
        have := upper_ge HB.out h65 HK.out; have := HLT.out; omega
      have h2 : r' ≤ V := by have := HR.out.1; have := HLT.out; omega
      have h3 : r' * 2 ^ k ≤ V * V := Nat.mul_le_mul h2 h1
      have h4 : V / 2 ^ k % 2 ^ k ≤ V := Nat.le_trans (Nat.mod_le _ _) (Nat.div_le_self _ _)
      have h5 := sum2 KV.out KV.out
      rw [← Nat.two_mul] at h5
      omega)
    obtain ⟨A7, p7, c7, f7, rfl, s7, lp7, _, e7⟩ := n7.sl' K7.out
    have E7 := Lib.hid e7
    clear n7 e7
    go_wp2_with fail
    refine (raise_any A3 p3 c3 f3 1 w7 s3' (by omega) (by omega)).mono ?_
    rintro e w8 ⟨v8, rfl, n8, b⟩
    have b8 := b7.trans (b.mono b7.size)
    have s3 := s3'.below b
    have s7' := s7.below b
    clear b s3' s7
    rw [E3.out] at n8
    have K8 : Hid (s' * 2 ^ 1 < B64 ^ (n + 1)) := Lib.hid (by have := few_lt 2 (by omega) KS.out; rw [Nat.pow_one]; omega)
    obtain ⟨A8, p8, c8, f8, rfl, s8, lp8, _, e8⟩ := n8.sl' K8.out
    have hpos : 0 < vs B64 f8 p8 := by rw [e8, Nat.pow_one]; have := HS0.out; have := Nat.two_pow_pos k; omega
    have D := divmod_any A7 A8 p7 p8 c7 c8 f7 f8 w8 s7' s8 (by omega) (by omega) hpos
    rw [e8] at hpos
    rw [e8, E7.out] at D
    have HDM := Lib.hid (Nat.div_add_mod (r' * 2 ^ k + V / 2 ^ k % 2 ^ k) (s' * 2 ^ 1))
    have HML := Lib.hid (Nat.mod_lt (r' * 2 ^ k + V / 2 ^ k % 2 ^ k) hpos)
    clear n8 e8 hpos
    generalize (r' * 2 ^ k + V / 2 ^ k % 2 ^ k) / (s' * 2 ^ 1) = q at *
    generalize (r' * 2 ^ k + V / 2 ^ k % 2 ^ k) % (s' * 2 ^ 1) = u at *
    have HD := Lib.hid D
    clear D
    have ST := Lib.hid (root_step HB.out h65 HK.out KV.out HR.out HDM.out HML.out)
    go_wp2_with fail
    refine HD.out.mono ?_
    rintro e w9 ⟨v9, u9, rfl, nv9, nu9, b⟩
    have b9 := b8.trans (b.mono b8.size)
    have s3' := s3.below b
    clear b s3 s7' s8 HD
    obtain ⟨A9, p9, c9, f9, rfl, s9, lp9, _, e9⟩ := nv9.sl' ST.out.1
    obtain ⟨A10, p10, c10, f10, rfl, s10, lp10, _, e10⟩ := nu9.sl' ST.out.2.2.1
    have E9 := Lib.hid e9
    have E10 := Lib.hid e10
    clear nv9 nu9 e9 e10
    go_wp2_with fail
    refine (join_any A3 A9 p3 p9 c3 c9 f3 f9 k w9 s3' s9 (by omega) (by omega) (by omega)).mono ?_
    rintro e w11 ⟨v11, rfl, n11, b⟩
    have b11 := b9.trans (b.mono b9.size)
    have s9' := s9.below b
    have s10' := s10.below b
    clear b s3' s9 s10
    rw [E3.out, E9.out] at n11
    obtain ⟨A11, p11, c11, f11, rfl, s11, lp11, cn11, e11⟩ := n11.sl' ST.out.2.1
    have E11 := Lib.hid e11
    have CN11 := Lib.hid cn11
    clear n11 e11 cn11
    go_wp2_with fail
    refine (lowest_any A n c x k w11 (ha.below b11) (by omega)).mono ?_
    rintro e w12 ⟨v12, rfl, n12, b⟩
    have b12 := b11.trans (b.mono b11.size)
    have s9 := s9'.below b
    have s10 := s10'.below b
    have s11' := s11.below b
    clear b s9' s10' s11
    rw [HV.out] at n12
    obtain ⟨A12, p12, c12, f12, rfl, s12, lp12, _, e12⟩ := n12.sl' (Nat.lt_of_le_of_lt (Nat.mod_le _ _) KV.out)
    have E12 := Lib.hid e12
    clear n12 e12
    go_wp2_with fail
    refine (join_any A10 A12 p10 p12 c10 c12 f10 f12 k w12 s10 s12 (by omega) (by omega) (by omega)).mono ?_
    rintro e w13 ⟨v13, rfl, n13, b⟩
    have b13 := b12.trans (b.mono b12.size)
    have s9' := s9.below b
    have s11 := s11'.below b
    clear b s9 s11' s10 s12
    rw [E10.out, E12.out] at n13
    obtain ⟨A13, p13, c13, f13, rfl, s13, lp13, _, e13⟩ := n13.sl' ST.out.2.2.2.1
    have E13 := Lib.hid e13
    clear n13 e13
    go_wp2_with fail
    refine (mul_any A9 A9 p9 p9 c9 c9 f9 f9 w13 s9' s9' (by omega) (by omega)).mono ?_
    rintro e w14 ⟨v14, rfl, n14, b⟩
    have b14 := b13.trans (b.mono b13.size)
    have s11' := s11.below b
    have s13' := s13.below b
    clear b s9' s11 s13
    rw [E9.out] at n14
    have K14 := mul_bound ST.out.1 ST.out.1
    obtain ⟨A14, p14, c14, f14, rfl, s14, lp14, _, e14⟩ := n14.sl' K14
    have E14 := Lib.hid e14
    clear n14 e14 K14
    have C := cmp_any A13 A14 p13 p14 c13 c14 f13 f14 w14 s13' s14 (by omega) (by omega)
    rw [E13.out, E14.out] at C
    have YES := Lib.hid ST.out.2.2.2.2.2.1
    have NO := Lib.hid ST.out.2.2.2.2.2.2
    have KSUM := Lib.hid ST.out.2.2.2.2.1
    clear ST
    clear HB HK HLT HR HS0 KS KR HDM HML
    generalize u * 2 ^ k + V % 2 ^ k = R at *
    generalize s' * 2 ^ k + q = S at *
    generalize q * q = QQ at *
    rcases Nat.lt_or_ge R QQ with hlt | hle
    · obtain ⟨g1, g2, g3⟩ := NO.out hlt
      have HRT := Lib.hid g3
      have HG2 := Lib.hid g2
      rw [cmpN_lt hlt] at C
      have HC := Lib.hid C
      clear C g2 g3 YES NO
      go_wp2_with fail
      refine HC.out.mono ?_
      rintro e w15 ⟨rfl, b⟩
      have b15 := b14.trans (b.mono b14.size)
      have s11 := s11'.below b
      have s13 := s13'.below b
      have s14' := s14.below b
      clear b s11' s13' s14
      go_wp2_with fail
      have o15 := one_sl 25 w15 1 (by unfold B64; omega)
      have bA : Below w15.heap.size w15 (w15.alloc (.cells #[.int .u64 ((1 : Nat) : Int)] 25)) := (Below.refl _ w15).alloc (Nat.le_refl _) _
      have SB := sub_yes A11 (some ⟨w15.heap.size, 0, none⟩) p11 1 c11 1 f11 (fun _ => 1) _ (s11.below bA) o15 (by omega) (by omega) (by rw [E11.out, vs_one]; exact g1)
      rw [E11.out, vs_one] at SB
      have HSB := Lib.hid SB
      have b16 := b15.trans (bA.mono b15.size)
      have s11' := s11.below bA
      have s13' := s13.below bA
      have s14 := s14'.below bA
      clear SB bA o15 s11 s13 s14'
      refine HSB.out.mono ?_
      rintro e w17 ⟨v17, rfl, n17, b⟩
      have b17 := b16.trans (b.mono b16.size)
      have s11 := s11'.below b
      have s13 := s13'.below b
      have s14' := s14.below b
      clear b s11' s13' s14 HSB
      have KS1 : Hid (S < B64 ^ (2 * n + 1)) := Lib.hid (by have := KSUM.out; omega)
      obtain ⟨A17, p17, c17, f17, rfl, s17, lp17, cn17, e17⟩ := n17.sl' (show S - 1 < B64 ^ (2 * n + 1) by have := KS1.out; omega)
      have E17 := Lib.hid e17
      have CN17 := Lib.hid cn17
      clear n17 e17 cn17
      go_wp2_with fail
      refine (add_any A11 A17 p11 p17 c11 c17 f11 f17 w17 s11 s17 (by omega) (by omega)).mono ?_
      rintro e w18 ⟨v18, rfl, n18, b⟩
      have b18 := b17.trans (b.mono b17.size)
      have s13' := s13.below b
      have s14 := s14'.below b
      have s17' := s17.below b
      clear b s13 s14' s17 s11
      rw [E11.out, E17.out] at n18
      obtain ⟨A18, p18, c18, f18, rfl, s18, lp18, _, e18⟩ := n18.sl' (show S + (S - 1) < B64 ^ (2 * n + 1) by have := KSUM.out; omega)
      have E18 := Lib.hid e18
      clear n18 e18
      go_wp2_with fail
      refine (add_any A13 A18 p13 p18 c13 c18 f13 f18 w18 s13' s18 (by omega) (by omega)).mono ?_
      rintro e w19 ⟨v19, rfl, n19, b⟩
      have b19 := b18.trans (b.mono b18.size)
      have s14' := s14.below b
      have s17 := s17'.below b
      clear b s13' s14 s17' s18
      rw [E13.out, E18.out] at n19
      obtain ⟨A19, p19, c19, f19, rfl, s19, lp19, _, e19⟩ := n19.sl' KSUM.out
      have E19 := Lib.hid e19
      clear n19 e19
      have SB := sub_yes A19 A14 p19 p14 c19 c14 f19 f14 w19 s19 s14' (by omega) (by omega) (by rw [E19.out, E14.out]; exact HG2.out)
      rw [E19.out, E14.out] at SB
      have HSB := Lib.hid SB
      clear SB
      go_wp2_with fail
      refine HSB.out.mono ?_
      rintro e w20 ⟨v20, rfl, n20, b⟩
      have b20 := b19.trans (b.mono b19.size)
      have n17 : Num w20 (.slice A17 p17 c17) (S - 1) := ⟨A17, p17, c17, f17, rfl, s17.below b, CN17.out, E17.out⟩
      clear b
      go_wp2_with fail
      go_ret2
      exact ⟨_, _, S - 1, _, rfl, n17, n20, HRT.out, b20⟩
    · obtain ⟨r, hr0, hr1⟩ : ∃ r : Nat, cmpN R QQ = (r : Int) ∧ r ≤ 1 := by
        rcases Nat.lt_or_ge QQ R with h | h
        · exact ⟨1, by rw [cmpN_gt h]; rfl, by omega⟩
        · exact ⟨0, by rw [Nat.le_antisymm h hle, cmpN_eq]; rfl, by omega⟩
      rw [hr0] at C
      have HRT := Lib.hid (YES.out hle)
      have HC := Lib.hid C
      clear C hr0 YES NO
      go_wp2_with fail
      refine HC.out.mono ?_
      rintro e w15 ⟨rfl, b⟩
      have b15 := b14.trans (b.mono b14.size)
      have s11 := s11'.below b
      have s13 := s13'.below b
      have s14' := s14.below b
      clear b s11' s13' s14
      have SB := sub_yes A13 A14 p13 p14 c13 c14 f13 f14 w15 s13 s14' (by omega) (by omega) (by rw [E13.out, E14.out]; exact hle)
      rw [E13.out, E14.out] at SB
      have HSB := Lib.hid SB
      clear SB hle
      go_wp2_with fail
      refine HSB.out.mono ?_
      rintro e w16 ⟨v16, rfl, n16, b⟩
      have b16 := b15.trans (b.mono b15.size)
      have n11 : Num w16 (.slice A11 p11 c11) S := ⟨A11, p11, c11, f11, rfl, s11.below b, CN11.out, E11.out⟩
      clear b
      go_wp2_with fail
      go_ret2
      exact ⟨_, _, S, _, rfl, n11, n16, HRT.out, b16⟩
theorem sqrt_any (A : Option Addr) (n c : Nat) (x : Nat → Nat) (w : World) (ha : Sl w A n c x) (hn : n ≤ 100000) :
    Calls Try.prog 5 #[.slice A n c] w (TwoPost w (vs B64 x n)) := by
  obtain ⟨A1, c1, e1, s1⟩ := viewV_sl ha
  have l1 := tl_le x n
  have cn := tl_cn x n
  have V1 := view_raw A n c x w ha (by omega)
  rw [e1] at V1
  rw [← vs_tl B64 x n]
  have H1 := Lib.hid V1
  clear V1 e1
  generalize tl x n = p at *
  have R := Lib.hid (root_any _ A1 p c1 x w s1 cn (by omega) rfl)
  go_enter Try.func5, Try.ntmps5
  go_wp2_with fail
  refine H1.out.mono ?_
  rintro e w' ⟨rfl, rfl⟩
  go_wp2_with fail
  refine R.out.mono ?_
  rintro e w1 ⟨v, u, s, r, rfl, n1, n2, hr, b1⟩
  have HR := Lib.hid hr
  clear hr
  go_wp2_with fail
  go_ret2
  exact ⟨v, u, s, r, rfl, n1, n2, HR.out, b1⟩
end Go.Proofs.Ythjndkkepailmaa
