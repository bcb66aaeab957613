/-
  volvelleref02: away, cutting, Cut.
  volvelleref02.Over, volvelleref02.Root.
-/
import Derived.Test.YtadieepcpkpblaaDoorPkDy5
import Derived.Test.YtadieepcpkpblaaDoorPkDy8
import Derived.Test.YtadieepcpkpblaaDoorPkDy9
import Derived.Test.YtadieepcpkpblaaDoorPkDy7
namespace Go.Proofs.YtadieepcpkpblaaDoor
open Go.RowKit

theorem rmakeN {v : Value} {V : Nat} (neg : Bool) (e : Int) (w : World) (h : Num w v V) (hV : nb V ≤ 1000000) (hT : Tab w) (he1 : -9223372036854775808 ≤ e) (he2 : e ≤ 9223372036854775807) :
    Calls Tryd.prog 35 #[.bool neg, v, .int .i64 e] w (DPost w (mkD neg V e)) := by
  obtain ⟨A, n, c, f, rfl, hs, hn, _, rfl⟩ := h.raw 15625 (by omega)
  exact rmake_any neg A n c f e w hs (by omega) hT he1 he2
theorem away_any (neg up : Bool) (w : World) : Calls Tryd.prog 49 #[.bool neg, .bool up] w fun e w' => e = .returned (.bool (neg != up)) ∧ w = w' := by
  cases neg <;> cases up
  all_goals
    go_enter Tryd.func49, Tryd.ntmps49
    go_wp2_with fail
    go_ret
    exact ⟨rfl, rfl⟩
theorem num_word {w : World} {A : Option Addr} {c r : Nat} (h : Sl w A 1 c (fun _ => r)) (h0 : r ≠ 0) : Num w (.slice A 1 c) r := ⟨A, 1, c, _, rfl, h, .inr h0, vs_one _ _⟩
theorem nb_one : nb 1 = 1 := nb_of (B := 0) (by decide) (by decide)
theorem nb_div_le (V z : Nat) : nb (V / 2 ^ z) ≤ nb V := by rw [nb_div_pow]; omega
theorem nb_succ_le (V : Nat) : nb (V + 1) ≤ nb V + 1 := by
  have := nb_lt V
  refine (nb_le_iff _ _).2 ?_
  rw [Nat.pow_succ]; omega

theorem cut_all {V P : Nat} (neg up : Bool) (e : Int) (h : nb V ≤ P) : cutD neg V e false P up = mkD neg V e := by
  unfold cutD
  rw [show nb V - P = 0 by omega]
  simp
theorem odd_cut {V D : Nat} (h : V % 2 = 1) (hD : 0 < D) : V / 2 ^ D * 2 ^ D ≠ V := fun e => by
  rw [show D = (D - 1) + 1 by omega, Nat.pow_succ, ← Nat.mul_assoc] at e
  generalize V / (2 ^ (D - 1) * 2) * 2 ^ (D - 1) = q at e
  omega
set_option maxHeartbeats 4000000 in
theorem rcut_any (neg : Bool) (A : Option Addr) (n c : Nat) (x : Nat → Nat) (e p : Int) (up : Bool) (w : World) (ha : Sl w A n c x) (hn : n ≤ 400000) (hT : Tab w) :
    Calls Tryd.prog 33 #[dyv neg A n c e, .int .i64 p, .bool up] w (DPost w (cutP (plainB neg n x e && bitsFitB p) neg (vs B64 x n) e p up)) := by
  have S := F2.start w neg A n c e hT
  go_enter Tryd.func33, Tryd.ntmps33
  go_wp2_with fail
  generalize (w.alloc (.cells #[.bool neg, .slice A n c, .int .i64 e] 26)).alloc (.cells #[.bool false, .slice none 0 0, .int .i64 0] 26) = w1 at *
  refine (rplain_any neg A n c x e w1 (ha.below S.bel) hn).mono ?_
  rintro e' w2 ⟨rfl, b⟩
  have F := S.adv b
  clear S b
  obtain ⟨ca0, ca1, ca2⟩ := F.ka.cell
  by_cases hp : plainB neg n x e = true
  · have PF := plain_facts hp
    have e1 := PF.e1
    have e2 := PF.e2
    rw [hp]
    by_cases h1 : p < 1
    · have HNO := Lib.hid (show cutP (plainB neg n x e && bitsFitB p) neg (vs B64 x n) e p up = DR.no by rw [show bitsFitB p = false by unfold bitsFitB; simp; omega]; simp [cutP])
      obtain ⟨zr0, zr1, zr2⟩ := F.kr.cell
      obtain ⟨yr0, yr1, yr2⟩ := F.kr.frozen
      go_wp2_with fail
      rw [HNO.out]
      refine bodyPost_ret (v := .tuple #[.agg #[.bool false, .slice none 0 0, .int .i64 0], .bool false]) (by simp [results, Tryd.results33, go_sem, zr0, zr1, zr2]) rfl ⟨_, rfl, num_nil _, below_put3 F.bel (by omega) F.bel.size _ _ _⟩
    · by_cases h2 : 8192 < p
      · have HNO := Lib.hid (show cutP (plainB neg n x e && bitsFitB p) neg (vs B64 x n) e p up = DR.no by rw [show bitsFitB p = false by unfold bitsFitB; simp; omega]; simp [cutP])
        obtain ⟨zr0, zr1, zr2⟩ := F.kr.cell
        obtain ⟨yr0, yr1, yr2⟩ := F.kr.frozen
        go_wp2_with fail
        rw [HNO.out]
        refine bodyPost_ret (v := .tuple #[.agg #[.bool false, .slice none 0 0, .int .i64 0], .bool false]) (by simp [results, Tryd.results33, go_sem, zr0, zr1, zr2]) rfl ⟨_, rfl, num_nil _, below_put3 F.bel (by omega) F.bel.size _ _ _⟩
      · have HYES := Lib.hid (show cutP (plainB neg n x e && bitsFitB p) neg (vs B64 x n) e p up = cutD neg (vs B64 x n) e false p.toNat up by rw [hp, show bitsFitB p = true by unfold bitsFitB; simp; omega]; rfl)
        obtain ⟨P, rfl⟩ : ∃ P : Nat, p = (P : Int) := ⟨p.toNat, by omega⟩
        rw [Int.toNat_natCast] at HYES
        have NA := PF.num (ha.below F.bel)
        have hbits := PF.bits
        have hodd : Hid (0 < vs B64 x n → vs B64 x n % 2 = 1) := Lib.hid (fun h => PF.odd (PF.pos.2 h))
        have BT := Lib.hid (rbitsN w2 NA (by omega))
        clear hp PF
        generalize vs B64 x n = V at *
        obtain ⟨L, hL⟩ : ∃ L, Hid (L = nb V) := ⟨_, Lib.hid rfl⟩
        rw [← hL.out] at hbits BT
        go_wp2_with fail
        refine BT.out.mono ?_
        rintro e' w3 ⟨rfl, b⟩
        have G := F.adv b
        have NA3 := NA.below b
        clear F b BT NA ca0 ca1 ca2
        obtain ⟨ca0, ca1, ca2⟩ := G.ka.cell
        by_cases hk : (L : Int) - (P : Int) ≤ 0
        · have HR := Lib.hid (cut_all (P := P) neg up e (V := V) (by rw [← hL.out]; omega))
          have MK := Lib.hid (rmakeN neg e w3 NA3 (by rw [← hL.out]; omega) G.tab (by omega) (by omega))
          rw [HR.out] at HYES
          go_wp2_with fail
          refine MK.out.mono ?_
          rintro e' w9 ⟨v9, rfl, n9, b9⟩
          have F9 := G.adv b9
          clear b9 G ca0 ca1 ca2 HR MK
          obtain ⟨cF0, cF1, cF2⟩ := F9.kr.cell
          obtain ⟨fF0, fF1, fF2⟩ := F9.kr.frozen
          generalize mkD neg V e = r at *
          obtain ⟨A9, p9, c9, f9, rfl, m9⟩ := n9
          go_wp2_with fail
          rw [HYES.out]
          refine bodyPost_ret (v := .tuple #[.agg #[.bool r.neg, .slice A9 p9 c9, .int .i64 r.e], .bool r.ok]) (by simp [results, Tryd.results33, go_sem, cF0, cF1, cF2]) rfl
            ⟨_, rfl, Num.put3 ⟨A9, p9, c9, f9, rfl, m9⟩ F9.kr (notU_bool _) (notU_slice _ _ _) (notU_int _) _ _ _, below_put3 F9.bel (by omega) F9.bel.size _ _ _⟩
        · obtain ⟨D, hD⟩ : ∃ D, Hid (D = L - P) := ⟨_, Lib.hid rfl⟩
          have hkd : (L : Int) - (P : Int) = (D : Int) := by have := hD.out; omega
          have hD0 : ¬ (D : Int) ≤ 0 := by omega
          have hD1 : 0 < D := by omega
          have hD2 : D ≤ 16384 := by omega
          have SR := Lib.hid (rshrN (s := D) w3 NA3 (by rw [← hL.out]; omega) (by omega))
          have AW := Lib.hid (away_any neg up)
          obtain ⟨K, hK⟩ : ∃ K, Hid (K = V / 2 ^ D) := ⟨_, Lib.hid rfl⟩
          have hV0 : 0 < V := by
            rcases Nat.eq_zero_or_pos V with h | h
            · have := hL.out; rw [h, nb_zero] at this; omega
            · exact h
          have HR0 : Hid ((neg != up) = false → cutD neg V e false P up = mkD neg K (e + (D : Int))) := Lib.hid (fun ht => by
            rw [show (neg != up) = (up != neg) by cases neg <;> cases up <;> rfl] at ht
            unfold cutD; rw [← hL.out, ← hD.out, ← hK.out, ht, Bool.and_false]; rfl)
          have HR1 : Hid ((neg != up) = true → cutD neg V e false P up = mkD neg (K + 1) (e + (D : Int))) := Lib.hid (fun ht => by
            rw [show (neg != up) = (up != neg) by cases neg <;> cases up <;> rfl] at ht
            unfold cutD; rw [← hL.out, ← hD.out]
            have := odd_cut (hodd.out hV0) hD1
            rw [← hK.out] at this ⊢
            simp [this, ht])
          have hq9 : Hid (nb K ≤ 16384) := Lib.hid (by rw [hK.out]; have := nb_div_le V D; have := hL.out; omega)
          rw [← hK.out] at SR
          clear hk hL hD hodd
          go_wp2_with fail
          refine SR.out.mono ?_
          rintro e' w4 ⟨A3, p3, c3, rfl, n3, b⟩
          have G4 := G.adv b
          clear G b SR NA3 ca0 ca1 ca2
          obtain ⟨ca0, ca1, ca2⟩ := G4.ka.cell
          go_wp2_with fail
          refine (AW.out w4).mono ?_
          rintro e' w6 ⟨rfl, rfl⟩
          by_cases hun : (neg != up) = true
          · rw [hun]
            have HX := Lib.hid (HR1.out hun)
            rw [HX.out] at HYES
            have bA3 : Below w4.heap.size w4 (w4.alloc (.cells #[.int .u64 ((1 : Nat) : Int)] 45)) := (Below.refl _ w4).alloc (Nat.le_refl _) _
            have o3 := one_sl 45 w4 1 (by unfold B64; omega)
            have AD := Lib.hid (raddN _ (n3.below bA3) (num_word o3 (by omega)) (by have := hq9.out; omega) (by rw [nb_one]; omega))
            go_wp2_with fail
            refine AD.out.mono ?_
            rintro e' w7 ⟨A4, p4, c4, rfl, n4, b⟩
            have F7 := G4.adv (bA3.trans (b.mono bA3.size))
            have MK := Lib.hid (rmakeN neg (e + (D : Int)) w7 n4 (by have := nb_succ_le K; have := hq9.out; omega) F7.tab (by omega) (by omega))
            clear b G4 AD bA3 o3 ca0 ca1 ca2
            obtain ⟨ca0, ca1, ca2⟩ := F7.ka.cell
            go_wp2_with fail
            refine MK.out.mono ?_
            rintro e' w9 ⟨v9, rfl, n9, b9⟩
            have F9 := F7.adv b9
            clear b9 F7 ca0 ca1 ca2 HX MK
            obtain ⟨cF0, cF1, cF2⟩ := F9.kr.cell
            obtain ⟨fF0, fF1, fF2⟩ := F9.kr.frozen
            generalize mkD neg (K + 1) (e + (D : Int)) = r at *
            obtain ⟨A9, p9, c9, f9, rfl, m9⟩ := n9
            go_wp2_with fail
            rw [HYES.out]
            refine bodyPost_ret (v := .tuple #[.agg #[.bool r.neg, .slice A9 p9 c9, .int .i64 r.e], .bool r.ok]) (by simp [results, Tryd.results33, go_sem, cF0, cF1, cF2]) rfl
              ⟨_, rfl, Num.put3 ⟨A9, p9, c9, f9, rfl, m9⟩ F9.kr (notU_bool _) (notU_slice _ _ _) (notU_int _) _ _ _, below_put3 F9.bel (by omega) F9.bel.size _ _ _⟩
          · have hun' : (neg != up) = false := by simpa using hun
            rw [hun']
            have HX := Lib.hid (HR0.out hun')
            rw [HX.out] at HYES
            have MK := Lib.hid (rmakeN neg (e + (D : Int)) w4 n3 (by have := hq9.out; omega) G4.tab (by omega) (by omega))
            go_wp2_with fail
            refine MK.out.mono ?_
            rintro e' w9 ⟨v9, rfl, n9, b9⟩
            have F9 := G4.adv b9
            clear b9 G4 ca0 ca1 ca2 HX MK
            obtain ⟨cF0, cF1, cF2⟩ := F9.kr.cell
            obtain ⟨fF0, fF1, fF2⟩ := F9.kr.frozen
            generalize mkD neg K (e + (D : Int)) = r at *
            obtain ⟨A9, p9, c9, f9, rfl, m9⟩ := n9
            go_wp2_with fail
            rw [HYES.out]
            refine bodyPost_ret (v := .tuple #[.agg #[.bool r.neg, .slice A9 p9 c9, .int .i64 r.e], .bool r.ok]) (by simp [results, Tryd.results33, go_sem, cF0, cF1, cF2]) rfl
              ⟨_, rfl, Num.put3 ⟨A9, p9, c9, f9, rfl, m9⟩ F9.kr (notU_bool _) (notU_slice _ _ _) (notU_int _) _ _ _, below_put3 F9.bel (by omega) F9.bel.size _ _ _⟩
  · have hp' : plainB neg n x e = false := by simpa using hp
    rw [hp']
    have HNO := Lib.hid (show cutP (plainB neg n x e && bitsFitB p) neg (vs B64 x n) e p up = DR.no by rw [hp']; simp [cutP])
    obtain ⟨zr0, zr1, zr2⟩ := F.kr.cell
    obtain ⟨yr0, yr1, yr2⟩ := F.kr.frozen
    go_wp2_with fail
    rw [HNO.out]
    refine bodyPost_ret (v := .tuple #[.agg #[.bool false, .slice none 0 0, .int .i64 0], .bool false]) (by simp [results, Tryd.results33, go_sem, zr0, zr1, zr2]) rfl ⟨_, rfl, num_nil _, below_put3 F.bel (by omega) F.bel.size _ _ _⟩
end Go.Proofs.YtadieepcpkpblaaDoor

namespace Go.Proofs.YtadieepcpkpblaaDoor
open Go.RowKit

theorem nb_mono {V U : Nat} (h : V ≤ U) : nb V ≤ nb U := (nb_le_iff _ _).2 (Nat.lt_of_le_of_lt h (nb_lt U))
/-- With two bits more: the same. -/
theorem quo_two (na nb' : Bool) {Va Vb : Nat} (ea eb : Int) {p : Nat} (up : Bool) (hb : 0 < Vb) (hp : 1 ≤ p) :
    quoD na nb' Va Vb ea eb (p + 2 + nb Vb - nb Va) p up = quoD na nb' Va Vb ea eb (p + nb Vb - nb Va) p up := by
  obtain ⟨j, hj⟩ : ∃ j, p + 2 + nb Vb - nb Va = (p + nb Vb - nb Va) + j := ⟨(p + 2 + nb Vb - nb Va) - (p + nb Vb - nb Va), by omega⟩
  rw [hj]
  exact quo_more (na != nb') up (ea - eb) hb (by omega) hp

theorem rtGo_spec (V : Nat) : ∀ k, rtGo V k * rtGo V k ≤ V ∧ (rtGo V k = k ∨ V < (rtGo V k + 1) * (rtGo V k + 1)) := by
  intro k
  induction k with
  | zero => exact ⟨Nat.zero_le _, .inl rfl⟩
  | succ k ih =>
    unfold rtGo
    by_cases h : (k + 1) * (k + 1) ≤ V
    · rw [if_pos h]; exact ⟨h, .inl rfl⟩
    · rw [if_neg h]
      refine ⟨ih.1, .inr ?_⟩
      rcases ih.2 with h1 | h1
      · rw [h1]; omega
      · exact h1
theorem rt_is (V : Nat) : IsRoot V (rt V) (rtr V) := by
  obtain ⟨h1, h2⟩ := rtGo_spec V V
  have h3 : V < (rt V + 1) * (rt V + 1) := by
    rcases h2 with h | h
    · unfold rt; rw [h, Nat.add_mul, Nat.mul_add]; omega
    · exact h
  have h1' : rt V * rt V ≤ V := h1
  rw [Nat.add_mul, Nat.mul_add] at h3
  refine ⟨by unfold rtr; omega, by unfold rtr; omega⟩
/-- With four bits more: the same. -/
theorem root_two {V : Nat} (e : Int) {p : Nat} (up : Bool) (hp : 1 ≤ p) : sqD V e (even1 e (2 * p + 4 - nb V)) p up = sqD V e (even1 e (2 * p - nb V)) p up := by
  have h1 := even1_even e (2 * p + 4 - nb V)
  have h2 := even1_even e (2 * p - nb V)
  have h3 := even1_le e (2 * p + 4 - nb V)
  have h4 := even1_le e (2 * p - nb V)
  have h5 : even1 e (2 * p - nb V) ≤ even1 e (2 * p + 4 - nb V) := by
    by_cases h : 2 * p + 4 - nb V = 2 * p - nb V
    · rw [h]; exact Nat.le_refl _
    · omega
  generalize even1 e (2 * p + 4 - nb V) = K at *
  generalize hR : even1 e (2 * p - nb V) = R at *
  obtain ⟨j, rfl⟩ : ∃ j, K = R + 2 * j := ⟨(K - R) / 2, by omega⟩
  unfold sqD
  have hX : V * 2 ^ R = 0 ∨ 2 * p ≤ nb (V * 2 ^ R) := by
    rcases Nat.eq_zero_or_pos V with h | h
    · exact .inl (by rw [h, Nat.zero_mul])
    · refine .inr ?_
      rw [nb_mul_pow h]; omega
  have hr := rt_is (V * 2 ^ (R + 2 * j))
  rw [Nat.pow_add, ← Nat.mul_assoc] at hr ⊢
  have := root_more up ((e - (R : Int)) / 2) (rt_is (V * 2 ^ R)) hr hX hp
  rw [← this]
  congr 1
  omega

end Go.Proofs.YtadieepcpkpblaaDoor
