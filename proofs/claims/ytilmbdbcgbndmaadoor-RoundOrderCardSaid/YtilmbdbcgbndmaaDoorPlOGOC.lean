/-
  round.top, isBeyond, isTiny, leadsOutward; numbers in memory.
  round.inward: the word next to a size on the side of 0, and on which side of the middle it lies.
  round.Exact: the word and the flags of a number.
  round.Among and round.Ends.
-/
import Derived.Test.YtilmbdbcgbndmaaDoorPlOGDy9
import Derived.Test.YtilmbdbcgbndmaaDoorPlOGBN
import Derived.Test.YtilmbdbcgbndmaaDoorPlOGON
import Derived.Test.YtilmbdbcgbndmaaDoorPlOGOR
namespace Go.Proofs.YtilmbdbcgbndmaaDoor
open Go.RowKit

theorem owordN {A : Option Addr} {p c V : Nat} (neg : Bool) (e : Int) (w : World) (h : Num w (.slice A p c) V) (hV : V < B64 ^ 256) :
    Calls Tryd.prog 20 #[.agg #[.bool neg, .slice A p c, .int .i64 e]] w (WP w (wordP (plainV neg V e) neg V e)) := by
  obtain ⟨_, _, _, f, hh, hs, hn, hc, rfl⟩ := h.raw 256 (nb_of_words' hV)
  cases hh
  have := word_any neg _ _ _ f e w hs (by omega)
  rw [plain_V hc] at this
  exact this
theorem ocmpN {A B : Option Addr} {n c m d V U : Nat} (na nb' : Bool) (ea eb : Int) (w : World) (h : Num w (.slice A n c) V) (h' : Num w (.slice B m d) U) (hV : V < B64 ^ 256) (hU : U < B64 ^ 256) (hp : plainV na V ea = true) (hq : plainV nb' U eb = true) :
    Calls Tryd.prog 17 #[.agg #[.bool na, .slice A n c, .int .i64 ea], .agg #[.bool nb', .slice B m d, .int .i64 eb]] w (CmpP w (ordD na nb' V U ea eb) true) := by
  obtain ⟨_, _, _, f, hh, hs, hn, hc, rfl⟩ := h.raw 256 (nb_of_words' hV)
  cases hh
  obtain ⟨_, _, _, g, hh, hs', hm, hc', rfl⟩ := h'.raw 256 (nb_of_words' hU)
  cases hh
  have := dcmp_any na nb' _ _ _ _ _ _ f g ea eb w hs hs' (by omega) (by omega)
  rw [plain_V hc, plain_V hc', hp, hq] at this
  exact this

set_option maxHeartbeats 1000000 in
theorem otopV {A : Option Addr} {n c V : Nat} (neg : Bool) (E : Int) (w : World) (h : Num w (.slice A n c) V) (hV : nb V ≤ 100000) (h1 : -1000000 ≤ E) (h2 : E ≤ 1000000) :
    Calls Tryd.prog 45 #[.agg #[.bool neg, .slice A n c, .int .i64 E]] w (IP w (E + (nb V : Int))) := by
  have b1 := alloc_bel w (cd3 (.bool neg) (.slice A n c) (.int .i64 E))
  have k1 := K3.made w (.bool neg) (.slice A n c) (.int .i64 E)
  have n1 := h.below b1
  have BT := Lib.hid (fun w' (n : Num w' (.slice A n c) V) => bitsN w' n (by omega))
  have hw : IntKind.i64.wrap (E + (nb V : Int)) = E + (nb V : Int) := wrap_id (by omega) (by omega)
  have HW := Lib.hid hw
  clear hw
  go_enter Tryd.func45, Tryd.ntmps45
  go_upto_region 1 with fail
  generalize w.alloc (cd3 (.bool neg) (.slice A n c) (.int .i64 E)) = w1 at *
  obtain ⟨c0, c1, c2, c3⟩ := k1.cell
  go_region_held3 (fun w' => w'.cell? ⟨w.heap.size, 1, none⟩ = some (.slice A n c) ∧ w'.cell? ⟨w.heap.size, 2, none⟩ = some (.int .i64 E))
    (first | exact ⟨c1, c2⟩ | exact ⟨(bb.cell c3).trans c1, (bb.cell c3).trans c2⟩)
    (first | (go_at_call 43; refine (BT.out _ (by first | exact n1 | exact n1.below (Below.refl _ w1).drew)).mono ?_; rintro e' w2 ⟨rfl, b⟩; have bb := (Below.refl _ w1).drew.trans (b.mono (Nat.le_refl _))) | fail)
  rw [HW.out]
  go_wp2_with fail
  go_ret
  exact ⟨rfl, b1.trans (bb.mono b1.size)⟩
set_option maxHeartbeats 1000000 in
theorem obeyondV {A : Option Addr} {n c V : Nat} (neg : Bool) (E : Int) (w : World) (h : Num w (.slice A n c) V) (hV : nb V ≤ 100000) (h1 : -1000000 ≤ E) (h2 : E ≤ 1000000) :
    Calls Tryd.prog 23 #[.agg #[.bool neg, .slice A n c, .int .i64 E]] w (BoolPost w (decide (1024 < E + (nb V : Int)))) := by
  have b1 := alloc_bel w (cd3 (.bool neg) (.slice A n c) (.int .i64 E))
  have k1 := K3.made w (.bool neg) (.slice A n c) (.int .i64 E)
  have TP := Lib.hid (otopV neg E _ (h.below b1) hV h1 h2)
  obtain ⟨c0, c1, c2, c3⟩ := k1.cell
  generalize E + (nb V : Int) = t at *
  go_enter Tryd.func23, Tryd.ntmps23
  go_wp2_with fail
  refine TP.out.mono ?_
  rintro e' w2 ⟨rfl, b⟩
  have b2 := below_step b1 b
  clear TP k1 b c0 c1 c2 c3
  go_wp2_with fail
  go_ret
  exact ⟨rfl, b2⟩
set_option maxHeartbeats 1000000 in
theorem otinyV {A : Option Addr} {n c V : Nat} (neg : Bool) (E : Int) (w : World) (h : Num w (.slice A n c) V) (hV : nb V ≤ 100000) (h1 : -1000000 ≤ E) (h2 : E ≤ 1000000) :
    Calls Tryd.prog 24 #[.agg #[.bool neg, .slice A n c, .int .i64 E]] w (BoolPost w (decide (E + (nb V : Int) ≤ -1022))) := by
  have b1 := alloc_bel w (cd3 (.bool neg) (.slice A n c) (.int .i64 E))
  have k1 := K3.made w (.bool neg) (.slice A n c) (.int .i64 E)
  have TP := Lib.hid (otopV neg E _ (h.below b1) hV h1 h2)
  obtain ⟨c0, c1, c2, c3⟩ := k1.cell
  generalize E + (nb V : Int) = t at *
  go_enter Tryd.func24, Tryd.ntmps24
  go_wp2_with fail
  refine TP.out.mono ?_
  rintro e' w2 ⟨rfl, b⟩
  have b2 := below_step b1 b
  clear TP k1 b c0 c1 c2 c3
  go_wp2_with fail
  go_ret
  exact ⟨rfl, b2⟩
set_option maxHeartbeats 1000000 in
theorem oleads_any (neg : Bool) (mode side : Int) (W q : Nat) (w : World) (hm : modeM mode = true) (hW : W < B64) (hq : W % 2 = q % 2) :
    Calls Tryd.prog 22 #[.int .i64 mode, .bool neg, .int .i64 side, .int .u64 (W : Int)] w fun e w' => e = .returned (.bool (upM neg mode side q)) ∧ w = w' := by
  obtain ⟨u, hu⟩ : ∃ u, Hid (upM neg mode side q = u) := ⟨_, Lib.hid rfl⟩
  rw [hu.out]
  have ha := and_one W hW
  rw [hq] at ha
  have HA := Lib.hid ha
  clear ha hq
  rcases mode_cases hm with rfl | rfl | rfl | rfl | rfl
  · have hu2 := hu.out
    unfold upM at hu2
    rw [if_pos rfl] at hu2
    go_enter Tryd.func22, Tryd.ntmps22
    by_cases h1 : 0 < side
    · have h2 : decide (0 < side) = true := decide_eq_true h1
      rw [h2] at hu2
      simp at hu2
      subst hu2
      clear hu hm
      go_wp2_with fail
      go_ret
      exact ⟨rfl, rfl⟩
    · have h2 : decide (0 < side) = false := decide_eq_false h1
      rw [h2, Bool.false_or] at hu2
      by_cases h3 : side = 0
      · subst h3
        rw [show decide ((0 : Int) = 0) = true by decide, Bool.true_and] at hu2
        have hA := HA.out
        rcases Nat.mod_two_eq_zero_or_one q with h4 | h4
        · rw [h4] at hA hu2
          rw [show decide ((0 : Nat) = 1) = false by decide] at hu2
          subst hu2
          clear hu hm
          go_wp2_with fail
          go_ret
          exact ⟨rfl, rfl⟩
        · rw [h4] at hA hu2
          rw [show decide ((1 : Nat) = 1) = true by decide] at hu2
          subst hu2
          clear hu hm
          go_wp2_with fail
          go_ret
          exact ⟨rfl, rfl⟩
      · have h5 : (side == 0) = false := by simpa using h3
        rw [decide_eq_false h3, Bool.false_and] at hu2
        subst hu2
        clear hu hm
        go_wp2_with fail
        go_ret
        exact ⟨rfl, rfl⟩
  · have hu2 : upM neg 1 side q = false := rfl
    rw [hu.out] at hu2
    subst hu2
    clear hu hm
    go_enter Tryd.func22, Tryd.ntmps22
    go_wp2_with fail
    go_ret
    exact ⟨rfl, rfl⟩
  · have hu2 : upM neg 2 side q = !neg := rfl
    rw [hu.out] at hu2
    subst hu2
    clear hu hm
    go_enter Tryd.func22, Tryd.ntmps22
    go_wp2_with fail
    go_ret
    exact ⟨rfl, rfl⟩
  · have hu2 : upM neg 3 side q = neg := rfl
    rw [hu.out] at hu2
    subst hu2
    clear hu hm
    go_enter Tryd.func22, Tryd.ntmps22
    go_wp2_with fail
    go_ret
    exact ⟨rfl, rfl⟩
  · have hu2 : upM neg 4 side q = decide (0 ≤ side) := rfl
    rw [hu.out] at hu2
    subst hu2
    clear hu hm
    go_enter Tryd.func22, Tryd.ntmps22
    go_wp2_with fail
    go_ret
    exact ⟨rfl, rfl⟩
end Go.Proofs.YtilmbdbcgbndmaaDoor

namespace Go.Proofs.YtilmbdbcgbndmaaDoor
open Go.RowKit

def inP (V : Nat) (E : Int) : Nat × Int := if 971 < unitE V E then (9218868437227405311, 1) else (inW V E, halfV V (unitE V E - E).toNat)
def IWP (w : World) (p : Nat × Int) (e : Ending) (w' : World) : Prop := e = .returned (.tuple #[.int .u64 (p.1 : Int), .int .i64 p.2]) ∧ Below w.heap.size w w'

set_option maxRecDepth 8000 in
set_option maxHeartbeats 4000000 in
theorem oinward_any {A : Option Addr} {n c V : Nat} (E : Int) (w : World) (h : Num w (.slice A n c) V) (hp : plainV false V E = true) (h0 : V ≠ 0) (hT : Tab w) (hlt : E < unitE V E ∨ 971 < unitE V E) :
    Calls Tryd.prog 21 #[.agg #[.bool false, .slice A n c, .int .i64 E]] w (IWP w (inP V E)) := by
  obtain ⟨hV, hE1, hE2, _⟩ := plainV_b hp
  have b1 := alloc_bel w (cd3 (.bool false) (.slice A n c) (.int .i64 E))
  have k1 := K3.made w (.bool false) (.slice A n c) (.int .i64 E)
  have n1 := h.below b1
  have hV256 : V < B64 ^ 256 := nb_lt_words (by omega)
  obtain ⟨U1, U2, U3⟩ := unit_top (V := V) (E := E)
  have BY := Lib.hid (obeyondV false E _ n1 (by omega) (by omega) (by omega))
  have TP := Lib.hid (fun w' (n : Num w' (.slice A n c) V) => otopV false E w' n (by omega) (by omega) (by omega))
  obtain ⟨p, hP⟩ : ∃ p, Hid (inP V E = p) := ⟨_, Lib.hid rfl⟩
  rw [hP.out]
  obtain ⟨c0, c1, c2, c3⟩ := k1.cell
  by_cases hb : 971 < unitE V E
  · have hd : decide (1024 < E + (nb V : Int)) = true := decide_eq_true (U1.1 hb)
    rw [hd] at BY
    have hw : Hid (p = (9218868437227405311, 1)) := Lib.hid (by rw [← hP.out]; unfold inP; rw [if_pos hb])
    clear hP U1 U2 U3 hb hlt TP h0
    go_enter Tryd.func21, Tryd.ntmps21
    go_wp2_with fail
    refine BY.out.mono ?_
    rintro e' w2 ⟨rfl, b⟩
    have b2 := below_step b1 b
    clear BY k1 b c0 c1 c2 c3
    go_wp2_with fail
    go_ret2
    exact ⟨by rw [hw.out]; rfl, b2⟩
  · have hd : decide (1024 < E + (nb V : Int)) = false := decide_eq_false (fun h => hb (U1.2 h))
    rw [hd] at BY
    have hlt' : E < unitE V E := by omega
    have hu : unitE V E ≤ 971 := by omega
    have hge : -1074 ≤ unitE V E := by unfold unitE; omega
    have hw : Hid (p = (inW V E, halfV V (unitE V E - E).toNat)) := Lib.hid (by rw [← hP.out]; unfold inP; rw [if_neg hb])
    have IW := in_word h0 hlt' hu
    obtain ⟨M1, M2, M3⟩ := in_mid h0 hlt' hu
    obtain ⟨k, hk⟩ : ∃ k : Nat, unitE V E - E = (k : Int) := ⟨(unitE V E - E).toNat, by omega⟩
    rw [hk, Int.toNat_natCast] at IW M1 M2 M3 hw
    have hq0 : nb (V / 2 ^ k) ≤ 16384 := by rw [nb_div_pow]; omega
    have hq1 : nb (V / 2 ^ k * 2 ^ 1) ≤ 20000 := by
      rcases Nat.eq_zero_or_pos (V / 2 ^ k) with h | h
      · rw [h, Nat.zero_mul, nb_zero]; omega
      · rw [nb_mul_pow (by omega)]; omega
    have hq2 : nb (V / 2 ^ k * 2 ^ 1 + 1) ≤ 30000 := by have := nb_succ_le (V / 2 ^ k * 2 ^ 1); omega
    have SR := Lib.hid (fun w' (n : Num w' (.slice A n c) V) => shrN (s := k) w' n (by omega) (by omega))
    have MK := Lib.hid (fun w' v (n : Num w' v (V / 2 ^ k)) (hT : Tab w') => makeN false (unitE V E) w' n (by omega) hT (by omega) (by omega))
    have hM := mkD_m_bits false (V / 2 ^ k) (unitE V E)
    have WD := Lib.hid (fun w' A p c (n : Num w' (.slice A p c) (mkD false (V / 2 ^ k) (unitE V E)).m) => owordN (mkD false (V / 2 ^ k) (unitE V E)).neg (mkD false (V / 2 ^ k) (unitE V E)).e w' n hM)
    rw [IW] at WD
    have SL := Lib.hid (fun w' v (n : Num w' v (V / 2 ^ k)) => shlN (s := 1) w' n (by omega) (by omega))
    have AD := Lib.hid (fun w' v u (n : Num w' v (V / 2 ^ k * 2 ^ 1)) (n' : Num w' u 1) => addN w' n n' (by omega) (by rw [nb1]; omega))
    have MM := Lib.hid (fun w' v (n : Num w' v (V / 2 ^ k * 2 ^ 1 + 1)) (hT : Tab w') => makeN false (unitE V E - 1) w' n (by omega) hT (by omega) (by omega))
    rw [show (2 : Nat) ^ 1 = 2 from rfl] at SL AD MM hq2 hq1
    rw [M1] at MM
    have hM2 : V / 2 ^ k * 2 + 1 < B64 ^ 256 := nb_lt_words (by
      have := (mkD_m_bits false (V / 2 ^ k * 2 + 1) (unitE V E - 1))
      unfold plainV at M2
      rw [if_neg (by omega)] at M2
      simp only [Bool.and_eq_true, decide_eq_true_eq] at M2
      have := M2.1.2
      rw [MB_eq] at this
      omega)
    have CM := Lib.hid (fun w' {B : Option Addr} {m d : Nat} (n1 : Num w' (.slice A n c) V) (n2 : Num w' (.slice B m d) (V / 2 ^ k * 2 + 1)) => ocmpN false false E (unitE V E - 1) w' n1 n2 hV256 hM2 hp M2)
    rw [M3] at CM
    have hmax : max (E + (nb V : Int) - 53) (-1074) = unitE V E := U3.symm
    have HMX := Lib.hid hmax
    have HK := Lib.hid hk
    clear hP U1 U2 U3 hb hlt h0 IW M1 M2 M3 hM hM2 hq0 hq1 hq2 hd hmax hk
    have hsmall : -2000000 ≤ E + (nb V : Int) ∧ E + (nb V : Int) ≤ 2000000 := by omega
    clear hp hV256
    generalize inW V E = W at *
    generalize halfV V k = hf at *
    generalize V / 2 ^ k = q at *
    generalize unitE V E = u at *
    generalize hr : mkD false q u = r at *
    go_enter Tryd.func21, Tryd.ntmps21
    go_wp2_with fail
    refine BY.out.mono ?_
    generalize w.alloc (cd3 (.bool false) (.slice A n c) (.int .i64 E)) = w1 at *
    rintro e' w2 ⟨rfl, b⟩
    have b2 := below_step b1 b
    replace n1 := n1.below b
    replace k1 := k1.adv b
    clear BY b b1 c0 c1 c2 c3
    obtain ⟨c0, c1, c2, c3⟩ := k1.cell
    go_wp2_with fail
    refine (TP.out _ n1).mono ?_
    rintro e' w3 ⟨rfl, b⟩
    have b3 := below_step b2 b
    replace n1 := n1.below b
    replace k1 := k1.adv b
    clear TP b b2 c0 c1 c2 c3
    obtain ⟨c0, c1, c2, c3⟩ := k1.cell
    generalize E + (nb V : Int) = t at *
    have hmx := HMX.out
    have hkk := HK.out
    go_wp2_with fail
    refine (SR.out _ n1).mono ?_
    rintro e' w4 ⟨A4, p4, q4, rfl, n4, b⟩
    have b4 := below_step b3 b
    replace n1 := n1.below b
    replace k1 := k1.adv b
    clear SR b b3 c0 c1 c2 c3 hmx hkk HMX HK
    go_wp2_with fail
    refine (MK.out _ _ n4 (hT.below b4)).mono ?_
    rintro e' w5 h5
    obtain ⟨A5, p5, q5, rfl, n5, b⟩ := h5.dp
    have b5 := below_step b4 b
    replace n1 := n1.below b
    replace n4 := n4.below b
    replace k1 := k1.adv b
    clear MK b b4 h5
    have bb := alloc_bel w5 (cd3 (.bool r.neg) (.slice A5 p5 q5) (.int .i64 r.e))
    have k5 := K3.made w5 (.bool r.neg) (.slice A5 p5 q5) (.int .i64 r.e)
    replace n1 := n1.below bb
    replace n4 := n4.below bb
    replace n5 := n5.below bb
    replace k1 := k1.adv bb
    replace b5 := below_step b5 bb
    clear bb
    obtain ⟨d0, d1, d2, d3⟩ := k5.cell
    go_wp2_with fail
    generalize w5.alloc (cd3 (.bool r.neg) (.slice A5 p5 q5) (.int .i64 r.e)) = w6 at *
    refine (WD.out _ _ _ _ n5).mono ?_
    rintro e' w7 ⟨rfl, b⟩
    have b7 := below_step b5 b
    replace n1 := n1.below b
    replace n4 := n4.below b
    replace k1 := k1.adv b
    clear WD b b5 d0 d1 d2 d3 k5 n5
    obtain ⟨c0, c1, c2, c3⟩ := k1.cell
    go_wp2_with fail
    refine (SL.out _ _ n4).mono ?_
    rintro e' w8 ⟨A8, p8, q8, rfl, n8, b⟩
    have b8 := below_step b7 b
    replace n1 := n1.below b
    replace k1 := k1.adv b
    clear SL b b7 c0 c1 c2 c3 n4
    have bb := alloc_bel w8 (cw 1)
    have n9 := num_one (slw w8 1 _ (by unfold B64; omega) rfl) (by omega)
    replace n1 := n1.below bb
    replace n8 := n8.below bb
    replace k1 := k1.adv bb
    replace b8 := below_step b8 bb
    clear bb
    go_wp2_with fail
    generalize w8.alloc (cw 1) = w9 at *
    refine (AD.out _ _ _ n8 n9).mono ?_
    rintro e' w10 ⟨A10, p10, q10, rfl, n10, b⟩
    have b10 := below_step b8 b
    replace n1 := n1.below b
    replace k1 := k1.adv b
    clear AD b b8 n8 n9
    go_wp2_with fail
    refine (MM.out _ _ n10 (hT.below b10)).mono ?_
    rintro e' w11 h11
    obtain ⟨A11, p11, q11, rfl, n11, b⟩ := h11.dp
    have b11 := below_step b10 b
    replace n1 := n1.below b
    replace k1 := k1.adv b
    clear MM b b10 h11 n10
    dsimp only at n11
    have bb := alloc_bel w11 (cd3 (.bool false) (.slice A11 p11 q11) (.int .i64 (u - 1)))
    have k6 := K3.made w11 (.bool false) (.slice A11 p11 q11) (.int .i64 (u - 1))
    replace n1 := n1.below bb
    replace n11 := n11.below bb
    replace k1 := k1.adv bb
    replace b11 := below_step b11 bb
    clear bb
    obtain ⟨c0, c1, c2, c3⟩ := k1.cell
    obtain ⟨d0, d1, d2, d3⟩ := k6.cell
    go_wp2_with fail
    generalize w11.alloc (cd3 (.bool false) (.slice A11 p11 q11) (.int .i64 (u - 1))) = w12 at *
    refine (CM.out _ n1 n11).mono ?_
    rintro e' w13 ⟨rfl, b⟩
    have b13 := below_step b11 b
    clear CM b b11 c0 c1 c2 c3 d0 d1 d2 d3 k1 k6 n1 n11
    go_wp2_with fail
    go_ret2
    exact ⟨by rw [hw.out]; rfl, b13⟩
end Go.Proofs.YtilmbdbcgbndmaaDoor

namespace Go.Proofs.YtilmbdbcgbndmaaDoor
open Go.RowKit

theorem inf_top {V : Nat} {E : Int} {u : Bool} (h0 : V ≠ 0) (hlt : E < unitE V E) (h : inW V E + (if u then 1 else 0) = 9218868437227405312) : ¬ topV V E ≤ -1022 := by
  intro ht
  have hu : unitE V E = -1074 := by unfold unitE; unfold topV at ht; omega
  obtain ⟨hr, _⟩ := choose_range (neg := false) (E := E) (mode := 1) h0
  rw [(in_cut hlt).2] at hr
  unfold inW at h
  rw [hu] at h hr
  rw [show ((-1074 : Int) + 1074).toNat = 0 by decide] at h
  cases u
  · simp at h; omega
  · simp at h; omega
theorem plainV_abs {neg : Bool} {V : Nat} {E : Int} (h : plainV neg V E = true) (h0 : V ≠ 0) : plainV false V E = true := by
  unfold plainV at *
  rw [if_neg h0] at *
  exact h
theorem or_four : Go.bits .or .i64 1 4 = 5 := by decide +kernel

set_option maxRecDepth 8000 in
set_option maxHeartbeats 8000000 in
theorem oexact_any (neg : Bool) (A : Option Addr) (n c : Nat) (x : Nat → Nat) (E mode : Int) (w : World) (ha : Sl w A n c x) (hn : n ≤ 400000) (hT : Tab w) :
    Calls Tryd.prog 9 #[dyv neg A n c E, .int .i64 mode] w (EP w (exactV (plainB neg n x E) neg (vs B64 x n) E mode)) := by
  obtain ⟨p, hP⟩ : ∃ p, Hid (exactV (plainB neg n x E) neg (vs B64 x n) E mode = p) := ⟨_, Lib.hid rfl⟩
  rw [hP.out]
  have b1 := alloc_bel w (cd3 (.bool neg) (.slice A n c) (.int .i64 E))
  have k1 := K3.made w (.bool neg) (.slice A n c) (.int .i64 E)
  have PL := Lib.hid (plain_any neg A n c x E _ (ha.below b1) hn)
  obtain ⟨c0, c1, c2, c3⟩ := k1.cell
  go_enter Tryd.func9, Tryd.ntmps9
  go_wp2_with fail
  refine PL.out.mono ?_
  generalize w.alloc (cd3 (.bool neg) (.slice A n c) (.int .i64 E)) = w1 at *
  rintro e' w2 ⟨rfl, b⟩
  have b2 := below_step b1 b
  replace k1 := k1.adv b
  have a2 := ha.below b2
  clear b PL b1 c0 c1 c2 c3
  obtain ⟨c0, c1, c2, c3⟩ := k1.cell
  by_cases hp : plainB neg n x E = true
  · rw [hp] at hP ⊢
    by_cases hm : modeM mode = true
    · have hm2 := hm
      unfold modeM at hm2
      simp only [Bool.and_eq_true, decide_eq_true_eq] at hm2
      have hd1 : decide (mode < 0) = false := decide_eq_false (by omega)
      have hd2 : decide (4 < mode) = false := decide_eq_false (by omega)
      have PF := plain_facts hp
      have NA := PF.num a2
      have hpv : plainV neg (vs B64 x n) E = true := by rw [← plain_V PF.cn]; exact hp
      have hV256 : vs B64 x n < B64 ^ 256 := nb_lt_words (by have := PF.bits; omega)
      clear PF ha a2 hp hm2
      generalize vs B64 x n = V at *
      obtain ⟨hV, hE1, hE2, _⟩ := plainV_b hpv
      have WD := Lib.hid (fun w' (n : Num w' (.slice A n c) V) => owordN neg E w' n hV256)
      rw [hpv, show wordP true neg V E = wordN neg V E from rfl] at WD
      obtain ⟨X, hX⟩ : ∃ X, wordN neg V E = X := ⟨_, rfl⟩
      rw [hX] at WD
      obtain ⟨X1, X2⟩ := X
      cases X2
      · obtain ⟨h0, hlt⟩ := word_no (neg := neg) (V := V) (E := E) (by rw [hX])
        clear hX
        have IN := Lib.hid (fun w' (n : Num w' (.slice A n c) V) (hT : Tab w') => oinward_any E w' n (plainV_abs hpv h0) h0 hT hlt)
        obtain ⟨U1, U2, _⟩ := unit_top (V := V) (E := E)
        have BY := Lib.hid (fun w' (n : Num w' (.slice A n c) V) => obeyondV neg E w' n (by omega) (by omega) (by omega))
        have TN := Lib.hid (fun w' (n : Num w' (.slice A n c) V) => otinyV neg E w' n (by omega) (by omega) (by omega))
        go_wp2_with fail
        refine (WD.out _ NA).mono ?_
        rintro e' w3 ⟨rfl, b⟩
        have b3 := below_step b2 b
        replace NA := NA.below b
        replace k1 := k1.adv b
        clear b WD b2 c0 c1 c2 c3
        obtain ⟨c0, c1, c2, c3⟩ := k1.cell
        go_wp2_with fail
        refine (IN.out _ NA (hT.below b3)).mono ?_
        rintro e' w4 ⟨rfl, b⟩
        have b4 := below_step b3 b
        replace NA := NA.below b
        replace k1 := k1.adv b
        clear b IN b3 c0 c1 c2 c3
        obtain ⟨c0, c1, c2, c3⟩ := k1.cell
        by_cases hb : 971 < unitE V E
        · have hin : inP V E = (9218868437227405311, 1) := by unfold inP; rw [if_pos hb]
          have hby : decide (1024 < E + (nb V : Int)) = true := decide_eq_true (U1.1 hb)
          have hti : decide (E + (nb V : Int) ≤ -1022) = false := decide_eq_false (by have := U1.1 hb; omega)
          rw [hby] at BY
          rw [hti] at TN
          rw [hin]
          have LD := Lib.hid (fun w' => oleads_any neg mode 1 9218868437227405311 9218868437227405311 w' hm (by unfold B64; omega) rfl)
          have NX9 := Lib.hid (fun w' => next_any 9218868437227405311 true w' (by unfold B64; omega))
          rw [in_next (W := 9218868437227405311) (by omega)] at NX9
          obtain ⟨u, hu⟩ : ∃ u, upM neg mode 1 9218868437227405311 = u := ⟨_, rfl⟩
          have hw0 := code_beyond hm h0 hb _ hu
          rw [hP.out] at hw0
          replace hw0 := Lib.hid hw0
          rw [hu] at LD
          clear hP hlt hu hin hby hti hb h0 U1 U2
          go_wp2_with fail
          refine (LD.out _).mono ?_
          rintro e' w5 ⟨rfl, rfl⟩
          clear LD hm hpv hV256
          cases u
          · have hw : Hid (p = (sgW neg + 9218868437227405311, 3, true)) := Lib.hid hw0.out
            have HOR := Lib.hid (or63 9218868437227405311 (by omega))
            clear NX9
            clear hw0
            go_wp2_with fail
            refine (BY.out _ NA).mono ?_
            rintro e' w5 ⟨rfl, b⟩
            have b5 := below_step b4 b
            replace NA := NA.below b
            replace k1 := k1.adv b
            clear b BY b4 c0 c1 c2 c3
            obtain ⟨c0, c1, c2, c3⟩ := k1.cell
            go_wp2_with fail
            refine (TN.out _ NA).mono ?_
            rintro e' w6 ⟨rfl, b⟩
            have b6 := below_step b5 b
            replace k1 := k1.adv b
            clear b TN b5 c0 c1 c2 c3 NA
            obtain ⟨c0, c1, c2, c3⟩ := k1.cell
            cases neg
            · clear HOR
              go_wp2_with fail
              go_ret3
              exact ⟨by rw [hw.out, show sgW false + 9218868437227405311 = 9218868437227405311 from Nat.zero_add _]; rfl, b6⟩
            · have hor := HOR.out
              clear HOR
              go_wp2_with fail
              go_ret3
              exact ⟨by rw [hw.out]; rfl, b6⟩
          · have hw : Hid (p = (sgW neg + 9218868437227405312, 3, true)) := Lib.hid hw0.out
            have HOR := Lib.hid (or63 9218868437227405312 (by omega))
            go_wp2_with fail
            refine (NX9.out _).mono ?_
            rintro e' w5 ⟨rfl, rfl⟩
            clear NX9
            clear hw0
            go_wp2_with fail
            refine (BY.out _ NA).mono ?_
            rintro e' w5 ⟨rfl, b⟩
            have b5 := below_step b4 b
            replace NA := NA.below b
            replace k1 := k1.adv b
            clear b BY b4 c0 c1 c2 c3
            obtain ⟨c0, c1, c2, c3⟩ := k1.cell
            go_wp2_with fail
            refine (TN.out _ NA).mono ?_
            rintro e' w6 ⟨rfl, b⟩
            have b6 := below_step b5 b
            replace k1 := k1.adv b
            clear b TN b5 c0 c1 c2 c3 NA
            obtain ⟨c0, c1, c2, c3⟩ := k1.cell
            cases neg
            · clear HOR
              go_wp2_with fail
              go_ret3
              exact ⟨by rw [hw.out, show sgW false + 9218868437227405312 = 9218868437227405312 from Nat.zero_add _]; rfl, b6⟩
            · have hor := HOR.out
              clear HOR
              go_wp2_with fail
              go_ret3
              exact ⟨by rw [hw.out]; rfl, b6⟩
        · have hlt' : E < unitE V E := by omega
          have hb' : unitE V E ≤ 971 := by omega
          have hin : inP V E = (inW V E, halfV V (unitE V E - E).toNat) := by unfold inP; rw [if_neg hb]
          have hby : decide (1024 < E + (nb V : Int)) = false := decide_eq_false (fun h => hb (U1.2 h))
          rw [hby] at BY
          rw [hin]
          have hs := in_small h0 hlt' hb'
          have LD := Lib.hid (fun w' => oleads_any neg mode (halfV V (unitE V E - E).toNat) (inW V E) (V / 2 ^ (unitE V E - E).toNat) w' hm (by unfold B64; omega) (in_odd V E))
          have NX9 := Lib.hid (fun w' => next_any (inW V E) true w' (by unfold B64; omega))
          rw [in_next hs] at NX9
          obtain ⟨u, hu⟩ : ∃ u, upM neg mode (halfV V (unitE V E - E).toNat) (V / 2 ^ (unitE V E - E).toNat) = u := ⟨_, rfl⟩
          have hw0 := code_word hm h0 hlt' hb' hu
          rw [hP.out] at hw0
          rw [hu] at LD
          have hit := inf_top (u := u) h0 hlt'
          rw [U2] at hw0 hit
          replace hw0 := Lib.hid hw0
          replace hit := Lib.hid hit
          clear hP hlt hu hin hby hb h0 U1 U2 hlt' hb'
          generalize E + (nb V : Int) = t at *
          generalize inW V E = W at *
          generalize halfV V (unitE V E - E).toNat = hf at *
          go_wp2_with fail
          refine (LD.out _).mono ?_
          rintro e' w5 ⟨rfl, rfl⟩
          clear LD hm hpv hV256
          cases u
          · have HOR := Lib.hid (or63 W (by omega))
            have KD := Lib.hid (fun w' => kind_any W w' (by unfold B64; omega))
            have hw1 := hw0.out
            have hit1 := hit.out
            rw [show W + (if false = true then 1 else 0) = W from rfl] at hw1 hit1
            replace hw0 := Lib.hid hw1
            replace hit := Lib.hid hit1
            clear hw1 hit1
            clear NX9
            have hk := in_kind (W := W) (by omega)
            have hw1 := hw0.out
            have hit1 := hit.out
            clear hw0 hit
            generalize kindN W = kk at *
            by_cases hi : W = 9218868437227405312
            · have hkk : kk = 3 := hk.2 hi
              subst hkk
              have hti : decide (t ≤ -1022) = false := decide_eq_false (by have := hit1 hi; omega)
              rw [hti] at TN
              rw [if_pos hi] at hw1
              have hw : Hid (p = (sgW neg + W, 3, true)) := Lib.hid hw1
              clear hk hi hit1 hti hw1
              go_wp2_with fail
              refine (BY.out _ NA).mono ?_
              rintro e' w5 ⟨rfl, b⟩
              have b5 := below_step b4 b
              replace NA := NA.below b
              replace k1 := k1.adv b
              clear b BY b4 c0 c1 c2 c3
              obtain ⟨c0, c1, c2, c3⟩ := k1.cell
              go_wp2_with fail
              refine (KD.out _).mono ?_
              rintro e' w5 ⟨rfl, rfl⟩
              go_wp2_with fail
              refine (TN.out _ NA).mono ?_
              rintro e' w6 ⟨rfl, b⟩
              have b6 := below_step b5 b
              replace k1 := k1.adv b
              clear b TN b5 c0 c1 c2 c3 NA
              obtain ⟨c0, c1, c2, c3⟩ := k1.cell
              cases neg
              · clear HOR
                go_wp2_with fail
                go_ret3
                exact ⟨by rw [hw.out, show sgW false + W = W from Nat.zero_add _]; rfl, b6⟩
              · have hor := HOR.out
                clear HOR
                go_wp2_with fail
                go_ret3
                exact ⟨by rw [hw.out]; rfl, b6⟩
            · have hkk : ¬ kk = 3 := fun h => hi (hk.1 h)
              have hk3 : ((kk : Int) == 3) = false := by simp; omega
              rw [if_neg hi] at hw1
              by_cases ht : t ≤ -1022
              · have hti : decide (t ≤ -1022) = true := decide_eq_true ht
                rw [hti] at TN
                rw [if_pos ht] at hw1
                have hw : Hid (p = (sgW neg + W, 5, true)) := Lib.hid hw1
                clear hk hi hit1 hti hkk ht hw1
                go_wp2_with fail
                refine (BY.out _ NA).mono ?_
                rintro e' w5 ⟨rfl, b⟩
                have b5 := below_step b4 b
                replace NA := NA.below b
                replace k1 := k1.adv b
                clear b BY b4 c0 c1 c2 c3
                obtain ⟨c0, c1, c2, c3⟩ := k1.cell
                go_wp2_with fail
                refine (KD.out _).mono ?_
                rintro e' w5 ⟨rfl, rfl⟩
                go_wp2_with fail
                refine (TN.out _ NA).mono ?_
                rintro e' w6 ⟨rfl, b⟩
                have b6 := below_step b5 b
                replace k1 := k1.adv b
                clear b TN b5 c0 c1 c2 c3 NA
                obtain ⟨c0, c1, c2, c3⟩ := k1.cell
                cases neg
                · clear HOR
                  go_wp2_with fail
                  go_ret3
                  exact ⟨by rw [hw.out, show sgW false + W = W from Nat.zero_add _]; rfl, b6⟩
                · have hor := HOR.out
                  clear HOR
                  go_wp2_with fail
                  go_ret3
                  exact ⟨by rw [hw.out]; rfl, b6⟩
              · have hti : decide (t ≤ -1022) = false := decide_eq_false ht
                rw [hti] at TN
                rw [if_neg ht] at hw1
                have hw : Hid (p = (sgW neg + W, 1, true)) := Lib.hid hw1
                clear hk hi hit1 hti hkk ht hw1
                go_wp2_with fail
                refine (BY.out _ NA).mono ?_
                rintro e' w5 ⟨rfl, b⟩
                have b5 := below_step b4 b
                replace NA := NA.below b
                replace k1 := k1.adv b
                clear b BY b4 c0 c1 c2 c3
                obtain ⟨c0, c1, c2, c3⟩ := k1.cell
                go_wp2_with fail
                refine (KD.out _).mono ?_
                rintro e' w5 ⟨rfl, rfl⟩
                go_wp2_with fail
                refine (TN.out _ NA).mono ?_
                rintro e' w6 ⟨rfl, b⟩
                have b6 := below_step b5 b
                replace k1 := k1.adv b
                clear b TN b5 c0 c1 c2 c3 NA
                obtain ⟨c0, c1, c2, c3⟩ := k1.cell
                cases neg
                · clear HOR
                  go_wp2_with fail
                  go_ret3
                  exact ⟨by rw [hw.out, show sgW false + W = W from Nat.zero_add _]; rfl, b6⟩
                · have hor := HOR.out
                  clear HOR
                  go_wp2_with fail
                  go_ret3
                  exact ⟨by rw [hw.out]; rfl, b6⟩
          · have HOR := Lib.hid (or63 (W + 1) (by omega))
            have KD := Lib.hid (fun w' => kind_any (W + 1) w' (by unfold B64; omega))
            have hw1 := hw0.out
            have hit1 := hit.out
            rw [show W + (if true = true then 1 else 0) = (W + 1) from rfl] at hw1 hit1
            replace hw0 := Lib.hid hw1
            replace hit := Lib.hid hit1
            clear hw1 hit1
            go_wp2_with fail
            refine (NX9.out _).mono ?_
            rintro e' w5 ⟨rfl, rfl⟩
            dsimp only
            clear NX9
            have hk := in_kind (W := (W + 1)) (by omega)
            have hw1 := hw0.out
            have hit1 := hit.out
            clear hw0 hit
            generalize W + 1 = W1 at *
            generalize kindN W1 = kk at *
            by_cases hi : W1 = 9218868437227405312
            · have hkk : kk = 3 := hk.2 hi
              subst hkk
              have hti : decide (t ≤ -1022) = false := decide_eq_false (by have := hit1 hi; omega)
              rw [hti] at TN
              rw [if_pos hi] at hw1
              have hw : Hid (p = (sgW neg + W1, 3, true)) := Lib.hid hw1
              clear hk hi hit1 hti hw1
              go_wp2_with fail
              refine (BY.out _ NA).mono ?_
              rintro e' w5 ⟨rfl, b⟩
              have b5 := below_step b4 b
              replace NA := NA.below b
              replace k1 := k1.adv b
              clear b BY b4 c0 c1 c2 c3
              obtain ⟨c0, c1, c2, c3⟩ := k1.cell
              go_wp2_with fail
              refine (KD.out _).mono ?_
              rintro e' w5 ⟨rfl, rfl⟩
              go_wp2_with fail
              refine (TN.out _ NA).mono ?_
              rintro e' w6 ⟨rfl, b⟩
              have b6 := below_step b5 b
              replace k1 := k1.adv b
              clear b TN b5 c0 c1 c2 c3 NA
              obtain ⟨c0, c1, c2, c3⟩ := k1.cell
              cases neg
              · clear HOR
                go_wp2_with fail
                go_ret3
                exact ⟨by rw [hw.out, show sgW false + W1 = W1 from Nat.zero_add _]; rfl, b6⟩
              · have hor := HOR.out
                clear HOR
                go_wp2_with fail
                go_ret3
                exact ⟨by rw [hw.out]; rfl, b6⟩
            · have hkk : ¬ kk = 3 := fun h => hi (hk.1 h)
              have hk3 : ((kk : Int) == 3) = false := by simp; omega
              rw [if_neg hi] at hw1
              by_cases ht : t ≤ -1022
              · have hti : decide (t ≤ -1022) = true := decide_eq_true ht
                rw [hti] at TN
                rw [if_pos ht] at hw1
                have hw : Hid (p = (sgW neg + W1, 5, true)) := Lib.hid hw1
                clear hk hi hit1 hti hkk ht hw1
                go_wp2_with fail
                refine (BY.out _ NA).mono ?_
                rintro e' w5 ⟨rfl, b⟩
                have b5 := below_step b4 b
                replace NA := NA.below b
                replace k1 := k1.adv b
                clear b BY b4 c0 c1 c2 c3
                obtain ⟨c0, c1, c2, c3⟩ := k1.cell
                go_wp2_with fail
                refine (KD.out _).mono ?_
                rintro e' w5 ⟨rfl, rfl⟩
                go_wp2_with fail
                refine (TN.out _ NA).mono ?_
                rintro e' w6 ⟨rfl, b⟩
                have b6 := below_step b5 b
                replace k1 := k1.adv b
                clear b TN b5 c0 c1 c2 c3 NA
                obtain ⟨c0, c1, c2, c3⟩ := k1.cell
                cases neg
                · clear HOR
                  go_wp2_with fail
                  go_ret3
                  exact ⟨by rw [hw.out, show sgW false + W1 = W1 from Nat.zero_add _]; rfl, b6⟩
                · have hor := HOR.out
                  clear HOR
                  go_wp2_with fail
                  go_ret3
                  exact ⟨by rw [hw.out]; rfl, b6⟩
              · have hti : decide (t ≤ -1022) = false := decide_eq_false ht
                rw [hti] at TN
                rw [if_neg ht] at hw1
                have hw : Hid (p = (sgW neg + W1, 1, true)) := Lib.hid hw1
                clear hk hi hit1 hti hkk ht hw1
                go_wp2_with fail
                refine (BY.out _ NA).mono ?_
                rintro e' w5 ⟨rfl, b⟩
                have b5 := below_step b4 b
                replace NA := NA.below b
                replace k1 := k1.adv b
                clear b BY b4 c0 c1 c2 c3
                obtain ⟨c0, c1, c2, c3⟩ := k1.cell
                go_wp2_with fail
                refine (KD.out _).mono ?_
                rintro e' w5 ⟨rfl, rfl⟩
                go_wp2_with fail
                refine (TN.out _ NA).mono ?_
                rintro e' w6 ⟨rfl, b⟩
                have b6 := below_step b5 b
                replace k1 := k1.adv b
                clear b TN b5 c0 c1 c2 c3 NA
                obtain ⟨c0, c1, c2, c3⟩ := k1.cell
                cases neg
                · clear HOR
                  go_wp2_with fail
                  go_ret3
                  exact ⟨by rw [hw.out, show sgW false + W1 = W1 from Nat.zero_add _]; rfl, b6⟩
                · have hor := HOR.out
                  clear HOR
                  go_wp2_with fail
                  go_ret3
                  exact ⟨by rw [hw.out]; rfl, b6⟩
      · have hw : Hid (p = (X1, 0, true)) := Lib.hid (by rw [← hP.out]; exact code_exact hm hX)
        clear hP hm hX hpv hV256
        go_wp2_with fail
        refine (WD.out _ NA).mono ?_
        rintro e' w3 ⟨rfl, b⟩
        have b3 := below_step b2 b
        clear b WD b2 c0 c1 c2 c3 k1 NA
        go_wp2_with fail
        go_ret3
        exact ⟨by rw [hw.out]; rfl, b3⟩
    · have hw : Hid (p = (0, 0, false)) := Lib.hid (by rw [← hP.out]; unfold exactV; rw [show modeM mode = false by simpa using hm]; rfl)
      clear hP
      by_cases hd1 : mode < 0
      · have hd2 : decide (mode < 0) = true := decide_eq_true hd1
        clear hm
        go_wp2_with fail
        go_ret3
        exact ⟨by rw [hw.out]; rfl, b2⟩
      · have hd2 : decide (mode < 0) = false := decide_eq_false hd1
        have hd3 : decide (4 < mode) = true := decide_eq_true (by unfold modeM at hm; simp at hm; omega)
        clear hm
        go_wp2_with fail
        go_ret3
        exact ⟨by rw [hw.out]; rfl, b2⟩
  · have hp' : plainB neg n x E = false := by simpa using hp
    have hw : Hid (p = (0, 0, false)) := Lib.hid (by rw [← hP.out, hp']; rfl)
    rw [hp']
    clear hP hp hp'
    go_wp2_with fail
    go_ret3
    exact ⟨by rw [hw.out]; rfl, b2⟩
end Go.Proofs.YtilmbdbcgbndmaaDoor

namespace Go.Proofs.YtilmbdbcgbndmaaDoor
open Go.RowKit

set_option maxHeartbeats 4000000 in
theorem oends_any (na nb' : Bool) (A B : Option Addr) (n c m d : Nat) (x y : Nat → Nat) (ea eb : Int) (w : World) (ha : Sl w A n c x) (hb : Sl w B m d y) (hn : n ≤ 400000) (hm : m ≤ 400000) (hT : Tab w) :
    Calls Tryd.prog 13 #[spv na A n c ea nb' B m d eb] w (XP w (endsV (rightB (plainB na n x ea && plainB nb' m y eb) na nb' (vs B64 x n) (vs B64 y m) ea eb) na nb' (vs B64 x n) (vs B64 y m) ea eb)) := by
  have b1 := alloc_bel w (co6 (.bool na) (.slice A n c) (.int .i64 ea) (.bool nb') (.slice B m d) (.int .i64 eb))
  have k1 := K6.made w (.bool na) (.slice A n c) (.int .i64 ea) (.bool nb') (.slice B m d) (.int .i64 eb)
  have CM := Lib.hid (dcmp_any na nb' A B n c m d x y ea eb _ (ha.below b1) (hb.below b1) hn hm)
  obtain ⟨p, hP⟩ : ∃ p, Hid (endsV (rightB (plainB na n x ea && plainB nb' m y eb) na nb' (vs B64 x n) (vs B64 y m) ea eb) na nb' (vs B64 x n) (vs B64 y m) ea eb = p) := ⟨_, Lib.hid rfl⟩
  rw [hP.out]
  obtain ⟨K, hK⟩ : ∃ K : Bool, Hid ((plainB na n x ea && plainB nb' m y eb) = K) := ⟨_, Lib.hid rfl⟩
  rw [hK.out] at CM hP
  obtain ⟨o, ho⟩ : ∃ o : Int, Hid (ordD na nb' (vs B64 x n) (vs B64 y m) ea eb = o) := ⟨_, Lib.hid rfl⟩
  unfold cmpD at CM
  rw [ho.out] at CM
  obtain ⟨c0, c1, c2, c3, c4, c5, c6⟩ := k1.cell
  go_enter Tryd.func13, Tryd.ntmps13
  go_wp2_with fail
  refine CM.out.mono ?_
  generalize w.alloc (co6 (.bool na) (.slice A n c) (.int .i64 ea) (.bool nb') (.slice B m d) (.int .i64 eb)) = w1 at *
  rintro e' w2 ⟨rfl, b⟩
  have b2 := below_step b1 b
  replace k1 := k1.adv b
  clear b b1 CM c0 c1 c2 c3 c4 c5 c6
  obtain ⟨c0, c1, c2, c3, c4, c5, c6⟩ := k1.cell
  cases K
  · have hw : Hid (p = (0, 0, false)) := Lib.hid hP.out.symm
    clear hP hK
    go_wp2_with fail
    go_ret3
    exact ⟨by rw [hw.out]; rfl, b2⟩
  · by_cases hgt : 0 < o
    · have hd : decide (0 < o) = true := decide_eq_true hgt
      have hw : Hid (p = (0, 0, false)) := Lib.hid (by
        rw [← hP.out]
        unfold endsV rightB
        rw [ho.out]
        rw [show decide (o ≤ 0) = false from decide_eq_false (by omega)]
        rfl)
      clear hP hK hgt
      go_wp2_with fail
      go_ret3
      exact ⟨by rw [hw.out]; rfl, b2⟩
    · have hd : decide (0 < o) = false := decide_eq_false hgt
      have hok := hK.out
      simp only [Bool.and_eq_true] at hok
      obtain ⟨hpa, hpb⟩ := hok
      have E1 := Lib.hid (oexact_any na A n c x ea 3 w2 (ha.below b2) hn (hT.below b2))
      have E2 := Lib.hid (fun w' (b : Below w.heap.size w w') => oexact_any nb' B m d y eb 2 w' (hb.below b) hm (hT.below b))
      rw [hpa] at E1
      rw [hpb] at E2
      have hw : Hid (p = ((exactV true na (vs B64 x n) ea 3).1, (exactV true nb' (vs B64 y m) eb 2).1, true)) := Lib.hid (by
        rw [← hP.out]
        unfold endsV rightB
        rw [ho.out]
        rw [show decide (o ≤ 0) = true from decide_eq_true (by omega)]
        rfl)
      clear hP hK hpa hpb ho hgt
      generalize exactV true na (vs B64 x n) ea 3 = q at *
      generalize exactV true nb' (vs B64 y m) eb 2 = r at *
      go_wp2_with fail
      refine E1.out.mono ?_
      rintro e' w3 ⟨rfl, b⟩
      have b3 := below_step b2 b
      replace k1 := k1.adv b
      clear b b2 E1 c0 c1 c2 c3 c4 c5 c6
      obtain ⟨c0, c1, c2, c3, c4, c5, c6⟩ := k1.cell
      go_wp2_with fail
      refine (E2.out _ b3).mono ?_
      rintro e' w4 ⟨rfl, b⟩
      have b4 := below_step b3 b
      clear b b3 E2 c0 c1 c2 c3 c4 c5 c6
      go_wp2_with fail
      go_ret3
      exact ⟨by rw [hw.out]; rfl, b4⟩

theorem ex_flags {neg : Bool} {V : Nat} {E mode : Int} (hm : modeM mode = true) :
    (exactV true neg V E mode).2.2 = true ∧ (overF neg V E mode = true → (exactV true neg V E mode).2.1 = 3) ∧ (overF neg V E mode = false → (exactV true neg V E mode).2.1 = 0 ∨ (exactV true neg V E mode).2.1 = 1 ∨ (exactV true neg V E mode).2.1 = 5) := by
  unfold exactV overF
  rw [hm, if_pos (by rfl)]
  by_cases h0 : V = 0
  · rw [if_pos h0]
    simp [h0]
  · rw [if_neg h0]
    refine ⟨rfl, ?_, ?_⟩
    · intro h
      simp [h0] at h
      simp only
      rw [if_pos h]
    · intro h
      simp [h0] at h
      simp only
      rw [if_neg (by omega)]
      split
      · exact .inl rfl
      · split
        · exact .inr (.inr rfl)
        · exact .inr (.inl rfl)
theorem tiny_over {neg : Bool} {V : Nat} {E mode : Int} (h : tinyV V E = true) : overF neg V E mode = false := by
  unfold tinyV at h
  simp only [Bool.and_eq_true, decide_eq_true_eq] at h
  obtain ⟨h0, ht⟩ := h
  have hu : unitE V E = -1074 := by unfold unitE; unfold topV at ht; omega
  obtain ⟨hr, _⟩ := choose_range (neg := neg) (E := E) (mode := mode) h0
  unfold overF lV
  rw [hu] at hr ⊢
  rw [show ((-1074 : Int) + 1074).toNat = 0 by decide]
  simp
  intro _
  omega
theorem tiny_top {neg : Bool} {V : Nat} {E : Int} (h : plainV neg V E = true) : tinyV V E = decide (E + (nb V : Int) ≤ -1022) := by
  unfold tinyV topV
  by_cases h0 : V = 0
  · unfold plainV at h
    rw [if_pos h0] at h
    simp only [Bool.and_eq_true, decide_eq_true_eq] at h
    subst h0
    rw [nb_zero, h.1]
    decide
  · rw [show decide (V ≠ 0) = true by simp [h0], Bool.true_and, Int.add_comm]
/-- Whether two sets of flags differ in Overflow. -/
theorem flags_differ {f g : Int} {a b : Bool} (hf : a = true → f = 3) (hf2 : a = false → f = 0 ∨ f = 1 ∨ f = 5) (hg : b = true → g = 3) (hg2 : b = false → g = 0 ∨ g = 1 ∨ g = 5) :
    Go.bits .and .i64 (Go.bits .xor .i64 f g) 2 = (if a != b then 2 else 0) ∧ Go.bits .or .i64 1 (Go.bits .and .i64 f 2) = if a then 3 else 1 := by
  have h1 : f = 0 ∨ f = 1 ∨ f = 3 ∨ f = 5 := by
    cases a
    · rcases hf2 rfl with h | h | h <;> omega
    · have := hf rfl; omega
  have h2 : g = 0 ∨ g = 1 ∨ g = 3 ∨ g = 5 := by
    cases b
    · rcases hg2 rfl with h | h | h <;> omega
    · have := hg rfl; omega
  have h3 : a = decide (f = 3) := by
    cases a
    · rcases hf2 rfl with h | h | h <;> (subst h; rfl)
    · rw [hf rfl]; rfl
  have h4 : b = decide (g = 3) := by
    cases b
    · rcases hg2 rfl with h | h | h <;> (subst h; rfl)
    · rw [hg rfl]; rfl
  rw [h3, h4]
  clear hf hf2 hg hg2 h3 h4
  rcases h1 with rfl | rfl | rfl | rfl <;> rcases h2 with rfl | rfl | rfl | rfl <;> decide +kernel

set_option maxRecDepth 8000 in
set_option maxHeartbeats 8000000 in
theorem oamong_any (na nb' : Bool) (A B : Option Addr) (n c m d : Nat) (x y : Nat → Nat) (ea eb mode : Int) (w : World) (ha : Sl w A n c x) (hb : Sl w B m d y) (hn : n ≤ 400000) (hm : m ≤ 400000) (hT : Tab w) :
    Calls Tryd.prog 11 #[spv na A n c ea nb' B m d eb, .int .i64 mode] w (EP w (amongV (rightB (plainB na n x ea && plainB nb' m y eb) na nb' (vs B64 x n) (vs B64 y m) ea eb) na nb' (vs B64 x n) (vs B64 y m) ea eb mode)) := by
  have b1 := alloc_bel w (co6 (.bool na) (.slice A n c) (.int .i64 ea) (.bool nb') (.slice B m d) (.int .i64 eb))
  have k1 := K6.made w (.bool na) (.slice A n c) (.int .i64 ea) (.bool nb') (.slice B m d) (.int .i64 eb)
  have CM := Lib.hid (dcmp_any na nb' A B n c m d x y ea eb _ (ha.below b1) (hb.below b1) hn hm)
  have SG := Lib.hid (fun w' (b : Below w.heap.size w w') => sign_span na nb' A B n c m d x y ea eb w' (ha.below b) (hb.below b) hn hm)
  obtain ⟨p, hP⟩ : ∃ p, Hid (amongV (rightB (plainB na n x ea && plainB nb' m y eb) na nb' (vs B64 x n) (vs B64 y m) ea eb) na nb' (vs B64 x n) (vs B64 y m) ea eb mode = p) := ⟨_, Lib.hid rfl⟩
  rw [hP.out]
  obtain ⟨K, hK⟩ : ∃ K : Bool, Hid ((plainB na n x ea && plainB nb' m y eb) = K) := ⟨_, Lib.hid rfl⟩
  rw [hK.out] at CM hP SG
  obtain ⟨R, hR⟩ : ∃ R : Bool, Hid (rightB K na nb' (vs B64 x n) (vs B64 y m) ea eb = R) := ⟨_, Lib.hid rfl⟩
  rw [hR.out] at hP SG
  obtain ⟨o, ho⟩ : ∃ o : Int, Hid (ordD na nb' (vs B64 x n) (vs B64 y m) ea eb = o) := ⟨_, Lib.hid rfl⟩
  unfold cmpD at CM
  rw [ho.out] at CM
  have E1 := Lib.hid (fun w' (b : Below w.heap.size w w') => oexact_any na A n c x ea mode w' (ha.below b) hn (hT.below b))
  have E2 := Lib.hid (fun w' (b : Below w.heap.size w w') => oexact_any nb' B m d y eb mode w' (hb.below b) hm (hT.below b))
  obtain ⟨c0, c1, c2, c3, c4, c5, c6⟩ := k1.cell
  go_enter Tryd.func11, Tryd.ntmps11
  go_wp2_with fail
  refine CM.out.mono ?_
  generalize w.alloc (co6 (.bool na) (.slice A n c) (.int .i64 ea) (.bool nb') (.slice B m d) (.int .i64 eb)) = w1 at *
  rintro e' w2 ⟨rfl, b⟩
  have b2 := below_step b1 b
  replace k1 := k1.adv b
  clear b b1 CM c0 c1 c2 c3 c4 c5 c6
  obtain ⟨c0, c1, c2, c3, c4, c5, c6⟩ := k1.cell
  cases K
  · have hr : R = false := hR.out.symm.trans rfl
    subst hr
    have hw : Hid (p = (0, 0, false)) := Lib.hid (by rw [← hP.out]; rfl)
    rw [show signS false na nb' n = 0 from rfl] at SG
    clear hP hK hR E1 E2
    go_wp2_with fail
    refine (SG.out _ b2).mono ?_
    rintro e' w3 ⟨rfl, b⟩
    have b3 := below_step b2 b
    go_wp2_with fail
    go_ret3
    exact ⟨by rw [hw.out]; rfl, b3⟩
  · have hok := hK.out
    simp only [Bool.and_eq_true] at hok
    obtain ⟨hpa, hpb⟩ := hok
    rw [hpa] at E1
    rw [hpb] at E2
    by_cases h0 : o = 0
    · subst h0
      have hr : R = true := by rw [← hR.out]; unfold rightB; rw [ho.out]; rfl
      subst hr
      have hw : Hid (p = exactV true na (vs B64 x n) ea mode) := Lib.hid (by
        rw [← hP.out]
        unfold amongV
        rw [ho.out]
        by_cases hmo : modeM mode = true
        · rw [hmo, if_pos (by rfl), if_pos rfl]
        · have hmo' : modeM mode = false := by simpa using hmo
          rw [hmo', if_neg (by simp)]
          unfold exactV
          rw [hmo', if_neg (by simp)])
      clear hP hK hR ho hpa hpb SG E2
      generalize exactV true na (vs B64 x n) ea mode = q at *
      go_wp2_with fail
      refine (E1.out _ b2).mono ?_
      rintro e' w3 ⟨rfl, b⟩
      have b3 := below_step b2 b
      go_wp2_with fail
      go_ret3
      exact ⟨by rw [hw.out]; rfl, b3⟩
    · have ho0 : (o == 0) = false := by simpa using h0
      have PA := plain_facts hpa
      have PB := plain_facts hpb
      have hva : plainV na (vs B64 x n) ea = true := by rw [← plain_V PA.cn]; exact hpa
      have hvb : plainV nb' (vs B64 y m) eb = true := by rw [← plain_V PB.cn]; exact hpb
      have hz : n ≠ 0 ∧ na = false ↔ vs B64 x n ≠ 0 ∧ na = false := by have := PA.pos; constructor <;> rintro ⟨h1, h2⟩ <;> exact ⟨by omega, h2⟩
      have NA := Lib.hid (fun w' (b : Below w.heap.size w w') => PA.num (ha.below b))
      have NB := Lib.hid (fun w' (b : Below w.heap.size w w') => PB.num (hb.below b))
      obtain ⟨S, hS⟩ : ∃ S : Int, Hid (signS R na nb' n = S) := ⟨_, Lib.hid rfl⟩
      rw [hS.out] at SG
      by_cases hs0 : S = 0
      · subst hs0
        have hw : Hid (p = (0, 0, false)) := Lib.hid (by
          rw [← hP.out]
          unfold amongV
          cases R
          · rfl
          · have hsg := hS.out
            unfold signS at hsg
            rw [if_pos rfl] at hsg
            simp only [hz] at hsg
            rw [ho.out, if_neg h0, if_pos hsg]
            split <;> rfl)
        clear hP hK hR ho hpa hpb E1 E2 hS hz hva hvb PA PB NA NB h0
        go_wp2_with fail
        refine (SG.out _ b2).mono ?_
        rintro e' w3 ⟨rfl, b⟩
        have b3 := below_step b2 b
        go_wp2_with fail
        go_ret3
        exact ⟨by rw [hw.out]; rfl, b3⟩
      · have hs1 : (S == 0) = false := by simpa using hs0
        have hr : R = true := by
          cases R
          · exact absurd hS.out.symm hs0
          · rfl
        subst hr
        have hsg := hS.out
        unfold signS at hsg
        rw [if_pos rfl] at hsg
        simp only [hz] at hsg
        have hP2 := hP.out
        unfold amongV at hP2
        rw [Bool.true_and, ho.out, if_neg h0, hsg, if_neg hs0] at hP2
        obtain ⟨VA1, VA2, VA3, _⟩ := plainV_b hva
        obtain ⟨VB1, VB2, VB3, _⟩ := plainV_b hvb
        have T1 := Lib.hid (fun w' (b : Below w.heap.size w w') => otinyV na ea w' (NA.out w' b) (by omega) (by omega) (by omega))
        have T2 := Lib.hid (fun w' (b : Below w.heap.size w w') => otinyV nb' eb w' (NB.out w' b) (by omega) (by omega) (by omega))
        rw [← tiny_top hva] at T1
        rw [← tiny_top hvb] at T2
        have HP := Lib.hid hP2
        clear hP hP2 hK hR ho hpa hpb hS hz hva hvb PA PB NA NB h0 hs0 hsg VA1 VA2 VA3 VB1 VB2 VB3
        have EF := fun hmo => ex_flags (neg := na) (V := vs B64 x n) (E := ea) (mode := mode) hmo
        have EG := fun hmo => ex_flags (neg := nb') (V := vs B64 y m) (E := eb) (mode := mode) hmo
        have hto := tiny_over (neg := na) (V := vs B64 x n) (E := ea) (mode := mode)
        have hno : modeM mode = false → exactV true na (vs B64 x n) ea mode = (0, 0, false) := fun h => by unfold exactV; rw [h]; rfl
        generalize exactV true na (vs B64 x n) ea mode = q at *
        generalize exactV true nb' (vs B64 y m) eb mode = r at *
        generalize overF na (vs B64 x n) ea mode = oa at *
        generalize overF nb' (vs B64 y m) eb mode = ob at *
        generalize tinyV (vs B64 x n) ea = ta at *
        generalize tinyV (vs B64 y m) eb = tb at *
        obtain ⟨q0, qf, qk⟩ := q
        obtain ⟨r0, rf, rk⟩ := r
        replace EF := Lib.hid EF
        replace EG := Lib.hid EG
        replace hto := Lib.hid hto
        replace hno := Lib.hid hno
        go_wp2_with fail
        refine (SG.out _ b2).mono ?_
        rintro e' w3 ⟨rfl, b⟩
        have b3 := below_step b2 b
        replace k1 := k1.adv b
        clear b b2 SG c0 c1 c2 c3 c4 c5 c6
        obtain ⟨c0, c1, c2, c3, c4, c5, c6⟩ := k1.cell
        go_wp2_with fail
        refine (E1.out _ b3).mono ?_
        rintro e' w4 ⟨rfl, b⟩
        have b4 := below_step b3 b
        replace k1 := k1.adv b
        clear b b3 E1 c0 c1 c2 c3 c4 c5 c6
        obtain ⟨c0, c1, c2, c3, c4, c5, c6⟩ := k1.cell
        go_wp2_with fail
        refine (E2.out _ b4).mono ?_
        rintro e' w5 ⟨rfl, b⟩
        have b5 := below_step b4 b
        replace k1 := k1.adv b
        clear b b4 E2 c0 c1 c2 c3 c4 c5 c6
        obtain ⟨c0, c1, c2, c3, c4, c5, c6⟩ := k1.cell
        dsimp only
        go_wp2_with fail
        refine (T1.out _ b5).mono ?_
        rintro e' w6 ⟨rfl, b⟩
        have b6 := below_step b5 b
        replace k1 := k1.adv b
        clear b b5 T1 c0 c1 c2 c3 c4 c5 c6
        obtain ⟨c0, c1, c2, c3, c4, c5, c6⟩ := k1.cell
        by_cases hmo : modeM mode = true
        · obtain ⟨hq1, hq2, hq3⟩ := EF.out hmo
          obtain ⟨_, hr2, hr3⟩ := EG.out hmo
          try dsimp only at hq1 hq2 hq3 hr2 hr3
          subst hq1
          have hP3 := HP.out
          rw [if_pos hmo] at hP3
          try dsimp only at hP3
          replace HP := Lib.hid hP3
          obtain ⟨D1, D2⟩ := flags_differ hq2 hq3 hr2 hr3
          have HD1 := Lib.hid D1
          have HD2 := Lib.hid D2
          have hto2 := hto.out
          replace hto := Lib.hid hto2
          clear hP3 hmo EF EG hno D1 D2 hq2 hq3 hr2 hr3 hto2
          by_cases hwd : q0 = r0
          · subst hwd
            have hne : ((q0 : Int) != (q0 : Int)) = false := by simp
            by_cases htt : ta = tb
            · subst htt
              have htx : (ta != ta) = false := by cases ta <;> rfl
              by_cases hoo : oa = ob
              · subst hoo
                have hP4 := HP.out
                rw [if_pos ⟨rfl, rfl, rfl⟩] at hP4
                have hx : Go.bits .and .i64 (Go.bits .xor .i64 qf rf) 2 = 0 := by rw [HD1.out]; cases oa <;> rfl
                have hor := HD2.out
                have hor4 := or_four
                replace HP := Lib.hid hP4
                clear hP4 HD1 HD2
                cases ta
                · cases oa
                  · rw [if_neg (by simp)] at hor
                    have hw : Hid (p = (q0, 1, true)) := Lib.hid HP.out.symm
                    clear HP hto
                    go_wp2_with fail
                    refine (T2.out _ b6).mono ?_
                    rintro e' w7 ⟨rfl, b⟩
                    have b7 := below_step b6 b
                    go_wp2_with fail
                    go_ret3
                    exact ⟨by rw [hw.out]; rfl, b7⟩
                  · rw [if_pos rfl] at hor
                    have hw : Hid (p = (q0, 3, true)) := Lib.hid HP.out.symm
                    clear HP hto
                    go_wp2_with fail
                    refine (T2.out _ b6).mono ?_
                    rintro e' w7 ⟨rfl, b⟩
                    have b7 := below_step b6 b
                    go_wp2_with fail
                    go_ret3
                    exact ⟨by rw [hw.out]; rfl, b7⟩
                · have : oa = false := hto.out rfl
                  subst this
                  rw [if_neg (by simp)] at hor
                  have hw : Hid (p = (q0, 5, true)) := Lib.hid HP.out.symm
                  clear HP hto
                  go_wp2_with fail
                  refine (T2.out _ b6).mono ?_
                  rintro e' w7 ⟨rfl, b⟩
                  have b7 := below_step b6 b
                  go_wp2_with fail
                  go_ret3
                  exact ⟨by rw [hw.out]; rfl, b7⟩
              · have hP4 := HP.out
                rw [if_neg (fun h => hoo h.2.2)] at hP4
                have hw : Hid (p = (0, 0, false)) := Lib.hid hP4.symm
                have hx : Go.bits .and .i64 (Go.bits .xor .i64 qf rf) 2 = 2 := by rw [HD1.out]; cases oa <;> cases ob <;> first | rfl | exact absurd rfl hoo
                clear hP4 HP HD1 HD2 hto hoo
                go_wp2_with fail
                refine (T2.out _ b6).mono ?_
                rintro e' w7 ⟨rfl, b⟩
                have b7 := below_step b6 b
                go_wp2_with fail
                go_ret3
                exact ⟨by rw [hw.out]; rfl, b7⟩
            · have htx : (ta = true ∧ tb = false) ∨ (ta = false ∧ tb = true) := by cases ta <;> cases tb <;> first | exact .inl ⟨rfl, rfl⟩ | exact .inr ⟨rfl, rfl⟩ | exact absurd rfl htt
              have hP4 := HP.out
              rw [if_neg (fun h => htt h.2.1)] at hP4
              have hw : Hid (p = (0, 0, false)) := Lib.hid hP4.symm
              clear hP4 HP HD1 HD2 hto htt
              rcases htx with ⟨rfl, rfl⟩ | ⟨rfl, rfl⟩
              · go_wp2_with fail
                refine (T2.out _ b6).mono ?_
                rintro e' w7 ⟨rfl, b⟩
                have b7 := below_step b6 b
                go_wp2_with fail
                go_ret3
                exact ⟨by rw [hw.out]; rfl, b7⟩
              · go_wp2_with fail
                refine (T2.out _ b6).mono ?_
                rintro e' w7 ⟨rfl, b⟩
                have b7 := below_step b6 b
                go_wp2_with fail
                go_ret3
                exact ⟨by rw [hw.out]; rfl, b7⟩
          · have hne : ((q0 : Int) != (r0 : Int)) = true := by simp; omega
            have hP4 := HP.out
            rw [if_neg (fun h => hwd h.1)] at hP4
            have hw : Hid (p = (0, 0, false)) := Lib.hid hP4.symm
            clear hP4 HP HD1 HD2 hto T2
            go_wp2_with fail
            go_ret3
            exact ⟨by rw [hw.out]; rfl, b6⟩
        · have hmo' : modeM mode = false := by simpa using hmo
          have hw : Hid (p = (0, 0, false)) := Lib.hid (by rw [← HP.out, hmo']; rfl)
          have hq := hno.out hmo'
          cases hq
          clear hmo hmo' HP EF EG hto hno T2
          go_wp2_with fail
          go_ret3
          exact ⟨by rw [hw.out]; rfl, b6⟩
end Go.Proofs.YtilmbdbcgbndmaaDoor
