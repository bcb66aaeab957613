/-
  volvelleref04.Top, volvelleref10: grid, Tiny; numbers in memory.
  volvelleref10.choose: a number on a grid, rounded.
  volvelleref10: Over and Exact.
  volvelleref10: Among and Ends.
-/
import Derived.Test.YtilmbdbcgbndmaaDoorPlOGDy8
import Derived.Test.YtilmbdbcgbndmaaDoorPlOGDy9
import Derived.Test.YtilmbdbcgbndmaaDoorPlOGDy11
import Derived.Test.YtilmbdbcgbndmaaDoorPlOGBN
import Derived.Test.YtilmbdbcgbndmaaDoorPlOGON
import Derived.Test.YtilmbdbcgbndmaaDoorPlOGSp2
namespace Go.Proofs.YtilmbdbcgbndmaaDoor
open Go.RowKit

/-- What is known of a plain dyad, by its number. -/
theorem plainV_b {neg : Bool} {V : Nat} {E : Int} (h : plainV neg V E = true) : nb V ≤ 16384 ∧ -262144 ≤ E ∧ E ≤ 262144 ∧ (V ≠ 0 → V % 2 = 1) := by
  unfold plainV at h
  by_cases h0 : V = 0
  · rw [if_pos h0] at h
    simp only [Bool.and_eq_true, decide_eq_true_eq] at h
    subst h0
    rw [nb_zero]
    exact ⟨by omega, by omega, by omega, fun h => absurd rfl h⟩
  · rw [if_neg h0] at h
    simp only [Bool.and_eq_true, decide_eq_true_eq] at h
    obtain ⟨⟨h1, h2⟩, h3⟩ := h
    rw [MB_eq] at h2
    exact ⟨h2, h3.1, h3.2, fun _ => h1⟩
/-- A number's length tells whether it is 0. -/
theorem Num.len0 {w : World} {A : Option Addr} {n c V : Nat} (h : Num w (.slice A n c) V) : n = 0 ↔ V = 0 := by
  obtain ⟨_, _, _, f, hh, _, hc, rfl⟩ := h
  cases hh
  constructor
  · intro h; subst h; exact vs_zero _ _
  · intro h; exact cn_zero hc h

set_option maxHeartbeats 1000000 in
theorem rtopV {A : Option Addr} {n c V : Nat} (neg : Bool) (E : Int) (w : World) (h : Num w (.slice A n c) V) (hV : nb V ≤ 100000) (h1 : -1000000 ≤ E) (h2 : E ≤ 1000000) :
    Calls Tryd.prog 50 #[.agg #[.bool neg, .slice A n c, .int .i64 E]] w (IP w (topV V E)) := by
  have b1 := alloc_bel w (cd3 (.bool neg) (.slice A n c) (.int .i64 E))
  have k1 := K3.made w (.bool neg) (.slice A n c) (.int .i64 E)
  have n1 := h.below b1
  have BT := Lib.hid (fun w' (n : Num w' (.slice A n c) V) => rbitsN w' n (by omega))
  have hw : IntKind.i64.wrap ((nb V : Int) + E) = topV V E := wrap_id (by omega) (by omega)
  have HW := Lib.hid hw
  clear hw
  go_enter Tryd.func50, Tryd.ntmps50
  go_upto_region 1 with fail
  generalize w.alloc (cd3 (.bool neg) (.slice A n c) (.int .i64 E)) = w1 at *
  obtain ⟨c0, c1, c2, c3⟩ := k1.cell
  go_region_held3 (fun w' => w'.cell? ⟨w.heap.size, 1, none⟩ = some (.slice A n c) ∧ w'.cell? ⟨w.heap.size, 2, none⟩ = some (.int .i64 E))
    (first | exact ⟨c1, c2⟩ | exact ⟨(bb.cell c3).trans c1, (bb.cell c3).trans c2⟩)
    (first | (go_at_call 49; refine (BT.out _ (by first | exact n1 | exact n1.below (Below.refl _ w1).drew)).mono ?_; rintro e' w2 ⟨rfl, b⟩; have bb := (Below.refl _ w1).drew.trans (b.mono (Nat.le_refl _))) | fail)
  rw [HW.out]
  go_wp2_with fail
  go_ret
  exact ⟨rfl, b1.trans (bb.mono b1.size)⟩
set_option maxHeartbeats 1000000 in
theorem rgridV {A : Option Addr} {n c V : Nat} (neg bound : Bool) (E : Int) (w : World) (h : Num w (.slice A n c) V) (hV : nb V ≤ 100000) (h1 : -1000000 ≤ E) (h2 : E ≤ 1000000) :
    Calls Tryd.prog 27 #[.agg #[.bool neg, .slice A n c, .int .i64 E], .bool bound] w (IP w (if bound then unitE V E else topV V E - 53)) := by
  have b1 := alloc_bel w (cd3 (.bool neg) (.slice A n c) (.int .i64 E))
  have k1 := K3.made w (.bool neg) (.slice A n c) (.int .i64 E)
  have n1 := h.below b1
  have TP := Lib.hid (rtopV neg E _ n1 hV h1 h2)
  have ht : -2000000 ≤ topV V E ∧ topV V E ≤ 2000000 := by unfold topV; omega
  have hu : Hid (max (topV V E - 53) (-1074) = unitE V E) := Lib.hid (by unfold topV unitE; omega)
  obtain ⟨c0, c1, c2, c3⟩ := k1.cell
  obtain ⟨z, hz⟩ : ∃ z, Hid ((if bound then unitE V E else topV V E - 53) = z) := ⟨_, Lib.hid rfl⟩
  rw [hz.out]
  generalize topV V E = t at *
  generalize unitE V E = u at *
  go_enter Tryd.func27, Tryd.ntmps27
  go_wp2_with fail
  refine TP.out.mono ?_
  rintro e' w2 ⟨rfl, b⟩
  have b2 := below_step b1 b
  clear TP n1 k1 b c0 c1 c2 c3
  cases bound
  · have hz' : Hid (z = t - 53) := Lib.hid (by rw [← hz.out]; rfl)
    go_wp2_with fail
    go_ret
    exact ⟨by rw [hz'.out]; rfl, b2⟩
  · have hz' : Hid (z = max (t - 53) (-1074)) := Lib.hid (by rw [← hz.out, hu.out]; rfl)
    go_wp2_with fail
    go_ret
    exact ⟨by rw [hz'.out]; rfl, b2⟩
set_option maxHeartbeats 1000000 in
theorem rtinyV {A : Option Addr} {n c V : Nat} (neg : Bool) (E : Int) (w : World) (h : Num w (.slice A n c) V) (hV : nb V ≤ 100000) (h1 : -1000000 ≤ E) (h2 : E ≤ 1000000) :
    Calls Tryd.prog 32 #[.agg #[.bool neg, .slice A n c, .int .i64 E]] w (BoolPost w (tinyV V E)) := by
  have b1 := alloc_bel w (cd3 (.bool neg) (.slice A n c) (.int .i64 E))
  have k1 := K3.made w (.bool neg) (.slice A n c) (.int .i64 E)
  have n1 := h.below b1
  have TP := Lib.hid (rtopV neg E _ n1 hV h1 h2)
  have hl := h.len0
  obtain ⟨c0, c1, c2, c3⟩ := k1.cell
  by_cases h0 : V = 0
  · have hn : n = 0 := hl.2 h0
    have ht : tinyV V E = false := by unfold tinyV; simp [h0]
    rw [ht]
    subst hn
    go_enter Tryd.func32, Tryd.ntmps32
    go_wp2_with fail
    go_ret
    exact ⟨rfl, b1⟩
  · have hn : n ≠ 0 := fun h => h0 (hl.1 h)
    have hn2 : decide ((0 : Int) < (n : Int)) = true := decide_eq_true (by omega)
    have ht : tinyV V E = decide (topV V E ≤ -1022) := by unfold tinyV; simp [h0]
    rw [ht]
    clear ht hl h0
    generalize topV V E = t at *
    go_enter Tryd.func32, Tryd.ntmps32
    go_wp2_with fail
    refine TP.out.mono ?_
    rintro e' w2 ⟨rfl, b⟩
    have b2 := below_step b1 b
    clear TP n1 k1 b c0 c1 c2 c3
    go_wp2_with fail
    go_ret
    exact ⟨rfl, b2⟩
end Go.Proofs.YtilmbdbcgbndmaaDoor

namespace Go.Proofs.YtilmbdbcgbndmaaDoor
open Go.RowKit

theorem mode_cases {mode : Int} (h : modeM mode = true) : mode = 0 ∨ mode = 1 ∨ mode = 2 ∨ mode = 3 ∨ mode = 4 := by
  unfold modeM at h
  simp only [Bool.and_eq_true, decide_eq_true_eq] at h
  omega
/-- A number's lowest word tells whether it is odd. -/
theorem Num.low {w : World} {A : Option Addr} {n c V : Nat} (h : Num w (.slice A n c) V) (h0 : V ≠ 0) : ∃ ad x0, A = some ad ∧ 0 < n ∧ x0 < B64 ∧ w.cell? ad = some (.int .u64 ((x0 : Nat) : Int)) ∧ x0 % 2 = V % 2 ∧ ad.block < w.heap.size := by
  have hn : n ≠ 0 := fun hn => h0 (h.len0.1 hn)
  obtain ⟨_, _, _, f, hh, hs, hc, rfl⟩ := h
  cases hh
  obtain ⟨ad, rfl, hb, hx, hcell⟩ := hs.at_ (k := 0) (by omega)
  rw [show ad.add 0 = ad from by simp [Addr.add]] at hcell
  obtain ⟨m, rfl⟩ : ∃ m, n = m + 1 := ⟨n - 1, by omega⟩
  refine ⟨ad, f 0, rfl, by omega, hx, hcell, ?_, hb⟩
  rw [vs_cons, B64_pow, show (2 : Nat) ^ 64 = 2 * 2 ^ 63 by decide, Nat.mul_assoc, Nat.add_mul_mod_self_left]
theorem nb_pow (k : Nat) : nb (2 ^ k) = k + 1 := nb_of (Nat.pow_lt_pow_right (by omega) (Nat.lt_succ_self k)) (Nat.le_refl _)

set_option maxRecDepth 8000 in
set_option maxHeartbeats 4000000 in
theorem rchooseV {A : Option Addr} {n c V : Nat} (neg : Bool) (E e mode : Int) (w : World) (h : Num w (.slice A n c) V) (hV : nb V ≤ 16384) (hE1 : -262144 ≤ E) (hE2 : E ≤ 262144) (he1 : -300000 ≤ e) (he2 : e ≤ 300000) (hm : modeM mode = true) :
    Calls Tryd.prog 28 #[.agg #[.bool neg, .slice A n c, .int .i64 E], .int .i64 e, .int .i64 mode] w (NP w (chooseV neg V E e mode)) := by
  have b1 := alloc_bel w (cd3 (.bool neg) (.slice A n c) (.int .i64 E))
  have k1 := K3.made w (.bool neg) (.slice A n c) (.int .i64 E)
  have n1 := h.below b1
  clear h
  obtain ⟨r, hr⟩ : ∃ r, Hid (chooseV neg V E e mode = r) := ⟨_, Lib.hid rfl⟩
  rw [hr.out]
  have hr' := hr.out
  unfold chooseV at hr'
  obtain ⟨c0, c1, c2, c3⟩ := k1.cell
  by_cases hle : e ≤ E
  · rw [if_pos hle] at hr'
    have HR := Lib.hid hr'
    have hd : decide (e ≤ E) = true := decide_eq_true hle
    have SH := Lib.hid (rshlN (s := (E - e).toNat) _ n1 (by omega) (by omega))
    rw [show ((E - e).toNat : Int) = E - e by omega, HR.out] at SH
    clear hr' HR hr
    go_enter Tryd.func28, Tryd.ntmps28
    go_wp2_with fail
    refine SH.out.mono ?_
    rintro e' w2 ⟨A2, p2, c2', rfl, n2, b⟩
    go_wp2_with fail
    go_ret
    exact ⟨A2, p2, c2', rfl, n2, below_step b1 b⟩
  · rw [if_neg hle] at hr'
    have hd : decide (e ≤ E) = false := decide_eq_false hle
    obtain ⟨k, hk⟩ : ∃ k : Nat, e - E = (k : Int) := ⟨(e - E).toNat, by omega⟩
    have hk1 : 1 ≤ k ∧ k ≤ 562144 := by omega
    rw [hk, Int.toNat_natCast] at hr'
    have HR := Lib.hid hr'
    clear hr' hr
    have hmin : min (k : Int) 1048576 = (k : Int) := by omega
    have hk2 : (k : Int) - 1 = ((k - 1 : Nat) : Int) := by omega
    have hq0 : nb (V / 2 ^ k) ≤ 16384 := by rw [nb_div_pow]; omega
    have hqk : V / 2 ^ k * 2 ^ k ≤ V := Nat.div_mul_le_self _ _
    have hqb : nb (V / 2 ^ k * 2 ^ k) ≤ 16384 := Nat.le_trans (nb_mono hqk) hV
    have hlb : nb (V - V / 2 ^ k * 2 ^ k) ≤ 16384 := Nat.le_trans (nb_mono (Nat.sub_le _ _)) hV
    have hh1 : nb (1 * 2 ^ (k - 1)) ≤ 600000 := by rw [Nat.one_mul, nb_pow]; omega
    have SR := Lib.hid (rshrN (s := k) _ n1 (by omega) (by omega))
    have SL := Lib.hid (fun w' v (n : Num w' v (V / 2 ^ k)) => rshlN (s := k) w' n (by omega) (by omega))
    have SB := Lib.hid (fun w' v u (n : Num w' v V) (n' : Num w' u (V / 2 ^ k * 2 ^ k)) => rsubN w' n n' (by omega) (by omega) hqk)
    have S1 := Lib.hid (fun w' v (n : Num w' v 1) => rshlN (s := k - 1) w' n (by rw [nb1]; omega) (by omega))
    have CM := Lib.hid (fun w' v u (n : Num w' v (V - V / 2 ^ k * 2 ^ k)) (n' : Num w' u (1 * 2 ^ (k - 1))) => rcmpNN w' n n' (by omega) (by omega))
    have AD := Lib.hid (fun w' v u (n : Num w' v (V / 2 ^ k)) (n' : Num w' u 1) => raddN w' n n' (by omega) (by rw [nb1]; omega))
    have hhalf : Hid (cmpN (V - V / 2 ^ k * 2 ^ k) (1 * 2 ^ (k - 1)) = halfV V k) := Lib.hid (by unfold halfV; rw [Nat.one_mul])
    rw [hhalf.out] at CM
    clear hq0 hqk hqb hlb hh1 hV
    generalize halfV V k = hf at *
    go_enter Tryd.func28, Tryd.ntmps28
    go_wp2_with fail
    refine SR.out.mono ?_
    generalize w.alloc (cd3 (.bool neg) (.slice A n c) (.int .i64 E)) = w1 at *
    rintro e' w2 ⟨A2, p2, q2, rfl, n2, b⟩
    have b2 := below_step b1 b
    replace n1 := n1.below b
    replace k1 := k1.adv b
    clear SR b b1 c0 c1 c2 c3
    obtain ⟨c0, c1, c2, c3⟩ := k1.cell
    go_upto_region 5 with fail
    have BD := (Below.refl w2.heap.size w2).drew
    have ND := n2.below BD
    go_region_held3 (fun w' => w'.cell? ⟨w.heap.size, 1, none⟩ = some (.slice A n c))
      (first | exact c1 | exact (b3.cell c3).trans c1 | exact (b4.cell c3).trans c1)
      (first
        | (go_at_call 51; refine (SL.out _ _ ND).mono ?_; rintro e' w3 ⟨A3, p3, q3, rfl, n3, b⟩; have b3 := BD.trans (b.mono (Nat.le_refl _)))
        | (go_at_call 53; refine (SB.out _ _ _ (n1.below b3) n3).mono ?_; rintro e' w4 ⟨A4, p4, q4, rfl, n4, b⟩; have b4 := b3.trans (b.mono b3.size))
        | fail)
    have b5 := below_step b2 b4
    replace k1 := k1.adv b4
    replace n2 := n2.below b4
    clear SL SB BD ND b2 b3 b4 n1 n3 c0 c1 c2 c3
    have bb := alloc_bel w4 (cw 1)
    have n5 := num_one (slw w4 1 _ (by unfold B64; omega) rfl) (by omega)
    replace n2 := n2.below bb
    replace n4 := n4.below bb
    replace k1 := k1.adv bb
    replace b5 := below_step b5 bb
    clear bb
    go_wp2_with fail
    generalize w4.alloc (cw 1) = w5 at *
    refine (S1.out _ _ n5).mono ?_
    rintro e' w6 ⟨A6, p6, q6, rfl, n6, b⟩
    replace n2 := n2.below b
    replace n4 := n4.below b
    replace k1 := k1.adv b
    have b6 := below_step b5 b
    clear S1 n5 b b5
    go_wp2_with fail
    refine (CM.out _ _ _ n4 n6).mono ?_
    rintro e' w7 ⟨rfl, b⟩
    replace n2 := n2.below b
    replace k1 := k1.adv b
    have b7 := below_step b6 b
    clear CM n4 n6 b b6
    obtain ⟨c0, c1, c2, c3⟩ := k1.cell
    rcases mode_cases hm with rfl | rfl | rfl | rfl | rfl
    · by_cases hp : 0 < hf
      · have hd2 : decide (0 < hf) = true := decide_eq_true hp
        have hr : Hid (V / 2 ^ k + 1 = r) := Lib.hid (by rw [← HR.out, show upM neg 0 hf (V / 2 ^ k) = true by unfold upM; simp [hp]]; rfl)
        have bb := alloc_bel w7 (cw 1)
        have n8 := num_one (slw w7 1 _ (by unfold B64; omega) rfl) (by omega)
        have n2' := n2.below bb
        have b8 := below_step b7 bb
        clear HR
        go_wp2_with fail
        refine (AD.out _ _ _ n2' n8).mono ?_
        rintro e' w9 ⟨A9, p9, q9, rfl, n9, b⟩
        go_wp2_with fail
        go_ret
        exact ⟨A9, p9, q9, rfl, by rw [← hr.out]; exact n9, below_step b8 b⟩
      · have hd2 : decide (0 < hf) = false := decide_eq_false hp
        by_cases hz : hf = 0
        · by_cases hq : V / 2 ^ k = 0
          · obtain rfl : p2 = 0 := n2.len0.2 hq
            subst hz
            have hr : Hid (V / 2 ^ k = r) := Lib.hid (by rw [← HR.out, show upM neg 0 0 (V / 2 ^ k) = false by rw [hq]; rfl]; rfl)
            clear HR
            go_wp2_with fail
            go_ret
            exact ⟨_, _, _, rfl, by rw [← hr.out]; exact n2, b7⟩
          · obtain ⟨ad, x0, rfl, hp2, hx0, hcx, hpar, hadb⟩ := n2.low hq
            subst hz
            have hp3 : decide ((0 : Int) < (p2 : Int)) = true := decide_eq_true (by omega)
            have hrem := rem_two x0
            rcases Nat.mod_two_eq_zero_or_one x0 with h2 | h2
            · rw [h2] at hrem
              have hr : Hid (V / 2 ^ k = r) := Lib.hid (by rw [← HR.out, show upM neg 0 0 (V / 2 ^ k) = false by unfold upM; rw [← hpar, h2]; rfl]; rfl)
              clear HR
              go_wp2_with fail
              go_ret
              exact ⟨_, _, _, rfl, by rw [← hr.out]; exact n2, b7⟩
            · rw [h2] at hrem
              have hr : Hid (V / 2 ^ k + 1 = r) := Lib.hid (by rw [← HR.out, show upM neg 0 0 (V / 2 ^ k) = true by unfold upM; rw [← hpar, h2]; rfl]; rfl)
              have bb := alloc_bel w7 (cw 1)
              have n8 := num_one (slw w7 1 _ (by unfold B64; omega) rfl) (by omega)
              have n2' := n2.below bb
              have b8 := below_step b7 bb
              clear HR
              go_wp2_with fail
              refine (AD.out _ _ _ n2' n8).mono ?_
              rintro e' w9 ⟨A9, p9, q9, rfl, n9, b⟩
              go_wp2_with fail
              go_ret
              exact ⟨A9, p9, q9, rfl, by rw [← hr.out]; exact n9, below_step b8 b⟩
        · have hz2 : (hf == 0) = false := by simpa using hz
          have hr : Hid (V / 2 ^ k = r) := Lib.hid (by rw [← HR.out, show upM neg 0 hf (V / 2 ^ k) = false by unfold upM; simp [hp, hz]]; rfl)
          clear HR
          go_wp2_with fail
          go_ret
          exact ⟨_, _, _, rfl, by rw [← hr.out]; exact n2, b7⟩
    · have hr : Hid (V / 2 ^ k = r) := Lib.hid (by rw [← HR.out, show upM neg 1 hf (V / 2 ^ k) = false by rfl]; rfl)
      clear HR
      go_wp2_with fail
      go_ret
      exact ⟨_, _, _, rfl, by rw [← hr.out]; exact n2, b7⟩
    · cases neg
      · have hr : Hid (V / 2 ^ k + 1 = r) := Lib.hid (by rw [← HR.out, show upM false 2 hf (V / 2 ^ k) = true by rfl]; rfl)
        have bb := alloc_bel w7 (cw 1)
        have n8 := num_one (slw w7 1 _ (by unfold B64; omega) rfl) (by omega)
        have n2' := n2.below bb
        have b8 := below_step b7 bb
        clear HR
        go_wp2_with fail
        refine (AD.out _ _ _ n2' n8).mono ?_
        rintro e' w9 ⟨A9, p9, q9, rfl, n9, b⟩
        go_wp2_with fail
        go_ret
        exact ⟨A9, p9, q9, rfl, by rw [← hr.out]; exact n9, below_step b8 b⟩
      · have hr : Hid (V / 2 ^ k = r) := Lib.hid (by rw [← HR.out, show upM true 2 hf (V / 2 ^ k) = false by rfl]; rfl)
        clear HR
        go_wp2_with fail
        go_ret
        exact ⟨_, _, _, rfl, by rw [← hr.out]; exact n2, b7⟩
    · cases neg
      · have hr : Hid (V / 2 ^ k = r) := Lib.hid (by rw [← HR.out, show upM false 3 hf (V / 2 ^ k) = false by rfl]; rfl)
        clear HR
        go_wp2_with fail
        go_ret
        exact ⟨_, _, _, rfl, by rw [← hr.out]; exact n2, b7⟩
      · have hr : Hid (V / 2 ^ k + 1 = r) := Lib.hid (by rw [← HR.out, show upM true 3 hf (V / 2 ^ k) = true by rfl]; rfl)
        have bb := alloc_bel w7 (cw 1)
        have n8 := num_one (slw w7 1 _ (by unfold B64; omega) rfl) (by omega)
        have n2' := n2.below bb
        have b8 := below_step b7 bb
        clear HR
        go_wp2_with fail
        refine (AD.out _ _ _ n2' n8).mono ?_
        rintro e' w9 ⟨A9, p9, q9, rfl, n9, b⟩
        go_wp2_with fail
        go_ret
        exact ⟨A9, p9, q9, rfl, by rw [← hr.out]; exact n9, below_step b8 b⟩
    · by_cases hp : 0 ≤ hf
      · have hd2 : decide (0 ≤ hf) = true := decide_eq_true hp
        have hr : Hid (V / 2 ^ k + 1 = r) := Lib.hid (by rw [← HR.out, show upM neg 4 hf (V / 2 ^ k) = true by unfold upM; simp [hp]]; rfl)
        have bb := alloc_bel w7 (cw 1)
        have n8 := num_one (slw w7 1 _ (by unfold B64; omega) rfl) (by omega)
        have n2' := n2.below bb
        have b8 := below_step b7 bb
        clear HR
        go_wp2_with fail
        refine (AD.out _ _ _ n2' n8).mono ?_
        rintro e' w9 ⟨A9, p9, q9, rfl, n9, b⟩
        go_wp2_with fail
        go_ret
        exact ⟨A9, p9, q9, rfl, by rw [← hr.out]; exact n9, below_step b8 b⟩
      · have hd2 : decide (0 ≤ hf) = false := decide_eq_false hp
        have hr : Hid (V / 2 ^ k = r) := Lib.hid (by rw [← HR.out, show upM neg 4 hf (V / 2 ^ k) = false by unfold upM; simp [hp]]; rfl)
        clear HR
        go_wp2_with fail
        go_ret
        exact ⟨_, _, _, rfl, by rw [← hr.out]; exact n2, b7⟩
end Go.Proofs.YtilmbdbcgbndmaaDoor

namespace Go.Proofs.YtilmbdbcgbndmaaDoor
open Go.RowKit

/-- A word, flags, and whether there are any. -/
def EP (w : World) (p : Nat × Int × Bool) (e : Ending) (w' : World) : Prop := e = .returned (.tuple #[.int .u64 (p.1 : Int), .int .i64 p.2.1, .bool p.2.2]) ∧ Below w.heap.size w w'
theorem nb_of_words' {V K : Nat} (h : V < B64 ^ K) : nb V ≤ 64 * K := by
  rw [B64_pow, ← Nat.pow_mul] at h
  exact (nb_le_iff _ _).2 h
theorem rwordNum {A : Option Addr} {p c V : Nat} (neg : Bool) (e : Int) (w : World) (h : Num w (.slice A p c) V) (hV : V < B64 ^ 256) :
    Calls Tryd.prog 30 #[.agg #[.bool neg, .slice A p c, .int .i64 e]] w (WP w (wordP (plainV neg V e) neg V e)) := by
  obtain ⟨_, _, _, f, hh, hs, hn, hc, rfl⟩ := h.raw 256 (nb_of_words' hV)
  cases hh
  have := rword_any neg _ _ _ f e w hs (by omega)
  rw [plain_V hc] at this
  exact this
theorem rcmpNum {A B : Option Addr} {n c m d V U : Nat} (na nb' : Bool) (ea eb : Int) (w : World) (h : Num w (.slice A n c) V) (h' : Num w (.slice B m d) U) (hV : V < B64 ^ 256) (hU : U < B64 ^ 256) (hp : plainV na V ea = true) (hq : plainV nb' U eb = true) :
    Calls Tryd.prog 31 #[.agg #[.bool na, .slice A n c, .int .i64 ea], .agg #[.bool nb', .slice B m d, .int .i64 eb]] w (CmpP w (ordD na nb' V U ea eb) true) := by
  obtain ⟨_, _, _, f, hh, hs, hn, hc, rfl⟩ := h.raw 256 (nb_of_words' hV)
  cases hh
  obtain ⟨_, _, _, g, hh, hs', hm, hc', rfl⟩ := h'.raw 256 (nb_of_words' hU)
  cases hh
  have := rcmpD_any na nb' _ _ _ _ _ _ f g ea eb w hs hs' (by omega) (by omega)
  rw [plain_V hc, plain_V hc', hp, hq] at this
  exact this
theorem choose_nb {neg : Bool} {V : Nat} {E mode : Int} (h0 : V ≠ 0) : nb (chooseV neg V E (topV V E - 53) mode) ≤ 54 ∧ nb (chooseV neg V E (unitE V E) mode) ≤ 54 := by
  have h53 : nb (unitsV V E (topV V E - 53)) = 53 := by
    have := units_nb (E := E) (e := topV V E - 53) h0
    unfold topV at *
    omega
  have h2 := nb_succ_le (unitsV V E (topV V E - 53))
  refine ⟨?_, (nb_le_iff _ 54).2 (Nat.lt_of_le_of_lt (choose_range (neg := neg) (E := E) (mode := mode) h0).1 (by decide +kernel))⟩
  rcases choose_units neg V E (topV V E - 53) mode with h | ⟨_, h⟩
  · rw [h]; omega
  · rw [h]; omega

set_option maxHeartbeats 2000000 in
theorem roverV {A : Option Addr} {n c V : Nat} (neg : Bool) (E mode : Int) (w : World) (h : Num w (.slice A n c) V) (hp : plainV neg V E = true) (hm : modeM mode = true) :
    Calls Tryd.prog 26 #[.agg #[.bool neg, .slice A n c, .int .i64 E], .int .i64 mode] w (BoolPost w (overF neg V E mode)) := by
  obtain ⟨hV, hE1, hE2, _⟩ := plainV_b hp
  have b1 := alloc_bel w (cd3 (.bool neg) (.slice A n c) (.int .i64 E))
  have k1 := K3.made w (.bool neg) (.slice A n c) (.int .i64 E)
  have n1 := h.below b1
  have hl := h.len0
  obtain ⟨c0, c1, c2, c3⟩ := k1.cell
  by_cases h0 : V = 0
  · have hn : n = 0 := hl.2 h0
    have ht : overF neg V E mode = false := by unfold overF; simp [h0]
    rw [ht]
    subst hn
    go_enter Tryd.func26, Tryd.ntmps26
    go_wp2_with fail
    go_ret
    exact ⟨rfl, b1⟩
  · have hn : n ≠ 0 := fun h => h0 (hl.1 h)
    have hn2 : ((n : Int) == 0) = false := by simp; omega
    have htop : -400000 ≤ topV V E ∧ topV V E ≤ 290000 := by unfold topV; omega
    have GR := Lib.hid (rgridV neg false E _ n1 (by omega) (by omega) (by omega))
    have CH := Lib.hid (fun w' (n : Num w' (.slice A n c) V) (he : -300000 ≤ topV V E - 53) => rchooseV neg E (topV V E - 53) mode w' n hV hE1 hE2 he (by omega) hm)
    have hlow : -300000 ≤ topV V E - 53 := by unfold topV; omega
    have BT := Lib.hid (fun w' v (n : Num w' v (chooseV neg V E (topV V E - 53) mode)) => rbitsN w' n (by have := (choose_nb (neg := neg) (E := E) (mode := mode) h0).1; omega))
    have hq := (choose_nb (neg := neg) (E := E) (mode := mode) h0).1
    have ht : overF neg V E mode = decide (1024 < (nb (chooseV neg V E (topV V E - 53) mode) : Int) + (topV V E - 53)) := by
      unfold overF
      rw [show decide (V ≠ 0) = true by simp [h0], Bool.true_and, decide_eq_decide]
      exact (over_l h0).symm
    rw [ht]
    rw [show (if false = true then unitE V E else topV V E - 53) = topV V E - 53 from rfl] at GR
    clear ht hl h0
    generalize chooseV neg V E (topV V E - 53) mode = q at *
    generalize topV V E = t at *
    go_enter Tryd.func26, Tryd.ntmps26
    go_wp2_with fail
    refine GR.out.mono ?_
    generalize w.alloc (cd3 (.bool neg) (.slice A n c) (.int .i64 E)) = w1 at *
    rintro e' w2 ⟨rfl, b⟩
    have b2 := below_step b1 b
    replace n1 := n1.below b
    replace k1 := k1.adv b
    clear GR b b1 c0 c1 c2 c3
    obtain ⟨c0, c1, c2, c3⟩ := k1.cell
    go_wp2_with fail
    refine (CH.out _ n1 hlow).mono ?_
    rintro e' w3 ⟨A3, p3, q3, rfl, n3, b⟩
    have b3 := below_step b2 b
    clear CH b b2 c0 c1 c2 c3 k1 n1
    go_wp2_with fail
    refine (BT.out _ _ n3).mono ?_
    rintro e' w4 ⟨rfl, b⟩
    have b4 := below_step b3 b
    clear BT b
    go_wp2_with fail
    go_ret
    exact ⟨rfl, b4⟩

set_option maxRecDepth 8000 in
set_option maxHeartbeats 8000000 in
theorem rexact_any (neg : Bool) (A : Option Addr) (n c : Nat) (x : Nat → Nat) (E mode : Int) (w : World) (ha : Sl w A n c x) (hn : n ≤ 400000) (hT : Tab w) :
    Calls Tryd.prog 10 #[dyv neg A n c E, .int .i64 mode] w (EP w (exactV (plainB neg n x E) neg (vs B64 x n) E mode)) := by
  obtain ⟨p, hP⟩ : ∃ p, Hid (exactV (plainB neg n x E) neg (vs B64 x n) E mode = p) := ⟨_, Lib.hid rfl⟩
  rw [hP.out]
  have b1 := alloc_bel w (cd3 (.bool neg) (.slice A n c) (.int .i64 E))
  have k1 := K3.made w (.bool neg) (.slice A n c) (.int .i64 E)
  have PL := Lib.hid (rplain_any neg A n c x E _ (ha.below b1) hn)
  go_enter Tryd.func10, Tryd.ntmps10
  go_wp2_with fail
  refine PL.out.mono ?_
  generalize w.alloc (cd3 (.bool neg) (.slice A n c) (.int .i64 E)) = w1 at *
  rintro e' w2 ⟨rfl, b⟩
  have b2 := below_step b1 b
  replace k1 := k1.adv b
  have a2 := ha.below b2
  clear b PL b1
  obtain ⟨c0, c1, c2, c3⟩ := k1.cell
  by_cases hp : plainB neg n x E = true
  · rw [hp] at hP ⊢
    by_cases hm : modeM mode = true
    · have hm2 := hm
      unfold modeM at hm2
      simp only [Bool.and_eq_true, decide_eq_true_eq] at hm2
      have hd1 : decide (mode < 0) = false := decide_eq_false (by omega)
      have hd2 : decide (4 < mode) = false := decide_eq_false (by omega)
      have PF := plain_facts hp
      have NA := PF.num a2
      have hpv : plainV neg (vs B64 x n) E = true := by rw [← plain_V PF.cn]; exact hp
      have hVb := vs_lt a2.small
      have hlen := PF.len
      have hV256 : vs B64 x n < B64 ^ 256 := nb_lt_words (by have := PF.bits; omega)
      clear hVb PF ha a2 hp
      generalize vs B64 x n = V at *
      by_cases h0 : n = 0
      · subst h0
        have hV0 : V = 0 := NA.len0.1 rfl
        have hw : Hid (p = (0, 0, true)) := Lib.hid (by rw [← hP.out]; unfold exactV; rw [hm, hV0]; rfl)
        clear hm
        go_wp2_with fail
        go_ret3
        exact ⟨by rw [hw.out]; rfl, b2⟩
      · have hn0 : ((n : Int) == 0) = false := by simp; omega
        have hV0 : V ≠ 0 := fun h => h0 (NA.len0.2 h)
        obtain ⟨hV, hE1, hE2, _⟩ := plainV_b hpv
        have hP2 : Hid (p = (sgW neg + clampM neg mode (lV neg V E mode), if 9218868437227405312 ≤ lV neg V E mode then 3 else if unitE V E ≤ E then 0 else if tinyV V E then 5 else 1, true)) := Lib.hid (by
          rw [← hP.out]; unfold exactV; rw [hm, if_pos (by rfl), if_neg hV0])
        have OV := Lib.hid (fun w' (n : Num w' (.slice A n c) V) => roverV neg E mode w' n hpv hm)
        have hov : overF neg V E mode = decide (9218868437227405312 ≤ lV neg V E mode) := by unfold overF; simp [hV0]
        rw [hov] at OV
        clear hP hov hm2
        cases neg
        · go_wp2_with fail
          refine (OV.out _ NA).mono ?_
          rintro e' w3 ⟨rfl, b⟩
          have b3 := below_step b2 b
          replace NA := NA.below b
          replace k1 := k1.adv b
          clear b b2 c0 c1 c2 c3
          by_cases hl : 9218868437227405312 ≤ lV false V E mode
          · rw [decide_eq_true hl]
            obtain ⟨c0, c1, c2, c3⟩ := k1.cell
            clear OV
            rcases mode_cases hm with rfl | rfl | rfl | rfl | rfl
            · have hw : Hid (p = (9218868437227405312, 3, true)) := Lib.hid (by
                rw [hP2.out, if_pos hl]
                unfold clampM
                rw [if_pos hl]
                rfl)
              clear hP2 hm hl
              go_wp2_with fail
              go_ret3
              exact ⟨by rw [hw.out]; rfl, b3⟩
            · have hw : Hid (p = (9218868437227405311, 3, true)) := Lib.hid (by
                rw [hP2.out, if_pos hl]
                unfold clampM
                rw [if_pos hl]
                rfl)
              clear hP2 hm hl
              go_wp2_with fail
              go_ret3
              exact ⟨by rw [hw.out]; rfl, b3⟩
            · have hw : Hid (p = (9218868437227405312, 3, true)) := Lib.hid (by
                rw [hP2.out, if_pos hl]
                unfold clampM
                rw [if_pos hl]
                rfl)
              clear hP2 hm hl
              go_wp2_with fail
              go_ret3
              exact ⟨by rw [hw.out]; rfl, b3⟩
            · have hw : Hid (p = (9218868437227405311, 3, true)) := Lib.hid (by
                rw [hP2.out, if_pos hl]
                unfold clampM
                rw [if_pos hl]
                rfl)
              clear hP2 hm hl
              go_wp2_with fail
              go_ret3
              exact ⟨by rw [hw.out]; rfl, b3⟩
            · have hw : Hid (p = (9218868437227405312, 3, true)) := Lib.hid (by
                rw [hP2.out, if_pos hl]
                unfold clampM
                rw [if_pos hl]
                rfl)
              clear hP2 hm hl
              go_wp2_with fail
              go_ret3
              exact ⟨by rw [hw.out]; rfl, b3⟩
          · rw [decide_eq_false hl]
            have hl2 : lV false V E mode < 9218868437227405312 := Nat.lt_of_not_le hl
            obtain ⟨F1, F2, F3, F4⟩ := exact_facts hpv hV0 hl2
            have GR := Lib.hid (rgridV false true E _ NA (by omega) (by omega) (by omega))
            rw [show (if true = true then unitE V E else topV V E - 53) = unitE V E from rfl] at GR
            have hu : -300000 ≤ unitE V E ∧ unitE V E ≤ 300000 := by
              have hge : -1074 ≤ unitE V E := by unfold unitE; omega
              have hue : unitE V E ≤ 973 := by unfold lV at hl2; omega
              omega
            have CH := Lib.hid (fun w' (n : Num w' (.slice A n c) V) => rchooseV false E (unitE V E) mode w' n hV hE1 hE2 hu.1 hu.2 hm)
            have hqb := (choose_nb (neg := false) (E := E) (mode := mode) hV0).2
            have hM := mkD_m_bits false (chooseV false V E (unitE V E) mode) (unitE V E)
            have MK := Lib.hid (fun w' v (n : Num w' v (chooseV false V E (unitE V E) mode)) (hT : Tab w') => rmakeN false (unitE V E) w' n (by omega) hT (by omega) (by omega))
            have WD := Lib.hid (fun w' A p c (n : Num w' (.slice A p c) (mkD false (chooseV false V E (unitE V E) mode) (unitE V E)).m) => rwordNum (mkD false (chooseV false V E (unitE V E) mode) (unitE V E)).neg (mkD false (chooseV false V E (unitE V E) mode) (unitE V E)).e w' n hM)
            rw [F1] at WD
            have CM := Lib.hid (fun w' {A1 : Option Addr} {p1 c1 : Nat} (n1 : Num w' (.slice A1 p1 c1) (mkD false (chooseV false V E (unitE V E) mode) (unitE V E)).m) (n2 : Num w' (.slice A n c) V) => rcmpNum (mkD false (chooseV false V E (unitE V E) mode) (unitE V E)).neg false (mkD false (chooseV false V E (unitE V E) mode) (unitE V E)).e E w' n1 n2 hM hV256 F1 hpv)
            have TN := Lib.hid (fun w' (n : Num w' (.slice A n c) V) => rtinyV false E w' n (by omega) (by omega) (by omega))
            have HX := Lib.hid F2
            have HY := Lib.hid F3
            clear F1 F2 F3 hM hl2 hqb OV
            obtain ⟨c0, c1, c2, c3⟩ := k1.cell
            go_wp2_with fail
            refine GR.out.mono ?_
            rintro e' w4 ⟨rfl, b⟩
            have b4 := below_step b3 b
            replace NA := NA.below b
            replace k1 := k1.adv b
            clear b GR b3 c0 c1 c2 c3
            obtain ⟨c0, c1, c2, c3⟩ := k1.cell
            go_wp2_with fail
            refine (CH.out _ NA).mono ?_
            rintro e' w5 ⟨A5, p5, q5, rfl, n5, b⟩
            have b5 := below_step b4 b
            replace NA := NA.below b
            replace k1 := k1.adv b
            clear b CH b4 c0 c1 c2 c3
            obtain ⟨c0, c1, c2, c3⟩ := k1.cell
            go_wp2_with fail
            refine (MK.out _ _ n5 (hT.below b5)).mono ?_
            rintro e' w6 h6
            obtain ⟨A6, p6, q6, rfl, n6, b⟩ := h6.dp
            have b6 := below_step b5 b
            replace NA := NA.below b
            replace n5 := n5.below b
            replace k1 := k1.adv b
            clear b h6 MK b5 c0 c1 c2 c3
            have bb := alloc_bel w6 (cd3 (.bool (mkD false (chooseV false V E (unitE V E) mode) (unitE V E)).neg) (.slice A6 p6 q6) (.int .i64 (mkD false (chooseV false V E (unitE V E) mode) (unitE V E)).e))
            have k6 := K3.made w6 (.bool (mkD false (chooseV false V E (unitE V E) mode) (unitE V E)).neg) (.slice A6 p6 q6) (.int .i64 (mkD false (chooseV false V E (unitE V E) mode) (unitE V E)).e)
            replace NA := NA.below bb
            replace n5 := n5.below bb
            have n10 := n6.below bb
            replace k1 := k1.adv bb
            replace b6 := below_step b6 bb
            clear bb n6
            have hlq := n5.len0
            generalize hq : chooseV false V E (unitE V E) mode = q at *
            generalize hr : mkD false q (unitE V E) = r at *
            go_wp2_with fail
            generalize w6.alloc (cd3 (.bool r.neg) (.slice A6 p6 q6) (.int .i64 r.e)) = w10 at *
            refine (WD.out _ _ _ _ n10).mono ?_
            rintro e' w7 ⟨rfl, b⟩
            have b7 := below_step b6 b
            replace NA := NA.below b
            replace n10 := n10.below b
            replace k1 := k1.adv b
            replace k6 := k6.adv b
            clear b b6 n5
            obtain ⟨c0, c1, c2, c3⟩ := k1.cell
            obtain ⟨d0, d1, d2, d3⟩ := k6.cell
            have hcl : clampM false mode (lV false V E mode) = lV false V E mode := by unfold clampM; rw [if_neg hl]
            by_cases hq0 : q = 0
            · obtain rfl : p5 = 0 := hlq.2 hq0
              have ZZ : Hid (sgW false + clampM false mode (lV false V E mode) = 0) := Lib.hid (by rw [hcl, HY.out hq0]; rfl)
              clear HX HY hcl hq0 hlq WD
              go_wp2_with fail
              clear c0 c1 c2 c3 d0 d1 d2 d3
              refine (CM.out _ n10 NA).mono ?_
              rintro e' w8 ⟨rfl, b⟩
              have b8 := below_step b7 b
              replace NA := NA.below b
              replace k1 := k1.adv b
              clear b CM n10 b7 k6
              obtain ⟨c0, c1, c2, c3⟩ := k1.cell
              by_cases hle : unitE V E ≤ E
              · have hc0 := F4.2 hle
                rw [hc0]
                have HZ : Hid (p = (0, 0, true)) := Lib.hid (by rw [hP2.out, if_neg hl, if_pos hle, ZZ.out])
                obtain ⟨z, hz⟩ : ∃ z, z = 0 := ⟨_, rfl⟩
                rw [← hz] at HZ
                clear F4 hc0 hle hP2 TN ZZ hl
                subst hz
                have hw := HZ
                go_wp2_with fail
                go_ret3
                exact ⟨by rw [hw.out]; rfl, b8⟩
              · have hc0 : ordD r.neg false r.m V r.e E ≠ 0 := fun h => hle (F4.1 h)
                generalize ordD r.neg false r.m V r.e E = oc at *
                have hoc : (oc != 0) = true := by simpa using hc0
                have HZ : Hid (p = (0, if tinyV V E then 5 else 1, true)) := Lib.hid (by rw [hP2.out, if_neg hl, if_neg hle, ZZ.out])
                have TN2 := Lib.hid (TN.out _ NA)
                clear F4 hc0 hle hP2 ZZ hl TN
                generalize tinyV V E = tb at *
                go_wp2_with fail
                refine TN2.out.mono ?_
                rintro e' w9 ⟨rfl, b⟩
                have b9 := below_step b8 b
                clear b b8 TN2 c0 c1 c2 c3
                cases tb
                · have hw : Hid (p = (0, 1, true)) := Lib.hid (by rw [HZ.out]; rfl)
                  go_wp2_with fail
                  go_ret3
                  exact ⟨by rw [hw.out]; rfl, b9⟩
                · have hw : Hid (p = (0, 5, true)) := Lib.hid (by rw [HZ.out]; rfl)
                  go_wp2_with fail
                  go_ret3
                  exact ⟨by rw [hw.out]; rfl, b9⟩
            · have hp5 : ((p5 : Int) == 0) = false := by
                have : p5 ≠ 0 := fun h => hq0 (hlq.1 h)
                simp; omega
              have hwd := HX.out hq0
              obtain ⟨z, hz⟩ : ∃ z, sgW false + lV false V E mode = z := ⟨_, rfl⟩
              have ZZ : Hid (sgW false + clampM false mode (lV false V E mode) = z) := Lib.hid (by rw [hcl, hz])
              have hwp : wordP true r.neg r.m r.e = (z, true) := by unfold wordP; rw [if_pos rfl, hwd, hz]
              rw [hwp]
              clear HX HY hcl hq0 hlq WD hwd hwp hz
              go_wp2_with fail
              clear c0 c1 c2 c3 d0 d1 d2 d3
              refine (CM.out _ n10 NA).mono ?_
              rintro e' w8 ⟨rfl, b⟩
              have b8 := below_step b7 b
              replace NA := NA.below b
              replace k1 := k1.adv b
              clear b CM n10 b7 k6
              obtain ⟨c0, c1, c2, c3⟩ := k1.cell
              by_cases hle : unitE V E ≤ E
              · have hc0 := F4.2 hle
                rw [hc0]
                have HZ : Hid (p = (z, 0, true)) := Lib.hid (by rw [hP2.out, if_neg hl, if_pos hle, ZZ.out])
                clear F4 hc0 hle hP2 TN ZZ hl
                have hw := HZ
                go_wp2_with fail
                go_ret3
                exact ⟨by rw [hw.out]; rfl, b8⟩
              · have hc0 : ordD r.neg false r.m V r.e E ≠ 0 := fun h => hle (F4.1 h)
                generalize ordD r.neg false r.m V r.e E = oc at *
                have hoc : (oc != 0) = true := by simpa using hc0
                have HZ : Hid (p = (z, if tinyV V E then 5 else 1, true)) := Lib.hid (by rw [hP2.out, if_neg hl, if_neg hle, ZZ.out])
                have TN2 := Lib.hid (TN.out _ NA)
                clear F4 hc0 hle hP2 ZZ hl TN
                generalize tinyV V E = tb at *
                go_wp2_with fail
                refine TN2.out.mono ?_
                rintro e' w9 ⟨rfl, b⟩
                have b9 := below_step b8 b
                clear b b8 TN2 c0 c1 c2 c3
                cases tb
                · have hw : Hid (p = (z, 1, true)) := Lib.hid (by rw [HZ.out]; rfl)
                  go_wp2_with fail
                  go_ret3
                  exact ⟨by rw [hw.out]; rfl, b9⟩
                · have hw : Hid (p = (z, 5, true)) := Lib.hid (by rw [HZ.out]; rfl)
                  go_wp2_with fail
                  go_ret3
                  exact ⟨by rw [hw.out]; rfl, b9⟩
        · go_wp2_with fail
          refine (OV.out _ NA).mono ?_
          rintro e' w3 ⟨rfl, b⟩
          have b3 := below_step b2 b
          replace NA := NA.below b
          replace k1 := k1.adv b
          clear b b2 c0 c1 c2 c3
          by_cases hl : 9218868437227405312 ≤ lV true V E mode
          · rw [decide_eq_true hl]
            obtain ⟨c0, c1, c2, c3⟩ := k1.cell
            clear OV
            rcases mode_cases hm with rfl | rfl | rfl | rfl | rfl
            · have hw : Hid (p = (18442240474082181120, 3, true)) := Lib.hid (by
                rw [hP2.out, if_pos hl]
                unfold clampM
                rw [if_pos hl]
                rfl)
              clear hP2 hm hl
              go_wp2_with fail
              go_ret3
              exact ⟨by rw [hw.out]; rfl, b3⟩
            · have hw : Hid (p = (18442240474082181119, 3, true)) := Lib.hid (by
                rw [hP2.out, if_pos hl]
                unfold clampM
                rw [if_pos hl]
                rfl)
              clear hP2 hm hl
              go_wp2_with fail
              go_ret3
              exact ⟨by rw [hw.out]; rfl, b3⟩
            · have hw : Hid (p = (18442240474082181119, 3, true)) := Lib.hid (by
                rw [hP2.out, if_pos hl]
                unfold clampM
                rw [if_pos hl]
                rfl)
              clear hP2 hm hl
              go_wp2_with fail
              go_ret3
              exact ⟨by rw [hw.out]; rfl, b3⟩
            · have hw : Hid (p = (18442240474082181120, 3, true)) := Lib.hid (by
                rw [hP2.out, if_pos hl]
                unfold clampM
                rw [if_pos hl]
                rfl)
              clear hP2 hm hl
              go_wp2_with fail
              go_ret3
              exact ⟨by rw [hw.out]; rfl, b3⟩
            · have hw : Hid (p = (18442240474082181120, 3, true)) := Lib.hid (by
                rw [hP2.out, if_pos hl]
                unfold clampM
                rw [if_pos hl]
                rfl)
              clear hP2 hm hl
              go_wp2_with fail
              go_ret3
              exact ⟨by rw [hw.out]; rfl, b3⟩
          · rw [decide_eq_false hl]
            have hl2 : lV true V E mode < 9218868437227405312 := Nat.lt_of_not_le hl
            obtain ⟨F1, F2, F3, F4⟩ := exact_facts hpv hV0 hl2
            have GR := Lib.hid (rgridV true true E _ NA (by omega) (by omega) (by omega))
            rw [show (if true = true then unitE V E else topV V E - 53) = unitE V E from rfl] at GR
            have hu : -300000 ≤ unitE V E ∧ unitE V E ≤ 300000 := by
              have hge : -1074 ≤ unitE V E := by unfold unitE; omega
              have hue : unitE V E ≤ 973 := by unfold lV at hl2; omega
              omega
            have CH := Lib.hid (fun w' (n : Num w' (.slice A n c) V) => rchooseV true E (unitE V E) mode w' n hV hE1 hE2 hu.1 hu.2 hm)
            have hqb := (choose_nb (neg := true) (E := E) (mode := mode) hV0).2
            have hM := mkD_m_bits true (chooseV true V E (unitE V E) mode) (unitE V E)
            have MK := Lib.hid (fun w' v (n : Num w' v (chooseV true V E (unitE V E) mode)) (hT : Tab w') => rmakeN true (unitE V E) w' n (by omega) hT (by omega) (by omega))
            have WD := Lib.hid (fun w' A p c (n : Num w' (.slice A p c) (mkD true (chooseV true V E (unitE V E) mode) (unitE V E)).m) => rwordNum (mkD true (chooseV true V E (unitE V E) mode) (unitE V E)).neg (mkD true (chooseV true V E (unitE V E) mode) (unitE V E)).e w' n hM)
            rw [F1] at WD
            have CM := Lib.hid (fun w' {A1 : Option Addr} {p1 c1 : Nat} (n1 : Num w' (.slice A1 p1 c1) (mkD true (chooseV true V E (unitE V E) mode) (unitE V E)).m) (n2 : Num w' (.slice A n c) V) => rcmpNum (mkD true (chooseV true V E (unitE V E) mode) (unitE V E)).neg true (mkD true (chooseV true V E (unitE V E) mode) (unitE V E)).e E w' n1 n2 hM hV256 F1 hpv)
            have TN := Lib.hid (fun w' (n : Num w' (.slice A n c) V) => rtinyV true E w' n (by omega) (by omega) (by omega))
            have HX := Lib.hid F2
            have HY := Lib.hid F3
            clear F1 F2 F3 hM hl2 hqb OV
            obtain ⟨c0, c1, c2, c3⟩ := k1.cell
            go_wp2_with fail
            refine GR.out.mono ?_
            rintro e' w4 ⟨rfl, b⟩
            have b4 := below_step b3 b
            replace NA := NA.below b
            replace k1 := k1.adv b
            clear b GR b3 c0 c1 c2 c3
            obtain ⟨c0, c1, c2, c3⟩ := k1.cell
            go_wp2_with fail
            refine (CH.out _ NA).mono ?_
            rintro e' w5 ⟨A5, p5, q5, rfl, n5, b⟩
            have b5 := below_step b4 b
            replace NA := NA.below b
            replace k1 := k1.adv b
            clear b CH b4 c0 c1 c2 c3
            obtain ⟨c0, c1, c2, c3⟩ := k1.cell
            go_wp2_with fail
            refine (MK.out _ _ n5 (hT.below b5)).mono ?_
            rintro e' w6 h6
            obtain ⟨A6, p6, q6, rfl, n6, b⟩ := h6.dp
            have b6 := below_step b5 b
            replace NA := NA.below b
            replace n5 := n5.below b
            replace k1 := k1.adv b
            clear b h6 MK b5 c0 c1 c2 c3
            have bb := alloc_bel w6 (cd3 (.bool (mkD true (chooseV true V E (unitE V E) mode) (unitE V E)).neg) (.slice A6 p6 q6) (.int .i64 (mkD true (chooseV true V E (unitE V E) mode) (unitE V E)).e))
            have k6 := K3.made w6 (.bool (mkD true (chooseV true V E (unitE V E) mode) (unitE V E)).neg) (.slice A6 p6 q6) (.int .i64 (mkD true (chooseV true V E (unitE V E) mode) (unitE V E)).e)
            replace NA := NA.below bb
            replace n5 := n5.below bb
            have n10 := n6.below bb
            replace k1 := k1.adv bb
            replace b6 := below_step b6 bb
            clear bb n6
            have hlq := n5.len0
            generalize hq : chooseV true V E (unitE V E) mode = q at *
            generalize hr : mkD true q (unitE V E) = r at *
            go_wp2_with fail
            generalize w6.alloc (cd3 (.bool r.neg) (.slice A6 p6 q6) (.int .i64 r.e)) = w10 at *
            refine (WD.out _ _ _ _ n10).mono ?_
            rintro e' w7 ⟨rfl, b⟩
            have b7 := below_step b6 b
            replace NA := NA.below b
            replace n10 := n10.below b
            replace k1 := k1.adv b
            replace k6 := k6.adv b
            clear b b6 n5
            obtain ⟨c0, c1, c2, c3⟩ := k1.cell
            obtain ⟨d0, d1, d2, d3⟩ := k6.cell
            have hcl : clampM true mode (lV true V E mode) = lV true V E mode := by unfold clampM; rw [if_neg hl]
            by_cases hq0 : q = 0
            · obtain rfl : p5 = 0 := hlq.2 hq0
              have ZZ : Hid (sgW true + clampM true mode (lV true V E mode) = 9223372036854775808) := Lib.hid (by rw [hcl, HY.out hq0]; rfl)
              clear HX HY hcl hq0 hlq WD
              go_wp2_with fail
              clear c0 c1 c2 c3 d0 d1 d2 d3
              refine (CM.out _ n10 NA).mono ?_
              rintro e' w8 ⟨rfl, b⟩
              have b8 := below_step b7 b
              replace NA := NA.below b
              replace k1 := k1.adv b
              clear b CM n10 b7 k6
              obtain ⟨c0, c1, c2, c3⟩ := k1.cell
              by_cases hle : unitE V E ≤ E
              · have hc0 := F4.2 hle
                rw [hc0]
                have HZ : Hid (p = (9223372036854775808, 0, true)) := Lib.hid (by rw [hP2.out, if_neg hl, if_pos hle, ZZ.out])
                obtain ⟨z, hz⟩ : ∃ z, z = 9223372036854775808 := ⟨_, rfl⟩
                rw [← hz] at HZ
                clear F4 hc0 hle hP2 TN ZZ hl
                subst hz
                have hw := HZ
                go_wp2_with fail
                go_ret3
                exact ⟨by rw [hw.out]; rfl, b8⟩
              · have hc0 : ordD r.neg true r.m V r.e E ≠ 0 := fun h => hle (F4.1 h)
                generalize ordD r.neg true r.m V r.e E = oc at *
                have hoc : (oc != 0) = true := by simpa using hc0
                have HZ : Hid (p = (9223372036854775808, if tinyV V E then 5 else 1, true)) := Lib.hid (by rw [hP2.out, if_neg hl, if_neg hle, ZZ.out])
                have TN2 := Lib.hid (TN.out _ NA)
                clear F4 hc0 hle hP2 ZZ hl TN
                generalize tinyV V E = tb at *
                go_wp2_with fail
                refine TN2.out.mono ?_
                rintro e' w9 ⟨rfl, b⟩
                have b9 := below_step b8 b
                clear b b8 TN2 c0 c1 c2 c3
                cases tb
                · have hw : Hid (p = (9223372036854775808, 1, true)) := Lib.hid (by rw [HZ.out]; rfl)
                  go_wp2_with fail
                  go_ret3
                  exact ⟨by rw [hw.out]; rfl, b9⟩
                · have hw : Hid (p = (9223372036854775808, 5, true)) := Lib.hid (by rw [HZ.out]; rfl)
                  go_wp2_with fail
                  go_ret3
                  exact ⟨by rw [hw.out]; rfl, b9⟩
            · have hp5 : ((p5 : Int) == 0) = false := by
                have : p5 ≠ 0 := fun h => hq0 (hlq.1 h)
                simp; omega
              have hwd := HX.out hq0
              obtain ⟨z, hz⟩ : ∃ z, sgW true + lV true V E mode = z := ⟨_, rfl⟩
              have ZZ : Hid (sgW true + clampM true mode (lV true V E mode) = z) := Lib.hid (by rw [hcl, hz])
              have hwp : wordP true r.neg r.m r.e = (z, true) := by unfold wordP; rw [if_pos rfl, hwd, hz]
              rw [hwp]
              clear HX HY hcl hq0 hlq WD hwd hwp hz
              go_wp2_with fail
              clear c0 c1 c2 c3 d0 d1 d2 d3
              refine (CM.out _ n10 NA).mono ?_
              rintro e' w8 ⟨rfl, b⟩
              have b8 := below_step b7 b
              replace NA := NA.below b
              replace k1 := k1.adv b
              clear b CM n10 b7 k6
              obtain ⟨c0, c1, c2, c3⟩ := k1.cell
              by_cases hle : unitE V E ≤ E
              · have hc0 := F4.2 hle
                rw [hc0]
                have HZ : Hid (p = (z, 0, true)) := Lib.hid (by rw [hP2.out, if_neg hl, if_pos hle, ZZ.out])
                clear F4 hc0 hle hP2 TN ZZ hl
                have hw := HZ
                go_wp2_with fail
                go_ret3
                exact ⟨by rw [hw.out]; rfl, b8⟩
              · have hc0 : ordD r.neg true r.m V r.e E ≠ 0 := fun h => hle (F4.1 h)
                generalize ordD r.neg true r.m V r.e E = oc at *
                have hoc : (oc != 0) = true := by simpa using hc0
                have HZ : Hid (p = (z, if tinyV V E then 5 else 1, true)) := Lib.hid (by rw [hP2.out, if_neg hl, if_neg hle, ZZ.out])
                have TN2 := Lib.hid (TN.out _ NA)
                clear F4 hc0 hle hP2 ZZ hl TN
                generalize tinyV V E = tb at *
                go_wp2_with fail
                refine TN2.out.mono ?_
                rintro e' w9 ⟨rfl, b⟩
                have b9 := below_step b8 b
                clear b b8 TN2 c0 c1 c2 c3
                cases tb
                · have hw : Hid (p = (z, 1, true)) := Lib.hid (by rw [HZ.out]; rfl)
                  go_wp2_with fail
                  go_ret3
                  exact ⟨by rw [hw.out]; rfl, b9⟩
                · have hw : Hid (p = (z, 5, true)) := Lib.hid (by rw [HZ.out]; rfl)
                  go_wp2_with fail
                  go_ret3
                  exact ⟨by rw [hw.out]; rfl, b9⟩
    · have hw : Hid (p = (0, 0, false)) := Lib.hid (by rw [← hP.out]; unfold exactV; rw [show modeM mode = false by simpa using hm]; simp)
      by_cases hd1 : mode < 0
      · have hd2 : decide (mode < 0) = true := decide_eq_true hd1
        clear hm
        go_wp2_with fail
        go_ret3
        exact ⟨by rw [hw.out]; rfl, b2⟩
      · have hd2 : decide (mode < 0) = false := decide_eq_false hd1
        have hd3 : decide (4 < mode) = true := decide_eq_true (by unfold modeM at hm; simp at hm; omega)
        clear hm
        go_wp2_with fail
        go_ret3
        exact ⟨by rw [hw.out]; rfl, b2⟩
  · have hp' : plainB neg n x E = false := by simpa using hp
    have hw : Hid (p = (0, 0, false)) := Lib.hid (by rw [← hP.out, hp']; rfl)
    rw [hp']
    go_wp2_with fail
    go_ret3
    exact ⟨by rw [hw.out]; rfl, b2⟩
end Go.Proofs.YtilmbdbcgbndmaaDoor

namespace Go.Proofs.YtilmbdbcgbndmaaDoor
open Go.RowKit

/-- A span in a block of its own. -/
def K6 (w : World) (g : Nat) (a b c d e f : Value) : Prop := Blk6 w g a b c d e f ∧ g < w.heap.size
theorem K6.adv {w w' : World} {g : Nat} {a b c d e f : Value} (h : K6 w g a b c d e f) (hb : Below w.heap.size w w') : K6 w' g a b c d e f := ⟨h.1.below hb h.2, Nat.lt_of_lt_of_le h.2 hb.size⟩
theorem K6.made (w : World) (a b c d e f : Value) : K6 (w.alloc (co6 a b c d e f)) w.heap.size a b c d e f := ⟨Blk6.made w a b c d e f, by simp⟩
theorem K6.cell {w : World} {g : Nat} {a b c d e f : Value} (h : K6 w g a b c d e f) : w.cell? ⟨g, 0, none⟩ = some a ∧ w.cell? ⟨g, 1, none⟩ = some b ∧ w.cell? ⟨g, 2, none⟩ = some c ∧ w.cell? ⟨g, 3, none⟩ = some d ∧ w.cell? ⟨g, 4, none⟩ = some e ∧ w.cell? ⟨g, 5, none⟩ = some f ∧ g < w.heap.size := by
  obtain ⟨h0, h1, h2, h3, h4, h5⟩ := h.1.cell
  exact ⟨h0, h1, h2, h3, h4, h5, h.2⟩
/-- The words about a span. -/
def endsV (right na nb' : Bool) (Va Vb : Nat) (ea eb : Int) : Nat × Nat × Bool := if right then ((exactV true na Va ea 3).1, (exactV true nb' Vb eb 2).1, true) else (0, 0, false)
def XP (w : World) (p : Nat × Nat × Bool) (e : Ending) (w' : World) : Prop := e = .returned (.tuple #[.int .u64 (p.1 : Int), .int .u64 (p.2.1 : Int), .bool p.2.2]) ∧ Below w.heap.size w w'
/-- What is told of a span's numbers. -/
def amongV (right na nb' : Bool) (Va Vb : Nat) (ea eb mode : Int) : Nat × Int × Bool :=
  if right && modeM mode then
    if ordD na nb' Va Vb ea eb = 0 then exactV true na Va ea mode
    else if (if Va ≠ 0 ∧ na = false then (1 : Int) else if nb' then -1 else 0) = 0 then (0, 0, false)
    else if (exactV true na Va ea mode).1 = (exactV true nb' Vb eb mode).1 ∧ tinyV Va ea = tinyV Vb eb ∧ overF na Va ea mode = overF nb' Vb eb mode then
      ((exactV true na Va ea mode).1, if tinyV Va ea then 5 else if overF na Va ea mode then 3 else 1, true)
    else (0, 0, false)
  else (0, 0, false)
theorem right_parts {ok na nb' : Bool} {Va Vb : Nat} {ea eb : Int} (h : rightB ok na nb' Va Vb ea eb = true) : ok = true ∧ ordD na nb' Va Vb ea eb ≤ 0 := by
  unfold rightB at h
  simpa using h

set_option maxHeartbeats 4000000 in
theorem rends_any (na nb' : Bool) (A B : Option Addr) (n c m d : Nat) (x y : Nat → Nat) (ea eb : Int) (w : World) (ha : Sl w A n c x) (hb : Sl w B m d y) (hn : n ≤ 400000) (hm : m ≤ 400000) (hT : Tab w) :
    Calls Tryd.prog 14 #[spv na A n c ea nb' B m d eb] w (XP w (endsV (rightB (plainB na n x ea && plainB nb' m y eb) na nb' (vs B64 x n) (vs B64 y m) ea eb) na nb' (vs B64 x n) (vs B64 y m) ea eb)) := by
  have b1 := alloc_bel w (co6 (.bool na) (.slice A n c) (.int .i64 ea) (.bool nb') (.slice B m d) (.int .i64 eb))
  have k1 := K6.made w (.bool na) (.slice A n c) (.int .i64 ea) (.bool nb') (.slice B m d) (.int .i64 eb)
  have RT := Lib.hid (rright_any na nb' A B n c m d x y ea eb _ (ha.below b1) (hb.below b1) hn hm)
  obtain ⟨p, hP⟩ : ∃ p, Hid (endsV (rightB (plainB na n x ea && plainB nb' m y eb) na nb' (vs B64 x n) (vs B64 y m) ea eb) na nb' (vs B64 x n) (vs B64 y m) ea eb = p) := ⟨_, Lib.hid rfl⟩
  rw [hP.out]
  obtain ⟨R, hR⟩ : ∃ R : Bool, Hid (rightB (plainB na n x ea && plainB nb' m y eb) na nb' (vs B64 x n) (vs B64 y m) ea eb = R) := ⟨_, Lib.hid rfl⟩
  rw [hR.out] at RT hP
  obtain ⟨c0, c1, c2, c3, c4, c5, c6⟩ := k1.cell
  go_enter Tryd.func14, Tryd.ntmps14
  go_wp2_with fail
  refine RT.out.mono ?_
  generalize w.alloc (co6 (.bool na) (.slice A n c) (.int .i64 ea) (.bool nb') (.slice B m d) (.int .i64 eb)) = w1 at *
  rintro e' w2 ⟨rfl, b⟩
  have b2 := below_step b1 b
  replace k1 := k1.adv b
  clear b b1 RT c0 c1 c2 c3 c4 c5 c6
  obtain ⟨c0, c1, c2, c3, c4, c5, c6⟩ := k1.cell
  cases R
  · have hw : Hid (p = (0, 0, false)) := Lib.hid hP.out.symm
    go_wp2_with fail
    go_ret3
    exact ⟨by rw [hw.out]; rfl, b2⟩
  · obtain ⟨hok, _⟩ := right_parts hR.out
    simp only [Bool.and_eq_true] at hok
    obtain ⟨hpa, hpb⟩ := hok
    have E1 := Lib.hid (rexact_any na A n c x ea 3 w2 (ha.below b2) hn (hT.below b2))
    have E2 := Lib.hid (fun w' (b : Below w.heap.size w w') => rexact_any nb' B m d y eb 2 w' (hb.below b) hm (hT.below b))
    rw [hpa] at E1
    rw [hpb] at E2
    have hw : Hid (p = ((exactV true na (vs B64 x n) ea 3).1, (exactV true nb' (vs B64 y m) eb 2).1, true)) := Lib.hid hP.out.symm
    clear hP hR
    generalize exactV true na (vs B64 x n) ea 3 = q at *
    generalize exactV true nb' (vs B64 y m) eb 2 = r at *
    go_wp2_with fail
    refine E1.out.mono ?_
    rintro e' w3 ⟨rfl, b⟩
    have b3 := below_step b2 b
    replace k1 := k1.adv b
    clear b b2 E1 c0 c1 c2 c3 c4 c5 c6
    obtain ⟨c0, c1, c2, c3, c4, c5, c6⟩ := k1.cell
    go_wp2_with fail
    refine (E2.out _ b3).mono ?_
    rintro e' w4 ⟨rfl, b⟩
    have b4 := below_step b3 b
    go_wp2_with fail
    go_ret3
    exact ⟨by rw [hw.out]; rfl, b4⟩

set_option maxRecDepth 8000 in
set_option maxHeartbeats 8000000 in
theorem ramong_any (na nb' : Bool) (A B : Option Addr) (n c m d : Nat) (x y : Nat → Nat) (ea eb mode : Int) (w : World) (ha : Sl w A n c x) (hb : Sl w B m d y) (hn : n ≤ 400000) (hm : m ≤ 400000) (hT : Tab w) :
    Calls Tryd.prog 12 #[spv na A n c ea nb' B m d eb, .int .i64 mode] w (EP w (amongV (rightB (plainB na n x ea && plainB nb' m y eb) na nb' (vs B64 x n) (vs B64 y m) ea eb) na nb' (vs B64 x n) (vs B64 y m) ea eb mode)) := by
  have b1 := alloc_bel w (co6 (.bool na) (.slice A n c) (.int .i64 ea) (.bool nb') (.slice B m d) (.int .i64 eb))
  have k1 := K6.made w (.bool na) (.slice A n c) (.int .i64 ea) (.bool nb') (.slice B m d) (.int .i64 eb)
  have RT := Lib.hid (rright_any na nb' A B n c m d x y ea eb _ (ha.below b1) (hb.below b1) hn hm)
  obtain ⟨p, hP⟩ : ∃ p, Hid (amongV (rightB (plainB na n x ea && plainB nb' m y eb) na nb' (vs B64 x n) (vs B64 y m) ea eb) na nb' (vs B64 x n) (vs B64 y m) ea eb mode = p) := ⟨_, Lib.hid rfl⟩
  rw [hP.out]
  have SG := Lib.hid (fun w' (b : Below w.heap.size w w') => rsign_span na nb' A B n c m d x y ea eb w' (ha.below b) (hb.below b) hn hm)
  have CM := Lib.hid (fun w' (b : Below w.heap.size w w') => rcmpD_any na nb' A B n c m d x y ea eb w' (ha.below b) (hb.below b) hn hm)
  obtain ⟨R, hR⟩ : ∃ R : Bool, Hid (rightB (plainB na n x ea && plainB nb' m y eb) na nb' (vs B64 x n) (vs B64 y m) ea eb = R) := ⟨_, Lib.hid rfl⟩
  rw [hR.out] at RT SG hP
  obtain ⟨c0, c1, c2, c3, c4, c5, c6⟩ := k1.cell
  go_enter Tryd.func12, Tryd.ntmps12
  go_wp2_with fail
  refine RT.out.mono ?_
  generalize w.alloc (co6 (.bool na) (.slice A n c) (.int .i64 ea) (.bool nb') (.slice B m d) (.int .i64 eb)) = w1 at *
  rintro e' w2 ⟨rfl, b⟩
  have b2 := below_step b1 b
  replace k1 := k1.adv b
  clear b b1 RT c0 c1 c2 c3 c4 c5 c6
  obtain ⟨c0, c1, c2, c3, c4, c5, c6⟩ := k1.cell
  cases R
  · have hw : Hid (p = (0, 0, false)) := Lib.hid (by rw [← hP.out]; rfl)
    clear hP SG CM hR
    go_wp2_with fail
    go_ret3
    exact ⟨by rw [hw.out]; rfl, b2⟩
  · by_cases hmo : modeM mode = true
    · have hm2 := hmo
      unfold modeM at hm2
      simp only [Bool.and_eq_true, decide_eq_true_eq] at hm2
      have hd1 : decide (mode < 0) = false := decide_eq_false (by omega)
      have hd2 : decide (4 < mode) = false := decide_eq_false (by omega)
      obtain ⟨hok, _⟩ := right_parts hR.out
      simp only [Bool.and_eq_true] at hok
      obtain ⟨hpa, hpb⟩ := hok
      have PA := plain_facts hpa
      have PB := plain_facts hpb
      have hva : plainV na (vs B64 x n) ea = true := by rw [← plain_V PA.cn]; exact hpa
      have hvb : plainV nb' (vs B64 y m) eb = true := by rw [← plain_V PB.cn]; exact hpb
      have hz : n ≠ 0 ∧ na = false ↔ vs B64 x n ≠ 0 ∧ na = false := by have := PA.pos; constructor <;> rintro ⟨h1, h2⟩ <;> exact ⟨by omega, h2⟩
      have NA := Lib.hid (fun w' (b : Below w.heap.size w w') => PA.num (ha.below b))
      have NB := Lib.hid (fun w' (b : Below w.heap.size w w') => PB.num (hb.below b))
      have E1 := Lib.hid (fun w' (b : Below w.heap.size w w') => rexact_any na A n c x ea mode w' (ha.below b) hn (hT.below b))
      have E2 := Lib.hid (fun w' (b : Below w.heap.size w w') => rexact_any nb' B m d y eb mode w' (hb.below b) hm (hT.below b))
      rw [hpa] at E1
      rw [hpb] at E2
      rw [hpa, hpb, show (true && true) = true from rfl, show cmpD true na nb' (vs B64 x n) (vs B64 y m) ea eb = ordD na nb' (vs B64 x n) (vs B64 y m) ea eb from rfl] at CM
      have hsg : signS true na nb' n = if vs B64 x n ≠ 0 ∧ na = false then (1 : Int) else if nb' then -1 else 0 := by
        unfold signS
        rw [if_pos rfl]
        simp only [hz]
      rw [hsg] at SG
      have hP2 := hP.out
      unfold amongV at hP2
      rw [hmo, if_pos (by rfl)] at hP2
      have HP := Lib.hid hP2
      have O1 := Lib.hid (fun w' (b : Below w.heap.size w w') => roverV na ea mode w' (NA.out w' b) hva hmo)
      have O2 := Lib.hid (fun w' (b : Below w.heap.size w w') => roverV nb' eb mode w' (NB.out w' b) hvb hmo)
      have T1 := Lib.hid (fun w' (b : Below w.heap.size w w') => rtinyV na ea w' (NA.out w' b) (by have := (plainV_b hva).1; omega) (by have := (plainV_b hva).2.1; omega) (by have := (plainV_b hva).2.2.1; omega))
      have T2 := Lib.hid (fun w' (b : Below w.heap.size w w') => rtinyV nb' eb w' (NB.out w' b) (by have := (plainV_b hvb).1; omega) (by have := (plainV_b hvb).2.1; omega) (by have := (plainV_b hvb).2.2.1; omega))
      clear hP2 hP hsg hz PA PB hva hvb NA NB hR hpa hpb hm2 hmo ha hb hT
      generalize vs B64 x n = Va at *
      generalize vs B64 y m = Vb at *
      generalize ordD na nb' Va Vb ea eb = o at *
      generalize (if Va ≠ 0 ∧ na = false then (1 : Int) else if nb' then -1 else 0) = sg at *
      go_wp2_with fail
      refine (CM.out _ b2).mono ?_
      rintro e' w3 ⟨rfl, b⟩
      have b3 := below_step b2 b
      replace k1 := k1.adv b
      clear b b2 CM c0 c1 c2 c3 c4 c5 c6
      obtain ⟨c0, c1, c2, c3, c4, c5, c6⟩ := k1.cell
      by_cases ho : o = 0
      · have ho2 : (o == 0) = true := by simpa using ho
        have hw : Hid (p = exactV true na Va ea mode) := Lib.hid (by rw [← HP.out, if_pos ho])
        clear HP SG O1 O2 T1 T2 E2
        generalize exactV true na Va ea mode = q at *
        go_wp2_with fail
        refine (E1.out _ b3).mono ?_
        rintro e' w4 ⟨rfl, b⟩
        have b4 := below_step b3 b
        go_wp2_with fail
        go_ret3
        exact ⟨by rw [hw.out]; rfl, b4⟩
      · have ho2 : (o == 0) = false := by simpa using ho
        go_wp2_with fail
        refine (SG.out _ b3).mono ?_
        rintro e' w4 ⟨rfl, b⟩
        have b4 := below_step b3 b
        replace k1 := k1.adv b
        clear b b3 SG c0 c1 c2 c3 c4 c5 c6
        obtain ⟨c0, c1, c2, c3, c4, c5, c6⟩ := k1.cell
        by_cases hs : sg = 0
        · have hs2 : (sg == 0) = true := by simpa using hs
          have hw : Hid (p = (0, 0, false)) := Lib.hid (by rw [← HP.out, if_neg ho, if_pos hs])
          clear HP O1 O2 T1 T2 E1 E2
          go_wp2_with fail
          go_ret3
          exact ⟨by rw [hw.out]; rfl, b4⟩
        · have hs2 : (sg == 0) = false := by simpa using hs
          have HQ := HP.out
          rw [if_neg ho, if_neg hs] at HQ
          replace HP := Lib.hid HQ
          clear HQ hs ho
          generalize exactV true na Va ea mode = q at *
          generalize exactV true nb' Vb eb mode = r at *
          generalize tinyV Va ea = t1 at *
          generalize tinyV Vb eb = t2 at *
          generalize overF na Va ea mode = o1 at *
          generalize overF nb' Vb eb mode = o2 at *
          obtain ⟨q0, q1, q2⟩ := q
          obtain ⟨r0, r1, r2⟩ := r
          simp only at HP
          go_wp2_with fail
          refine (E1.out _ b4).mono ?_
          rintro e' w5 ⟨rfl, b⟩
          have b5 := below_step b4 b
          replace k1 := k1.adv b
          clear b b4 E1 c0 c1 c2 c3 c4 c5 c6
          obtain ⟨c0, c1, c2, c3, c4, c5, c6⟩ := k1.cell
          go_wp2_with fail
          refine (E2.out _ b5).mono ?_
          rintro e' w6 ⟨rfl, b⟩
          have b6 := below_step b5 b
          replace k1 := k1.adv b
          clear b b5 E2 c0 c1 c2 c3 c4 c5 c6
          obtain ⟨c0, c1, c2, c3, c4, c5, c6⟩ := k1.cell
          have KEEP : Hid (∀ w', Below w6.heap.size w6 w' → (w'.cell? ⟨w.heap.size, 0, none⟩ = some (.bool na) ∧ w'.cell? ⟨w.heap.size, 1, none⟩ = some (.slice A n c) ∧ w'.cell? ⟨w.heap.size, 2, none⟩ = some (.int .i64 ea)) ∧ (w'.cell? ⟨w.heap.size, 3, none⟩ = some (.bool nb') ∧ w'.cell? ⟨w.heap.size, 4, none⟩ = some (.slice B m d) ∧ w'.cell? ⟨w.heap.size, 5, none⟩ = some (.int .i64 eb))) := Lib.hid (fun w' h => by
            obtain ⟨h0, h1, h2, h3, h4, h5, _⟩ := (k1.adv h).cell
            exact ⟨⟨h0, h1, h2⟩, h3, h4, h5⟩)
          have BD := (Below.refl w6.heap.size w6).drew
          by_cases hxy : q0 = r0
          · subst hxy
            have hne : ((q0 : Int) != (q0 : Int)) = false := by simp
            by_cases ht : t1 = t2
            · subst ht
              by_cases ho : o1 = o2
              · subst ho
                have hw : Hid (p = (q0, if t1 then 5 else if o1 then 3 else 1, true)) := Lib.hid (by rw [← HP.out, if_pos ⟨rfl, rfl, rfl⟩])
                have hbt : (t1 != t1) = false := by simp
                have hbo : (o1 != o1) = false := by simp
                clear HP
                go_upto_region 10 with fail
                go_region_held3 (fun w' => (w'.cell? ⟨w.heap.size, 0, none⟩ = some (.bool na) ∧ w'.cell? ⟨w.heap.size, 1, none⟩ = some (.slice A n c) ∧ w'.cell? ⟨w.heap.size, 2, none⟩ = some (.int .i64 ea)) ∧ (w'.cell? ⟨w.heap.size, 3, none⟩ = some (.bool nb') ∧ w'.cell? ⟨w.heap.size, 4, none⟩ = some (.slice B m d) ∧ w'.cell? ⟨w.heap.size, 5, none⟩ = some (.int .i64 eb)))
                  (first | exact KEEP.out _ b14 | exact KEEP.out _ b13 | exact KEEP.out _ b12 | exact KEEP.out _ b11 | exact KEEP.out _ BD)
                  (first
                    | (go_at_call_of 32 (Value.slice A n c); refine (T1.out _ (b6.trans (BD.mono b6.size))).mono ?_; rintro e' w11 ⟨rfl, b⟩; have b11 := BD.trans (b.mono BD.size))
                    | (go_at_call_of 32 (Value.slice B m d); refine (T2.out _ (b6.trans (b11.mono b6.size))).mono ?_; rintro e' w12 ⟨rfl, b⟩; have b12 := b11.trans (b.mono b11.size))
                    | (go_at_call_of 26 (Value.slice A n c); refine (O1.out _ (b6.trans (b12.mono b6.size))).mono ?_; rintro e' w13 ⟨rfl, b⟩; have b13 := b12.trans (b.mono b12.size))
                    | (go_at_call_of 26 (Value.slice B m d); refine (O2.out _ (b6.trans (b13.mono b6.size))).mono ?_; rintro e' w14 ⟨rfl, b⟩; have b14 := b13.trans (b.mono b13.size))
                    | fail)
                have b7 := b6.trans (b14.mono b6.size)
                replace k1 := k1.adv b14
                clear b11 b12 b13 b14 BD KEEP c0 c1 c2 c3 c4 c5 c6 b6 T2 O2
                obtain ⟨c0, c1, c2, c3, c4, c5, c6⟩ := k1.cell
                go_wp2_with fail
                refine (O1.out _ b7).mono ?_
                rintro e' w15 ⟨rfl, b⟩
                have b8 := below_step b7 b
                replace k1 := k1.adv b
                clear b b7 O1 c0 c1 c2 c3 c4 c5 c6
                obtain ⟨c0, c1, c2, c3, c4, c5, c6⟩ := k1.cell
                cases o1
                · go_wp2_with fail
                  refine (T1.out _ b8).mono ?_
                  rintro e' w16 ⟨rfl, b⟩
                  have b9 := below_step b8 b
                  cases t1
                  · have hw2 : Hid (p = (q0, 1, true)) := Lib.hid (by rw [hw.out]; rfl)
                    go_wp2_with fail
                    go_ret3
                    exact ⟨by rw [hw2.out]; rfl, b9⟩
                  · have hw2 : Hid (p = (q0, 5, true)) := Lib.hid (by rw [hw.out]; rfl)
                    go_wp2_with fail
                    go_ret3
                    exact ⟨by rw [hw2.out]; rfl, b9⟩
                · go_wp2_with fail
                  refine (T1.out _ b8).mono ?_
                  rintro e' w16 ⟨rfl, b⟩
                  have b9 := below_step b8 b
                  cases t1
                  · have hw2 : Hid (p = (q0, 3, true)) := Lib.hid (by rw [hw.out]; rfl)
                    go_wp2_with fail
                    go_ret3
                    exact ⟨by rw [hw2.out]; rfl, b9⟩
                  · have hw2 : Hid (p = (q0, 5, true)) := Lib.hid (by rw [hw.out]; rfl)
                    go_wp2_with fail
                    go_ret3
                    exact ⟨by rw [hw2.out]; rfl, b9⟩
              · have hw : Hid (p = (0, 0, false)) := Lib.hid (by rw [← HP.out, if_neg (fun h => ho h.2.2)])
                have hbt : (t1 != t1) = false := by simp
                clear HP
                cases o1
                · cases o2
                  · exact absurd rfl ho
                  · clear ho
                    go_upto_region 10 with fail
                    go_region_held3 (fun w' => (w'.cell? ⟨w.heap.size, 0, none⟩ = some (.bool na) ∧ w'.cell? ⟨w.heap.size, 1, none⟩ = some (.slice A n c) ∧ w'.cell? ⟨w.heap.size, 2, none⟩ = some (.int .i64 ea)) ∧ (w'.cell? ⟨w.heap.size, 3, none⟩ = some (.bool nb') ∧ w'.cell? ⟨w.heap.size, 4, none⟩ = some (.slice B m d) ∧ w'.cell? ⟨w.heap.size, 5, none⟩ = some (.int .i64 eb)))
                      (first | exact KEEP.out _ b14 | exact KEEP.out _ b13 | exact KEEP.out _ b12 | exact KEEP.out _ b11 | exact KEEP.out _ BD)
                      (first
                        | (go_at_call_of 32 (Value.slice A n c); refine (T1.out _ (b6.trans (BD.mono b6.size))).mono ?_; rintro e' w11 ⟨rfl, b⟩; have b11 := BD.trans (b.mono BD.size))
                        | (go_at_call_of 32 (Value.slice B m d); refine (T2.out _ (b6.trans (b11.mono b6.size))).mono ?_; rintro e' w12 ⟨rfl, b⟩; have b12 := b11.trans (b.mono b11.size))
                        | (go_at_call_of 26 (Value.slice A n c); refine (O1.out _ (b6.trans (b12.mono b6.size))).mono ?_; rintro e' w13 ⟨rfl, b⟩; have b13 := b12.trans (b.mono b12.size))
                        | (go_at_call_of 26 (Value.slice B m d); refine (O2.out _ (b6.trans (b13.mono b6.size))).mono ?_; rintro e' w14 ⟨rfl, b⟩; have b14 := b13.trans (b.mono b13.size))
                        | fail)
                    go_wp2_with fail
                    go_ret3
                    exact ⟨by rw [hw.out]; rfl, b6.trans (b14.mono b6.size)⟩
                · cases o2
                  · clear ho
                    go_upto_region 10 with fail
                    go_region_held3 (fun w' => (w'.cell? ⟨w.heap.size, 0, none⟩ = some (.bool na) ∧ w'.cell? ⟨w.heap.size, 1, none⟩ = some (.slice A n c) ∧ w'.cell? ⟨w.heap.size, 2, none⟩ = some (.int .i64 ea)) ∧ (w'.cell? ⟨w.heap.size, 3, none⟩ = some (.bool nb') ∧ w'.cell? ⟨w.heap.size, 4, none⟩ = some (.slice B m d) ∧ w'.cell? ⟨w.heap.size, 5, none⟩ = some (.int .i64 eb)))
                      (first | exact KEEP.out _ b14 | exact KEEP.out _ b13 | exact KEEP.out _ b12 | exact KEEP.out _ b11 | exact KEEP.out _ BD)
                      (first
                        | (go_at_call_of 32 (Value.slice A n c); refine (T1.out _ (b6.trans (BD.mono b6.size))).mono ?_; rintro e' w11 ⟨rfl, b⟩; have b11 := BD.trans (b.mono BD.size))
                        | (go_at_call_of 32 (Value.slice B m d); refine (T2.out _ (b6.trans (b11.mono b6.size))).mono ?_; rintro e' w12 ⟨rfl, b⟩; have b12 := b11.trans (b.mono b11.size))
                        | (go_at_call_of 26 (Value.slice A n c); refine (O1.out _ (b6.trans (b12.mono b6.size))).mono ?_; rintro e' w13 ⟨rfl, b⟩; have b13 := b12.trans (b.mono b12.size))
                        | (go_at_call_of 26 (Value.slice B m d); refine (O2.out _ (b6.trans (b13.mono b6.size))).mono ?_; rintro e' w14 ⟨rfl, b⟩; have b14 := b13.trans (b.mono b13.size))
                        | fail)
                    go_wp2_with fail
                    go_ret3
                    exact ⟨by rw [hw.out]; rfl, b6.trans (b14.mono b6.size)⟩
                  · exact absurd rfl ho
            · have hw : Hid (p = (0, 0, false)) := Lib.hid (by rw [← HP.out, if_neg (fun h => ht h.2.1)])
              clear HP
              cases t1
              · cases t2
                · exact absurd rfl ht
                · clear ht
                  go_upto_region 10 with fail
                  refine wp_region_noPanic ?_
                  refine wp_region_held_drew (S := (fun w' => (w'.cell? ⟨w.heap.size, 0, none⟩ = some (.bool na) ∧ w'.cell? ⟨w.heap.size, 1, none⟩ = some (.slice A n c) ∧ w'.cell? ⟨w.heap.size, 2, none⟩ = some (.int .i64 ea)) ∧ (w'.cell? ⟨w.heap.size, 3, none⟩ = some (.bool nb') ∧ w'.cell? ⟨w.heap.size, 4, none⟩ = some (.slice B m d) ∧ w'.cell? ⟨w.heap.size, 5, none⟩ = some (.int .i64 eb)))) (by kernel_rfl) (KEEP.out _ BD) (fun hHeld => ?_)
                  refine wpAnyH_take (i := 0) (oi := ⟨some 63, _, _, _, _, _⟩) (v := ?vh1) rfl (by kernel_rfl) (by kernel_rfl) (by kernel_rfl) (fun _ _ _ h => h) (Or.inl ⟨by kernel_rfl, ?hy1⟩) (by assumption) ?rest1
                  case hy1 => (intro w hSw; (try dsimp only at hSw); go_simp; try with_reducible rfl)
                  try simp only [Act.put, List.setIfInBounds_toArray, List.set_cons_zero, List.set_cons_succ]
                  refine wpAnyH_take (i := 1) (oi := ⟨some 64, _, _, _, _, _⟩) (v := ?vh2) rfl (by kernel_rfl) (by kernel_rfl) (by kernel_rfl) (fun _ _ _ h => h) (Or.inl ⟨by kernel_rfl, ?hy2⟩) (by assumption) ?rest2
                  case hy2 => (intro w hSw; (try dsimp only at hSw); go_simp; try with_reducible rfl)
                  try simp only [Act.put, List.setIfInBounds_toArray, List.set_cons_zero, List.set_cons_succ]
                  refine wpAnyH_take (i := 2) (oi := ⟨some 65, _, _, _, _, _⟩) (v := ?vh3) rfl (by kernel_rfl) (by kernel_rfl) (by kernel_rfl) (fun _ _ _ h => h) (Or.inl ⟨by kernel_rfl, ?hy3⟩) (by assumption) ?rest3
                  case hy3 => (intro w hSw; (try dsimp only at hSw); go_simp; try with_reducible rfl)
                  try simp only [Act.put, List.setIfInBounds_toArray, List.set_cons_zero, List.set_cons_succ]
                  refine wpAnyH_take (i := 3) (oi := ⟨some 66, _, _, _, _, _⟩) (v := ?vh4) rfl (by kernel_rfl) (by kernel_rfl) (by kernel_rfl) (fun _ _ _ h => h) (Or.inl ⟨by kernel_rfl, ?hy4⟩) (by assumption) ?rest4
                  case hy4 => (intro w hSw; (try dsimp only at hSw); go_simp; try with_reducible rfl)
                  try simp only [Act.put, List.setIfInBounds_toArray, List.set_cons_zero, List.set_cons_succ]
                  refine wpAnyH_take (i := 4) (oi := ⟨some 67, _, _, _, _, _⟩) (v := ?vh5) rfl (by kernel_rfl) (by kernel_rfl) (by kernel_rfl) (fun _ _ _ h => h) (Or.inl ⟨by kernel_rfl, ?hy5⟩) (by assumption) ?rest5
                  case hy5 => (intro w hSw; (try dsimp only at hSw); go_simp; try with_reducible rfl)
                  try simp only [Act.put, List.setIfInBounds_toArray, List.set_cons_zero, List.set_cons_succ]
                  refine wpAnyH_take (i := 5) (oi := ⟨some 68, _, _, _, _, _⟩) (v := ?vh6) rfl (by kernel_rfl) (by kernel_rfl) (by kernel_rfl) (fun _ _ _ h => h) (Or.inl ⟨by kernel_rfl, ?hy6⟩) (by assumption) ?rest6
                  case hy6 => (intro w hSw; (try dsimp only at hSw); go_simp; try with_reducible rfl)
                  try simp only [Act.put, List.setIfInBounds_toArray, List.set_cons_zero, List.set_cons_succ]
                  refine wpAnyH_take (i := 7) (oi := ⟨some 70, _, _, _, _, _⟩) (v := ?vh7) rfl (by kernel_rfl) (by kernel_rfl) (by kernel_rfl) (fun _ _ _ h => h) (Or.inl ⟨by kernel_rfl, ?hy7⟩) (by assumption) ?rest7
                  case hy7 => (intro w hSw; (try dsimp only at hSw); go_simp; try with_reducible rfl)
                  try simp only [Act.put, List.setIfInBounds_toArray, List.set_cons_zero, List.set_cons_succ]
                  refine wpAnyH_take (i := 8) (oi := ⟨some 71, _, _, _, _, _⟩) (v := ?vh8) rfl (by kernel_rfl) (by kernel_rfl) (by kernel_rfl) (fun _ _ _ h => h) (Or.inl ⟨by kernel_rfl, ?hy8⟩) (by assumption) ?rest8
                  case hy8 => (intro w hSw; (try dsimp only at hSw); go_simp; try with_reducible rfl)
                  try simp only [Act.put, List.setIfInBounds_toArray, List.set_cons_zero, List.set_cons_succ]
                  refine wpAnyH_ready (rs := [6]) (by kernel_rfl) (by simp) ?_
                  refine AllReadyH.cons rfl (fun K hK => ?_) AllReadyH.nil
                  go_simp
                  refine (T1.out _ (b6.trans (BD.mono b6.size))).mono ?_
                  rintro e' w11 ⟨rfl, b⟩
                  have b11 := BD.trans (b.mono BD.size)
                  refine hK.out _ _ (KEEP.out _ b11) (fun hHeld => ?_)
                  clear hK K
                  try simp only [Act.put, List.setIfInBounds_toArray, List.set_cons_zero, List.set_cons_succ]
                  refine wpAnyH_ready (rs := [9]) (by kernel_rfl) (by simp) ?_
                  refine AllReadyH.cons rfl (fun K hK => ?_) AllReadyH.nil
                  go_simp
                  refine (T2.out _ (b6.trans (b11.mono b6.size))).mono ?_
                  rintro e' w12 ⟨rfl, b⟩
                  have b12 := b11.trans (b.mono b11.size)
                  refine hK.out _ _ (KEEP.out _ b12) (fun hHeld => ?_)
                  clear hK K
                  try simp only [Act.put, List.setIfInBounds_toArray, List.set_cons_zero, List.set_cons_succ]
                  refine wpAnyH_take (i := 10) (oi := ⟨some 73, _, _, _, _, _⟩) (v := ?vh9) rfl (by kernel_rfl) (by kernel_rfl) (by kernel_rfl) (fun _ _ _ h => h) (Or.inl ⟨by kernel_rfl, ?hy9⟩) (by assumption) ?rest9
                  case hy9 => (intro w hSw; (try dsimp only at hSw); go_simp; try with_reducible rfl)
                  try simp only [Act.put, List.setIfInBounds_toArray, List.set_cons_zero, List.set_cons_succ]
                  refine wpAnyH_take (i := 11) (oi := ⟨some 74, _, _, _, _, _⟩) (v := ?vh10) rfl (by kernel_rfl) (by kernel_rfl) (by kernel_rfl) (fun _ _ _ h => h) (Or.inl ⟨by kernel_rfl, ?hy10⟩) (by assumption) ?rest10
                  case hy10 => (intro w hSw; (try dsimp only at hSw); go_simp; try with_reducible rfl)
                  try simp only [Act.put, List.setIfInBounds_toArray, List.set_cons_zero, List.set_cons_succ]
                  refine wpAnyH_take (i := 12) (oi := ⟨some 75, _, _, _, _, _⟩) (v := ?vh11) rfl (by kernel_rfl) (by kernel_rfl) (by kernel_rfl) (fun _ _ _ h => h) (Or.inl ⟨by kernel_rfl, ?hy11⟩) (by assumption) ?rest11
                  case hy11 => (intro w hSw; (try dsimp only at hSw); go_simp; try with_reducible rfl)
                  try simp only [Act.put, List.setIfInBounds_toArray, List.set_cons_zero, List.set_cons_succ]
                  refine wpAnyH_take (i := 13) (oi := ⟨some 76, _, _, _, _, _⟩) (v := undef) rfl (by kernel_rfl) (by kernel_rfl) (by kernel_rfl) (fun _ _ _ h => h) (Or.inr ⟨by kernel_rfl, rfl⟩) (by assumption) ?_
                  try simp only [Act.put, List.setIfInBounds_toArray, List.set_cons_zero, List.set_cons_succ]
                  refine wpAnyH_take (i := 14) (oi := ⟨some 77, _, _, _, _, _⟩) (v := undef) rfl (by kernel_rfl) (by kernel_rfl) (by kernel_rfl) (fun _ _ _ h => h) (Or.inr ⟨by kernel_rfl, rfl⟩) (by assumption) ?_
                  try simp only [Act.put, List.setIfInBounds_toArray, List.set_cons_zero, List.set_cons_succ]
                  refine wpAnyH_take (i := 15) (oi := ⟨some 78, _, _, _, _, _⟩) (v := undef) rfl (by kernel_rfl) (by kernel_rfl) (by kernel_rfl) (fun _ _ _ h => h) (Or.inr ⟨by kernel_rfl, rfl⟩) (by assumption) ?_
                  try simp only [Act.put, List.setIfInBounds_toArray, List.set_cons_zero, List.set_cons_succ]
                  refine wpAnyH_take (i := 17) (oi := ⟨some 80, _, _, _, _, _⟩) (v := undef) rfl (by kernel_rfl) (by kernel_rfl) (by kernel_rfl) (fun _ _ _ h => h) (Or.inr ⟨by kernel_rfl, rfl⟩) (by assumption) ?_
                  try simp only [Act.put, List.setIfInBounds_toArray, List.set_cons_zero, List.set_cons_succ]
                  refine wpAnyH_take (i := 18) (oi := ⟨some 81, _, _, _, _, _⟩) (v := undef) rfl (by kernel_rfl) (by kernel_rfl) (by kernel_rfl) (fun _ _ _ h => h) (Or.inr ⟨by kernel_rfl, rfl⟩) (by assumption) ?_
                  try simp only [Act.put, List.setIfInBounds_toArray, List.set_cons_zero, List.set_cons_succ]
                  refine wpAnyH_take (i := 19) (oi := ⟨some 82, _, _, _, _, _⟩) (v := undef) rfl (by kernel_rfl) (by kernel_rfl) (by kernel_rfl) (fun _ _ _ h => h) (Or.inr ⟨by kernel_rfl, rfl⟩) (by assumption) ?_
                  try simp only [Act.put, List.setIfInBounds_toArray, List.set_cons_zero, List.set_cons_succ]
                  refine wpAnyH_ready (rs := [16]) (by kernel_rfl) (by simp) ?_
                  refine AllReadyH.cons rfl (fun K hK => ?_) AllReadyH.nil
                  go_simp
                  refine hK.out _ _ (KEEP.out _ b12) (fun hHeld => ?_)
                  clear hK K
                  try simp only [Act.put, List.setIfInBounds_toArray, List.set_cons_zero, List.set_cons_succ]
                  refine wpAnyH_ready (rs := [20]) (by kernel_rfl) (by simp) ?_
                  refine AllReadyH.cons rfl (fun K hK => ?_) AllReadyH.nil
                  go_simp
                  refine hK.out _ _ (KEEP.out _ b12) (fun hHeld => ?_)
                  clear hK K
                  try simp only [Act.put, List.setIfInBounds_toArray, List.set_cons_zero, List.set_cons_succ]
                  refine wpAnyH_take (i := 21) (oi := ⟨some 84, _, _, _, _, _⟩) (v := undef) rfl (by kernel_rfl) (by kernel_rfl) (by kernel_rfl) (fun _ _ _ h => h) (Or.inr ⟨by kernel_rfl, rfl⟩) (by assumption) ?_
                  try simp only [Act.put, List.setIfInBounds_toArray, List.set_cons_zero, List.set_cons_succ]
                  refine wpAnyH_take (i := 22) (oi := ⟨some 85, _, _, _, _, _⟩) (v := ?vh12) rfl (by kernel_rfl) (by kernel_rfl) (by kernel_rfl) (fun _ _ _ h => h) (Or.inl ⟨by kernel_rfl, ?hy12⟩) (by assumption) ?rest12
                  case hy12 => (intro w hSw; (try dsimp only at hSw); go_simp; try with_reducible rfl)
                  try simp only [Act.put, List.setIfInBounds_toArray, List.set_cons_zero, List.set_cons_succ]
                  refine wpAnyH_done (by kernel_rfl) ?_ _
                  refine NoPanic.normal ?_
                  go_wp2_with fail
                  go_ret3
                  exact ⟨by rw [hw.out]; rfl, b6.trans (b12.mono b6.size)⟩
              · cases t2
                · clear ht
                  go_upto_region 10 with fail
                  refine wp_region_noPanic ?_
                  refine wp_region_held_drew (S := (fun w' => (w'.cell? ⟨w.heap.size, 0, none⟩ = some (.bool na) ∧ w'.cell? ⟨w.heap.size, 1, none⟩ = some (.slice A n c) ∧ w'.cell? ⟨w.heap.size, 2, none⟩ = some (.int .i64 ea)) ∧ (w'.cell? ⟨w.heap.size, 3, none⟩ = some (.bool nb') ∧ w'.cell? ⟨w.heap.size, 4, none⟩ = some (.slice B m d) ∧ w'.cell? ⟨w.heap.size, 5, none⟩ = some (.int .i64 eb)))) (by kernel_rfl) (KEEP.out _ BD) (fun hHeld => ?_)
                  refine wpAnyH_take (i := 0) (oi := ⟨some 63, _, _, _, _, _⟩) (v := ?vh13) rfl (by kernel_rfl) (by kernel_rfl) (by kernel_rfl) (fun _ _ _ h => h) (Or.inl ⟨by kernel_rfl, ?hy13⟩) (by assumption) ?rest13
                  case hy13 => (intro w hSw; (try dsimp only at hSw); go_simp; try with_reducible rfl)
                  try simp only [Act.put, List.setIfInBounds_toArray, List.set_cons_zero, List.set_cons_succ]
                  refine wpAnyH_take (i := 1) (oi := ⟨some 64, _, _, _, _, _⟩) (v := ?vh14) rfl (by kernel_rfl) (by kernel_rfl) (by kernel_rfl) (fun _ _ _ h => h) (Or.inl ⟨by kernel_rfl, ?hy14⟩) (by assumption) ?rest14
                  case hy14 => (intro w hSw; (try dsimp only at hSw); go_simp; try with_reducible rfl)
                  try simp only [Act.put, List.setIfInBounds_toArray, List.set_cons_zero, List.set_cons_succ]
                  refine wpAnyH_take (i := 2) (oi := ⟨some 65, _, _, _, _, _⟩) (v := ?vh15) rfl (by kernel_rfl) (by kernel_rfl) (by kernel_rfl) (fun _ _ _ h => h) (Or.inl ⟨by kernel_rfl, ?hy15⟩) (by assumption) ?rest15
                  case hy15 => (intro w hSw; (try dsimp only at hSw); go_simp; try with_reducible rfl)
                  try simp only [Act.put, List.setIfInBounds_toArray, List.set_cons_zero, List.set_cons_succ]
                  refine wpAnyH_take (i := 3) (oi := ⟨some 66, _, _, _, _, _⟩) (v := ?vh16) rfl (by kernel_rfl) (by kernel_rfl) (by kernel_rfl) (fun _ _ _ h => h) (Or.inl ⟨by kernel_rfl, ?hy16⟩) (by assumption) ?rest16
                  case hy16 => (intro w hSw; (try dsimp only at hSw); go_simp; try with_reducible rfl)
                  try simp only [Act.put, List.setIfInBounds_toArray, List.set_cons_zero, List.set_cons_succ]
                  refine wpAnyH_take (i := 4) (oi := ⟨some 67, _, _, _, _, _⟩) (v := ?vh17) rfl (by kernel_rfl) (by kernel_rfl) (by kernel_rfl) (fun _ _ _ h => h) (Or.inl ⟨by kernel_rfl, ?hy17⟩) (by assumption) ?rest17
                  case hy17 => (intro w hSw; (try dsimp only at hSw); go_simp; try with_reducible rfl)
                  try simp only [Act.put, List.setIfInBounds_toArray, List.set_cons_zero, List.set_cons_succ]
                  refine wpAnyH_take (i := 5) (oi := ⟨some 68, _, _, _, _, _⟩) (v := ?vh18) rfl (by kernel_rfl) (by kernel_rfl) (by kernel_rfl) (fun _ _ _ h => h) (Or.inl ⟨by kernel_rfl, ?hy18⟩) (by assumption) ?rest18
                  case hy18 => (intro w hSw; (try dsimp only at hSw); go_simp; try with_reducible rfl)
                  try simp only [Act.put, List.setIfInBounds_toArray, List.set_cons_zero, List.set_cons_succ]
                  refine wpAnyH_take (i := 7) (oi := ⟨some 70, _, _, _, _, _⟩) (v := ?vh19) rfl (by kernel_rfl) (by kernel_rfl) (by kernel_rfl) (fun _ _ _ h => h) (Or.inl ⟨by kernel_rfl, ?hy19⟩) (by assumption) ?rest19
                  case hy19 => (intro w hSw; (try dsimp only at hSw); go_simp; try with_reducible rfl)
                  try simp only [Act.put, List.setIfInBounds_toArray, List.set_cons_zero, List.set_cons_succ]
                  refine wpAnyH_take (i := 8) (oi := ⟨some 71, _, _, _, _, _⟩) (v := ?vh20) rfl (by kernel_rfl) (by kernel_rfl) (by kernel_rfl) (fun _ _ _ h => h) (Or.inl ⟨by kernel_rfl, ?hy20⟩) (by assumption) ?rest20
                  case hy20 => (intro w hSw; (try dsimp only at hSw); go_simp; try with_reducible rfl)
                  try simp only [Act.put, List.setIfInBounds_toArray, List.set_cons_zero, List.set_cons_succ]
                  refine wpAnyH_ready (rs := [6]) (by kernel_rfl) (by simp) ?_
                  refine AllReadyH.cons rfl (fun K hK => ?_) AllReadyH.nil
                  go_simp
                  refine (T1.out _ (b6.trans (BD.mono b6.size))).mono ?_
                  rintro e' w11 ⟨rfl, b⟩
                  have b11 := BD.trans (b.mono BD.size)
                  refine hK.out _ _ (KEEP.out _ b11) (fun hHeld => ?_)
                  clear hK K
                  try simp only [Act.put, List.setIfInBounds_toArray, List.set_cons_zero, List.set_cons_succ]
                  refine wpAnyH_ready (rs := [9]) (by kernel_rfl) (by simp) ?_
                  refine AllReadyH.cons rfl (fun K hK => ?_) AllReadyH.nil
                  go_simp
                  refine (T2.out _ (b6.trans (b11.mono b6.size))).mono ?_
                  rintro e' w12 ⟨rfl, b⟩
                  have b12 := b11.trans (b.mono b11.size)
                  refine hK.out _ _ (KEEP.out _ b12) (fun hHeld => ?_)
                  clear hK K
                  try simp only [Act.put, List.setIfInBounds_toArray, List.set_cons_zero, List.set_cons_succ]
                  refine wpAnyH_take (i := 10) (oi := ⟨some 73, _, _, _, _, _⟩) (v := ?vh21) rfl (by kernel_rfl) (by kernel_rfl) (by kernel_rfl) (fun _ _ _ h => h) (Or.inl ⟨by kernel_rfl, ?hy21⟩) (by assumption) ?rest21
                  case hy21 => (intro w hSw; (try dsimp only at hSw); go_simp; try with_reducible rfl)
                  try simp only [Act.put, List.setIfInBounds_toArray, List.set_cons_zero, List.set_cons_succ]
                  refine wpAnyH_take (i := 11) (oi := ⟨some 74, _, _, _, _, _⟩) (v := ?vh22) rfl (by kernel_rfl) (by kernel_rfl) (by kernel_rfl) (fun _ _ _ h => h) (Or.inl ⟨by kernel_rfl, ?hy22⟩) (by assumption) ?rest22
                  case hy22 => (intro w hSw; (try dsimp only at hSw); go_simp; try with_reducible rfl)
                  try simp only [Act.put, List.setIfInBounds_toArray, List.set_cons_zero, List.set_cons_succ]
                  refine wpAnyH_take (i := 12) (oi := ⟨some 75, _, _, _, _, _⟩) (v := ?vh23) rfl (by kernel_rfl) (by kernel_rfl) (by kernel_rfl) (fun _ _ _ h => h) (Or.inl ⟨by kernel_rfl, ?hy23⟩) (by assumption) ?rest23
                  case hy23 => (intro w hSw; (try dsimp only at hSw); go_simp; try with_reducible rfl)
                  try simp only [Act.put, List.setIfInBounds_toArray, List.set_cons_zero, List.set_cons_succ]
                  refine wpAnyH_take (i := 13) (oi := ⟨some 76, _, _, _, _, _⟩) (v := undef) rfl (by kernel_rfl) (by kernel_rfl) (by kernel_rfl) (fun _ _ _ h => h) (Or.inr ⟨by kernel_rfl, rfl⟩) (by assumption) ?_
                  try simp only [Act.put, List.setIfInBounds_toArray, List.set_cons_zero, List.set_cons_succ]
                  refine wpAnyH_take (i := 14) (oi := ⟨some 77, _, _, _, _, _⟩) (v := undef) rfl (by kernel_rfl) (by kernel_rfl) (by kernel_rfl) (fun _ _ _ h => h) (Or.inr ⟨by kernel_rfl, rfl⟩) (by assumption) ?_
                  try simp only [Act.put, List.setIfInBounds_toArray, List.set_cons_zero, List.set_cons_succ]
                  refine wpAnyH_take (i := 15) (oi := ⟨some 78, _, _, _, _, _⟩) (v := undef) rfl (by kernel_rfl) (by kernel_rfl) (by kernel_rfl) (fun _ _ _ h => h) (Or.inr ⟨by kernel_rfl, rfl⟩) (by assumption) ?_
                  try simp only [Act.put, List.setIfInBounds_toArray, List.set_cons_zero, List.set_cons_succ]
                  refine wpAnyH_take (i := 17) (oi := ⟨some 80, _, _, _, _, _⟩) (v := undef) rfl (by kernel_rfl) (by kernel_rfl) (by kernel_rfl) (fun _ _ _ h => h) (Or.inr ⟨by kernel_rfl, rfl⟩) (by assumption) ?_
                  try simp only [Act.put, List.setIfInBounds_toArray, List.set_cons_zero, List.set_cons_succ]
                  refine wpAnyH_take (i := 18) (oi := ⟨some 81, _, _, _, _, _⟩) (v := undef) rfl (by kernel_rfl) (by kernel_rfl) (by kernel_rfl) (fun _ _ _ h => h) (Or.inr ⟨by kernel_rfl, rfl⟩) (by assumption) ?_
                  try simp only [Act.put, List.setIfInBounds_toArray, List.set_cons_zero, List.set_cons_succ]
                  refine wpAnyH_take (i := 19) (oi := ⟨some 82, _, _, _, _, _⟩) (v := undef) rfl (by kernel_rfl) (by kernel_rfl) (by kernel_rfl) (fun _ _ _ h => h) (Or.inr ⟨by kernel_rfl, rfl⟩) (by assumption) ?_
                  try simp only [Act.put, List.setIfInBounds_toArray, List.set_cons_zero, List.set_cons_succ]
                  refine wpAnyH_ready (rs := [16]) (by kernel_rfl) (by simp) ?_
                  refine AllReadyH.cons rfl (fun K hK => ?_) AllReadyH.nil
                  go_simp
                  refine hK.out _ _ (KEEP.out _ b12) (fun hHeld => ?_)
                  clear hK K
                  try simp only [Act.put, List.setIfInBounds_toArray, List.set_cons_zero, List.set_cons_succ]
                  refine wpAnyH_ready (rs := [20]) (by kernel_rfl) (by simp) ?_
                  refine AllReadyH.cons rfl (fun K hK => ?_) AllReadyH.nil
                  go_simp
                  refine hK.out _ _ (KEEP.out _ b12) (fun hHeld => ?_)
                  clear hK K
                  try simp only [Act.put, List.setIfInBounds_toArray, List.set_cons_zero, List.set_cons_succ]
                  refine wpAnyH_take (i := 21) (oi := ⟨some 84, _, _, _, _, _⟩) (v := undef) rfl (by kernel_rfl) (by kernel_rfl) (by kernel_rfl) (fun _ _ _ h => h) (Or.inr ⟨by kernel_rfl, rfl⟩) (by assumption) ?_
                  try simp only [Act.put, List.setIfInBounds_toArray, List.set_cons_zero, List.set_cons_succ]
                  refine wpAnyH_take (i := 22) (oi := ⟨some 85, _, _, _, _, _⟩) (v := ?vh24) rfl (by kernel_rfl) (by kernel_rfl) (by kernel_rfl) (fun _ _ _ h => h) (Or.inl ⟨by kernel_rfl, ?hy24⟩) (by assumption) ?rest24
                  case hy24 => (intro w hSw; (try dsimp only at hSw); go_simp; try with_reducible rfl)
                  try simp only [Act.put, List.setIfInBounds_toArray, List.set_cons_zero, List.set_cons_succ]
                  refine wpAnyH_done (by kernel_rfl) ?_ _
                  refine NoPanic.normal ?_
                  go_wp2_with fail
                  go_ret3
                  exact ⟨by rw [hw.out]; rfl, b6.trans (b12.mono b6.size)⟩
                · exact absurd rfl ht
          · have hw : Hid (p = (0, 0, false)) := Lib.hid (by rw [← HP.out, if_neg (fun h => hxy h.1)])
            have hne : ((q0 : Int) != (r0 : Int)) = true := by simp; omega
            clear HP
            go_upto_region 10 with fail
            go_quiet (fail)
            have BQ := below_drewN BD nq
            go_wp2_with fail
            go_ret3
            exact ⟨by rw [hw.out]; rfl, below_drewN b6 _⟩
    · have hw : Hid (p = (0, 0, false)) := Lib.hid (by rw [← hP.out]; unfold amongV; rw [show modeM mode = false by simpa using hmo]; rfl)
      clear hP SG CM hR
      by_cases hd1 : mode < 0
      · have hd2 : decide (mode < 0) = true := decide_eq_true hd1
        clear hmo
        go_wp2_with fail
        go_ret3
        exact ⟨by rw [hw.out]; rfl, b2⟩
      · have hd2 : decide (mode < 0) = false := decide_eq_false hd1
        have hd3 : decide (4 < mode) = true := decide_eq_true (by unfold modeM at hmo; simp at hmo; omega)
        clear hmo
        go_wp2_with fail
        go_ret3
        exact ⟨by rw [hw.out]; rfl, b2⟩
end Go.Proofs.YtilmbdbcgbndmaaDoor
