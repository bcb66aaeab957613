/-
  volvellelaw02.DyadMakes answers true, whatever dyad it is given.
-/
import Derived.Test.YtijdpmhcgmkjgaaDoorPkDy6
import Derived.Test.YtijdpmhcgmkjgaaDoorPkDy7
namespace Go.Proofs.YtijdpmhcgmkjgaaDoor
open Go.RowKit

theorem mkD_ok {neg : Bool} {V : Nat} {e : Int} {n : Nat} {f : Nat → Nat} (hok : (mkD neg V e).ok = true) (hc : Cn n f) (hv : vs B64 f n = (mkD neg V e).m) : plainB (mkD neg V e).neg n f (mkD neg V e).e = true := by
  unfold mkD at *
  by_cases h0 : V = 0
  · rw [if_pos h0] at *
    obtain rfl : n = 0 := vs_eq_zero B64_pos hc hv
    rfl
  · rw [if_neg h0] at *
    by_cases h1 : nb (od V) ≤ MB ∧ fitE (e + (v2 V : Int))
    · rw [if_pos h1] at *
      rw [plain_od (by omega) hc hv]
      simp [h1.1, h1.2]
    · rw [if_neg h1] at hok; cases hok
theorem mkD_m_le (neg : Bool) (V : Nat) (e : Int) : (mkD neg V e).m ≤ V := by
  unfold mkD
  by_cases h0 : V = 0
  · rw [if_pos h0]; exact Nat.zero_le _
  · rw [if_neg h0]
    by_cases h1 : nb (od V) ≤ MB ∧ fitE (e + (v2 V : Int))
    · rw [if_pos h1]; exact od_le V
    · rw [if_neg h1]; exact Nat.zero_le _
theorem negD_m_le (p neg : Bool) (n V : Nat) (e : Int) : (negD p neg n V e).m ≤ V := by
  unfold negD
  cases p
  · exact Nat.zero_le _
  · by_cases h : n = 0
    · simp only [h, if_true]; exact Nat.zero_le _
    · simp only [h, if_true, if_false]; exact Nat.le_refl _

theorem makes_big (neg : Bool) (A : Option Addr) (n c : Nat) (e : Int) (w : World) (hn : n ≤ 9223372036854775807) (hbig : 300 < n) (hT : Tab w) :
    Calls Tryd.prog 3 #[dyv neg A n c e] w (TruePost w) := by
  have bA : Below w.heap.size w (w.alloc (.cells #[.bool neg, .slice A n c, .int .i64 e] 24)) := (Below.refl _ w).alloc (Nat.le_refl _) _
  have kA := Blk3.made w (.bool neg) (.slice A n c) (.int .i64 e)
  have hgs : w.heap.size < (w.alloc (.cells #[.bool neg, .slice A n c, .int .i64 e] 24)).heap.size := by simp
  have AW := Lib.hid (awake_any _ (hT.below bA))
  have hb1 : (300 : Int) < (n : Int) := by omega
  go_enter Tryd.func3, Tryd.ntmps3
  go_wp2_with fail
  refine AW.out.mono ?_
  rintro e' w2 ⟨rfl, b⟩
  have b2 := bA.trans (b.mono bA.size)
  obtain ⟨c0, c1, c2⟩ := (kA.below b hgs).cell
  clear AW b kA bA
  go_wp2_with fail
  go_ret
  exact ⟨rfl, b2⟩

set_option linter.unusedSimpArgs false in
set_option maxRecDepth 8000 in
set_option maxHeartbeats 8000000 in
theorem makes_small (neg : Bool) (A : Option Addr) (n c : Nat) (x : Nat → Nat) (e : Int) (w : World) (ha : Sl w A n c x) (hn : n ≤ 300) (hT : Tab w) (he1 : -9223372036854775808 ≤ e) (he2 : e ≤ 9223372036854775807) :
    Calls Tryd.prog 3 #[dyv neg A n c e] w (TruePost w) := by
  have KX := Lib.hid (vs_lt ha.small)
  have bA : Below w.heap.size w (w.alloc (.cells #[.bool neg, .slice A n c, .int .i64 e] 24)) := (Below.refl _ w).alloc (Nat.le_refl _) _
  have kA := Blk3.made w (.bool neg) (.slice A n c) (.int .i64 e)
  have hgs : w.heap.size < (w.alloc (.cells #[.bool neg, .slice A n c, .int .i64 e] 24)).heap.size := by simp
  have AW := Lib.hid (awake_any _ (hT.below bA))
  have hb1 : ¬ (300 : Int) < (n : Int) := by omega
  go_enter Tryd.func3, Tryd.ntmps3
  go_wp2_with fail
  refine AW.out.mono ?_
  rintro e' w2 ⟨rfl, b⟩
  have b2 := bA.trans (b.mono bA.size)
  have k2 := kA.below b hgs
  have g2 : w.heap.size < w2.heap.size := Nat.lt_of_lt_of_le hgs b.size
  obtain ⟨c0, c1, c2⟩ := k2.cell
  clear AW b kA bA hgs
  go_wp2_with fail
  refine (make_any neg A n c x e w2 (ha.below b2) (by omega) (hT.below b2) he1 he2).mono ?_
  rintro e' w3 ⟨v3, rfl, n3, b⟩
  have b3 := b2.trans (b.mono b2.size)
  have b3' := b
  have k3 := k2.below b g2
  have g3 : w.heap.size < w3.heap.size := Nat.lt_of_lt_of_le g2 b.size
  have hm1 := Lib.hid (mkD_m_le neg (vs B64 x n) e)
  have HOK : Hid (∀ (m : Nat) (f : Nat → Nat), (mkD neg (vs B64 x n) e).ok = true → Cn m f → vs B64 f m = (mkD neg (vs B64 x n) e).m → plainB (mkD neg (vs B64 x n) e).neg m f (mkD neg (vs B64 x n) e).e = true) := Lib.hid (fun m f h1 h2 h3 => mkD_ok h1 h2 h3)
  have RM := Lib.hid (fun w' (h : Below w2.heap.size w2 w') => rmake_any neg A n c x e w' ((ha.below b2).below h) (by omega) ((hT.below b2).below h) he1 he2)
  clear b k2 c0 c1 c2
  generalize mkD neg (vs B64 x n) e = r at *
  obtain ⟨A3, p3, c3, f3, rfl, m3⟩ := n3
  obtain ⟨c0, c1, c2⟩ := k3.cell
  go_wp2_with fail
  have b23 : Below w2.heap.size w2 w3 := b3'
  have bB := (Below.refl w3.heap.size w3).alloc (Nat.le_refl _) (cd3 (.bool r.neg) (.slice A3 p3 c3) (.int .i64 r.e))
  have ka := Blk3.made w3 (.bool r.neg) (.slice A3 p3 c3) (.int .i64 r.e)
  have hga : w3.heap.size < (w3.alloc (cd3 (.bool r.neg) (.slice A3 p3 c3) (.int .i64 r.e))).heap.size := by simp
  refine (RM.out _ (b23.trans (bB.mono b23.size))).mono ?_
  rintro e' w4 ⟨v4, rfl, n4, b⟩
  have b34 := bB.trans (b.mono bB.size)
  have b4 := b3.trans (b34.mono b3.size)
  have k4 := k3.below b34 g3
  have ka4 := ka.below b hga
  have g4 : w.heap.size < w4.heap.size := Nat.lt_of_lt_of_le g3 b34.size
  have ga4 : w3.heap.size < w4.heap.size := Nat.lt_of_lt_of_le hga b.size
  have m34 : Num w4 (.slice A3 p3 c3) r.m := Num.below ⟨A3, p3, c3, f3, rfl, m3⟩ b34
  clear b RM bB ka hga b34 b23 b3' k3 c0 c1 c2
  obtain ⟨A4, p4, c4, f4, rfl, m4⟩ := n4
  obtain ⟨c0, c1, c2⟩ := k4.cell
  go_wp2_with fail
  have bB := (Below.refl w4.heap.size w4).alloc (Nat.le_refl _) (cd3 (.bool r.neg) (.slice A4 p4 c4) (.int .i64 r.e))
  have kb := Blk3.made w4 (.bool r.neg) (.slice A4 p4 c4) (.int .i64 r.e)
  have hgb : w4.heap.size < (w4.alloc (cd3 (.bool r.neg) (.slice A4 p4 c4) (.int .i64 r.e))).heap.size := by simp
  have bB4 := b4.trans (bB.mono b4.size)
  have NG := Lib.hid (neg_any neg A n c x e _ (ha.below bB4) (by omega) (hT.below bB4))
  refine NG.out.mono ?_
  rintro e' w5 ⟨v5, rfl, n5, b⟩
  have b45 := bB.trans (b.mono bB.size)
  have b5 := b4.trans (b45.mono b4.size)
  have k5 := k4.below b45 g4
  have ka5 := ka4.below b45 ga4
  have kb5 := kb.below b hgb
  have g5 : w.heap.size < w5.heap.size := Nat.lt_of_lt_of_le g4 b45.size
  have ga5 : w3.heap.size < w5.heap.size := Nat.lt_of_lt_of_le ga4 b45.size
  have gb5 : w4.heap.size < w5.heap.size := Nat.lt_of_lt_of_le hgb b.size
  have m35 := m34.below b45
  have m45 : Num w5 (.slice A4 p4 c4) r.m := Num.below ⟨A4, p4, c4, f4, rfl, m4⟩ b45
  have hm2 := Lib.hid (negD_m_le (plainB neg n x e) neg n (vs B64 x n) e)
  have RN := Lib.hid (fun w' (h : Below w.heap.size w w') => rneg_any neg A n c x e w' (ha.below h) (by omega) (hT.below h))
  clear b NG bB kb hgb b45 bB4 k4 ka4 m34 c0 c1 c2
  generalize negD (plainB neg n x e) neg n (vs B64 x n) e = s at *
  obtain ⟨A5, p5, c5, f5, rfl, m5⟩ := n5
  obtain ⟨c0, c1, c2⟩ := k5.cell
  go_wp2_with fail
  have bB := (Below.refl w5.heap.size w5).alloc (Nat.le_refl _) (cd3 (.bool s.neg) (.slice A5 p5 c5) (.int .i64 s.e))
  have kc := Blk3.made w5 (.bool s.neg) (.slice A5 p5 c5) (.int .i64 s.e)
  have hgc : w5.heap.size < (w5.alloc (cd3 (.bool s.neg) (.slice A5 p5 c5) (.int .i64 s.e))).heap.size := by simp
  refine (RN.out _ (b5.trans (bB.mono b5.size))).mono ?_
  rintro e' w6 ⟨v6, rfl, n6, b⟩
  have b56 := bB.trans (b.mono bB.size)
  have b6 := b5.trans (b56.mono b5.size)
  have k6 := k5.below b56 g5
  have ka6 := ka5.below b56 ga5
  have kb6 := kb5.below b56 gb5
  have kc6 := kc.below b hgc
  have g6 : w.heap.size < w6.heap.size := Nat.lt_of_lt_of_le g5 b56.size
  have ga6 : w3.heap.size < w6.heap.size := Nat.lt_of_lt_of_le ga5 b56.size
  have gb6 : w4.heap.size < w6.heap.size := Nat.lt_of_lt_of_le gb5 b56.size
  have gc6 : w5.heap.size < w6.heap.size := Nat.lt_of_lt_of_le hgc b.size
  have m36 := m35.below b56
  have m46 := m45.below b56
  have m56 : Num w6 (.slice A5 p5 c5) s.m := Num.below ⟨A5, p5, c5, f5, rfl, m5⟩ b56
  clear b RN bB kc hgc b56 k5 ka5 kb5 m35 m45 c0 c1 c2
  obtain ⟨A6, p6, c6, f6, rfl, m6⟩ := n6
  have m66 : Num w6 (.slice A6 p6 c6) s.m := ⟨A6, p6, c6, f6, rfl, m6⟩
  obtain ⟨c0, c1, c2⟩ := k6.cell
  go_wp2_with fail
  have bB := (Below.refl w6.heap.size w6).alloc (Nat.le_refl _) (cd3 (.bool s.neg) (.slice A6 p6 c6) (.int .i64 s.e))
  have b7 := b6.trans (bB.mono b6.size)
  have kd := Blk3.made w6 (.bool s.neg) (.slice A6 p6 c6) (.int .i64 s.e)
  have k7 := (k6.below bB g6).cell
  have ka7 := (ka6.below bB ga6).cell
  have kb7 := (kb6.below bB gb6).cell
  have kc7 := (kc6.below bB gc6).cell
  have kd7 := kd.cell
  have gd : w6.heap.size < (w6.alloc (cd3 (.bool s.neg) (.slice A6 p6 c6) (.int .i64 s.e))).heap.size := by simp
  have g7 := Nat.lt_trans g6 gd
  have ga7 := Nat.lt_trans ga6 gd
  have gb7 := Nat.lt_trans gb6 gd
  have gc7 := Nat.lt_trans gc6 gd
  have m37 := m36.below bB
  have m47 := m46.below bB
  have m57 := m56.below bB
  have m67 := m66.below bB
  clear bB k6 ka6 kb6 kc6 kd m36 m46 m56 m66 c0 c1 c2
  generalize w6.alloc (cd3 (.bool s.neg) (.slice A6 p6 c6) (.int .i64 s.e)) = w7 at *
  have sA := ha.below b7
  have KEEP : Hid (∀ w', Below w7.heap.size w7 w' → (w'.cell? ⟨w.heap.size, 0, none⟩ = some (.bool neg) ∧ w'.cell? ⟨w.heap.size, 1, none⟩ = some (.slice A n c) ∧ w'.cell? ⟨w.heap.size, 2, none⟩ = some (.int .i64 e)) ∧
      (w'.cell? ⟨w3.heap.size, 0, none⟩ = some (.bool r.neg) ∧ w'.cell? ⟨w3.heap.size, 1, none⟩ = some (.slice A3 p3 c3) ∧ w'.cell? ⟨w3.heap.size, 2, none⟩ = some (.int .i64 r.e)) ∧
      (w'.cell? ⟨w4.heap.size, 0, none⟩ = some (.bool r.neg) ∧ w'.cell? ⟨w4.heap.size, 1, none⟩ = some (.slice A4 p4 c4) ∧ w'.cell? ⟨w4.heap.size, 2, none⟩ = some (.int .i64 r.e)) ∧
      (w'.cell? ⟨w5.heap.size, 0, none⟩ = some (.bool s.neg) ∧ w'.cell? ⟨w5.heap.size, 1, none⟩ = some (.slice A5 p5 c5) ∧ w'.cell? ⟨w5.heap.size, 2, none⟩ = some (.int .i64 s.e)) ∧
      (w'.cell? ⟨w6.heap.size, 0, none⟩ = some (.bool s.neg) ∧ w'.cell? ⟨w6.heap.size, 1, none⟩ = some (.slice A6 p6 c6) ∧ w'.cell? ⟨w6.heap.size, 2, none⟩ = some (.int .i64 s.e))) := Lib.hid (fun w' h => 
    ⟨⟨(h.cell g7).trans k7.1, (h.cell g7).trans k7.2.1, (h.cell g7).trans k7.2.2⟩, ⟨(h.cell ga7).trans ka7.1, (h.cell ga7).trans ka7.2.1, (h.cell ga7).trans ka7.2.2⟩, ⟨(h.cell gb7).trans kb7.1, (h.cell gb7).trans kb7.2.1, (h.cell gb7).trans kb7.2.2⟩,
      ⟨(h.cell gc7).trans kc7.1, (h.cell gc7).trans kc7.2.1, (h.cell gc7).trans kc7.2.2⟩, ⟨(h.cell gd).trans kd7.1, (h.cell gd).trans kd7.2.1, (h.cell gd).trans kd7.2.2⟩⟩)
  have PLd : Hid (∀ w', Below w7.heap.size w7 w' → Calls Tryd.prog 15 #[.agg #[.bool neg, .slice A n c, .int .i64 e]] w' fun o w'' => o = .returned (.bool (plainB neg n x e)) ∧ Below w7.heap.size w7 w'') := Lib.hid (fun w' h =>
    (plain_any neg A n c x e w' (sA.below h) (by omega)).mono fun o w'' ⟨h1, h2⟩ => ⟨h1, h.trans (h2.mono h.size)⟩)
  have RPL : Hid (∀ w', Below w7.heap.size w7 w' → Calls Tryd.prog 16 #[.agg #[.bool neg, .slice A n c, .int .i64 e]] w' fun o w'' => o = .returned (.bool (plainB neg n x e)) ∧ Below w7.heap.size w7 w'') := Lib.hid (fun w' h =>
    (rplain_any neg A n c x e w' (sA.below h) (by omega)).mono fun o w'' ⟨h1, h2⟩ => ⟨h1, h.trans (h2.mono h.size)⟩)
  have BO1 : Hid (∀ w', Below w7.heap.size w7 w' → Calls Tryd.prog 17 #[.agg #[.bool r.neg, .slice A3 p3 c3, .int .i64 r.e], .bool r.ok, .agg #[.bool r.neg, .slice A4 p4 c4, .int .i64 r.e], .bool r.ok] w' fun o w'' => o = .returned (.bool true) ∧ Below w7.heap.size w7 w'') := Lib.hid (fun w' h =>
    (both_any r.neg r.ok r.e w' (m37.below h) (m47.below h) n (by omega) (Nat.lt_of_le_of_lt hm1.out KX.out)).mono fun o w'' ⟨h1, h2⟩ => ⟨h1, h.trans (h2.mono h.size)⟩)
  have BO2 : Hid (∀ w', Below w7.heap.size w7 w' → Calls Tryd.prog 17 #[.agg #[.bool s.neg, .slice A5 p5 c5, .int .i64 s.e], .bool s.ok, .agg #[.bool s.neg, .slice A6 p6 c6, .int .i64 s.e], .bool s.ok] w' fun o w'' => o = .returned (.bool true) ∧ Below w7.heap.size w7 w'') := Lib.hid (fun w' h =>
    (both_any s.neg s.ok s.e w' (m57.below h) (m67.below h) n (by omega) (Nat.lt_of_le_of_lt hm2.out KX.out)).mono fun o w'' ⟨h1, h2⟩ => ⟨h1, h.trans (h2.mono h.size)⟩)
  have lp3 : p3 ≤ n := cn_le B64_gt m3.2.1 (by rw [m3.2.2]; exact Nat.lt_of_le_of_lt hm1.out KX.out)
  obtain ⟨_, _, _, f7, hh, s7, cn7, e7⟩ := id m37
  cases hh
  have PLa : Hid (∀ w', Below w7.heap.size w7 w' → Calls Tryd.prog 15 #[.agg #[.bool r.neg, .slice A3 p3 c3, .int .i64 r.e]] w' fun o w'' => o = .returned (.bool (plainB r.neg p3 f7 r.e)) ∧ Below w7.heap.size w7 w'') := Lib.hid (fun w' h =>
    (plain_any r.neg A3 p3 c3 f7 r.e w' (s7.below h) (by omega)).mono fun o w'' ⟨h1, h2⟩ => ⟨h1, h.trans (h2.mono h.size)⟩)
  have HPA := Lib.hid (fun (hok : r.ok = true) => HOK.out p3 f7 hok cn7 e7)
  clear HOK e7 s7 cn7 k7 ka7 kb7 kc7 kd7 m37 m47 m57 m67 sA hm1 hm2 g7 ga7 gb7 gc7 gd g6 ga6 gb6 gc6 b6 b5 b4 b3 b2 g5 ga5 gb5 g4 ga4 g3 g2 m3 m4 m5 m6 lp3
  generalize plainB neg n x e = pb at *
  have okc := Bool.eq_false_or_eq_true r.ok
  rcases okc with hok | hok
  · rw [HPA.out hok] at PLa
    rw [hok] at BO1
    simp only [hok]
    clear HPA hok
    cases pb
    · go_wp2_with fail
      go_region_held3 (fun w' => (w'.cell? ⟨w.heap.size, 0, none⟩ = some (.bool neg) ∧ w'.cell? ⟨w.heap.size, 1, none⟩ = some (.slice A n c) ∧ w'.cell? ⟨w.heap.size, 2, none⟩ = some (.int .i64 e)) ∧
          (w'.cell? ⟨w3.heap.size, 0, none⟩ = some (.bool r.neg) ∧ w'.cell? ⟨w3.heap.size, 1, none⟩ = some (.slice A3 p3 c3) ∧ w'.cell? ⟨w3.heap.size, 2, none⟩ = some (.int .i64 r.e)) ∧
          (w'.cell? ⟨w4.heap.size, 0, none⟩ = some (.bool r.neg) ∧ w'.cell? ⟨w4.heap.size, 1, none⟩ = some (.slice A4 p4 c4) ∧ w'.cell? ⟨w4.heap.size, 2, none⟩ = some (.int .i64 r.e)) ∧
          (w'.cell? ⟨w5.heap.size, 0, none⟩ = some (.bool s.neg) ∧ w'.cell? ⟨w5.heap.size, 1, none⟩ = some (.slice A5 p5 c5) ∧ w'.cell? ⟨w5.heap.size, 2, none⟩ = some (.int .i64 s.e)) ∧
          (w'.cell? ⟨w6.heap.size, 0, none⟩ = some (.bool s.neg) ∧ w'.cell? ⟨w6.heap.size, 1, none⟩ = some (.slice A6 p6 c6) ∧ w'.cell? ⟨w6.heap.size, 2, none⟩ = some (.int .i64 s.e)))
        (first | exact KEEP.out _ bZ | exact KEEP.out _ (Below.refl _ _) | exact KEEP.out _ (Below.refl _ w7).drew)
        (first
          | (go_at_call_of 15 (Value.slice A n c); refine (PLd.out _ (by first | exact Below.refl _ _ | exact (Below.refl _ w7).drew | exact bZ)).mono ?_; rintro e' wZ ⟨rfl, bZ⟩)
          | (go_at_call_of 16 (Value.slice A n c); refine (RPL.out _ (by first | exact bZ)).mono ?_; rintro e' wZ ⟨rfl, bZ⟩)
          | (go_at_call_of 17 (Value.slice A3 p3 c3); refine (BO1.out _ (by first | exact bZ)).mono ?_; rintro e' wZ ⟨rfl, bZ⟩)
          | (go_at_call_of 17 (Value.slice A5 p5 c5); refine (BO2.out _ (by first | exact bZ)).mono ?_; rintro e' wZ ⟨rfl, bZ⟩)
          | (go_at_call_of 15 (Value.slice A3 p3 c3); refine (PLa.out _ (by first | exact bZ)).mono ?_; rintro e' wZ ⟨rfl, bZ⟩))
      all_goals (go_wp2_with fail)
      all_goals go_ret
      all_goals exact ⟨rfl, b7.trans (bZ.mono b7.size)⟩
    · go_wp2_with fail
      go_region_held3 (fun w' => (w'.cell? ⟨w.heap.size, 0, none⟩ = some (.bool neg) ∧ w'.cell? ⟨w.heap.size, 1, none⟩ = some (.slice A n c) ∧ w'.cell? ⟨w.heap.size, 2, none⟩ = some (.int .i64 e)) ∧
          (w'.cell? ⟨w3.heap.size, 0, none⟩ = some (.bool r.neg) ∧ w'.cell? ⟨w3.heap.size, 1, none⟩ = some (.slice A3 p3 c3) ∧ w'.cell? ⟨w3.heap.size, 2, none⟩ = some (.int .i64 r.e)) ∧
          (w'.cell? ⟨w4.heap.size, 0, none⟩ = some (.bool r.neg) ∧ w'.cell? ⟨w4.heap.size, 1, none⟩ = some (.slice A4 p4 c4) ∧ w'.cell? ⟨w4.heap.size, 2, none⟩ = some (.int .i64 r.e)) ∧
          (w'.cell? ⟨w5.heap.size, 0, none⟩ = some (.bool s.neg) ∧ w'.cell? ⟨w5.heap.size, 1, none⟩ = some (.slice A5 p5 c5) ∧ w'.cell? ⟨w5.heap.size, 2, none⟩ = some (.int .i64 s.e)) ∧
          (w'.cell? ⟨w6.heap.size, 0, none⟩ = some (.bool s.neg) ∧ w'.cell? ⟨w6.heap.size, 1, none⟩ = some (.slice A6 p6 c6) ∧ w'.cell? ⟨w6.heap.size, 2, none⟩ = some (.int .i64 s.e)))
        (first | exact KEEP.out _ bZ | exact KEEP.out _ (Below.refl _ _) | exact KEEP.out _ (Below.refl _ w7).drew)
        (first
          | (go_at_call_of 15 (Value.slice A n c); refine (PLd.out _ (by first | exact Below.refl _ _ | exact (Below.refl _ w7).drew | exact bZ)).mono ?_; rintro e' wZ ⟨rfl, bZ⟩)
          | (go_at_call_of 16 (Value.slice A n c); refine (RPL.out _ (by first | exact bZ)).mono ?_; rintro e' wZ ⟨rfl, bZ⟩)
          | (go_at_call_of 17 (Value.slice A3 p3 c3); refine (BO1.out _ (by first | exact bZ)).mono ?_; rintro e' wZ ⟨rfl, bZ⟩)
          | (go_at_call_of 17 (Value.slice A5 p5 c5); refine (BO2.out _ (by first | exact bZ)).mono ?_; rintro e' wZ ⟨rfl, bZ⟩)
          | (go_at_call_of 15 (Value.slice A3 p3 c3); refine (PLa.out _ (by first | exact bZ)).mono ?_; rintro e' wZ ⟨rfl, bZ⟩))
      all_goals (go_wp2_with fail)
      all_goals go_ret
      all_goals exact ⟨rfl, b7.trans (bZ.mono b7.size)⟩
  · rw [hok] at BO1
    simp only [hok]
    clear HPA hok PLa
    cases pb
    · go_wp2_with fail
      refine wp_region_noPanic ?_
      refine wp_region_held_drew (S := (fun w' => (w'.cell? ⟨w.heap.size, 0, none⟩ = some (.bool neg) ∧ w'.cell? ⟨w.heap.size, 1, none⟩ = some (.slice A n c) ∧ w'.cell? ⟨w.heap.size, 2, none⟩ = some (.int .i64 e)) ∧
          (w'.cell? ⟨w3.heap.size, 0, none⟩ = some (.bool r.neg) ∧ w'.cell? ⟨w3.heap.size, 1, none⟩ = some (.slice A3 p3 c3) ∧ w'.cell? ⟨w3.heap.size, 2, none⟩ = some (.int .i64 r.e)) ∧
          (w'.cell? ⟨w4.heap.size, 0, none⟩ = some (.bool r.neg) ∧ w'.cell? ⟨w4.heap.size, 1, none⟩ = some (.slice A4 p4 c4) ∧ w'.cell? ⟨w4.heap.size, 2, none⟩ = some (.int .i64 r.e)) ∧
          (w'.cell? ⟨w5.heap.size, 0, none⟩ = some (.bool s.neg) ∧ w'.cell? ⟨w5.heap.size, 1, none⟩ = some (.slice A5 p5 c5) ∧ w'.cell? ⟨w5.heap.size, 2, none⟩ = some (.int .i64 s.e)) ∧
          (w'.cell? ⟨w6.heap.size, 0, none⟩ = some (.bool s.neg) ∧ w'.cell? ⟨w6.heap.size, 1, none⟩ = some (.slice A6 p6 c6) ∧ w'.cell? ⟨w6.heap.size, 2, none⟩ = some (.int .i64 s.e)))) (by kernel_rfl) (KEEP.out _ (Below.refl _ w7).drew) (fun hHeld => ?_)
      refine wpAnyH_take (i := 0) (v := ?v1x0) rfl (by kernel_rfl) (by kernel_rfl) (by kernel_rfl) (fun _ _ _ h => h) (Or.inl ⟨by rfl, ?hy1x0⟩) (by assumption) ?rest1x0
      case hy1x0 => (intro w hSw; (try dsimp only at hSw); go_simp; try with_reducible rfl)
      try simp only [Act.put, List.setIfInBounds_toArray, List.set_cons_zero, List.set_cons_succ]
      refine wpAnyH_take (i := 2) (v := ?v1x2) rfl (by kernel_rfl) (by kernel_rfl) (by kernel_rfl) (fun _ _ _ h => h) (Or.inl ⟨by rfl, ?hy1x2⟩) (by assumption) ?rest1x2
      case hy1x2 => (intro w hSw; (try dsimp only at hSw); go_simp; try with_reducible rfl)
      try simp only [Act.put, List.setIfInBounds_toArray, List.set_cons_zero, List.set_cons_succ]
      refine wpAnyH_ready (rs := [1]) (by kernel_rfl) (by simp) ?_
      refine AllReadyH.cons rfl (fun K hK => ?_) AllReadyH.nil
      go_simp
      refine (PLd.out _ (Below.refl _ w7).drew).mono ?_
      rintro e' wZ ⟨rfl, bZ⟩
      refine hK.out _ _ (KEEP.out _ bZ) (fun hHeld => ?_)
      clear hK K
      try simp only [Act.put, List.setIfInBounds_toArray, List.set_cons_zero, List.set_cons_succ]
      refine wpAnyH_ready (rs := [3]) (by kernel_rfl) (by simp) ?_
      refine AllReadyH.cons rfl (fun K hK => ?_) AllReadyH.nil
      go_simp
      refine (RPL.out _ bZ).mono ?_
      rintro e' wZ ⟨rfl, bZ⟩
      refine hK.out _ _ (KEEP.out _ bZ) (fun hHeld => ?_)
      clear hK K
      try simp only [Act.put, List.setIfInBounds_toArray, List.set_cons_zero, List.set_cons_succ]
      refine wpAnyH_take (i := 4) (v := ?v1x4) rfl (by kernel_rfl) (by kernel_rfl) (by kernel_rfl) (fun _ _ _ h => h) (Or.inl ⟨by rfl, ?hy1x4⟩) (by assumption) ?rest1x4
      case hy1x4 => (intro w hSw; (try dsimp only at hSw); go_simp; try with_reducible rfl)
      try simp only [Act.put, List.setIfInBounds_toArray, List.set_cons_zero, List.set_cons_succ]
      refine wpAnyH_take (i := 5) (v := ?v1x5) rfl (by kernel_rfl) (by kernel_rfl) (by kernel_rfl) (fun _ _ _ h => h) (Or.inl ⟨by rfl, ?hy1x5⟩) (by assumption) ?rest1x5
      case hy1x5 => (intro w hSw; (try dsimp only at hSw); go_simp; try with_reducible rfl)
      try simp only [Act.put, List.setIfInBounds_toArray, List.set_cons_zero, List.set_cons_succ]
      refine wpAnyH_take (i := 6) (v := ?v1x6) rfl (by kernel_rfl) (by kernel_rfl) (by kernel_rfl) (fun _ _ _ h => h) (Or.inl ⟨by rfl, ?hy1x6⟩) (by assumption) ?rest1x6
      case hy1x6 => (intro w hSw; (try dsimp only at hSw); go_simp; try with_reducible rfl)
      try simp only [Act.put, List.setIfInBounds_toArray, List.set_cons_zero, List.set_cons_succ]
      refine wpAnyH_take (i := 7) (v := ?v1x7) rfl (by kernel_rfl) (by kernel_rfl) (by kernel_rfl) (fun _ _ _ h => h) (Or.inl ⟨by rfl, ?hy1x7⟩) (by assumption) ?rest1x7
      case hy1x7 => (intro w hSw; (try dsimp only at hSw); go_simp; try with_reducible rfl)
      try simp only [Act.put, List.setIfInBounds_toArray, List.set_cons_zero, List.set_cons_succ]
      refine wpAnyH_take (i := 8) (v := ?v1x8) rfl (by kernel_rfl) (by kernel_rfl) (by kernel_rfl) (fun _ _ _ h => h) (Or.inl ⟨by rfl, ?hy1x8⟩) (by assumption) ?rest1x8
      case hy1x8 => (intro w hSw; (try dsimp only at hSw); go_simp; try with_reducible rfl)
      try simp only [Act.put, List.setIfInBounds_toArray, List.set_cons_zero, List.set_cons_succ]
      refine wpAnyH_take (i := 9) (v := ?v1x9) rfl (by kernel_rfl) (by kernel_rfl) (by kernel_rfl) (fun _ _ _ h => h) (Or.inl ⟨by rfl, ?hy1x9⟩) (by assumption) ?rest1x9
      case hy1x9 => (intro w hSw; (try dsimp only at hSw); go_simp; try with_reducible rfl)
      try simp only [Act.put, List.setIfInBounds_toArray, List.set_cons_zero, List.set_cons_succ]
      refine wpAnyH_ready (rs := [10]) (by kernel_rfl) (by simp) ?_
      refine AllReadyH.cons rfl (fun K hK => ?_) AllReadyH.nil
      go_simp
      refine (BO1.out _ bZ).mono ?_
      rintro e' wZ ⟨rfl, bZ⟩
      refine hK.out _ _ (KEEP.out _ bZ) (fun hHeld => ?_)
      clear hK K
      try simp only [Act.put, List.setIfInBounds_toArray, List.set_cons_zero, List.set_cons_succ]
      refine wpAnyH_take (i := 11) (v := ?v1x11) rfl (by kernel_rfl) (by kernel_rfl) (by kernel_rfl) (fun _ _ _ h => h) (Or.inl ⟨by rfl, ?hy1x11⟩) (by assumption) ?rest1x11
      case hy1x11 => (intro w hSw; (try dsimp only at hSw); go_simp; try with_reducible rfl)
      try simp only [Act.put, List.setIfInBounds_toArray, List.set_cons_zero, List.set_cons_succ]
      refine wpAnyH_take (i := 12) (v := ?v1x12) rfl (by kernel_rfl) (by kernel_rfl) (by kernel_rfl) (fun _ _ _ h => h) (Or.inl ⟨by rfl, ?hy1x12⟩) (by assumption) ?rest1x12
      case hy1x12 => (intro w hSw; (try dsimp only at hSw); go_simp; try with_reducible rfl)
      try simp only [Act.put, List.setIfInBounds_toArray, List.set_cons_zero, List.set_cons_succ]
      refine wpAnyH_take (i := 13) (v := ?v1x13) rfl (by kernel_rfl) (by kernel_rfl) (by kernel_rfl) (fun _ _ _ h => h) (Or.inl ⟨by rfl, ?hy1x13⟩) (by assumption) ?rest1x13
      case hy1x13 => (intro w hSw; (try dsimp only at hSw); go_simp; try with_reducible rfl)
      try simp only [Act.put, List.setIfInBounds_toArray, List.set_cons_zero, List.set_cons_succ]
      refine wpAnyH_take (i := 14) (v := ?v1x14) rfl (by kernel_rfl) (by kernel_rfl) (by kernel_rfl) (fun _ _ _ h => h) (Or.inl ⟨by rfl, ?hy1x14⟩) (by assumption) ?rest1x14
      case hy1x14 => (intro w hSw; (try dsimp only at hSw); go_simp; try with_reducible rfl)
      try simp only [Act.put, List.setIfInBounds_toArray, List.set_cons_zero, List.set_cons_succ]
      refine wpAnyH_take (i := 15) (v := ?v1x15) rfl (by kernel_rfl) (by kernel_rfl) (by kernel_rfl) (fun _ _ _ h => h) (Or.inl ⟨by rfl, ?hy1x15⟩) (by assumption) ?rest1x15
      case hy1x15 => (intro w hSw; (try dsimp only at hSw); go_simp; try with_reducible rfl)
      try simp only [Act.put, List.setIfInBounds_toArray, List.set_cons_zero, List.set_cons_succ]
      refine wpAnyH_take (i := 16) (v := ?v1x16) rfl (by kernel_rfl) (by kernel_rfl) (by kernel_rfl) (fun _ _ _ h => h) (Or.inl ⟨by rfl, ?hy1x16⟩) (by assumption) ?rest1x16
      case hy1x16 => (intro w hSw; (try dsimp only at hSw); go_simp; try with_reducible rfl)
      try simp only [Act.put, List.setIfInBounds_toArray, List.set_cons_zero, List.set_cons_succ]
      refine wpAnyH_ready (rs := [17]) (by kernel_rfl) (by simp) ?_
      refine AllReadyH.cons rfl (fun K hK => ?_) AllReadyH.nil
      go_simp
      refine (BO2.out _ bZ).mono ?_
      rintro e' wZ ⟨rfl, bZ⟩
      refine hK.out _ _ (KEEP.out _ bZ) (fun hHeld => ?_)
      clear hK K
      try simp only [Act.put, List.setIfInBounds_toArray, List.set_cons_zero, List.set_cons_succ]
      refine wpAnyH_take (i := 18) (v := ?v1x18) rfl (by kernel_rfl) (by kernel_rfl) (by kernel_rfl) (fun _ _ _ h => h) (Or.inl ⟨by rfl, ?hy1x18⟩) (by assumption) ?rest1x18
      case hy1x18 => (intro w hSw; (try dsimp only at hSw); go_simp; try with_reducible rfl)
      try simp only [Act.put, List.setIfInBounds_toArray, List.set_cons_zero, List.set_cons_succ]
      refine wpAnyH_take (i := 19) (v := ?v1x19) rfl (by kernel_rfl) (by kernel_rfl) (by kernel_rfl) (fun _ _ _ h => h) (Or.inl ⟨by rfl, ?hy1x19⟩) (by assumption) ?rest1x19
      case hy1x19 => (intro w hSw; (try dsimp only at hSw); go_simp; try with_reducible rfl)
      try simp only [Act.put, List.setIfInBounds_toArray, List.set_cons_zero, List.set_cons_succ]
      refine wpAnyH_take (i := 20) (v := ?v1x20) rfl (by kernel_rfl) (by kernel_rfl) (by kernel_rfl) (fun _ _ _ h => h) (Or.inl ⟨by rfl, ?hy1x20⟩) (by assumption) ?rest1x20
      case hy1x20 => (intro w hSw; (try dsimp only at hSw); go_simp; try with_reducible rfl)
      try simp only [Act.put, List.setIfInBounds_toArray, List.set_cons_zero, List.set_cons_succ]
      refine wpAnyH_take (i := 21) (v := ?v1x21) rfl (by kernel_rfl) (by kernel_rfl) (by kernel_rfl) (fun _ _ _ h => h) (Or.inl ⟨by rfl, ?hy1x21⟩) (by assumption) ?rest1x21
      case hy1x21 => (intro w hSw; (try dsimp only at hSw); go_simp; try with_reducible rfl)
      try simp only [Act.put, List.setIfInBounds_toArray, List.set_cons_zero, List.set_cons_succ]
      refine wpAnyH_take (i := 22) (v := ?v1x22) rfl (by kernel_rfl) (by kernel_rfl) (by kernel_rfl) (fun _ _ _ h => h) (Or.inl ⟨by rfl, ?hy1x22⟩) (by assumption) ?rest1x22
      case hy1x22 => (intro w hSw; (try dsimp only at hSw); go_simp; try with_reducible rfl)
      try simp only [Act.put, List.setIfInBounds_toArray, List.set_cons_zero, List.set_cons_succ]
      refine wpAnyH_take (i := 23) (v := undef) rfl (by kernel_rfl) (by kernel_rfl) (by kernel_rfl) (fun _ _ _ h => h) (Or.inr ⟨by rfl, rfl⟩) (by assumption) ?_
      try simp only [Act.put, List.setIfInBounds_toArray, List.set_cons_zero, List.set_cons_succ]
      refine wpAnyH_ready (rs := [24]) (by kernel_rfl) (by simp) ?_
      refine AllReadyH.cons rfl (fun K hK => ?_) AllReadyH.nil
      go_simp
      refine hK.out _ _ (KEEP.out _ bZ) (fun hHeld => ?_)
      clear hK K
      try simp only [Act.put, List.setIfInBounds_toArray, List.set_cons_zero, List.set_cons_succ]
      refine wpAnyH_take (i := 25) (v := ?v1x25) rfl (by kernel_rfl) (by kernel_rfl) (by kernel_rfl) (fun _ _ _ h => h) (Or.inl ⟨by rfl, ?hy1x25⟩) (by assumption) ?rest1x25
      case hy1x25 => (intro w hSw; (try dsimp only at hSw); go_simp; try with_reducible rfl)
      try simp only [Act.put, List.setIfInBounds_toArray, List.set_cons_zero, List.set_cons_succ]
      refine wpAnyH_take (i := 26) (v := ?v1x26) rfl (by kernel_rfl) (by kernel_rfl) (by kernel_rfl) (fun _ _ _ h => h) (Or.inl ⟨by rfl, ?hy1x26⟩) (by assumption) ?rest1x26
      case hy1x26 => (intro w hSw; (try dsimp only at hSw); go_simp; try with_reducible rfl)
      try simp only [Act.put, List.setIfInBounds_toArray, List.set_cons_zero, List.set_cons_succ]
      refine wpAnyH_take (i := 27) (v := ?v1x27) rfl (by kernel_rfl) (by kernel_rfl) (by kernel_rfl) (fun _ _ _ h => h) (Or.inl ⟨by rfl, ?hy1x27⟩) (by assumption) ?rest1x27
      case hy1x27 => (intro w hSw; (try dsimp only at hSw); go_simp; try with_reducible rfl)
      try simp only [Act.put, List.setIfInBounds_toArray, List.set_cons_zero, List.set_cons_succ]
      refine wpAnyH_done (by kernel_rfl) ?_ _
      refine NoPanic.normal ?_
      simp only [Act.put, List.getElem_toArray, List.getElem_cons_succ, List.getElem_cons_zero, List.setIfInBounds_toArray, List.set_cons_zero, List.set_cons_succ]
      all_goals (go_wp2_with fail)
      all_goals go_ret
      all_goals exact ⟨rfl, b7.trans (bZ.mono b7.size)⟩
    · go_wp2_with fail
      refine wp_region_noPanic ?_
      refine wp_region_held_drew (S := (fun w' => (w'.cell? ⟨w.heap.size, 0, none⟩ = some (.bool neg) ∧ w'.cell? ⟨w.heap.size, 1, none⟩ = some (.slice A n c) ∧ w'.cell? ⟨w.heap.size, 2, none⟩ = some (.int .i64 e)) ∧
          (w'.cell? ⟨w3.heap.size, 0, none⟩ = some (.bool r.neg) ∧ w'.cell? ⟨w3.heap.size, 1, none⟩ = some (.slice A3 p3 c3) ∧ w'.cell? ⟨w3.heap.size, 2, none⟩ = some (.int .i64 r.e)) ∧
          (w'.cell? ⟨w4.heap.size, 0, none⟩ = some (.bool r.neg) ∧ w'.cell? ⟨w4.heap.size, 1, none⟩ = some (.slice A4 p4 c4) ∧ w'.cell? ⟨w4.heap.size, 2, none⟩ = some (.int .i64 r.e)) ∧
          (w'.cell? ⟨w5.heap.size, 0, none⟩ = some (.bool s.neg) ∧ w'.cell? ⟨w5.heap.size, 1, none⟩ = some (.slice A5 p5 c5) ∧ w'.cell? ⟨w5.heap.size, 2, none⟩ = some (.int .i64 s.e)) ∧
          (w'.cell? ⟨w6.heap.size, 0, none⟩ = some (.bool s.neg) ∧ w'.cell? ⟨w6.heap.size, 1, none⟩ = some (.slice A6 p6 c6) ∧ w'.cell? ⟨w6.heap.size, 2, none⟩ = some (.int .i64 s.e)))) (by kernel_rfl) (KEEP.out _ (Below.refl _ w7).drew) (fun hHeld => ?_)
      refine wpAnyH_take (i := 0) (v := ?v2x0) rfl (by kernel_rfl) (by kernel_rfl) (by kernel_rfl) (fun _ _ _ h => h) (Or.inl ⟨by rfl, ?hy2x0⟩) (by assumption) ?rest2x0
      case hy2x0 => (intro w hSw; (try dsimp only at hSw); go_simp; try with_reducible rfl)
      try simp only [Act.put, List.setIfInBounds_toArray, List.set_cons_zero, List.set_cons_succ]
      refine wpAnyH_take (i := 2) (v := ?v2x2) rfl (by kernel_rfl) (by kernel_rfl) (by kernel_rfl) (fun _ _ _ h => h) (Or.inl ⟨by rfl, ?hy2x2⟩) (by assumption) ?rest2x2
      case hy2x2 => (intro w hSw; (try dsimp only at hSw); go_simp; try with_reducible rfl)
      try simp only [Act.put, List.setIfInBounds_toArray, List.set_cons_zero, List.set_cons_succ]
      refine wpAnyH_ready (rs := [1]) (by kernel_rfl) (by simp) ?_
      refine AllReadyH.cons rfl (fun K hK => ?_) AllReadyH.nil
      go_simp
      refine (PLd.out _ (Below.refl _ w7).drew).mono ?_
      rintro e' wZ ⟨rfl, bZ⟩
      refine hK.out _ _ (KEEP.out _ bZ) (fun hHeld => ?_)
      clear hK K
      try simp only [Act.put, List.setIfInBounds_toArray, List.set_cons_zero, List.set_cons_succ]
      refine wpAnyH_ready (rs := [3]) (by kernel_rfl) (by simp) ?_
      refine AllReadyH.cons rfl (fun K hK => ?_) AllReadyH.nil
      go_simp
      refine (RPL.out _ bZ).mono ?_
      rintro e' wZ ⟨rfl, bZ⟩
      refine hK.out _ _ (KEEP.out _ bZ) (fun hHeld => ?_)
      clear hK K
      try simp only [Act.put, List.setIfInBounds_toArray, List.set_cons_zero, List.set_cons_succ]
      refine wpAnyH_take (i := 4) (v := ?v2x4) rfl (by kernel_rfl) (by kernel_rfl) (by kernel_rfl) (fun _ _ _ h => h) (Or.inl ⟨by rfl, ?hy2x4⟩) (by assumption) ?rest2x4
      case hy2x4 => (intro w hSw; (try dsimp only at hSw); go_simp; try with_reducible rfl)
      try simp only [Act.put, List.setIfInBounds_toArray, List.set_cons_zero, List.set_cons_succ]
      refine wpAnyH_take (i := 5) (v := ?v2x5) rfl (by kernel_rfl) (by kernel_rfl) (by kernel_rfl) (fun _ _ _ h => h) (Or.inl ⟨by rfl, ?hy2x5⟩) (by assumption) ?rest2x5
      case hy2x5 => (intro w hSw; (try dsimp only at hSw); go_simp; try with_reducible rfl)
      try simp only [Act.put, List.setIfInBounds_toArray, List.set_cons_zero, List.set_cons_succ]
      refine wpAnyH_take (i := 6) (v := ?v2x6) rfl (by kernel_rfl) (by kernel_rfl) (by kernel_rfl) (fun _ _ _ h => h) (Or.inl ⟨by rfl, ?hy2x6⟩) (by assumption) ?rest2x6
      case hy2x6 => (intro w hSw; (try dsimp only at hSw); go_simp; try with_reducible rfl)
      try simp only [Act.put, List.setIfInBounds_toArray, List.set_cons_zero, List.set_cons_succ]
      refine wpAnyH_take (i := 7) (v := ?v2x7) rfl (by kernel_rfl) (by kernel_rfl) (by kernel_rfl) (fun _ _ _ h => h) (Or.inl ⟨by rfl, ?hy2x7⟩) (by assumption) ?rest2x7
      case hy2x7 => (intro w hSw; (try dsimp only at hSw); go_simp; try with_reducible rfl)
      try simp only [Act.put, List.setIfInBounds_toArray, List.set_cons_zero, List.set_cons_succ]
      refine wpAnyH_take (i := 8) (v := ?v2x8) rfl (by kernel_rfl) (by kernel_rfl) (by kernel_rfl) (fun _ _ _ h => h) (Or.inl ⟨by rfl, ?hy2x8⟩) (by assumption) ?rest2x8
      case hy2x8 => (intro w hSw; (try dsimp only at hSw); go_simp; try with_reducible rfl)
      try simp only [Act.put, List.setIfInBounds_toArray, List.set_cons_zero, List.set_cons_succ]
      refine wpAnyH_take (i := 9) (v := ?v2x9) rfl (by kernel_rfl) (by kernel_rfl) (by kernel_rfl) (fun _ _ _ h => h) (Or.inl ⟨by rfl, ?hy2x9⟩) (by assumption) ?rest2x9
      case hy2x9 => (intro w hSw; (try dsimp only at hSw); go_simp; try with_reducible rfl)
      try simp only [Act.put, List.setIfInBounds_toArray, List.set_cons_zero, List.set_cons_succ]
      refine wpAnyH_ready (rs := [10]) (by kernel_rfl) (by simp) ?_
      refine AllReadyH.cons rfl (fun K hK => ?_) AllReadyH.nil
      go_simp
      refine (BO1.out _ bZ).mono ?_
      rintro e' wZ ⟨rfl, bZ⟩
      refine hK.out _ _ (KEEP.out _ bZ) (fun hHeld => ?_)
      clear hK K
      try simp only [Act.put, List.setIfInBounds_toArray, List.set_cons_zero, List.set_cons_succ]
      refine wpAnyH_take (i := 11) (v := ?v2x11) rfl (by kernel_rfl) (by kernel_rfl) (by kernel_rfl) (fun _ _ _ h => h) (Or.inl ⟨by rfl, ?hy2x11⟩) (by assumption) ?rest2x11
      case hy2x11 => (intro w hSw; (try dsimp only at hSw); go_simp; try with_reducible rfl)
      try simp only [Act.put, List.setIfInBounds_toArray, List.set_cons_zero, List.set_cons_succ]
      refine wpAnyH_take (i := 12) (v := ?v2x12) rfl (by kernel_rfl) (by kernel_rfl) (by kernel_rfl) (fun _ _ _ h => h) (Or.inl ⟨by rfl, ?hy2x12⟩) (by assumption) ?rest2x12
      case hy2x12 => (intro w hSw; (try dsimp only at hSw); go_simp; try with_reducible rfl)
      try simp only [Act.put, List.setIfInBounds_toArray, List.set_cons_zero, List.set_cons_succ]
      refine wpAnyH_take (i := 13) (v := ?v2x13) rfl (by kernel_rfl) (by kernel_rfl) (by kernel_rfl) (fun _ _ _ h => h) (Or.inl ⟨by rfl, ?hy2x13⟩) (by assumption) ?rest2x13
      case hy2x13 => (intro w hSw; (try dsimp only at hSw); go_simp; try with_reducible rfl)
      try simp only [Act.put, List.setIfInBounds_toArray, List.set_cons_zero, List.set_cons_succ]
      refine wpAnyH_take (i := 14) (v := ?v2x14) rfl (by kernel_rfl) (by kernel_rfl) (by kernel_rfl) (fun _ _ _ h => h) (Or.inl ⟨by rfl, ?hy2x14⟩) (by assumption) ?rest2x14
      case hy2x14 => (intro w hSw; (try dsimp only at hSw); go_simp; try with_reducible rfl)
      try simp only [Act.put, List.setIfInBounds_toArray, List.set_cons_zero, List.set_cons_succ]
      refine wpAnyH_take (i := 15) (v := ?v2x15) rfl (by kernel_rfl) (by kernel_rfl) (by kernel_rfl) (fun _ _ _ h => h) (Or.inl ⟨by rfl, ?hy2x15⟩) (by assumption) ?rest2x15
      case hy2x15 => (intro w hSw; (try dsimp only at hSw); go_simp; try with_reducible rfl)
      try simp only [Act.put, List.setIfInBounds_toArray, List.set_cons_zero, List.set_cons_succ]
      refine wpAnyH_take (i := 16) (v := ?v2x16) rfl (by kernel_rfl) (by kernel_rfl) (by kernel_rfl) (fun _ _ _ h => h) (Or.inl ⟨by rfl, ?hy2x16⟩) (by assumption) ?rest2x16
      case hy2x16 => (intro w hSw; (try dsimp only at hSw); go_simp; try with_reducible rfl)
      try simp only [Act.put, List.setIfInBounds_toArray, List.set_cons_zero, List.set_cons_succ]
      refine wpAnyH_ready (rs := [17]) (by kernel_rfl) (by simp) ?_
      refine AllReadyH.cons rfl (fun K hK => ?_) AllReadyH.nil
      go_simp
      refine (BO2.out _ bZ).mono ?_
      rintro e' wZ ⟨rfl, bZ⟩
      refine hK.out _ _ (KEEP.out _ bZ) (fun hHeld => ?_)
      clear hK K
      try simp only [Act.put, List.setIfInBounds_toArray, List.set_cons_zero, List.set_cons_succ]
      refine wpAnyH_take (i := 18) (v := ?v2x18) rfl (by kernel_rfl) (by kernel_rfl) (by kernel_rfl) (fun _ _ _ h => h) (Or.inl ⟨by rfl, ?hy2x18⟩) (by assumption) ?rest2x18
      case hy2x18 => (intro w hSw; (try dsimp only at hSw); go_simp; try with_reducible rfl)
      try simp only [Act.put, List.setIfInBounds_toArray, List.set_cons_zero, List.set_cons_succ]
      refine wpAnyH_take (i := 19) (v := ?v2x19) rfl (by kernel_rfl) (by kernel_rfl) (by kernel_rfl) (fun _ _ _ h => h) (Or.inl ⟨by rfl, ?hy2x19⟩) (by assumption) ?rest2x19
      case hy2x19 => (intro w hSw; (try dsimp only at hSw); go_simp; try with_reducible rfl)
      try simp only [Act.put, List.setIfInBounds_toArray, List.set_cons_zero, List.set_cons_succ]
      refine wpAnyH_take (i := 20) (v := ?v2x20) rfl (by kernel_rfl) (by kernel_rfl) (by kernel_rfl) (fun _ _ _ h => h) (Or.inl ⟨by rfl, ?hy2x20⟩) (by assumption) ?rest2x20
      case hy2x20 => (intro w hSw; (try dsimp only at hSw); go_simp; try with_reducible rfl)
      try simp only [Act.put, List.setIfInBounds_toArray, List.set_cons_zero, List.set_cons_succ]
      refine wpAnyH_take (i := 21) (v := ?v2x21) rfl (by kernel_rfl) (by kernel_rfl) (by kernel_rfl) (fun _ _ _ h => h) (Or.inl ⟨by rfl, ?hy2x21⟩) (by assumption) ?rest2x21
      case hy2x21 => (intro w hSw; (try dsimp only at hSw); go_simp; try with_reducible rfl)
      try simp only [Act.put, List.setIfInBounds_toArray, List.set_cons_zero, List.set_cons_succ]
      refine wpAnyH_take (i := 22) (v := ?v2x22) rfl (by kernel_rfl) (by kernel_rfl) (by kernel_rfl) (fun _ _ _ h => h) (Or.inl ⟨by rfl, ?hy2x22⟩) (by assumption) ?rest2x22
      case hy2x22 => (intro w hSw; (try dsimp only at hSw); go_simp; try with_reducible rfl)
      try simp only [Act.put, List.setIfInBounds_toArray, List.set_cons_zero, List.set_cons_succ]
      refine wpAnyH_take (i := 23) (v := undef) rfl (by kernel_rfl) (by kernel_rfl) (by kernel_rfl) (fun _ _ _ h => h) (Or.inr ⟨by rfl, rfl⟩) (by assumption) ?_
      try simp only [Act.put, List.setIfInBounds_toArray, List.set_cons_zero, List.set_cons_succ]
      refine wpAnyH_ready (rs := [24]) (by kernel_rfl) (by simp) ?_
      refine AllReadyH.cons rfl (fun K hK => ?_) AllReadyH.nil
      go_simp
      refine hK.out _ _ (KEEP.out _ bZ) (fun hHeld => ?_)
      clear hK K
      try simp only [Act.put, List.setIfInBounds_toArray, List.set_cons_zero, List.set_cons_succ]
      refine wpAnyH_take (i := 25) (v := ?v2x25) rfl (by kernel_rfl) (by kernel_rfl) (by kernel_rfl) (fun _ _ _ h => h) (Or.inl ⟨by rfl, ?hy2x25⟩) (by assumption) ?rest2x25
      case hy2x25 => (intro w hSw; (try dsimp only at hSw); go_simp; try with_reducible rfl)
      try simp only [Act.put, List.setIfInBounds_toArray, List.set_cons_zero, List.set_cons_succ]
      refine wpAnyH_take (i := 26) (v := ?v2x26) rfl (by kernel_rfl) (by kernel_rfl) (by kernel_rfl) (fun _ _ _ h => h) (Or.inl ⟨by rfl, ?hy2x26⟩) (by assumption) ?rest2x26
      case hy2x26 => (intro w hSw; (try dsimp only at hSw); go_simp; try with_reducible rfl)
      try simp only [Act.put, List.setIfInBounds_toArray, List.set_cons_zero, List.set_cons_succ]
      refine wpAnyH_take (i := 27) (v := ?v2x27) rfl (by kernel_rfl) (by kernel_rfl) (by kernel_rfl) (fun _ _ _ h => h) (Or.inl ⟨by rfl, ?hy2x27⟩) (by assumption) ?rest2x27
      case hy2x27 => (intro w hSw; (try dsimp only at hSw); go_simp; try with_reducible rfl)
      try simp only [Act.put, List.setIfInBounds_toArray, List.set_cons_zero, List.set_cons_succ]
      refine wpAnyH_done (by kernel_rfl) ?_ _
      refine NoPanic.normal ?_
      simp only [Act.put, List.getElem_toArray, List.getElem_cons_succ, List.getElem_cons_zero, List.setIfInBounds_toArray, List.set_cons_zero, List.set_cons_succ]
      all_goals (go_wp2_with fail)
      all_goals go_ret
      all_goals exact ⟨rfl, b7.trans (bZ.mono b7.size)⟩

theorem makes_any (neg : Bool) (A : Option Addr) (n c : Nat) (x : Nat → Nat) (e : Int) (w : World) (ha : Sl w A n c x) (hn : n ≤ 9223372036854775807) (hT : Tab w) (he1 : -9223372036854775808 ≤ e) (he2 : e ≤ 9223372036854775807) :
    Calls Tryd.prog 3 #[dyv neg A n c e] w (TruePost w) := by
  rcases Nat.lt_or_ge 300 n with h | h
  · exact makes_big neg A n c e w hn h hT
  · exact makes_small neg A n c x e w ha h hT he1 he2
end Go.Proofs.YtijdpmhcgmkjgaaDoor
