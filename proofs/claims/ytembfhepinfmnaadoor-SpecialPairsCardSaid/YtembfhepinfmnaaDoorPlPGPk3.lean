/-
  part's Singular.
  special's spotOf.
  special's Special.
-/
import Derived.Deep.DeepCutAuto
import Derived.Test.YtembfhepinfmnaaDoorPlPGPk2
import Derived.Test.YtembfhepinfmnaaDoorPlPGPSing4
import Derived.Test.YtembfhepinfmnaaDoorPlPGPSing5
import Derived.Test.YtembfhepinfmnaaDoorPlPGPLine3
namespace Go.Proofs.YtembfhepinfmnaaDoor
open Go.RowKit

theorem fin_ne {b : Nat} (h : (numD b).ok = true) : exN b ≠ 2047 := by
  rw [pnum_ok] at h
  unfold finB at h
  simpa using h
theorem zer_m {b : Nat} (h : (numD b).ok = true) : decide ((numD b).m = 0) = zerB b := by
  unfold zerB
  rw [decide_eq_decide]
  exact num_m_zero (fin_ne h)
theorem one_m {b : Nat} (h : (numD b).ok = true) : decide (ordD false false (numD b).m 1 (numD b).e 0 = 0) = oneB b := by
  unfold oneB
  rw [decide_eq_decide]
  exact ord_one (fin_ne h)
theorem plain_abs {b : Nat} (h : (numD b).ok = true) : plainV false (numD b).m (numD b).e = true := by
  obtain ⟨V, e, g, _, _⟩ := good_num (fin_ne h)
  have h1 := g.plain
  unfold plainV at *
  by_cases h0 : (numD b).m = 0
  · rw [if_pos h0] at h1 ⊢
    simp only [Bool.and_eq_true] at h1 ⊢
    exact ⟨h1.1, rfl⟩
  · rw [if_neg h0] at h1 ⊢
    exact h1
def BP (w : World) (b : Bool) (e : Ending) (w' : World) : Prop := e = .returned (.bool b) ∧ Below w.heap.size w w'

set_option maxHeartbeats 1000000 in
theorem sing_out (tag : Int) (a b c d : Nat) (w : World) (h : tag < 0 ∨ 20 < tag) : Calls Tryd.prog 23 #[.int .i64 tag, .agg (fourC a b c d)] w (BP w false) := by
  have b1 := alloc_bel w (.cells (fourC a b c d) 24)
  have PL := Lib.hid (place_out tag a b c d (w.alloc (.cells (fourC a b c d) 24)) h)
  clear h
  go_enter Tryd.func23, Tryd.ntmps23
  go_wp2_with fail
  refine PL.out.mono ?_
  rintro e' w1 ⟨A1, n1, c1, A2, n2, c2, A3, n3, c3, A4, n4, c4, l, m, rfl, m1, m2, m3, m4, bb⟩
  go_wp2_with fail
  go_ret
  exact ⟨rfl, below_step (below_step b1 bb) (alloc_bel _ _)⟩
-- FROM HERE BY gen_psingular.py
set_option maxHeartbeats 2000000 in
theorem sing_5 (a b c d : Nat) (w : World) (hT : Tab w) (ha : a < B64) (hb : b < B64) (hc : c < B64) (hd : d < B64) : Calls Tryd.prog 23 #[.int .i64 5, .agg (fourC a b c d)] w (BP w (numsB 5 a b c d && (zerB c && zerB d))) := by
  have b1 := alloc_bel w (.cells (fourC a b c d) 24)
  have PL := Lib.hid (place_four5 a b c d (w.alloc (.cells (fourC a b c d) 24)) (hT.below b1) ha hb hc hd)
  have hn : numsB 5 a b c d = ((((numD a).ok && (numD b).ok) && (numD c).ok) && (numD d).ok) := by
    unfold numsB
    rw [pnum_ok, pnum_ok, pnum_ok, pnum_ok]
    simp [wideT, Bool.and_assoc]
  have hcd : ((((numD a).ok && (numD b).ok) && (numD c).ok) && (numD d).ok) = true → Hid (decide ((numD c).m = 0) = zerB c) ∧ Hid (decide ((numD d).m = 0) = zerB d) := fun h => by
    simp only [Bool.and_eq_true] at h
    exact ⟨Lib.hid (zer_m h.1.2), Lib.hid (zer_m h.2)⟩
  rw [hn]
  clear hn
  generalize numD a = x at *
  generalize numD b = y at *
  generalize numD c = u at *
  generalize numD d = v at *
  generalize ((((x.ok && y.ok) && u.ok) && v.ok)) = ok at *
  generalize zerB c = zc at *
  generalize zerB d = zd at *
  go_enter Tryd.func23, Tryd.ntmps23
  go_wp2_with fail
  refine PL.out.mono ?_
  rintro e' w1 ⟨A1, n1, c1, A2, n2, c2, A3, n3, c3, A4, n4, c4, l, m, rfl, m1, m2, m3, m4, bb⟩
  have b1 := below_step b1 bb
  clear bb PL
  cases ok
  · clear hcd
    go_wp2_with fail
    go_ret
    exact ⟨rfl, below_step b1 (alloc_bel _ _)⟩
  · obtain ⟨h1, h2⟩ := hcd rfl
    clear hcd
    go_upto_region 6 with fail
    have kz := KB.made 54 w1 #[.bool x.neg, .slice A1 n1 c1, .int .i64 x.e, .bool y.neg, .slice A2 n2 c2, .int .i64 y.e, .bool u.neg, .slice A3 n3 c3, .int .i64 u.e, .bool v.neg, .slice A4 n4 c4, .int .i64 v.e, .bool l, .bool m]
    have al := alloc_bel w1 (.cells #[.bool x.neg, .slice A1 n1 c1, .int .i64 x.e, .bool y.neg, .slice A2 n2 c2, .int .i64 y.e, .bool u.neg, .slice A3 n3 c3, .int .i64 u.e, .bool v.neg, .slice A4 n4 c4, .int .i64 v.e, .bool l, .bool m] 54)
    have m1 := m1.below al
    have m2 := m2.below al
    have m3 := m3.below al
    have m4 := m4.below al
    have b1 := below_step b1 al
    clear al
    generalize hw : w1.alloc _ = w2 at *
    clear hw
    have y6 := kz.at_ 6 (v := .bool u.neg) rfl
    have y7 := kz.at_ 7 (v := .slice A3 n3 c3) rfl
    have y8 := kz.at_ 8 (v := .int .i64 u.e) rfl
    go_wp2_with fail
    refine (pisZero_any _ _ m3).mono ?_
    rintro e' w3 ⟨rfl, bb⟩
    have kz := kz.adv bb
    have m1 := m1.below bb
    have m2 := m2.below bb
    have m3 := m3.below bb
    have m4 := m4.below bb
    have b1 := below_step b1 bb
    clear bb
    rw [h1.out]
    clear y6 y7 y8
    have y9 := kz.at_ 9 (v := .bool v.neg) rfl
    have y10 := kz.at_ 10 (v := .slice A4 n4 c4) rfl
    have y11 := kz.at_ 11 (v := .int .i64 v.e) rfl
    cases zc
    · go_wp2_with fail
      go_ret
      exact ⟨rfl, b1⟩
    · go_wp2_with fail
      refine (pisZero_any _ _ m4).mono ?_
      rintro e' w4 ⟨rfl, bb⟩
      rw [h2.out]
      go_wp2_with fail
      go_ret
      exact ⟨rfl, below_step b1 bb⟩
set_option maxHeartbeats 2000000 in
theorem sing_8 (a b c d : Nat) (w : World) (hT : Tab w) (ha : a < B64) (hb : b < B64) : Calls Tryd.prog 23 #[.int .i64 8, .agg (fourC a b c d)] w (BP w (numsB 8 a b c d && (zerB a && zerB b))) := by
  have b1 := alloc_bel w (.cells (fourC a b c d) 24)
  have PL := Lib.hid (place_two 8 a b c d (w.alloc (.cells (fourC a b c d) 24)) (hT.below b1) ha hb (by decide) (by decide) (by decide) (by decide))
  have hn : numsB 8 a b c d = ((numD a).ok && (numD b).ok) := by
    unfold numsB
    rw [pnum_ok, pnum_ok]
    simp [wideT]
  have hcd : ((numD a).ok && (numD b).ok) = true → Hid (decide ((numD a).m = 0) = zerB a) ∧ Hid (decide ((numD b).m = 0) = zerB b) := fun h => by
    simp only [Bool.and_eq_true] at h
    exact ⟨Lib.hid (zer_m h.1), Lib.hid (zer_m h.2)⟩
  rw [hn]
  clear hn
  generalize numD a = x at *
  generalize numD b = y at *
  generalize (x.ok && y.ok) = ok at *
  generalize zerB a = za at *
  generalize zerB b = zb at *
  generalize oneB a = oa at *
  generalize oneB b = ob at *
  go_enter Tryd.func23, Tryd.ntmps23
  go_wp2_with fail
  refine PL.out.mono ?_
  rintro e' w1 ⟨A1, n1, c1, A2, n2, c2, A3, n3, c3, A4, n4, c4, l, m, rfl, m1, m2, m3, m4, bb⟩
  have b1 := below_step b1 bb
  clear bb PL
  cases ok
  · clear hcd
    go_wp2_with fail
    go_ret
    exact ⟨rfl, below_step b1 (alloc_bel _ _)⟩
  · obtain ⟨h1, h2⟩ := hcd rfl
    clear hcd
    go_upto_region 8 with fail
    have kz := KB.made 54 w1 #[.bool x.neg, .slice A1 n1 c1, .int .i64 x.e, .bool y.neg, .slice A2 n2 c2, .int .i64 y.e, .bool DR.no.neg, .slice A3 n3 c3, .int .i64 DR.no.e, .bool DR.no.neg, .slice A4 n4 c4, .int .i64 DR.no.e, .bool l, .bool m]
    have al := alloc_bel w1 (.cells #[.bool x.neg, .slice A1 n1 c1, .int .i64 x.e, .bool y.neg, .slice A2 n2 c2, .int .i64 y.e, .bool DR.no.neg, .slice A3 n3 c3, .int .i64 DR.no.e, .bool DR.no.neg, .slice A4 n4 c4, .int .i64 DR.no.e, .bool l, .bool m] 54)
    have m1 := m1.below al
    have m2 := m2.below al
    have m3 := m3.below al
    have m4 := m4.below al
    have b1 := below_step b1 al
    clear al
    generalize hw : w1.alloc _ = w2 at *
    clear hw
    have y0 := kz.at_ 0 (v := .bool x.neg) rfl
    have y1 := kz.at_ 1 (v := .slice A1 n1 c1) rfl
    have y2 := kz.at_ 2 (v := .int .i64 x.e) rfl
    go_wp2_with fail
    refine (pisZero_any _ _ m1).mono ?_
    rintro e' w3 ⟨rfl, bb⟩
    have kz := kz.adv bb
    have m1 := m1.below bb
    have m2 := m2.below bb
    have m3 := m3.below bb
    have m4 := m4.below bb
    have b1 := below_step b1 bb
    clear bb
    rw [h1.out]
    clear y0 y1 y2
    have y3 := kz.at_ 3 (v := .bool y.neg) rfl
    have y4 := kz.at_ 4 (v := .slice A2 n2 c2) rfl
    have y5 := kz.at_ 5 (v := .int .i64 y.e) rfl
    cases za
    · go_wp2_with fail
      go_ret
      exact ⟨rfl, b1⟩
    · go_wp2_with fail
      refine (pisZero_any _ _ m2).mono ?_
      rintro e' w4 ⟨rfl, bb⟩
      rw [h2.out]
      go_wp2_with fail
      go_ret
      exact ⟨rfl, below_step b1 bb⟩
set_option maxHeartbeats 2000000 in
theorem sing_17 (a b c d : Nat) (w : World) (hT : Tab w) (ha : a < B64) (hb : b < B64) : Calls Tryd.prog 23 #[.int .i64 17, .agg (fourC a b c d)] w (BP w (numsB 17 a b c d && (zerB a && oneB b))) := by
  have b1 := alloc_bel w (.cells (fourC a b c d) 24)
  have PL := Lib.hid (place_two 17 a b c d (w.alloc (.cells (fourC a b c d) 24)) (hT.below b1) ha hb (by decide) (by decide) (by decide) (by decide))
  have hn : numsB 17 a b c d = ((numD a).ok && (numD b).ok) := by
    unfold numsB
    rw [pnum_ok, pnum_ok]
    simp [wideT]
  have hcd : ((numD a).ok && (numD b).ok) = true → Hid (decide ((numD a).m = 0) = zerB a) ∧ Hid (decide (ordD false false (numD b).m 1 (numD b).e 0 = 0) = oneB b) ∧ Hid (plainV false (numD b).m (numD b).e = true) := fun h => by
    simp only [Bool.and_eq_true] at h
    exact ⟨Lib.hid (zer_m h.1), Lib.hid (one_m h.2), Lib.hid (plain_abs h.2)⟩
  rw [hn]
  clear hn
  generalize numD a = x at *
  generalize numD b = y at *
  generalize (x.ok && y.ok) = ok at *
  generalize zerB a = za at *
  generalize zerB b = zb at *
  generalize oneB a = oa at *
  generalize oneB b = ob at *
  go_enter Tryd.func23, Tryd.ntmps23
  go_wp2_with fail
  refine PL.out.mono ?_
  rintro e' w1 ⟨A1, n1, c1, A2, n2, c2, A3, n3, c3, A4, n4, c4, l, m, rfl, m1, m2, m3, m4, bb⟩
  have b1 := below_step b1 bb
  clear bb PL
  cases ok
  · clear hcd
    go_wp2_with fail
    go_ret
    exact ⟨rfl, below_step b1 (alloc_bel _ _)⟩
  · obtain ⟨h1, h2, h3⟩ := hcd rfl
    clear hcd
    go_upto_region 10 with fail
    have kz := KB.made 54 w1 #[.bool x.neg, .slice A1 n1 c1, .int .i64 x.e, .bool y.neg, .slice A2 n2 c2, .int .i64 y.e, .bool DR.no.neg, .slice A3 n3 c3, .int .i64 DR.no.e, .bool DR.no.neg, .slice A4 n4 c4, .int .i64 DR.no.e, .bool l, .bool m]
    have al := alloc_bel w1 (.cells #[.bool x.neg, .slice A1 n1 c1, .int .i64 x.e, .bool y.neg, .slice A2 n2 c2, .int .i64 y.e, .bool DR.no.neg, .slice A3 n3 c3, .int .i64 DR.no.e, .bool DR.no.neg, .slice A4 n4 c4, .int .i64 DR.no.e, .bool l, .bool m] 54)
    have m1 := m1.below al
    have m2 := m2.below al
    have m3 := m3.below al
    have m4 := m4.below al
    have b1 := below_step b1 al
    clear al
    generalize hw : w1.alloc _ = w2 at *
    clear hw
    have y0 := kz.at_ 0 (v := .bool x.neg) rfl
    have y1 := kz.at_ 1 (v := .slice A1 n1 c1) rfl
    have y2 := kz.at_ 2 (v := .int .i64 x.e) rfl
    go_wp2_with fail
    refine (pisZero_any _ _ m1).mono ?_
    rintro e' w3 ⟨rfl, bb⟩
    have kz := kz.adv bb
    have m1 := m1.below bb
    have m2 := m2.below bb
    have m3 := m3.below bb
    have m4 := m4.below bb
    have b1 := below_step b1 bb
    clear bb
    rw [h1.out]
    clear y0 y1 y2
    have y3 := kz.at_ 3 (v := .bool y.neg) rfl
    have y4 := kz.at_ 4 (v := .slice A2 n2 c2) rfl
    have y5 := kz.at_ 5 (v := .int .i64 y.e) rfl
    cases za
    · go_wp2_with fail
      go_ret
      exact ⟨rfl, b1⟩
    · go_wp2_with fail
      refine (psize_any _ _ _ _ _ _).mono ?_
      rintro e' w4 ⟨rfl, bb⟩
      have m2 := m2.below bb
      have b1 := below_step b1 bb
      clear bb
      go_wp2_with fail
      refine (pisOne_any _ _ m2 h3.out).mono ?_
      rintro e' w5 ⟨rfl, bb⟩
      rw [h2.out]
      go_wp2_with fail
      go_ret
      exact ⟨rfl, below_step b1 bb⟩
set_option maxHeartbeats 2000000 in
theorem sing_20 (a b c d : Nat) (w : World) (hT : Tab w) (ha : a < B64) (hb : b < B64) : Calls Tryd.prog 23 #[.int .i64 20, .agg (fourC a b c d)] w (BP w (numsB 20 a b c d && (oneB a && zerB b))) := by
  have b1 := alloc_bel w (.cells (fourC a b c d) 24)
  have PL := Lib.hid (place_two 20 a b c d (w.alloc (.cells (fourC a b c d) 24)) (hT.below b1) ha hb (by decide) (by decide) (by decide) (by decide))
  have hn : numsB 20 a b c d = ((numD a).ok && (numD b).ok) := by
    unfold numsB
    rw [pnum_ok, pnum_ok]
    simp [wideT]
  have hcd : ((numD a).ok && (numD b).ok) = true → Hid (decide (ordD false false (numD a).m 1 (numD a).e 0 = 0) = oneB a) ∧ Hid (decide ((numD b).m = 0) = zerB b) ∧ Hid (plainV false (numD a).m (numD a).e = true) := fun h => by
    simp only [Bool.and_eq_true] at h
    exact ⟨Lib.hid (one_m h.1), Lib.hid (zer_m h.2), Lib.hid (plain_abs h.1)⟩
  rw [hn]
  clear hn
  generalize numD a = x at *
  generalize numD b = y at *
  generalize (x.ok && y.ok) = ok at *
  generalize zerB a = za at *
  generalize zerB b = zb at *
  generalize oneB a = oa at *
  generalize oneB b = ob at *
  go_enter Tryd.func23, Tryd.ntmps23
  go_wp2_with fail
  refine PL.out.mono ?_
  rintro e' w1 ⟨A1, n1, c1, A2, n2, c2, A3, n3, c3, A4, n4, c4, l, m, rfl, m1, m2, m3, m4, bb⟩
  have b1 := below_step b1 bb
  clear bb PL
  cases ok
  · clear hcd
    go_wp2_with fail
    go_ret
    exact ⟨rfl, below_step b1 (alloc_bel _ _)⟩
  · obtain ⟨h1, h2, h3⟩ := hcd rfl
    clear hcd
    go_upto_region 12 with fail
    have kz := KB.made 54 w1 #[.bool x.neg, .slice A1 n1 c1, .int .i64 x.e, .bool y.neg, .slice A2 n2 c2, .int .i64 y.e, .bool DR.no.neg, .slice A3 n3 c3, .int .i64 DR.no.e, .bool DR.no.neg, .slice A4 n4 c4, .int .i64 DR.no.e, .bool l, .bool m]
    have al := alloc_bel w1 (.cells #[.bool x.neg, .slice A1 n1 c1, .int .i64 x.e, .bool y.neg, .slice A2 n2 c2, .int .i64 y.e, .bool DR.no.neg, .slice A3 n3 c3, .int .i64 DR.no.e, .bool DR.no.neg, .slice A4 n4 c4, .int .i64 DR.no.e, .bool l, .bool m] 54)
    have m1 := m1.below al
    have m2 := m2.below al
    have m3 := m3.below al
    have m4 := m4.below al
    have b1 := below_step b1 al
    clear al
    generalize hw : w1.alloc _ = w2 at *
    clear hw
    have y0 := kz.at_ 0 (v := .bool x.neg) rfl
    have y1 := kz.at_ 1 (v := .slice A1 n1 c1) rfl
    have y2 := kz.at_ 2 (v := .int .i64 x.e) rfl
    go_wp2_with fail
    refine (psize_any _ _ _ _ _ _).mono ?_
    rintro e' w3 ⟨rfl, bb⟩
    have kz := kz.adv bb
    have m1 := m1.below bb
    have m2 := m2.below bb
    have b1 := below_step b1 bb
    clear bb
    go_wp2_with fail
    refine (pisOne_any _ _ m1 h3.out).mono ?_
    rintro e' w4 ⟨rfl, bb⟩
    have kz := kz.adv bb
    have m2 := m2.below bb
    have b1 := below_step b1 bb
    clear bb y0 y1 y2
    rw [h1.out]
    have y3 := kz.at_ 3 (v := .bool y.neg) rfl
    have y4 := kz.at_ 4 (v := .slice A2 n2 c2) rfl
    have y5 := kz.at_ 5 (v := .int .i64 y.e) rfl
    cases oa
    · go_wp2_with fail
      go_ret
      exact ⟨rfl, b1⟩
    · go_wp2_with fail
      refine (pisZero_any _ _ m2).mono ?_
      rintro e' w5 ⟨rfl, bb⟩
      rw [h2.out]
      go_wp2_with fail
      go_ret
      exact ⟨rfl, below_step b1 bb⟩
set_option maxHeartbeats 2000000 in
theorem sing_4 (a b c d : Nat) (w : World) (hT : Tab w) (ha : a < B64) (hb : b < B64) (hc : c < B64) (hd : d < B64) : Calls Tryd.prog 23 #[.int .i64 4, .agg (fourC a b c d)] w (BP w false) := by
  have b1 := alloc_bel w (.cells (fourC a b c d) 24)
  have PL := Lib.hid (place_four4 a b c d (w.alloc (.cells (fourC a b c d) 24)) (hT.below b1) ha hb hc hd)
  generalize numD a = x at *
  generalize numD b = y at *
  generalize numD c = u at *
  generalize numD d = v at *
  generalize ((((x.ok && y.ok) && u.ok) && v.ok)) = ok at *
  go_enter Tryd.func23, Tryd.ntmps23
  go_wp2_with fail
  refine PL.out.mono ?_
  rintro e' w1 ⟨A1, n1, c1, A2, n2, c2, A3, n3, c3, A4, n4, c4, l, m, rfl, m1, m2, m3, m4, bb⟩
  have b1 := below_step b1 bb
  clear bb PL
  cases ok
  · go_wp2_with fail
    go_ret
    exact ⟨rfl, below_step b1 (alloc_bel _ _)⟩
  · go_wp2_with fail
    go_ret
    exact ⟨rfl, below_step b1 (alloc_bel _ _)⟩
set_option maxHeartbeats 2000000 in
theorem sing_no (tag : Int) (a b c d : Nat) (w : World) (hT : Tab w) (ha : a < B64) (hb : b < B64) (h0 : 0 ≤ tag) (h20 : tag ≤ 20) (h4 : tag ≠ 4) (h5 : tag ≠ 5) (q5 : tag ≠ 5) (q8 : tag ≠ 8) (q17 : tag ≠ 17) (q20 : tag ≠ 20) : Calls Tryd.prog 23 #[.int .i64 tag, .agg (fourC a b c d)] w (BP w false) := by
  have b1 := alloc_bel w (.cells (fourC a b c d) 24)
  have PL := Lib.hid (place_two tag a b c d (w.alloc (.cells (fourC a b c d) 24)) (hT.below b1) ha hb h0 h20 h4 h5)
  have g5 : (tag == 5) = false := by simp [q5]
  have g8 : (tag == 8) = false := by simp [q8]
  have g17 : (tag == 17) = false := by simp [q17]
  have g20 : (tag == 20) = false := by simp [q20]
  clear h0 h20 h4 h5 q5 q8 q17 q20
  generalize numD a = x at *
  generalize numD b = y at *
  generalize (x.ok && y.ok) = ok at *
  go_enter Tryd.func23, Tryd.ntmps23
  go_wp2_with fail
  refine PL.out.mono ?_
  rintro e' w1 ⟨A1, n1, c1, A2, n2, c2, A3, n3, c3, A4, n4, c4, l, m, rfl, m1, m2, m3, m4, bb⟩
  have b1 := below_step b1 bb
  clear bb PL
  cases ok
  · go_wp2_with fail
    go_ret
    exact ⟨rfl, below_step b1 (alloc_bel _ _)⟩
  · go_wp2_with fail
    go_ret
    exact ⟨rfl, below_step b1 (alloc_bel _ _)⟩
theorem singular_any (tag : Int) (a b c d : Nat) (w : World) (hT : Tab w) (ha : a < B64) (hb : b < B64) (hc : c < B64) (hd : d < B64) : Calls Tryd.prog 23 #[.int .i64 tag, .agg (fourC a b c d)] w (BP w (singB tag a b c d)) := by
  by_cases hr : tag < 0 ∨ 20 < tag
  · have h : singB tag a b c d = false := by
      unfold singB numsB
      rw [show (decide (0 ≤ tag) && decide (tag ≤ 20)) = false by simp; omega]
      rfl
    rw [h]
    exact sing_out tag a b c d w hr
  · by_cases h5 : tag = 5
    · subst h5
      exact sing_5 a b c d w hT ha hb hc hd
    · by_cases h8 : tag = 8
      · subst h8
        exact sing_8 a b c d w hT ha hb
      · by_cases h17 : tag = 17
        · subst h17
          exact sing_17 a b c d w hT ha hb
        · by_cases h20 : tag = 20
          · subst h20
            exact sing_20 a b c d w hT ha hb
          · have h : singB tag a b c d = false := by
              unfold singB
              rw [if_neg h5, if_neg h8, if_neg h17, if_neg h20, Bool.and_false]
            rw [h]
            by_cases h4 : tag = 4
            · subst h4
              exact sing_4 a b c d w hT ha hb hc hd
            · exact sing_no tag a b c d w hT ha hb (by omega) (by omega) h4 h5 h5 h8 h17 h20
end Go.Proofs.YtembfhepinfmnaaDoor

namespace Go.Proofs.YtembfhepinfmnaaDoor
open Go.RowKit

abbrev z10 : Array Value := #[.int .u64 0, .int .u64 0, .int .i64 0, .int .i64 0, .int .u64 0, .int .u64 0, .int .u64 0, .bool false, .bool false, .bool false]
abbrev put10 (w : World) (g : Nat) (a0 a1 a2 a3 a4 a5 a6 a7 a8 a9 : Value) : World := ((((((((((w.setCell ⟨g, 0, none⟩ a0).setCell ⟨g, 1, none⟩ a1).setCell ⟨g, 2, none⟩ a2).setCell ⟨g, 3, none⟩ a3).setCell ⟨g, 4, none⟩ a4).setCell ⟨g, 5, none⟩ a5).setCell ⟨g, 6, none⟩ a6).setCell ⟨g, 7, none⟩ a7).setCell ⟨g, 8, none⟩ a8).setCell ⟨g, 9, none⟩ a9)
theorem only_put10 (w : World) (g : Nat) (a0 a1 a2 a3 a4 a5 a6 a7 a8 a9 : Value) : Only w (put10 w g a0 a1 a2 a3 a4 a5 a6 a7 a8 a9) g := (((((((((((Only.refl w g).set_ 0 a0).set_ 1 a1).set_ 2 a2).set_ 3 a3).set_ 4 a4).set_ 5 a5).set_ 6 a6).set_ 7 a7).set_ 8 a8).set_ 9 a9)
theorem kb_put10 {T : TypeId} {w : World} {g : Nat} {c0 c1 c2 c3 c4 c5 c6 c7 c8 c9 : Value} (k : KB T w g #[c0, c1, c2, c3, c4, c5, c6, c7, c8, c9]) (a0 a1 a2 a3 a4 a5 a6 a7 a8 a9 : Value) : KB T (put10 w g a0 a1 a2 a3 a4 a5 a6 a7 a8 a9) g #[a0, a1, a2, a3, a4, a5, a6, a7, a8, a9] :=
  by
  have h := ((((((((((k.set_ 0 a0).set_ 1 a1).set_ 2 a2).set_ 3 a3).set_ 4 a4).set_ 5 a5).set_ 6 a6).set_ 7 a7).set_ 8 a8).set_ 9 a9)
  simpa only [List.setIfInBounds_toArray, List.set_cons_zero, List.set_cons_succ] using h
theorem four_all {w : World} {g a b c d : Nat} (k : KB 24 w g (fourC a b c d)) : w.cell? ⟨g, 0, none⟩ = some (.int .u64 (a : Int)) ∧ w.cell? ⟨g, 1, none⟩ = some (.int .u64 (b : Int)) ∧ w.cell? ⟨g, 2, none⟩ = some (.int .u64 (c : Int)) ∧ w.cell? ⟨g, 3, none⟩ = some (.int .u64 (d : Int)) := ⟨k.at_ 0 rfl, k.at_ 1 rfl, k.at_ 2 rfl, k.at_ 3 rfl⟩
theorem four_alloc {w : World} {g a b c d : Nat} {o : Obj} (k : KB 24 w g (fourC a b c d)) : (w.alloc o).cell? ⟨g, 0, none⟩ = some (.int .u64 (a : Int)) ∧ (w.alloc o).cell? ⟨g, 1, none⟩ = some (.int .u64 (b : Int)) ∧ (w.alloc o).cell? ⟨g, 2, none⟩ = some (.int .u64 (c : Int)) ∧ (w.alloc o).cell? ⟨g, 3, none⟩ = some (.int .u64 (d : Int)) := four_all (k.adv (alloc_bel w o))
theorem four_put {w : World} {g g' a b c d : Nat} {a0 a1 a2 a3 a4 a5 a6 a7 a8 a9 : Value} (k : KB 24 w g (fourC a b c d)) (h : g ≠ g') : (put10 w g' a0 a1 a2 a3 a4 a5 a6 a7 a8 a9).cell? ⟨g, 0, none⟩ = some (.int .u64 (a : Int)) ∧ (put10 w g' a0 a1 a2 a3 a4 a5 a6 a7 a8 a9).cell? ⟨g, 1, none⟩ = some (.int .u64 (b : Int)) ∧ (put10 w g' a0 a1 a2 a3 a4 a5 a6 a7 a8 a9).cell? ⟨g, 2, none⟩ = some (.int .u64 (c : Int)) ∧ (put10 w g' a0 a1 a2 a3 a4 a5 a6 a7 a8 a9).cell? ⟨g, 3, none⟩ = some (.int .u64 (d : Int)) := four_all (k.only (only_put10 w g' a0 a1 a2 a3 a4 a5 a6 a7 a8 a9) h)
/-- The four words, by their places. -/
def fourF (a b c d : Nat) (k : Nat) : Nat := if k = 0 then a else if k = 1 then b else if k = 2 then c else d
theorem four_at {a b c d k : Nat} (h : k < 4) : (fourC a b c d)[k]? = some (.int .u64 (fourF a b c d k : Int)) := by
  rcases k with _ | _ | _ | _ | k
  · rfl
  · rfl
  · rfl
  · rfl
  · omega
theorem four_lt {a b c d k : Nat} (ha : a < B64) (hb : b < B64) (hc : c < B64) (hd : d < B64) : fourF a b c d k < B64 := by
  unfold fourF
  split
  · exact ha
  · split
    · exact hb
    · split
      · exact hc
      · exact hd
def preI (f : Nat → Nat) : Nat → Bool
  | 0 => false
  | k + 1 => preI f k || infB (f k)
def preN (f : Nat → Nat) : Nat → Bool
  | 0 => false
  | k + 1 => preN f k || notB (f k)
abbrev spotC (a b c : Nat) (i n s : Bool) : Array Value := #[.int .u64 (a : Int), .int .u64 (b : Int), .int .i64 (kindN a : Int), .int .i64 (kindN b : Int), .int .u64 (sgI (sgB a)), .int .u64 (sgI (sgB b)), .int .u64 (sgI (sgB c)), .bool i, .bool n, .bool s]
/-- Behind the first region: the spot lies in a block of its own. -/
def SpR (w : World) (a b c d : Nat) (s : Bool) (v : Value) (wx : World) : Prop :=
  ∃ g, v = .pointer (some ⟨g, 0, none⟩) ∧ KB 24 wx w.heap.size (fourC a b c d) ∧ KB 33 wx g (spotC a b c false false s) ∧ KB 33 wx (w.heap.size + 1) z10 ∧ w.heap.size + 2 ≤ g ∧ Below w.heap.size w wx
theorem sp_early {w w2 : World} {a b c d g : Nat} {s : Bool} (q1 : KB 24 w2 w.heap.size (fourC a b c d)) (qg : KB 33 w2 g z10) (q2 : KB 33 w2 (w.heap.size + 1) z10) (c1 : Below w.heap.size w w2) (hg : w.heap.size + 2 ≤ g) :
    SpR w a b c d s (.pointer (some ⟨g, 0, none⟩)) (put10 w2 g (.int .u64 (a : Int)) (.int .u64 (b : Int)) (.int .i64 (kindN a : Int)) (.int .i64 (kindN b : Int)) (.int .u64 (sgI (sgB a))) (.int .u64 (sgI (sgB b))) (.int .u64 (sgI (sgB c))) (.bool false) (.bool false) (.bool s)) := by
  have o := only_put10 w2 g (.int .u64 (a : Int)) (.int .u64 (b : Int)) (.int .i64 (kindN a : Int)) (.int .i64 (kindN b : Int)) (.int .u64 (sgI (sgB a))) (.int .u64 (sgI (sgB b))) (.int .u64 (sgI (sgB c))) (.bool false) (.bool false) (.bool s)
  exact ⟨g, rfl, q1.only o (by omega), kb_put10 qg (.int .u64 (a : Int)) (.int .u64 (b : Int)) (.int .i64 (kindN a : Int)) (.int .i64 (kindN b : Int)) (.int .u64 (sgI (sgB a))) (.int .u64 (sgI (sgB b))) (.int .u64 (sgI (sgB c))) (.bool false) (.bool false) (.bool s), q2.only o (by omega), hg, Only.below c1 o c1.size (by omega)⟩
theorem sp_late {w w2 : World} {a b c d : Nat} {s : Bool} (q1 : KB 24 w2 w.heap.size (fourC a b c d)) (q2 : KB 33 w2 (w.heap.size + 1) z10) (c1 : Below w.heap.size w w2) (hg : w.heap.size + 2 ≤ w2.heap.size) :
    SpR w a b c d s (.pointer (some ⟨w2.heap.size, 0, none⟩)) (w2.alloc (.cells #[.int .u64 (a : Int), .int .u64 (b : Int), .int .i64 (kindN a : Int), .int .i64 (kindN b : Int), .int .u64 (sgI (sgB a)), .int .u64 (sgI (sgB b)), .int .u64 (sgI (sgB c)), .bool false, .bool false, .bool s] 33)) := by
  have al := alloc_bel w2 (.cells #[.int .u64 (a : Int), .int .u64 (b : Int), .int .i64 (kindN a : Int), .int .i64 (kindN b : Int), .int .u64 (sgI (sgB a)), .int .u64 (sgI (sgB b)), .int .u64 (sgI (sgB c)), .bool false, .bool false, .bool s] 33)
  exact ⟨_, rfl, q1.adv al, KB.made _ _ _, q2.adv al, hg, below_step c1 al⟩
/-- In the loop. -/
structure SpL (w : World) (a b c d : Nat) (s : Bool) (g : Nat) (k : Nat) (wx : World) : Prop where
  k1 : KB 24 wx w.heap.size (fourC a b c d)
  kg : KB 33 wx g (spotC a b c (preI (fourF a b c d) k) (preN (fourF a b c d) k) s)
  k2 : KB 33 wx (w.heap.size + 1) z10
  b : Below w.heap.size w wx

theorem spl_i {w wx : World} {a b c d g k : Nat} {s : Bool} (h : SpL w a b c d s g k wx) (hg : w.heap.size + 2 ≤ g) (hk : kindN (fourF a b c d k) = 3) : SpL w a b c d s g (k + 1) (wx.setCell ⟨g, 7, none⟩ (.bool true)) := by
  have o := only_one wx g 7 (.bool true)
  refine ⟨h.k1.only o (by omega), ?_, h.k2.only o (by omega), Only.below h.b o h.b.size (by omega)⟩
  have e1 : preI (fourF a b c d) (k + 1) = true := by simp [preI, infB, hk]
  have e2 : preN (fourF a b c d) (k + 1) = preN (fourF a b c d) k := by simp [preN, notB, hk]
  rw [e1, e2]
  simpa only [List.setIfInBounds_toArray, List.set_cons_zero, List.set_cons_succ] using h.kg.set_ 7 (.bool true)
theorem spl_n {w wx : World} {a b c d g k : Nat} {s : Bool} (h : SpL w a b c d s g k wx) (hg : w.heap.size + 2 ≤ g) (hk : kindN (fourF a b c d k) = 4) : SpL w a b c d s g (k + 1) (wx.setCell ⟨g, 8, none⟩ (.bool true)) := by
  have o := only_one wx g 8 (.bool true)
  refine ⟨h.k1.only o (by omega), ?_, h.k2.only o (by omega), Only.below h.b o h.b.size (by omega)⟩
  have e1 : preN (fourF a b c d) (k + 1) = true := by simp [preN, notB, hk]
  have e2 : preI (fourF a b c d) (k + 1) = preI (fourF a b c d) k := by simp [preI, infB, hk]
  rw [e1, e2]
  simpa only [List.setIfInBounds_toArray, List.set_cons_zero, List.set_cons_succ] using h.kg.set_ 8 (.bool true)
theorem spl_o {w wx : World} {a b c d g k : Nat} {s : Bool} (h : SpL w a b c d s g k wx) (h3 : ¬ kindN (fourF a b c d k) = 3) (h4 : ¬ kindN (fourF a b c d k) = 4) : SpL w a b c d s g (k + 1) wx := by
  refine ⟨h.k1, ?_, h.k2, h.b⟩
  have e1 : preN (fourF a b c d) (k + 1) = preN (fourF a b c d) k := by simp [preN, notB, h4]
  have e2 : preI (fourF a b c d) (k + 1) = preI (fourF a b c d) k := by simp [preI, infB, h3]
  rw [e1, e2]
  exact h.kg
theorem slice_run (N : Nat) (h : N = 2 ∨ N = 4) (g : Nat) (u : World) : (Instr.sliceAt 24 (.pointer (some ⟨g, 0, none⟩)) none (some (.int .i64 (N : Int))) none).run Tryd.prog u = .ok (.slice (some ⟨g, 0, none⟩) N 4) u := by
  rcases h with rfl | rfl
  · rfl
  · rfl
set_option maxHeartbeats 4000000 in
theorem spotOf_any (tag : Int) (a b c d : Nat) (w : World) (hT : Tab w) (ha : a < B64) (hb : b < B64) (hc : c < B64) (hd : d < B64) :
    Calls Tryd.prog 10 #[.int .i64 tag, .agg (fourC a b c d)] w fun e w' => e = .returned (.agg (spC (spN tag a b c d))) ∧ Below w.heap.size w w' := by
  obtain ⟨k1, k2, b1⟩ := kb_two 24 33 w (fourC a b c d) z10
  have ta := top_of a ha
  have tb := top_of b hb
  have tc := top_of c hc
  have SG := Lib.hid (fun w' (b' : Below w.heap.size w w') => singular_any tag a b c d w' (hT.below b') ha hb hc hd)
  have KF := Lib.hid (fun k w' => kind_any (fourF a b c d k) w' (four_lt (k := k) ha hb hc hd))
  have WO := Lib.hid (fun w' => wordsOf_any tag w')
  obtain ⟨s, hs⟩ : ∃ s, Hid (singB tag a b c d = s) := ⟨_, Lib.hid rfl⟩
  rw [hs.out] at SG
  obtain ⟨ii, hii⟩ : ∃ s, Hid (anyI tag a b c d = s) := ⟨_, Lib.hid rfl⟩
  obtain ⟨nn, hnn⟩ : ∃ s, Hid (anyN tag a b c d = s) := ⟨_, Lib.hid rfl⟩
  have hsp : spC (spN tag a b c d) = #[.int .u64 (a : Int), .int .u64 (b : Int), .int .i64 (kindN a : Int), .int .i64 (kindN b : Int), .int .u64 (sgI (sgB a)), .int .u64 (sgI (sgB b)), .int .u64 (sgI (sgB c)), .bool ii, .bool nn, .bool s] := by
    unfold spN
    dsimp only [spC]
    rw [hs.out, hii.out, hnn.out]
  rw [hsp]
  clear hsp
  go_enter Tryd.func10, Tryd.ntmps10
  go_upto_region 1 with fail
  generalize (w.alloc _).alloc _ = w1 at *
  go_cut [5] (fun s5 wx => SpR w a b c d s s5 wx)
  case first =>
    have q1 := k1.drew
    have q2 := k2.drew
    have c1 := b1.drew
    have hz1 := k1.2
    have hz2 := k2.2
    have AL : Hid (∀ o : Obj, KB 24 (w1.alloc o).drew w.heap.size (fourC a b c d) ∧ KB 33 (w1.alloc o).drew (w.heap.size + 1) z10 ∧ Below w.heap.size w (w1.alloc o).drew) := Lib.hid (fun o => ⟨KB.adv (w := w1) k1 (alloc_bel w1 o).drew, KB.adv (w := w1) k2 (alloc_bel w1 o).drew, below_step b1 (alloc_bel w1 o).drew⟩)
    go_region_held3 (fun w' => w'.cell? ⟨w.heap.size, 0, none⟩ = some (.int .u64 (a : Int)) ∧ w'.cell? ⟨w.heap.size, 1, none⟩ = some (.int .u64 (b : Int)) ∧ w'.cell? ⟨w.heap.size, 2, none⟩ = some (.int .u64 (c : Int)) ∧ w'.cell? ⟨w.heap.size, 3, none⟩ = some (.int .u64 (d : Int)))
      (first | with_reducible exact four_all (AL.out _).1 | with_reducible exact four_put q1 (by omega) | with_reducible exact four_alloc q1 | with_reducible exact four_all q1)
      (first
        | (go_at_call 22; refine (kind_any _ _ (by first | exact ha | exact hb)).mono ?_; rintro e' w6 ⟨rfl, rfl⟩)
        | (go_at_call 23; first
            | (refine (SG.out _ c1).mono ?_; rintro e' w2 ⟨rfl, bb⟩; have q1 := q1.adv bb; have q2 := q2.adv bb; have c1 := below_step c1 bb; have late := true)
            | (refine (SG.out _ (AL.out _).2.2).mono ?_; rintro e' w2 ⟨rfl, bb⟩; have q1 := (AL.out _).1.adv bb; have q2 := (AL.out _).2.1.adv bb; have c1 := below_step (AL.out _).2.2 bb; have qg := (KB.made 33 w1 z10).drew.adv bb; have gf0 := qg.fr 0; have gc0 := qg.at_ 0 (v := .int .u64 0) rfl; have gf1 := qg.fr 1; have gc1 := qg.at_ 1 (v := .int .u64 0) rfl; have gf2 := qg.fr 2; have gc2 := qg.at_ 2 (v := .int .i64 0) rfl; have gf3 := qg.fr 3; have gc3 := qg.at_ 3 (v := .int .i64 0) rfl; have gf4 := qg.fr 4; have gc4 := qg.at_ 4 (v := .int .u64 0) rfl; have gf5 := qg.fr 5; have gc5 := qg.at_ 5 (v := .int .u64 0) rfl; have gf6 := qg.fr 6; have gc6 := qg.at_ 6 (v := .int .u64 0) rfl; have gf7 := qg.fr 7; have gc7 := qg.at_ 7 (v := .bool false) rfl; have gf8 := qg.fr 8; have gc8 := qg.at_ 8 (v := .bool false) rfl; have gf9 := qg.fr 9; have gc9 := qg.at_ 9 (v := .bool false) rfl)))
    all_goals (
      go_wp2_with fail
      go_meet
      have hbb := bb.size
      have hd : w1.drew.heap.size = w1.heap.size := rfl
      first
        | with_reducible exact sp_early q1 qg q2 c1 (by omega)
        | with_reducible exact sp_late q1 q2 c1 (by omega))
  case rest =>
    obtain ⟨g, rfl, k1, kg, k2, hg, b1⟩ := hcut
    obtain ⟨N, hN, hN4⟩ : ∃ N : Nat, Hid ((if wideT tag then (4 : Int) else 2) = (N : Int)) ∧ (N = 2 ∨ N = 4) := by
      by_cases h : wideT tag = true
      · exact ⟨4, Lib.hid (by rw [if_pos h]; rfl), .inr rfl⟩
      · exact ⟨2, Lib.hid (by rw [if_neg h]; rfl), .inl rfl⟩
    have HEND : Hid (preI (fourF a b c d) N = anyI tag a b c d ∧ preN (fourF a b c d) N = anyN tag a b c d) := by
      refine Lib.hid ?_
      have h1 := hN.out
      unfold anyI anyN
      cases hw : wideT tag
      · rw [hw] at h1
        obtain rfl : N = 2 := by simp at h1; omega
        simp [preI, preN, fourF]
      · rw [hw] at h1
        obtain rfl : N = 4 := by simp at h1; omega
        simp [preI, preN, fourF, Bool.or_assoc]
    clear ta tb tc SG hT
    go_wp2_with fail
    refine (WO.out _).mono ?_
    rintro e' w2 ⟨rfl, rfl⟩
    rw [hN.out]
    have L0 : SpL w a b c d s g 0 wc := ⟨k1, kg, k2, b1⟩
    clear k1 kg k2 b1 WO hN
    have SLR := slice_run N hN4 w.heap.size
    have hNb : N ≤ 4 := by omega
    have hN4' := Lib.hid hN4
    clear hN4
    go_wp2_with fail
    clear SLR
    go_loopw [35] (fun s35 wr => ∃ k : Nat, k ≤ N ∧ s35 = .int .i64 (k : Int) ∧ SpL w a b c d s g k wr) (fun s35 _ => N - (intOf s35).toNat)
    case atStart => exact ⟨0, Nat.zero_le _, rfl, L0⟩
    case round =>
      clear L0
      obtain ⟨k, hk, rfl, L⟩ := hrel
      by_cases hlt : k < N
      · have j := L.k1.at_ k (four_at (by omega))
        have hsz := L.k1.2
        go_wp2_with fail
        refine (KF.out _ _).mono ?_
        rintro e' w2 ⟨rfl, rfl⟩
        have f7 := L.kg.fr 7
        have f8 := L.kg.fr 8
        have j7 := L.kg.at_ 7 (v := .bool (preI (fourF a b c d) k)) rfl
        have j8 := L.kg.at_ 8 (v := .bool (preN (fourF a b c d) k)) rfl
        by_cases h3 : kindN (fourF a b c d k) = 3
        · have L' := spl_i L hg h3
          rw [h3]
          clear h3 L
          go_wp2_with fail
          go_roundw
          case rel => exact ⟨k + 1, by omega, by go_num, L'⟩
          case measure => simp [intOf]; omega
        · by_cases h4 : kindN (fourF a b c d k) = 4
          · have L' := spl_n L hg h4
            rw [h4]
            clear h4 h3 L
            go_wp2_with fail
            go_roundw
            case rel => exact ⟨k + 1, by omega, by go_num, L'⟩
            case measure => simp [intOf]; omega
          · have L' := spl_o L h3 h4
            have g3 : ((kindN (fourF a b c d k) : Int) == 3) = false := by simp; omega
            have g4 : ((kindN (fourF a b c d k) : Int) == 4) = false := by simp; omega
            clear h4 h3 L
            go_wp2_with fail
            go_roundw
            case rel => exact ⟨k + 1, by omega, by go_num, L'⟩
            case measure => simp [intOf]; omega
      · obtain rfl : k = N := by omega
        obtain ⟨h1, h2⟩ := HEND.out
        have kg := L.kg
        rw [h1, h2, hii.out, hnn.out] at kg
        have k2 := L.k2
        have b2 := L.b
        clear HEND h1 h2 L hlt KF
        have y0 := kg.at_ 0 (v := .int .u64 (a : Int)) rfl
        have y1 := kg.at_ 1 (v := .int .u64 (b : Int)) rfl
        have y2 := kg.at_ 2 (v := .int .i64 (kindN a : Int)) rfl
        have y3 := kg.at_ 3 (v := .int .i64 (kindN b : Int)) rfl
        have y4 := kg.at_ 4 (v := .int .u64 (sgI (sgB a))) rfl
        have y5 := kg.at_ 5 (v := .int .u64 (sgI (sgB b))) rfl
        have y6 := kg.at_ 6 (v := .int .u64 (sgI (sgB c))) rfl
        have y7 := kg.at_ 7 (v := .bool ii) rfl
        have y8 := kg.at_ 8 (v := .bool nn) rfl
        have y9 := kg.at_ 9 (v := .bool s) rfl
        have z0 := k2.at_ 0 (v := .int .u64 0) rfl
        have f0 := k2.fr 0
        have z1 := k2.at_ 1 (v := .int .u64 0) rfl
        have f1 := k2.fr 1
        have z2 := k2.at_ 2 (v := .int .i64 0) rfl
        have f2 := k2.fr 2
        have z3 := k2.at_ 3 (v := .int .i64 0) rfl
        have f3 := k2.fr 3
        have z4 := k2.at_ 4 (v := .int .u64 0) rfl
        have f4 := k2.fr 4
        have z5 := k2.at_ 5 (v := .int .u64 0) rfl
        have f5 := k2.fr 5
        have z6 := k2.at_ 6 (v := .int .u64 0) rfl
        have f6 := k2.fr 6
        have z7 := k2.at_ 7 (v := .bool false) rfl
        have f7 := k2.fr 7
        have z8 := k2.at_ 8 (v := .bool false) rfl
        have f8 := k2.fr 8
        have z9 := k2.at_ 9 (v := .bool false) rfl
        have f9 := k2.fr 9
        go_wp2_with fail
        have o := only_put10 wr (w.heap.size + 1) (.int .u64 (a : Int)) (.int .u64 (b : Int)) (.int .i64 (kindN a : Int)) (.int .i64 (kindN b : Int)) (.int .u64 (sgI (sgB a))) (.int .u64 (sgI (sgB b))) (.int .u64 (sgI (sgB c))) (.bool ii) (.bool nn) (.bool s)
        exact bodyPost_ret (v := .agg #[.int .u64 (a : Int), .int .u64 (b : Int), .int .i64 (kindN a : Int), .int .i64 (kindN b : Int), .int .u64 (sgI (sgB a)), .int .u64 (sgI (sgB b)), .int .u64 (sgI (sgB c)), .bool ii, .bool nn, .bool s]) (by simp [results, Tryd.results10, go_sem, z0, z1, z2, z3, z4, z5, z6, z7, z8, z9]) rfl ⟨rfl, Only.below b2 o b2.size (by omega)⟩
end Go.Proofs.YtembfhepinfmnaaDoor

namespace Go.Proofs.YtembfhepinfmnaaDoor
open Go.RowKit

/-- What Special answers. -/
def SPost (w : World) (t : TW) (ok : Bool) (e : Ending) (w' : World) : Prop := e = .returned (.tuple #[.agg #[.int .u64 t.a, .int .u64 t.b], .int .i64 t.f, .bool ok]) ∧ Below w.heap.size w w'
abbrev put2 (w : World) (g : Nat) (a b : Value) : World := (w.setCell ⟨g, 0, none⟩ a).setCell ⟨g, 1, none⟩ b
theorem only_put2 (w : World) (g : Nat) (a b : Value) : Only w (put2 w g a b) g := ((Only.refl w g).set_ 0 a).set_ 1 b
theorem kb_put3 {T : TypeId} {w : World} {g : Nat} {x y z : Value} (k : KB T w g #[x, y, z]) (a b c : Value) : KB T (put3 w g a b c) g #[a, b, c] := by
  have h := ((k.set_ 0 a).set_ 1 b).set_ 2 c
  simpa only [List.setIfInBounds_toArray, List.set_cons_zero, List.set_cons_succ] using h

set_option maxHeartbeats 2000000 in
theorem special_out (tag : Int) (a b c d : Nat) (w : World) (h : tag < 0 ∨ 20 < tag) : Calls Tryd.prog 7 #[.int .i64 tag, .agg (fourC a b c d)] w (SPost w TW.zero false) := by
  rcases h with h | h
  · have h1 : decide (tag < 0) = true := decide_eq_true h
    go_enter Tryd.func7, Tryd.ntmps7
    go_wp2_with fail
    exact bodyPost_ret (v := .tuple #[.agg #[.int .u64 0, .int .u64 0], .int .i64 0, .bool false]) (by simp [results, Tryd.results7, go_sem]) rfl ⟨rfl, below_step (alloc_bel w _) (alloc_bel _ _)⟩
  · have h1 : decide (tag < 0) = false := decide_eq_false (by omega)
    have h2 : decide (20 < tag) = true := decide_eq_true h
    go_enter Tryd.func7, Tryd.ntmps7
    go_wp2_with fail
    exact bodyPost_ret (v := .tuple #[.agg #[.int .u64 0, .int .u64 0], .int .i64 0, .bool false]) (by simp [results, Tryd.results7, go_sem]) rfl ⟨rfl, below_step (alloc_bel w _) (alloc_bel _ _)⟩
set_option maxHeartbeats 2000000 in
theorem special_no (tag : Int) (a b c d : Nat) (w : World) (hT : Tab w) (ha : a < B64) (hb : b < B64) (hc : c < B64) (hd : d < B64) (h0 : 0 ≤ tag) (h20 : tag ≤ 20)
    (hi : (spN tag a b c d).isI = false) (hn : (spN tag a b c d).isN = false) (hs : (spN tag a b c d).sing = false) :
    Calls Tryd.prog 7 #[.int .i64 tag, .agg (fourC a b c d)] w (SPost w TW.zero false) := by
  have g1 : decide (tag < 0) = false := decide_eq_false (by omega)
  have g2 : decide (20 < tag) = false := decide_eq_false (by omega)
  obtain ⟨k1, k2, b1⟩ := kb_two 24 26 w (fourC a b c d) #[.int .u64 0, .int .u64 0]
  have SO := Lib.hid (fun w' (b' : Below w.heap.size w w') => spotOf_any tag a b c d w' (hT.below b') ha hb hc hd)
  generalize spN tag a b c d = p at *
  dsimp only [spC] at SO
  rw [hi, hn, hs] at SO
  clear hi hn hs
  go_enter Tryd.func7, Tryd.ntmps7
  go_wp2_with fail
  generalize (w.alloc _).alloc _ = w1 at *
  refine (SO.out _ b1).mono ?_
  rintro e' w2 ⟨rfl, bb⟩
  have k2 := k2.adv bb
  have b1 := below_step b1 bb
  clear bb SO k1
  go_upto_region 4 with fail
  have al := alloc_bel w2 (.cells #[.int .u64 (p.x : Int), .int .u64 (p.y : Int), .int .i64 (kindN p.x : Int), .int .i64 (kindN p.y : Int), .int .u64 (sgI (sgB p.x)), .int .u64 (sgI (sgB p.y)), .int .u64 (sgI p.su), .bool false, .bool false, .bool false] 33)
  have kg := KB.made 33 w2 #[.int .u64 (p.x : Int), .int .u64 (p.y : Int), .int .i64 (kindN p.x : Int), .int .i64 (kindN p.y : Int), .int .u64 (sgI (sgB p.x)), .int .u64 (sgI (sgB p.y)), .int .u64 (sgI p.su), .bool false, .bool false, .bool false]
  have k2 := k2.adv al
  have b1 := below_step b1 al
  clear al
  generalize hw : w2.alloc _ = w3 at *
  clear hw
  have y7 := kg.at_ 7 (v := .bool false) rfl
  have y8 := kg.at_ 8 (v := .bool false) rfl
  have y9 := kg.at_ 9 (v := .bool false) rfl
  have z0 := k2.at_ 0 (v := .int .u64 0) rfl
  have z1 := k2.at_ 1 (v := .int .u64 0) rfl
  have f0 := k2.fr 0
  have f1 := k2.fr 1
  go_wp2_with fail
  have o := only_put2 w3 (w.heap.size + 1) (.int .u64 0) (.int .u64 0)
  exact bodyPost_ret (v := .tuple #[.agg #[.int .u64 0, .int .u64 0], .int .i64 0, .bool false]) (by simp [results, Tryd.results7, go_sem, z0, z1]) rfl ⟨rfl, Only.below b1 o b1.size (by omega)⟩
theorem told_all {w : World} {g : Nat} {t : TW} (k : KB 36 w g #[.int .u64 t.a, .int .u64 t.b, .int .i64 t.f]) : w.cell? ⟨g, 0, none⟩ = some (.int .u64 t.a) ∧ w.cell? ⟨g, 1, none⟩ = some (.int .u64 t.b) ∧ w.cell? ⟨g, 2, none⟩ = some (.int .i64 t.f) := ⟨k.at_ 0 rfl, k.at_ 1 rfl, k.at_ 2 rfl⟩
theorem told_put {w : World} {g g' : Nat} {x y : Value} {t : TW} (k : KB 36 w g #[.int .u64 t.a, .int .u64 t.b, .int .i64 t.f]) (h : g ≠ g') : (put2 w g' x y).drew.cell? ⟨g, 0, none⟩ = some (.int .u64 t.a) ∧ (put2 w g' x y).drew.cell? ⟨g, 1, none⟩ = some (.int .u64 t.b) ∧ (put2 w g' x y).drew.cell? ⟨g, 2, none⟩ = some (.int .i64 t.f) := told_all (KB.drew (k.only (only_put2 w g' x y) h))
set_option maxHeartbeats 4000000 in
theorem special_yes (tag : Int) (a b c d : Nat) (w : World) (hT : Tab w) (ha : a < B64) (hb : b < B64) (hc : c < B64) (hd : d < B64) (h0 : 0 ≤ tag) (h20 : tag ≤ 20)
    (hi : ((spN tag a b c d).isI || (spN tag a b c d).isN || (spN tag a b c d).sing) = true) :
    Calls Tryd.prog 7 #[.int .i64 tag, .agg (fourC a b c d)] w (SPost w (toldN tag (spN tag a b c d)) true) := by
  have g1 : decide (tag < 0) = false := decide_eq_false (by omega)
  have g2 : decide (20 < tag) = false := decide_eq_false (by omega)
  obtain ⟨k1, k2, b1⟩ := kb_two 24 26 w (fourC a b c d) #[.int .u64 0, .int .u64 0]
  have SO := Lib.hid (fun w' (b' : Below w.heap.size w w') => spotOf_any tag a b c d w' (hT.below b') ha hb hc hd)
  obtain ⟨p, hp⟩ : ∃ p, Hid (spN tag a b c d = p) := ⟨_, Lib.hid rfl⟩
  have hx : p.x < B64 := by rw [← hp.out]; exact ha
  have hy : p.y < B64 := by rw [← hp.out]; exact hb
  rw [hp.out] at SO hi ⊢
  have LN := Lib.hid (fun w' => line_any tag p w' hx hy)
  have LL := Lib.hid (fun w' => lastLine_any p w')
  have T1 : Hid ((lineN tag p).2 = true → toldN tag p = (lineN tag p).1) := Lib.hid (fun h => by unfold toldN; rw [if_pos h])
  have T2 : Hid ((lineN tag p).2 = false → toldN tag p = lastN p) := Lib.hid (fun h => by unfold toldN; rw [if_neg (by rw [h]; simp)])
  generalize toldN tag p = r at *
  generalize lastN p = s at *
  generalize lineN tag p = l at *
  obtain ⟨t, ok⟩ := l
  simp only at T1 T2
  have HI := Lib.hid hi
  clear hp hi
  go_enter Tryd.func7, Tryd.ntmps7
  go_wp2_with fail
  generalize (w.alloc _).alloc _ = w1 at *
  refine (SO.out _ b1).mono ?_
  rintro e' w2 ⟨rfl, bb⟩
  have k2 := k2.adv bb
  have b1 := below_step b1 bb
  clear bb SO k1
  go_upto_region 4 with fail
  have al := alloc_bel w2 (.cells (spC p) 33)
  have kg := KB.made 33 w2 (spC p)
  have k2 := k2.adv al
  have b1 := below_step b1 al
  clear al
  generalize hw : w2.alloc _ = w3 at *
  clear hw
  have y0 := kg.at_ 0 (v := .int .u64 (p.x : Int)) rfl
  have y1 := kg.at_ 1 (v := .int .u64 (p.y : Int)) rfl
  have y2 := kg.at_ 2 (v := .int .i64 (kindN p.x : Int)) rfl
  have y3 := kg.at_ 3 (v := .int .i64 (kindN p.y : Int)) rfl
  have y4 := kg.at_ 4 (v := .int .u64 (sgI (sgB p.x))) rfl
  have y5 := kg.at_ 5 (v := .int .u64 (sgI (sgB p.y))) rfl
  have y6 := kg.at_ 6 (v := .int .u64 (sgI p.su)) rfl
  have y7 := kg.at_ 7 (v := .bool p.isI) rfl
  have y8 := kg.at_ 8 (v := .bool p.isN) rfl
  have y9 := kg.at_ 9 (v := .bool p.sing) rfl
  go_cut [32] (fun s32 wx => s32 = .bool false ∧ wx = w3)
  case first =>
    clear LN LL T1 T2 y0 y1 y2 y3 y4 y5 y6
    generalize p.isI = i at *
    generalize p.isN = n at *
    generalize p.sing = s' at *
    cases i <;> cases n <;> cases s'
    all_goals first
      | exact absurd HI.out (by decide)
      | (go_wp2_with fail
         go_meet
         exact ⟨rfl, rfl⟩)
  case rest =>
    obtain ⟨rfl, rfl⟩ := hcut
    clear HI
    go_wp2_with fail
    refine (LN.out _).mono ?_
    rintro e' w4 ⟨rfl, bb⟩
    have kg := kg.adv bb
    have k2 := k2.adv bb
    have b1 := below_step b1 bb
    clear LN bb y0 y1 y2 y3 y4 y5 y6 y7 y8 y9
    cases ok
    · obtain rfl := T2.out rfl
      clear T1 T2
      go_upto_region 7 with fail
      have al := alloc_bel w4 (.cells #[.int .u64 t.a, .int .u64 t.b, .int .i64 t.f] 36)
      have kq := KB.made 36 w4 #[.int .u64 t.a, .int .u64 t.b, .int .i64 t.f]
      have hs4 : w.heap.size + 1 < w4.heap.size := k2.2
      have k2 := k2.adv al
      have kg := kg.adv al
      have b1 := below_step b1 al
      clear al
      generalize hw : w4.alloc _ = w5 at *
      clear hw
      go_upto_region 8 with fail
      have y0 := kg.at_ 0 (v := .int .u64 (p.x : Int)) rfl
      have y1 := kg.at_ 1 (v := .int .u64 (p.y : Int)) rfl
      have y2 := kg.at_ 2 (v := .int .i64 (kindN p.x : Int)) rfl
      have y3 := kg.at_ 3 (v := .int .i64 (kindN p.y : Int)) rfl
      have y4 := kg.at_ 4 (v := .int .u64 (sgI (sgB p.x))) rfl
      have y5 := kg.at_ 5 (v := .int .u64 (sgI (sgB p.y))) rfl
      have y6 := kg.at_ 6 (v := .int .u64 (sgI p.su)) rfl
      have y7 := kg.at_ 7 (v := .bool p.isI) rfl
      have y8 := kg.at_ 8 (v := .bool p.isN) rfl
      have y9 := kg.at_ 9 (v := .bool p.sing) rfl
      go_wp2_with fail
      refine (LL.out _).mono ?_
      rintro e' w6 ⟨rfl, bb⟩
      have k2 := k2.adv bb
      have kq := kq.adv bb
      have b1 := below_step b1 bb
      clear bb LL y0 y1 y2 y3 y4 y5 y6 y7 y8 y9
      have e0 := kq.at_ 0 (v := .int .u64 t.a) rfl
      have e1 := kq.at_ 1 (v := .int .u64 t.b) rfl
      have e2 := kq.at_ 2 (v := .int .i64 t.f) rfl
      have f0 := kq.fr 0
      have f1 := kq.fr 1
      have f2 := kq.fr 2
      go_upto_region 9 with fail
      clear e0 e1 e2 f0 f1 f2
      have o3 := only_put3 w6 w4.heap.size (.int .u64 r.a) (.int .u64 r.b) (.int .i64 r.f)
      have kq := kb_put3 kq (.int .u64 r.a) (.int .u64 r.b) (.int .i64 r.f)
      have k2 := k2.only o3 (by omega)
      have b1 := Only.below b1 o3 b1.size (by omega)
      clear o3
      dsimp only [put3] at kq k2 b1
      generalize hw : ((w6.setCell _ _).setCell _ _).setCell _ _ = w7 at *
      clear hw
      have z0 := k2.at_ 0 (v := .int .u64 0) rfl
      have z1 := k2.at_ 1 (v := .int .u64 0) rfl
      have f0 := k2.fr 0
      have f1 := k2.fr 1
      have q8 := kq.drew
      go_region_held3 (fun w' => w'.cell? ⟨w4.heap.size, 0, none⟩ = some (.int .u64 r.a) ∧ w'.cell? ⟨w4.heap.size, 1, none⟩ = some (.int .u64 r.b) ∧ w'.cell? ⟨w4.heap.size, 2, none⟩ = some (.int .i64 r.f))
        (first | with_reducible exact told_put kq (by omega) | with_reducible exact told_all q8)
        (fail)
      have o := only_put2 w7 (w.heap.size + 1) (.int .u64 r.a) (.int .u64 r.b)
      go_wp2_with fail
      exact bodyPost_ret (v := .tuple #[.agg #[.int .u64 r.a, .int .u64 r.b], .int .i64 r.f, .bool true]) (by simp [results, Tryd.results7, go_sem, z0, z1]) rfl ⟨rfl, (Only.below b1 o b1.size (by omega)).drew⟩
    · obtain rfl := T1.out rfl
      clear T1 T2 LL
      go_upto_region 7 with fail
      have al := alloc_bel w4 (.cells #[.int .u64 r.a, .int .u64 r.b, .int .i64 r.f] 36)
      have kq := KB.made 36 w4 #[.int .u64 r.a, .int .u64 r.b, .int .i64 r.f]
      have hs4 : w.heap.size + 1 < w4.heap.size := k2.2
      have k2 := k2.adv al
      have kg := kg.adv al
      have b1 := below_step b1 al
      clear al
      generalize hw : w4.alloc _ = w5 at *
      clear hw
      go_upto_region 9 with fail
      have z0 := k2.at_ 0 (v := .int .u64 0) rfl
      have z1 := k2.at_ 1 (v := .int .u64 0) rfl
      have f0 := k2.fr 0
      have f1 := k2.fr 1
      have q8 := kq.drew
      go_region_held3 (fun w' => w'.cell? ⟨w4.heap.size, 0, none⟩ = some (.int .u64 r.a) ∧ w'.cell? ⟨w4.heap.size, 1, none⟩ = some (.int .u64 r.b) ∧ w'.cell? ⟨w4.heap.size, 2, none⟩ = some (.int .i64 r.f))
        (first | with_reducible exact told_put kq (by omega) | with_reducible exact told_all q8)
        (fail)
      have o := only_put2 w5 (w.heap.size + 1) (.int .u64 r.a) (.int .u64 r.b)
      go_wp2_with fail
      exact bodyPost_ret (v := .tuple #[.agg #[.int .u64 r.a, .int .u64 r.b], .int .i64 r.f, .bool true]) (by simp [results, Tryd.results7, go_sem, z0, z1]) rfl ⟨rfl, (Only.below b1 o b1.size (by omega)).drew⟩
/-- special's Special: by the table. -/
theorem special_any (tag : Int) (a b c d : Nat) (w : World) (hT : Tab w) (ha : a < B64) (hb : b < B64) (hc : c < B64) (hd : d < B64) : Calls Tryd.prog 7 #[.int .i64 tag, .agg (fourC a b c d)] w (SPost w (specN tag a b c d) (isSp tag a b c d)) := by
  by_cases hr : tag < 0 ∨ 20 < tag
  · have h : isSp tag a b c d = false := by
      unfold isSp
      rw [show (decide (0 ≤ tag) && decide (tag ≤ 20)) = false by simp; omega]
      rfl
    unfold specN
    rw [h, if_neg (by simp)]
    exact special_out tag a b c d w hr
  · have hin : (decide (0 ≤ tag) && decide (tag ≤ 20)) = true := by simp; omega
    by_cases h : isSp tag a b c d = true
    · unfold specN
      rw [h, if_pos rfl]
      exact special_yes tag a b c d w hT ha hb hc hd (by omega) (by omega) (by unfold isSp at h; rw [hin] at h; exact h)
    · have h' : isSp tag a b c d = false := by simpa using h
      have h2 := h'
      unfold isSp at h2
      rw [hin] at h2
      simp only [Bool.true_and, Bool.or_eq_false_iff] at h2
      unfold specN
      rw [h', if_neg (by simp)]
      exact special_no tag a b c d w hT ha hb hc hd (by omega) (by omega) h2.1.1 h2.1.2 h2.2
end Go.Proofs.YtembfhepinfmnaaDoor
