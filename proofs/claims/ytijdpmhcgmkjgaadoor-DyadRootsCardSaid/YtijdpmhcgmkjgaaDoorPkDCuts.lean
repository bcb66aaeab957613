/-
  volvellelaw02.DyadCuts and DyadRoots answer true, whatever they are given.
-/
import Derived.Test.YtijdpmhcgmkjgaaDoorPkDy11
namespace Go.Proofs.YtijdpmhcgmkjgaaDoor
open Go.RowKit

set_option maxRecDepth 8000 in
set_option maxHeartbeats 4000000 in
theorem cuts_any (na nb' : Bool) (A B : Option Addr) (n c m d : Nat) (x y : Nat → Nat) (ea eb p : Int) (up : Bool) (w : World) (ha : Sl w A n c x) (hb : Sl w B m d y) (hn : n ≤ 9223372036854775807) (hm : m ≤ 9223372036854775807) (hT : Tab w) :
Calls Tryd.prog 6 #[dyv na A n c ea, dyv nb' B m d eb, .agg #[.int .i64 p, .bool up]] w (TruePost w) := by
  obtain ⟨bel, kA, kB, kJ⟩ := start32 w (.bool na) (.slice A n c) (.int .i64 ea) (.bool nb') (.slice B m d) (.int .i64 eb) (.int .i64 p) (.bool up)
  have AW : Hid (∀ w', Below w.heap.size w w' → Calls Tryd.prog 10 #[] w' (TruePost w')) := Lib.hid (fun w' h => awake_any w' (hT.below h))
  go_enter Tryd.func6, Tryd.ntmps6
  go_wp2_with fail
  generalize ((w.alloc (cd3 (.bool na) (.slice A n c) (.int .i64 ea))).alloc (cd3 (.bool nb') (.slice B m d) (.int .i64 eb))).alloc (cj (.int .i64 p) (.bool up)) = w1 at *
  refine (AW.out _ bel).mono ?_
  rintro e' w2 ⟨rfl, b⟩
  replace bel := below_step bel b
  replace kA := kA.adv b
  replace kB := kB.adv b
  replace kJ := kJ.adv b
  clear b
  obtain ⟨kA_0, kA_1, kA_2, kA_3⟩ := kA.cell
  obtain ⟨kB_0, kB_1, kB_2, kB_3⟩ := kB.cell
  obtain ⟨kJ_0, kJ_1, kJ_2⟩ := kJ.cell
  go_wp2_with fail
  clear kA_0 kA_1 kA_2 kA_3 kB_0 kB_1 kB_2 kB_3 kJ_0 kJ_1 kJ_2
  refine (few_pair na nb' A B n m c d x y ea eb w2 (ha.below bel) (hb.below bel) hn hm).mono ?_
  rintro e' w3 ⟨rfl, b⟩
  replace bel := below_step bel b
  replace kA := kA.adv b
  replace kB := kB.adv b
  replace kJ := kJ.adv b
  clear b
  by_cases hf : (few1 n ea && few1 m eb) = true
  · have hf' := hf
    rw [Bool.and_eq_true] at hf'
    have f1 := few1_true hf'.1
    have f2 := few1_true hf'.2
    rw [hf]
    rcases (by omega : (600 < p ∧ p ≤ 8192) ∨ ¬ 600 < p ∨ (600 < p ∧ ¬ p ≤ 8192)) with hp | hp | hp
    · obtain ⟨hp1, hp2⟩ := hp
      obtain ⟨kA_0, kA_1, kA_2, kA_3⟩ := kA.cell
      obtain ⟨kB_0, kB_1, kB_2, kB_3⟩ := kB.cell
      obtain ⟨kJ_0, kJ_1, kJ_2⟩ := kJ.cell
      have bF := bel
      go_wp2_with fail
      go_ret
      exact ⟨rfl, bF⟩
    · have hp1 : ¬ 600 < p := hp
      have C1 : Hid (∀ w', Below w.heap.size w w' → Calls Tryd.prog 25 #[dyv na A n c ea, .int .i64 p, .bool up] w' (DP w' (cutP (plainB na n x ea && bitsFitB p) na (vs B64 x n) ea p up))) := Lib.hid (fun w' h => (dcut_any na A n c x ea p up w' (ha.below h) (by omega) (hT.below h)).mono fun _ _ h => h.dp)
      have C2 : Hid (∀ w', Below w.heap.size w w' → Calls Tryd.prog 26 #[dyv na A n c ea, .int .i64 p, .bool up] w' (DP w' (cutP (plainB na n x ea && bitsFitB p) na (vs B64 x n) ea p up))) := Lib.hid (fun w' h => (rcut_any na A n c x ea p up w' (ha.below h) (by omega) (hT.below h)).mono fun _ _ h => h.dp)
      have C3 : Hid (∀ w', Below w.heap.size w w' → Calls Tryd.prog 27 #[dyv na A n c ea, dyv nb' B m d eb, .int .i64 p, .bool up] w' (DP w' (overD (plainB na n x ea && plainB nb' m y eb && !decide (m = 0) && bitsFitB p) na nb' (vs B64 x n) (vs B64 y m) ea eb p up))) := Lib.hid (fun w' h => (over_any na nb' A B n c m d x y ea eb p up w' (ha.below h) (hb.below h) (by omega) (by omega) (hT.below h)).mono fun _ _ h => h.dp)
      have C4 : Hid (∀ w', Below w.heap.size w w' → Calls Tryd.prog 28 #[dyv na A n c ea, dyv nb' B m d eb, .int .i64 p, .bool up] w' (DP w' (overD (plainB na n x ea && plainB nb' m y eb && !decide (m = 0) && bitsFitB p) na nb' (vs B64 x n) (vs B64 y m) ea eb p up))) := Lib.hid (fun w' h => (rover_any na nb' A B n c m d x y ea eb p up w' (ha.below h) (hb.below h) (by omega) (by omega) (hT.below h)).mono fun _ _ h => h.dp)
      have hr := Lib.hid (cutP_m (plainB na n x ea && bitsFitB p) na (vs B64 x n) ea p up)
      have hs := Lib.hid (overD_m (plainB na n x ea && plainB nb' m y eb && !decide (m = 0) && bitsFitB p) na nb' (vs B64 x n) (vs B64 y m) ea eb p up)
      generalize cutP (plainB na n x ea && bitsFitB p) na (vs B64 x n) ea p up = r at *
      generalize overD (plainB na n x ea && plainB nb' m y eb && !decide (m = 0) && bitsFitB p) na nb' (vs B64 x n) (vs B64 y m) ea eb p up = s at *
      clear hf hf' f1 f2
      obtain ⟨kA_0, kA_1, kA_2, kA_3⟩ := kA.cell
      obtain ⟨kB_0, kB_1, kB_2, kB_3⟩ := kB.cell
      obtain ⟨kJ_0, kJ_1, kJ_2⟩ := kJ.cell
      go_wp2_with fail
      clear kA_0 kA_1 kA_2 kA_3 kB_0 kB_1 kB_2 kB_3 kJ_0 kJ_1 kJ_2
      refine (C1.out _ bel).mono ?_
      rintro e' w4 ⟨A1, p1, c1, rfl, m1, b⟩
      replace bel := below_step bel b
      replace kA := kA.adv b
      replace kB := kB.adv b
      replace kJ := kJ.adv b
      clear b
      obtain ⟨kA_0, kA_1, kA_2, kA_3⟩ := kA.cell
      obtain ⟨kB_0, kB_1, kB_2, kB_3⟩ := kB.cell
      obtain ⟨kJ_0, kJ_1, kJ_2⟩ := kJ.cell
      go_wp2_with fail
      clear kA_0 kA_1 kA_2 kA_3 kB_0 kB_1 kB_2 kB_3 kJ_0 kJ_1 kJ_2
      have b := alloc_bel w4 (cd3 (.bool r.neg) (.slice A1 p1 c1) (.int .i64 r.e))
      have k1 := K3.made w4 (.bool r.neg) (.slice A1 p1 c1) (.int .i64 r.e)
      replace bel := below_step bel b
      replace kA := kA.adv b
      replace kB := kB.adv b
      replace kJ := kJ.adv b
      replace m1 := m1.below b
      clear b
      generalize w4.alloc (cd3 (.bool r.neg) (.slice A1 p1 c1) (.int .i64 r.e)) = w5 at *
      refine (C2.out _ bel).mono ?_
      rintro e' w6 ⟨A2, p2, c2, rfl, m2, b⟩
      replace bel := below_step bel b
      replace kA := kA.adv b
      replace kB := kB.adv b
      replace kJ := kJ.adv b
      replace k1 := k1.adv b
      replace m1 := m1.below b
      clear b
      obtain ⟨kA_0, kA_1, kA_2, kA_3⟩ := kA.cell
      obtain ⟨kB_0, kB_1, kB_2, kB_3⟩ := kB.cell
      obtain ⟨kJ_0, kJ_1, kJ_2⟩ := kJ.cell
      obtain ⟨k1_0, k1_1, k1_2, k1_3⟩ := k1.cell
      go_wp2_with fail
      clear kA_0 kA_1 kA_2 kA_3 kB_0 kB_1 kB_2 kB_3 kJ_0 kJ_1 kJ_2 k1_0 k1_1 k1_2 k1_3
      have b := alloc_bel w6 (cd3 (.bool r.neg) (.slice A2 p2 c2) (.int .i64 r.e))
      have k2 := K3.made w6 (.bool r.neg) (.slice A2 p2 c2) (.int .i64 r.e)
      replace bel := below_step bel b
      replace kA := kA.adv b
      replace kB := kB.adv b
      replace kJ := kJ.adv b
      replace k1 := k1.adv b
      replace m1 := m1.below b
      replace m2 := m2.below b
      clear b
      generalize w6.alloc (cd3 (.bool r.neg) (.slice A2 p2 c2) (.int .i64 r.e)) = w7 at *
      refine (C3.out _ bel).mono ?_
      rintro e' w8 ⟨A3, p3, c3, rfl, m3, b⟩
      replace bel := below_step bel b
      replace kA := kA.adv b
      replace kB := kB.adv b
      replace kJ := kJ.adv b
      replace k1 := k1.adv b
      replace k2 := k2.adv b
      replace m1 := m1.below b
      replace m2 := m2.below b
      clear b
      obtain ⟨kA_0, kA_1, kA_2, kA_3⟩ := kA.cell
      obtain ⟨kB_0, kB_1, kB_2, kB_3⟩ := kB.cell
      obtain ⟨kJ_0, kJ_1, kJ_2⟩ := kJ.cell
      obtain ⟨k1_0, k1_1, k1_2, k1_3⟩ := k1.cell
      obtain ⟨k2_0, k2_1, k2_2, k2_3⟩ := k2.cell
      go_wp2_with fail
      clear kA_0 kA_1 kA_2 kA_3 kB_0 kB_1 kB_2 kB_3 kJ_0 kJ_1 kJ_2 k1_0 k1_1 k1_2 k1_3 k2_0 k2_1 k2_2 k2_3
      have b := alloc_bel w8 (cd3 (.bool s.neg) (.slice A3 p3 c3) (.int .i64 s.e))
      have k3 := K3.made w8 (.bool s.neg) (.slice A3 p3 c3) (.int .i64 s.e)
      replace bel := below_step bel b
      replace kA := kA.adv b
      replace kB := kB.adv b
      replace kJ := kJ.adv b
      replace k1 := k1.adv b
      replace k2 := k2.adv b
      replace m1 := m1.below b
      replace m2 := m2.below b
      replace m3 := m3.below b
      clear b
      generalize w8.alloc (cd3 (.bool s.neg) (.slice A3 p3 c3) (.int .i64 s.e)) = w9 at *
      refine (C4.out _ bel).mono ?_
      rintro e' w10 ⟨A4, p4, c4, rfl, m4, b⟩
      replace bel := below_step bel b
      replace kA := kA.adv b
      replace kB := kB.adv b
      replace kJ := kJ.adv b
      replace k1 := k1.adv b
      replace k2 := k2.adv b
      replace k3 := k3.adv b
      replace m1 := m1.below b
      replace m2 := m2.below b
      replace m3 := m3.below b
      clear b
      obtain ⟨kA_0, kA_1, kA_2, kA_3⟩ := kA.cell
      obtain ⟨kB_0, kB_1, kB_2, kB_3⟩ := kB.cell
      obtain ⟨kJ_0, kJ_1, kJ_2⟩ := kJ.cell
      obtain ⟨k1_0, k1_1, k1_2, k1_3⟩ := k1.cell
      obtain ⟨k2_0, k2_1, k2_2, k2_3⟩ := k2.cell
      obtain ⟨k3_0, k3_1, k3_2, k3_3⟩ := k3.cell
      go_wp2_with fail
      clear kA_0 kA_1 kA_2 kA_3 kB_0 kB_1 kB_2 kB_3 kJ_0 kJ_1 kJ_2 k1_0 k1_1 k1_2 k1_3 k2_0 k2_1 k2_2 k2_3 k3_0 k3_1 k3_2 k3_3
      have b := alloc_bel w10 (cd3 (.bool s.neg) (.slice A4 p4 c4) (.int .i64 s.e))
      have k4 := K3.made w10 (.bool s.neg) (.slice A4 p4 c4) (.int .i64 s.e)
      replace bel := below_step bel b
      replace kA := kA.adv b
      replace kB := kB.adv b
      replace kJ := kJ.adv b
      replace k1 := k1.adv b
      replace k2 := k2.adv b
      replace k3 := k3.adv b
      replace m1 := m1.below b
      replace m2 := m2.below b
      replace m3 := m3.below b
      replace m4 := m4.below b
      clear b
      generalize w10.alloc (cd3 (.bool s.neg) (.slice A4 p4 c4) (.int .i64 s.e)) = w11 at *
      refine (both_any r.neg r.ok r.e _ m1 m2 256 (by omega) hr.out).mono ?_
      rintro e' w12 ⟨rfl, b⟩
      replace bel := below_step bel b
      replace kA := kA.adv b
      replace kB := kB.adv b
      replace kJ := kJ.adv b
      replace k1 := k1.adv b
      replace k2 := k2.adv b
      replace k3 := k3.adv b
      replace k4 := k4.adv b
      replace m1 := m1.below b
      replace m2 := m2.below b
      replace m3 := m3.below b
      replace m4 := m4.below b
      clear b
      obtain ⟨k3_0, k3_1, k3_2, k3_3⟩ := k3.cell
      obtain ⟨k4_0, k4_1, k4_2, k4_3⟩ := k4.cell
      go_wp2_with fail
      clear k3_0 k3_1 k3_2 k3_3 k4_0 k4_1 k4_2 k4_3
      refine (both_any s.neg s.ok s.e _ m3 m4 256 (by omega) hs.out).mono ?_
      rintro e' w13 ⟨rfl, b⟩
      replace bel := below_step bel b
      replace kA := kA.adv b
      replace kB := kB.adv b
      replace kJ := kJ.adv b
      replace k1 := k1.adv b
      replace k2 := k2.adv b
      replace k3 := k3.adv b
      replace k4 := k4.adv b
      replace m1 := m1.below b
      replace m2 := m2.below b
      replace m3 := m3.below b
      replace m4 := m4.below b
      clear b
      go_wp2_with fail
      go_ret
      exact ⟨rfl, bel⟩
    · obtain ⟨hp1, hp2⟩ := hp
      have C1 : Hid (∀ w', Below w.heap.size w w' → Calls Tryd.prog 25 #[dyv na A n c ea, .int .i64 p, .bool up] w' (DP w' (cutP (plainB na n x ea && bitsFitB p) na (vs B64 x n) ea p up))) := Lib.hid (fun w' h => (dcut_any na A n c x ea p up w' (ha.below h) (by omega) (hT.below h)).mono fun _ _ h => h.dp)
      have C2 : Hid (∀ w', Below w.heap.size w w' → Calls Tryd.prog 26 #[dyv na A n c ea, .int .i64 p, .bool up] w' (DP w' (cutP (plainB na n x ea && bitsFitB p) na (vs B64 x n) ea p up))) := Lib.hid (fun w' h => (rcut_any na A n c x ea p up w' (ha.below h) (by omega) (hT.below h)).mono fun _ _ h => h.dp)
      have C3 : Hid (∀ w', Below w.heap.size w w' → Calls Tryd.prog 27 #[dyv na A n c ea, dyv nb' B m d eb, .int .i64 p, .bool up] w' (DP w' (overD (plainB na n x ea && plainB nb' m y eb && !decide (m = 0) && bitsFitB p) na nb' (vs B64 x n) (vs B64 y m) ea eb p up))) := Lib.hid (fun w' h => (over_any na nb' A B n c m d x y ea eb p up w' (ha.below h) (hb.below h) (by omega) (by omega) (hT.below h)).mono fun _ _ h => h.dp)
      have C4 : Hid (∀ w', Below w.heap.size w w' → Calls Tryd.prog 28 #[dyv na A n c ea, dyv nb' B m d eb, .int .i64 p, .bool up] w' (DP w' (overD (plainB na n x ea && plainB nb' m y eb && !decide (m = 0) && bitsFitB p) na nb' (vs B64 x n) (vs B64 y m) ea eb p up))) := Lib.hid (fun w' h => (rover_any na nb' A B n c m d x y ea eb p up w' (ha.below h) (hb.below h) (by omega) (by omega) (hT.below h)).mono fun _ _ h => h.dp)
      have hr := Lib.hid (cutP_m (plainB na n x ea && bitsFitB p) na (vs B64 x n) ea p up)
      have hs := Lib.hid (overD_m (plainB na n x ea && plainB nb' m y eb && !decide (m = 0) && bitsFitB p) na nb' (vs B64 x n) (vs B64 y m) ea eb p up)
      generalize cutP (plainB na n x ea && bitsFitB p) na (vs B64 x n) ea p up = r at *
      generalize overD (plainB na n x ea && plainB nb' m y eb && !decide (m = 0) && bitsFitB p) na nb' (vs B64 x n) (vs B64 y m) ea eb p up = s at *
      clear hf hf' f1 f2
      obtain ⟨kA_0, kA_1, kA_2, kA_3⟩ := kA.cell
      obtain ⟨kB_0, kB_1, kB_2, kB_3⟩ := kB.cell
      obtain ⟨kJ_0, kJ_1, kJ_2⟩ := kJ.cell
      go_wp2_with fail
      clear kA_0 kA_1 kA_2 kA_3 kB_0 kB_1 kB_2 kB_3 kJ_0 kJ_1 kJ_2
      refine (C1.out _ bel).mono ?_
      rintro e' w4 ⟨A1, p1, c1, rfl, m1, b⟩
      replace bel := below_step bel b
      replace kA := kA.adv b
      replace kB := kB.adv b
      replace kJ := kJ.adv b
      clear b
      obtain ⟨kA_0, kA_1, kA_2, kA_3⟩ := kA.cell
      obtain ⟨kB_0, kB_1, kB_2, kB_3⟩ := kB.cell
      obtain ⟨kJ_0, kJ_1, kJ_2⟩ := kJ.cell
      go_wp2_with fail
      clear kA_0 kA_1 kA_2 kA_3 kB_0 kB_1 kB_2 kB_3 kJ_0 kJ_1 kJ_2
      have b := alloc_bel w4 (cd3 (.bool r.neg) (.slice A1 p1 c1) (.int .i64 r.e))
      have k1 := K3.made w4 (.bool r.neg) (.slice A1 p1 c1) (.int .i64 r.e)
      replace bel := below_step bel b
      replace kA := kA.adv b
      replace kB := kB.adv b
      replace kJ := kJ.adv b
      replace m1 := m1.below b
      clear b
      generalize w4.alloc (cd3 (.bool r.neg) (.slice A1 p1 c1) (.int .i64 r.e)) = w5 at *
      refine (C2.out _ bel).mono ?_
      rintro e' w6 ⟨A2, p2, c2, rfl, m2, b⟩
      replace bel := below_step bel b
      replace kA := kA.adv b
      replace kB := kB.adv b
      replace kJ := kJ.adv b
      replace k1 := k1.adv b
      replace m1 := m1.below b
      clear b
      obtain ⟨kA_0, kA_1, kA_2, kA_3⟩ := kA.cell
      obtain ⟨kB_0, kB_1, kB_2, kB_3⟩ := kB.cell
      obtain ⟨kJ_0, kJ_1, kJ_2⟩ := kJ.cell
      obtain ⟨k1_0, k1_1, k1_2, k1_3⟩ := k1.cell
      go_wp2_with fail
      clear kA_0 kA_1 kA_2 kA_3 kB_0 kB_1 kB_2 kB_3 kJ_0 kJ_1 kJ_2 k1_0 k1_1 k1_2 k1_3
      have b := alloc_bel w6 (cd3 (.bool r.neg) (.slice A2 p2 c2) (.int .i64 r.e))
      have k2 := K3.made w6 (.bool r.neg) (.slice A2 p2 c2) (.int .i64 r.e)
      replace bel := below_step bel b
      replace kA := kA.adv b
      replace kB := kB.adv b
      replace kJ := kJ.adv b
      replace k1 := k1.adv b
      replace m1 := m1.below b
      replace m2 := m2.below b
      clear b
      generalize w6.alloc (cd3 (.bool r.neg) (.slice A2 p2 c2) (.int .i64 r.e)) = w7 at *
      refine (C3.out _ bel).mono ?_
      rintro e' w8 ⟨A3, p3, c3, rfl, m3, b⟩
      replace bel := below_step bel b
      replace kA := kA.adv b
      replace kB := kB.adv b
      replace kJ := kJ.adv b
      replace k1 := k1.adv b
      replace k2 := k2.adv b
      replace m1 := m1.below b
      replace m2 := m2.below b
      clear b
      obtain ⟨kA_0, kA_1, kA_2, kA_3⟩ := kA.cell
      obtain ⟨kB_0, kB_1, kB_2, kB_3⟩ := kB.cell
      obtain ⟨kJ_0, kJ_1, kJ_2⟩ := kJ.cell
      obtain ⟨k1_0, k1_1, k1_2, k1_3⟩ := k1.cell
      obtain ⟨k2_0, k2_1, k2_2, k2_3⟩ := k2.cell
      go_wp2_with fail
      clear kA_0 kA_1 kA_2 kA_3 kB_0 kB_1 kB_2 kB_3 kJ_0 kJ_1 kJ_2 k1_0 k1_1 k1_2 k1_3 k2_0 k2_1 k2_2 k2_3
      have b := alloc_bel w8 (cd3 (.bool s.neg) (.slice A3 p3 c3) (.int .i64 s.e))
      have k3 := K3.made w8 (.bool s.neg) (.slice A3 p3 c3) (.int .i64 s.e)
      replace bel := below_step bel b
      replace kA := kA.adv b
      replace kB := kB.adv b
      replace kJ := kJ.adv b
      replace k1 := k1.adv b
      replace k2 := k2.adv b
      replace m1 := m1.below b
      replace m2 := m2.below b
      replace m3 := m3.below b
      clear b
      generalize w8.alloc (cd3 (.bool s.neg) (.slice A3 p3 c3) (.int .i64 s.e)) = w9 at *
      refine (C4.out _ bel).mono ?_
      rintro e' w10 ⟨A4, p4, c4, rfl, m4, b⟩
      replace bel := below_step bel b
      replace kA := kA.adv b
      replace kB := kB.adv b
      replace kJ := kJ.adv b
      replace k1 := k1.adv b
      replace k2 := k2.adv b
      replace k3 := k3.adv b
      replace m1 := m1.below b
      replace m2 := m2.below b
      replace m3 := m3.below b
      clear b
      obtain ⟨kA_0, kA_1, kA_2, kA_3⟩ := kA.cell
      obtain ⟨kB_0, kB_1, kB_2, kB_3⟩ := kB.cell
      obtain ⟨kJ_0, kJ_1, kJ_2⟩ := kJ.cell
      obtain ⟨k1_0, k1_1, k1_2, k1_3⟩ := k1.cell
      obtain ⟨k2_0, k2_1, k2_2, k2_3⟩ := k2.cell
      obtain ⟨k3_0, k3_1, k3_2, k3_3⟩ := k3.cell
      go_wp2_with fail
      clear kA_0 kA_1 kA_2 kA_3 kB_0 kB_1 kB_2 kB_3 kJ_0 kJ_1 kJ_2 k1_0 k1_1 k1_2 k1_3 k2_0 k2_1 k2_2 k2_3 k3_0 k3_1 k3_2 k3_3
      have b := alloc_bel w10 (cd3 (.bool s.neg) (.slice A4 p4 c4) (.int .i64 s.e))
      have k4 := K3.made w10 (.bool s.neg) (.slice A4 p4 c4) (.int .i64 s.e)
      replace bel := below_step bel b
      replace kA := kA.adv b
      replace kB := kB.adv b
      replace kJ := kJ.adv b
      replace k1 := k1.adv b
      replace k2 := k2.adv b
      replace k3 := k3.adv b
      replace m1 := m1.below b
      replace m2 := m2.below b
      replace m3 := m3.below b
      replace m4 := m4.below b
      clear b
      generalize w10.alloc (cd3 (.bool s.neg) (.slice A4 p4 c4) (.int .i64 s.e)) = w11 at *
      refine (both_any r.neg r.ok r.e _ m1 m2 256 (by omega) hr.out).mono ?_
      rintro e' w12 ⟨rfl, b⟩
      replace bel := below_step bel b
      replace kA := kA.adv b
      replace kB := kB.adv b
      replace kJ := kJ.adv b
      replace k1 := k1.adv b
      replace k2 := k2.adv b
      replace k3 := k3.adv b
      replace k4 := k4.adv b
      replace m1 := m1.below b
      replace m2 := m2.below b
      replace m3 := m3.below b
      replace m4 := m4.below b
      clear b
      obtain ⟨k3_0, k3_1, k3_2, k3_3⟩ := k3.cell
      obtain ⟨k4_0, k4_1, k4_2, k4_3⟩ := k4.cell
      go_wp2_with fail
      clear k3_0 k3_1 k3_2 k3_3 k4_0 k4_1 k4_2 k4_3
      refine (both_any s.neg s.ok s.e _ m3 m4 256 (by omega) hs.out).mono ?_
      rintro e' w13 ⟨rfl, b⟩
      replace bel := below_step bel b
      replace kA := kA.adv b
      replace kB := kB.adv b
      replace kJ := kJ.adv b
      replace k1 := k1.adv b
      replace k2 := k2.adv b
      replace k3 := k3.adv b
      replace k4 := k4.adv b
      replace m1 := m1.below b
      replace m2 := m2.below b
      replace m3 := m3.below b
      replace m4 := m4.below b
      clear b
      go_wp2_with fail
      go_ret
      exact ⟨rfl, bel⟩
  · have hf' : (few1 n ea && few1 m eb) = false := by simpa using hf
    rw [hf']
    obtain ⟨kA_0, kA_1, kA_2, kA_3⟩ := kA.cell
    obtain ⟨kB_0, kB_1, kB_2, kB_3⟩ := kB.cell
    obtain ⟨kJ_0, kJ_1, kJ_2⟩ := kJ.cell
    have bF := bel
    go_wp2_with fail
    go_ret
    exact ⟨rfl, bF⟩

set_option maxRecDepth 8000 in
set_option maxHeartbeats 4000000 in
theorem roots_law (na : Bool) (A : Option Addr) (n c : Nat) (x : Nat → Nat) (ea p : Int) (up : Bool) (w : World) (ha : Sl w A n c x) (hn : n ≤ 9223372036854775807) (hT : Tab w) :
Calls Tryd.prog 7 #[dyv na A n c ea, .agg #[.int .i64 p, .bool up]] w (TruePost w) := by
  obtain ⟨bel, kA, kJ⟩ := start22 w (.bool na) (.slice A n c) (.int .i64 ea) (.int .i64 p) (.bool up)
  have AW : Hid (∀ w', Below w.heap.size w w' → Calls Tryd.prog 10 #[] w' (TruePost w')) := Lib.hid (fun w' h => awake_any w' (hT.below h))
  go_enter Tryd.func7, Tryd.ntmps7
  go_wp2_with fail
  generalize (w.alloc (cd3 (.bool na) (.slice A n c) (.int .i64 ea))).alloc (cj (.int .i64 p) (.bool up)) = w1 at *
  refine (AW.out _ bel).mono ?_
  rintro e' w2 ⟨rfl, b⟩
  replace bel := below_step bel b
  replace kA := kA.adv b
  replace kJ := kJ.adv b
  clear b
  obtain ⟨kA_0, kA_1, kA_2, kA_3⟩ := kA.cell
  obtain ⟨kJ_0, kJ_1, kJ_2⟩ := kJ.cell
  go_wp2_with fail
  clear kA_0 kA_1 kA_2 kA_3 kJ_0 kJ_1 kJ_2
  refine (few_one na A n c x ea w2 (ha.below bel) hn).mono ?_
  rintro e' w3 ⟨rfl, b⟩
  replace bel := below_step bel b
  replace kA := kA.adv b
  replace kJ := kJ.adv b
  clear b
  by_cases hf : few1 n ea = true
  · have f1 := few1_true hf
    rw [hf]
    by_cases hten : 10 < n
    · have hten' : (10 : Int) < (n : Int) := by omega
      obtain ⟨kA_0, kA_1, kA_2, kA_3⟩ := kA.cell
      obtain ⟨kJ_0, kJ_1, kJ_2⟩ := kJ.cell
      have bF := bel
      go_wp2_with fail
      go_ret
      exact ⟨rfl, bF⟩
    · have hten' : ¬ (10 : Int) < (n : Int) := by omega
      rcases (by omega : (300 < p ∧ p ≤ 8192) ∨ ¬ 300 < p ∨ (300 < p ∧ ¬ p ≤ 8192)) with hp | hp | hp
      · obtain ⟨hp1, hp2⟩ := hp
        obtain ⟨kA_0, kA_1, kA_2, kA_3⟩ := kA.cell
        obtain ⟨kJ_0, kJ_1, kJ_2⟩ := kJ.cell
        have bF := bel
        go_wp2_with fail
        go_ret
        exact ⟨rfl, bF⟩
      · have hp1 : ¬ 300 < p := hp
        have C1 : Hid (∀ w', Below w.heap.size w w' → Calls Tryd.prog 29 #[dyv na A n c ea, .int .i64 p, .bool up] w' (DP w' (rootD (plainB na n x ea && !na && bitsFitB p) (vs B64 x n) ea p up))) := Lib.hid (fun w' h => (droot_any na A n c x ea p up w' (ha.below h) (by omega) (hT.below h)).mono fun _ _ h => h.dp)
        have C2 : Hid (∀ w', Below w.heap.size w w' → Calls Tryd.prog 30 #[dyv na A n c ea, .int .i64 p, .bool up] w' (DP w' (rootD (plainB na n x ea && !na && bitsFitB p) (vs B64 x n) ea p up))) := Lib.hid (fun w' h => (rroot_any na A n c x ea p up w' (ha.below h) (by omega) (hT.below h)).mono fun _ _ h => h.dp)
        have hr := Lib.hid (rootD_m (plainB na n x ea && !na && bitsFitB p) (vs B64 x n) ea p up)
        generalize rootD (plainB na n x ea && !na && bitsFitB p) (vs B64 x n) ea p up = r at *
        clear hf f1 hten
        obtain ⟨kA_0, kA_1, kA_2, kA_3⟩ := kA.cell
        obtain ⟨kJ_0, kJ_1, kJ_2⟩ := kJ.cell
        go_wp2_with fail
        clear kA_0 kA_1 kA_2 kA_3 kJ_0 kJ_1 kJ_2
        refine (C1.out _ bel).mono ?_
        rintro e' w4 ⟨A1, p1, c1, rfl, m1, b⟩
        replace bel := below_step bel b
        replace kA := kA.adv b
        replace kJ := kJ.adv b
        clear b
        obtain ⟨kA_0, kA_1, kA_2, kA_3⟩ := kA.cell
        obtain ⟨kJ_0, kJ_1, kJ_2⟩ := kJ.cell
        go_wp2_with fail
        clear kA_0 kA_1 kA_2 kA_3 kJ_0 kJ_1 kJ_2
        have b := alloc_bel w4 (cd3 (.bool r.neg) (.slice A1 p1 c1) (.int .i64 r.e))
        have k1 := K3.made w4 (.bool r.neg) (.slice A1 p1 c1) (.int .i64 r.e)
        replace bel := below_step bel b
        replace kA := kA.adv b
        replace kJ := kJ.adv b
        replace m1 := m1.below b
        clear b
        generalize w4.alloc (cd3 (.bool r.neg) (.slice A1 p1 c1) (.int .i64 r.e)) = w5 at *
        refine (C2.out _ bel).mono ?_
        rintro e' w6 ⟨A2, p2, c2, rfl, m2, b⟩
        replace bel := below_step bel b
        replace kA := kA.adv b
        replace kJ := kJ.adv b
        replace k1 := k1.adv b
        replace m1 := m1.below b
        clear b
        obtain ⟨kA_0, kA_1, kA_2, kA_3⟩ := kA.cell
        obtain ⟨kJ_0, kJ_1, kJ_2⟩ := kJ.cell
        obtain ⟨k1_0, k1_1, k1_2, k1_3⟩ := k1.cell
        go_wp2_with fail
        clear kA_0 kA_1 kA_2 kA_3 kJ_0 kJ_1 kJ_2 k1_0 k1_1 k1_2 k1_3
        have b := alloc_bel w6 (cd3 (.bool r.neg) (.slice A2 p2 c2) (.int .i64 r.e))
        have k2 := K3.made w6 (.bool r.neg) (.slice A2 p2 c2) (.int .i64 r.e)
        replace bel := below_step bel b
        replace kA := kA.adv b
        replace kJ := kJ.adv b
        replace k1 := k1.adv b
        replace m1 := m1.below b
        replace m2 := m2.below b
        clear b
        generalize w6.alloc (cd3 (.bool r.neg) (.slice A2 p2 c2) (.int .i64 r.e)) = w7 at *
        refine (both_any r.neg r.ok r.e _ m1 m2 256 (by omega) hr.out).mono ?_
        rintro e' w8 ⟨rfl, b⟩
        replace bel := below_step bel b
        replace kA := kA.adv b
        replace kJ := kJ.adv b
        replace k1 := k1.adv b
        replace k2 := k2.adv b
        replace m1 := m1.below b
        replace m2 := m2.below b
        clear b
        go_wp2_with fail
        go_ret
        exact ⟨rfl, bel⟩
      · obtain ⟨hp1, hp2⟩ := hp
        have C1 : Hid (∀ w', Below w.heap.size w w' → Calls Tryd.prog 29 #[dyv na A n c ea, .int .i64 p, .bool up] w' (DP w' (rootD (plainB na n x ea && !na && bitsFitB p) (vs B64 x n) ea p up))) := Lib.hid (fun w' h => (droot_any na A n c x ea p up w' (ha.below h) (by omega) (hT.below h)).mono fun _ _ h => h.dp)
        have C2 : Hid (∀ w', Below w.heap.size w w' → Calls Tryd.prog 30 #[dyv na A n c ea, .int .i64 p, .bool up] w' (DP w' (rootD (plainB na n x ea && !na && bitsFitB p) (vs B64 x n) ea p up))) := Lib.hid (fun w' h => (rroot_any na A n c x ea p up w' (ha.below h) (by omega) (hT.below h)).mono fun _ _ h => h.dp)
        have hr := Lib.hid (rootD_m (plainB na n x ea && !na && bitsFitB p) (vs B64 x n) ea p up)
        generalize rootD (plainB na n x ea && !na && bitsFitB p) (vs B64 x n) ea p up = r at *
        clear hf f1 hten
        obtain ⟨kA_0, kA_1, kA_2, kA_3⟩ := kA.cell
        obtain ⟨kJ_0, kJ_1, kJ_2⟩ := kJ.cell
        go_wp2_with fail
        clear kA_0 kA_1 kA_2 kA_3 kJ_0 kJ_1 kJ_2
        refine (C1.out _ bel).mono ?_
        rintro e' w4 ⟨A1, p1, c1, rfl, m1, b⟩
        replace bel := below_step bel b
        replace kA := kA.adv b
        replace kJ := kJ.adv b
        clear b
        obtain ⟨kA_0, kA_1, kA_2, kA_3⟩ := kA.cell
        obtain ⟨kJ_0, kJ_1, kJ_2⟩ := kJ.cell
        go_wp2_with fail
        clear kA_0 kA_1 kA_2 kA_3 kJ_0 kJ_1 kJ_2
        have b := alloc_bel w4 (cd3 (.bool r.neg) (.slice A1 p1 c1) (.int .i64 r.e))
        have k1 := K3.made w4 (.bool r.neg) (.slice A1 p1 c1) (.int .i64 r.e)
        replace bel := below_step bel b
        replace kA := kA.adv b
        replace kJ := kJ.adv b
        replace m1 := m1.below b
        clear b
        generalize w4.alloc (cd3 (.bool r.neg) (.slice A1 p1 c1) (.int .i64 r.e)) = w5 at *
        refine (C2.out _ bel).mono ?_
        rintro e' w6 ⟨A2, p2, c2, rfl, m2, b⟩
        replace bel := below_step bel b
        replace kA := kA.adv b
        replace kJ := kJ.adv b
        replace k1 := k1.adv b
        replace m1 := m1.below b
        clear b
        obtain ⟨kA_0, kA_1, kA_2, kA_3⟩ := kA.cell
        obtain ⟨kJ_0, kJ_1, kJ_2⟩ := kJ.cell
        obtain ⟨k1_0, k1_1, k1_2, k1_3⟩ := k1.cell
        go_wp2_with fail
        clear kA_0 kA_1 kA_2 kA_3 kJ_0 kJ_1 kJ_2 k1_0 k1_1 k1_2 k1_3
        have b := alloc_bel w6 (cd3 (.bool r.neg) (.slice A2 p2 c2) (.int .i64 r.e))
        have k2 := K3.made w6 (.bool r.neg) (.slice A2 p2 c2) (.int .i64 r.e)
        replace bel := below_step bel b
        replace kA := kA.adv b
        replace kJ := kJ.adv b
        replace k1 := k1.adv b
        replace m1 := m1.below b
        replace m2 := m2.below b
        clear b
        generalize w6.alloc (cd3 (.bool r.neg) (.slice A2 p2 c2) (.int .i64 r.e)) = w7 at *
        refine (both_any r.neg r.ok r.e _ m1 m2 256 (by omega) hr.out).mono ?_
        rintro e' w8 ⟨rfl, b⟩
        replace bel := below_step bel b
        replace kA := kA.adv b
        replace kJ := kJ.adv b
        replace k1 := k1.adv b
        replace k2 := k2.adv b
        replace m1 := m1.below b
        replace m2 := m2.below b
        clear b
        go_wp2_with fail
        go_ret
        exact ⟨rfl, bel⟩
  · have hf' : few1 n ea = false := by simpa using hf
    rw [hf']
    obtain ⟨kA_0, kA_1, kA_2, kA_3⟩ := kA.cell
    obtain ⟨kJ_0, kJ_1, kJ_2⟩ := kJ.cell
    have bF := bel
    go_wp2_with fail
    go_ret
    exact ⟨rfl, bF⟩
end Go.Proofs.YtijdpmhcgmkjgaaDoor
