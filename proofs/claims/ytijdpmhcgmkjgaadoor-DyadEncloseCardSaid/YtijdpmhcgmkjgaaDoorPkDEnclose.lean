/-
  volvellelaw02.DyadEnclose answers true, whatever it is given.
-/
import Derived.Test.YtijdpmhcgmkjgaaDoorPkDy12
namespace Go.Proofs.YtijdpmhcgmkjgaaDoor
open Go.RowKit

set_option maxRecDepth 8000 in
set_option maxHeartbeats 16000000 in
theorem enclose_any (na nb' : Bool) (A B : Option Addr) (n c m d : Nat) (x y : Nat → Nat) (ea eb p : Int) (w : World) (ha : Sl w A n c x) (hb : Sl w B m d y) (hn : n ≤ 9223372036854775807) (hm : m ≤ 9223372036854775807) (hT : Tab w) :
    Calls Tryd.prog 8 #[dyv na A n c ea, dyv nb' B m d eb, .int .i64 p] w (TruePost w) := by
  obtain ⟨bel, kA, kB⟩ := start33 w (.bool na) (.slice A n c) (.int .i64 ea) (.bool nb') (.slice B m d) (.int .i64 eb)
  have AW : Hid (∀ w', Below w.heap.size w w' → Calls Tryd.prog 10 #[] w' (TruePost w')) := Lib.hid (fun w' h => awake_any w' (hT.below h))
  have hnbA := nb_words (vs_lt ha.small)
  have hnbB := nb_words (vs_lt hb.small)
  go_enter Tryd.func8, Tryd.ntmps8
  go_wp2_with fail
  generalize (w.alloc (cd3 (.bool na) (.slice A n c) (.int .i64 ea))).alloc (cd3 (.bool nb') (.slice B m d) (.int .i64 eb)) = w1 at *
  refine (AW.out _ bel).mono ?_
  rintro e' w2 ⟨rfl, b⟩
  replace bel := below_step bel b
  replace kA := kA.adv b
  replace kB := kB.adv b
  clear b
  obtain ⟨kA_0, kA_1, kA_2, kA_3⟩ := kA.cell
  obtain ⟨kB_0, kB_1, kB_2, kB_3⟩ := kB.cell
  go_wp2_with fail
  clear kA_0 kA_1 kA_2 kA_3 kB_0 kB_1 kB_2 kB_3
  refine (few_pair na nb' A B n m c d x y ea eb w2 (ha.below bel) (hb.below bel) hn hm).mono ?_
  rintro e' w3 ⟨rfl, b⟩
  replace bel := below_step bel b
  replace kA := kA.adv b
  replace kB := kB.adv b
  clear b
  by_cases hf : (few1 n ea && few1 m eb) = true
  rotate_left
  · have hf' : (few1 n ea && few1 m eb) = false := by simpa using hf
    rw [hf']
    obtain ⟨kA_0, kA_1, kA_2, kA_3⟩ := kA.cell
    obtain ⟨kB_0, kB_1, kB_2, kB_3⟩ := kB.cell
    have bF := bel
    go_wp2_with fail
    go_ret
    exact ⟨rfl, bF⟩
  have hf' := hf
  rw [Bool.and_eq_true] at hf'
  have f1 := few1_true hf'.1
  have f2 := few1_true hf'.2
  rw [hf]
  clear hf hf'
  obtain ⟨kA_0, kA_1, kA_2, kA_3⟩ := kA.cell
  obtain ⟨kB_0, kB_1, kB_2, kB_3⟩ := kB.cell
  go_wp2_with fail
  clear kA_0 kA_1 kA_2 kA_3 kB_0 kB_1 kB_2 kB_3
  refine (plain_any na A n c x ea w3 (ha.below bel) (by omega)).mono ?_
  rintro e' w4 ⟨rfl, b⟩
  replace bel := below_step bel b
  replace kA := kA.adv b
  replace kB := kB.adv b
  clear b
  by_cases hpa : plainB na n x ea = true
  rotate_left
  · have hpa' : plainB na n x ea = false := by simpa using hpa
    rw [hpa']
    obtain ⟨kA_0, kA_1, kA_2, kA_3⟩ := kA.cell
    obtain ⟨kB_0, kB_1, kB_2, kB_3⟩ := kB.cell
    have bF := bel
    go_wp2_with fail
    go_ret
    exact ⟨rfl, bF⟩
  rw [hpa]
  obtain ⟨kA_0, kA_1, kA_2, kA_3⟩ := kA.cell
  obtain ⟨kB_0, kB_1, kB_2, kB_3⟩ := kB.cell
  go_wp2_with fail
  clear kA_0 kA_1 kA_2 kA_3 kB_0 kB_1 kB_2 kB_3
  refine (plain_any nb' B m d y eb w4 (hb.below bel) (by omega)).mono ?_
  rintro e' w5 ⟨rfl, b⟩
  replace bel := below_step bel b
  replace kA := kA.adv b
  replace kB := kB.adv b
  clear b
  by_cases hpb : plainB nb' m y eb = true
  rotate_left
  · have hpb' : plainB nb' m y eb = false := by simpa using hpb
    rw [hpb']
    obtain ⟨kA_0, kA_1, kA_2, kA_3⟩ := kA.cell
    obtain ⟨kB_0, kB_1, kB_2, kB_3⟩ := kB.cell
    have bF := bel
    go_wp2_with fail
    go_ret
    exact ⟨rfl, bF⟩
  rw [hpb]
  by_cases h1 : p < 1
  · have hp1 := h1
    obtain ⟨kA_0, kA_1, kA_2, kA_3⟩ := kA.cell
    obtain ⟨kB_0, kB_1, kB_2, kB_3⟩ := kB.cell
    have bF := bel
    go_wp2_with fail
    go_ret
    exact ⟨rfl, bF⟩
  by_cases h2 : 600 < p
  · have hp1 := h2
    obtain ⟨kA_0, kA_1, kA_2, kA_3⟩ := kA.cell
    obtain ⟨kB_0, kB_1, kB_2, kB_3⟩ := kB.cell
    have bF := bel
    go_wp2_with fail
    go_ret
    exact ⟨rfl, bF⟩
  obtain ⟨P, rfl⟩ : ∃ P : Nat, p = (P : Int) := ⟨p.toNat, by omega⟩
  have hP1 : 1 ≤ P := by omega
  have hP2 : P ≤ 600 := by omega
  have PFA := plain_facts hpa
  have PFB := plain_facts hpb
  have za : vs B64 x n = 0 → na = false := fun h => (PFA.zero (by have := PFA.pos; omega)).2
  have zb : vs B64 y m = 0 → m = 0 := fun h => by have := PFB.pos; omega
  have hb0 : 0 < m → 0 < vs B64 y m := fun h => PFB.pos.1 h
  have NA : Hid (∀ w', Below w.heap.size w w' → Num w' (.slice A n c) (vs B64 x n)) := Lib.hid (fun w' h => PFA.num (ha.below h))
  have NB : Hid (∀ w', Below w.heap.size w w' → Num w' (.slice B m d) (vs B64 y m)) := Lib.hid (fun w' h => PFB.num (hb.below h))
  have pa : plainV na (vs B64 x n) ea = true := by rw [← plain_V PFA.cn]; exact hpa
  have pa' : plainV false (vs B64 x n) ea = true := by rw [← plain_V PFA.cn]; exact root_false hpa
  have pb : plainV nb' (vs B64 y m) eb = true := by rw [← plain_V PFB.cn]; exact hpb
  have hfit : bitsFitB (P : Int) = true := by unfold bitsFitB; simp; omega
  have CUT : ∀ up, Hid (∀ w', Below w.heap.size w w' → Calls Tryd.prog 25 #[dyv na A n c ea, .int .i64 (P : Int), .bool up] w' (DP w' (cutD na (vs B64 x n) ea false P up))) := fun up => Lib.hid (fun w' h => by
    have := dcut_any na A n c x ea (P : Int) up w' (ha.below h) (by omega) (hT.below h)
    rw [hpa, hfit] at this
    exact this.mono fun _ _ h => h.dp)
  have OVE : ∀ up, 0 < m → Hid (∀ w', Below w.heap.size w w' → Calls Tryd.prog 27 #[dyv na A n c ea, dyv nb' B m d eb, .int .i64 (P : Int), .bool up] w' (DP w' (quoD na nb' (vs B64 x n) (vs B64 y m) ea eb (P + nb (vs B64 y m) - nb (vs B64 x n)) P up))) := fun up hm0 => Lib.hid (fun w' h => by
    have := over_any na nb' A B n c m d x y ea eb (P : Int) up w' (ha.below h) (hb.below h) (by omega) (by omega) (hT.below h)
    rw [hpa, hpb, hfit, show decide (m = 0) = false by simp; omega] at this
    exact this.mono fun _ _ h => h.dp)
  have ROO : ∀ up, Hid (∀ w', Below w.heap.size w w' → Calls Tryd.prog 29 #[dyv false A n c ea, .int .i64 (P : Int), .bool up] w' (DP w' (sqD (vs B64 x n) ea (even1 ea (2 * P - nb (vs B64 x n))) P up))) := fun up => Lib.hid (fun w' h => by
    have := droot_any false A n c x ea (P : Int) up w' (ha.below h) (by omega) (hT.below h)
    rw [root_false hpa, hfit] at this
    exact this.mono fun _ _ h => h.dp)
  clear PFA PFB hpa hpb hfit
  generalize vs B64 x n = Va at *
  generalize vs B64 y m = Vb at *
  have hA3 : nb Va ≤ 2560 := by omega
  have hB3 : nb Vb ≤ 2560 := by omega
  have K1 := fun up => cut_ok (P := P) (e := ea) up za (by omega : nb Va ≤ 3000) (by omega) (by omega)
  obtain ⟨r1, hr1⟩ : ∃ r, r = cutD na Va ea false P false := ⟨_, rfl⟩
  have Cr1 := CUT false
  have Kr1 := K1 false
  rw [← hr1] at Cr1 Kr1
  have Dr1 : Hid (∀ w', Below w.heap.size w w' → Calls Tryd.prog 25 #[dyv na A n c ea, .int .i64 (P : Int), .bool false] w' (DY w' r1)) := Lib.hid (fun w' h => (Cr1.out w' h).mono fun _ _ h => h.dy Kr1.1)
  have hr1m : nb r1.m ≤ 16384 := by
    have := Kr1.2.1
    unfold plainV at this
    by_cases h0 : r1.m = 0
    · rw [h0, nb_zero]; omega
    · rw [if_neg h0] at this
      simp only [Bool.and_eq_true, decide_eq_true_eq] at this
      rw [MB_eq] at this
      exact this.1.2
  obtain ⟨r2, hr2⟩ : ∃ r, r = cutD na Va ea false P true := ⟨_, rfl⟩
  have Cr2 := CUT true
  have Kr2 := K1 true
  rw [← hr2] at Cr2 Kr2
  have Dr2 : Hid (∀ w', Below w.heap.size w w' → Calls Tryd.prog 25 #[dyv na A n c ea, .int .i64 (P : Int), .bool true] w' (DY w' r2)) := Lib.hid (fun w' h => (Cr2.out w' h).mono fun _ _ h => h.dy Kr2.1)
  have hr2m : nb r2.m ≤ 16384 := by
    have := Kr2.2.1
    unfold plainV at this
    by_cases h0 : r2.m = 0
    · rw [h0, nb_zero]; omega
    · rw [if_neg h0] at this
      simp only [Bool.and_eq_true, decide_eq_true_eq] at this
      rw [MB_eq] at this
      exact this.1.2
  have O1 : Le r1.neg r1.m r1.e na Va ea := ⟨Kr1.2.1, pa, Kr1.2.2.1 rfl⟩
  have O2 : Le na Va ea r2.neg r2.m r2.e := ⟨pa, Kr2.2.1, Kr2.2.2.2 rfl⟩
  clear Cr1 Cr2 Kr1 Kr2 K1 CUT hr1 hr2
  obtain ⟨r3, hr3⟩ : ∃ r, r = quoD na nb' Va Vb ea eb (P + nb Vb - nb Va) P false := ⟨_, rfl⟩
  obtain ⟨sr3, hsr3⟩ : ∃ s, s = mkD (r3.neg != nb') (r3.m * Vb) (r3.e + eb) := ⟨_, rfl⟩
  have Cr3 := OVE false
  have Kr3 := fun hv : 0 < Vb => over_ok (P := P) false r3 sr3 hr3 hsr3 za hv (by omega) (by omega) hP2 (by omega) (by omega) (by omega) (by omega)
  rw [← hr3] at Cr3
  have Dr3 := fun hm0 : 0 < m => (show Hid (∀ w', Below w.heap.size w w' → Calls Tryd.prog 27 #[dyv na A n c ea, dyv nb' B m d eb, .int .i64 (P : Int), .bool false] w' (DY w' r3)) from Lib.hid (fun w' h => ((Cr3 hm0).out w' h).mono fun _ _ h => h.dy (Kr3 (hb0 hm0)).1))
  have Mr3 := fun hm0 : 0 < m => (show Hid (∀ w' A' p' c', Below w.heap.size w w' → Num w' (.slice A' p' c') r3.m → Calls Tryd.prog 23 #[dyv r3.neg A' p' c' r3.e, dyv nb' B m d eb] w' (DY w' sr3)) from Lib.hid (fun w' A' p' c' h h' => by
    have k := Kr3 (hb0 hm0)
    have := dmulN w' h' (NB.out w' h) k.2.1 pb (hT.below h) k.2.2.1 (by omega)
    rw [← hsr3] at this
    exact this.mono fun _ _ h => h.dy k.2.2.2.1))
  obtain ⟨r4, hr4⟩ : ∃ r, r = quoD na nb' Va Vb ea eb (P + nb Vb - nb Va) P true := ⟨_, rfl⟩
  obtain ⟨sr4, hsr4⟩ : ∃ s, s = mkD (r4.neg != nb') (r4.m * Vb) (r4.e + eb) := ⟨_, rfl⟩
  have Cr4 := OVE true
  have Kr4 := fun hv : 0 < Vb => over_ok (P := P) true r4 sr4 hr4 hsr4 za hv (by omega) (by omega) hP2 (by omega) (by omega) (by omega) (by omega)
  rw [← hr4] at Cr4
  have Dr4 := fun hm0 : 0 < m => (show Hid (∀ w', Below w.heap.size w w' → Calls Tryd.prog 27 #[dyv na A n c ea, dyv nb' B m d eb, .int .i64 (P : Int), .bool true] w' (DY w' r4)) from Lib.hid (fun w' h => ((Cr4 hm0).out w' h).mono fun _ _ h => h.dy (Kr4 (hb0 hm0)).1))
  have Mr4 := fun hm0 : 0 < m => (show Hid (∀ w' A' p' c', Below w.heap.size w w' → Num w' (.slice A' p' c') r4.m → Calls Tryd.prog 23 #[dyv r4.neg A' p' c' r4.e, dyv nb' B m d eb] w' (DY w' sr4)) from Lib.hid (fun w' A' p' c' h h' => by
    have k := Kr4 (hb0 hm0)
    have := dmulN w' h' (NB.out w' h) k.2.1 pb (hT.below h) k.2.2.1 (by omega)
    rw [← hsr4] at this
    exact this.mono fun _ _ h => h.dy k.2.2.2.1))
  obtain ⟨r7, hr7⟩ : ∃ r, r = sqD Va ea (even1 ea (2 * P - nb Va)) P false := ⟨_, rfl⟩
  obtain ⟨sr7, hsr7⟩ : ∃ s, s = mkD (r7.neg != r7.neg) (r7.m * r7.m) (r7.e + r7.e) := ⟨_, rfl⟩
  have Cr7 := ROO false
  have Kr7 := root_ok (P := P) false r7 sr7 hr7 hsr7 (by omega) hP2 (by omega) (by omega)
  rw [← hr7] at Cr7
  have Dr7 : Hid (∀ w', Below w.heap.size w w' → Calls Tryd.prog 29 #[dyv false A n c ea, .int .i64 (P : Int), .bool false] w' (DY w' r7)) := Lib.hid (fun w' h => (Cr7.out w' h).mono fun _ _ h => h.dy Kr7.1)
  have Mr7 : Hid (∀ w' A' p' c', Below w.heap.size w w' → Num w' (.slice A' p' c') r7.m → Calls Tryd.prog 23 #[dyv r7.neg A' p' c' r7.e, dyv r7.neg A' p' c' r7.e] w' (DY w' sr7)) := Lib.hid (fun w' A' p' c' h h' => by
    have := dmulN w' h' h' Kr7.2.1 Kr7.2.1 (hT.below h) Kr7.2.2.1 Kr7.2.2.1
    rw [← hsr7] at this
    exact this.mono fun _ _ h => h.dy Kr7.2.2.2.1)
  clear Cr7
  obtain ⟨r8, hr8⟩ : ∃ r, r = sqD Va ea (even1 ea (2 * P - nb Va)) P true := ⟨_, rfl⟩
  obtain ⟨sr8, hsr8⟩ : ∃ s, s = mkD (r8.neg != r8.neg) (r8.m * r8.m) (r8.e + r8.e) := ⟨_, rfl⟩
  have Cr8 := ROO true
  have Kr8 := root_ok (P := P) true r8 sr8 hr8 hsr8 (by omega) hP2 (by omega) (by omega)
  rw [← hr8] at Cr8
  have Dr8 : Hid (∀ w', Below w.heap.size w w' → Calls Tryd.prog 29 #[dyv false A n c ea, .int .i64 (P : Int), .bool true] w' (DY w' r8)) := Lib.hid (fun w' h => (Cr8.out w' h).mono fun _ _ h => h.dy Kr8.1)
  have Mr8 : Hid (∀ w' A' p' c', Below w.heap.size w w' → Num w' (.slice A' p' c') r8.m → Calls Tryd.prog 23 #[dyv r8.neg A' p' c' r8.e, dyv r8.neg A' p' c' r8.e] w' (DY w' sr8)) := Lib.hid (fun w' A' p' c' h h' => by
    have := dmulN w' h' h' Kr8.2.1 Kr8.2.1 (hT.below h) Kr8.2.2.1 Kr8.2.2.1
    rw [← hsr8] at this
    exact this.mono fun _ _ h => h.dy Kr8.2.2.2.1)
  clear Cr8
  have O7 : Le sr7.neg sr7.m sr7.e false Va ea := ⟨Kr7.2.2.2.2.1, pa', Kr7.2.2.2.2.2.1 rfl⟩
  have O8 : Le false Va ea sr8.neg sr8.m sr8.e := ⟨pa', Kr8.2.2.2.2.1, Kr8.2.2.2.2.2.2 rfl⟩
  have bits : ∀ {neg : Bool} {V : Nat} {e : Int}, plainV neg V e = true → nb V ≤ 16384 := fun {neg V e} h => by
    unfold plainV at h
    by_cases h0 : V = 0
    · rw [h0, nb_zero]; omega
    · rw [if_neg h0] at h
      simp only [Bool.and_eq_true, decide_eq_true_eq] at h
      rw [MB_eq] at h
      exact h.1.2
  have hs7m : nb sr7.m ≤ 16384 := bits O7.pa
  have hs8m : nb sr8.m ≤ 16384 := bits O8.pb
  clear Kr7 Kr8 hr7 hr8 hsr7 hsr8 Cr3 Cr4 OVE ROO
  have hs3m := fun hm0 : 0 < m => bits (Kr3 (hb0 hm0)).2.2.2.2.1
  have hs4m := fun hm0 : 0 < m => bits (Kr4 (hb0 hm0)).2.2.2.2.1
  have O3 := fun hm0 : 0 < m => (Kr3 (hb0 hm0)).2.2.2.2
  have O4 := fun hm0 : 0 < m => (Kr4 (hb0 hm0)).2.2.2.2
  have hA9 : nb Va ≤ 16384 := by omega
  have H := Lib.hid (And.intro NA (And.intro NB (And.intro Dr1 (And.intro Dr2 (And.intro O1 (And.intro O2 (And.intro hr1m (And.intro hr2m (And.intro Dr3 (And.intro Dr4 (And.intro Mr3 (And.intro Mr4 (And.intro O3 (And.intro O4 (And.intro hs3m (And.intro hs4m (And.intro Dr7 (And.intro Dr8 (And.intro Mr7 (And.intro Mr8 (And.intro O7 (And.intro O8 (And.intro hs7m (And.intro hs8m (And.intro hA9 (pa))))))))))))))))))))))))))
  clear NA NB Dr1 Dr2 O1 O2 hr1m hr2m Dr3 Dr4 Mr3 Mr4 O3 O4 hs3m hs4m Dr7 Dr8 Mr7 Mr8 O7 O8 hs7m hs8m hA9 pa pb pa' za zb hb0 Kr3 Kr4 hr3 hr4 hsr3 hsr4 bits hA3 hB3 hnbA hnbB hn hm f1 f2 ha hb hT AW h1 h2
  obtain ⟨kA_0, kA_1, kA_2, kA_3⟩ := kA.cell
  obtain ⟨kB_0, kB_1, kB_2, kB_3⟩ := kB.cell
  go_wp2_with fail
  clear kA_0 kA_1 kA_2 kA_3 kB_0 kB_1 kB_2 kB_3
  refine ((H.out.2.2.1).out _ bel).mono ?_
  rintro e' w6 ⟨A1, p1, c1, rfl, m1, b⟩
  replace bel := below_step bel b
  replace kA := kA.adv b
  replace kB := kB.adv b
  clear b
  obtain ⟨kA_0, kA_1, kA_2, kA_3⟩ := kA.cell
  obtain ⟨kB_0, kB_1, kB_2, kB_3⟩ := kB.cell
  go_wp2_with fail
  clear kA_0 kA_1 kA_2 kA_3 kB_0 kB_1 kB_2 kB_3
  have h_k1 : w.heap.size + 1 < w6.heap.size := kB.2
  have b := alloc_bel w6 (cd3 (.bool r1.neg) (.slice A1 p1 c1) (.int .i64 r1.e))
  have k1 := K3.made w6 (.bool r1.neg) (.slice A1 p1 c1) (.int .i64 r1.e)
  replace bel := below_step bel b
  replace kA := kA.adv b
  replace kB := kB.adv b
  replace m1 := m1.below b
  clear b
  generalize w6.alloc (cd3 (.bool r1.neg) (.slice A1 p1 c1) (.int .i64 r1.e)) = w7 at *
  refine ((H.out.2.2.2.1).out _ bel).mono ?_
  rintro e' w8 ⟨A2, p2, c2, rfl, m2, b⟩
  replace bel := below_step bel b
  replace kA := kA.adv b
  replace kB := kB.adv b
  replace k1 := k1.adv b
  replace m1 := m1.below b
  clear b
  obtain ⟨kA_0, kA_1, kA_2, kA_3⟩ := kA.cell
  obtain ⟨kB_0, kB_1, kB_2, kB_3⟩ := kB.cell
  obtain ⟨k1_0, k1_1, k1_2, k1_3⟩ := k1.cell
  go_wp2_with fail
  clear kA_0 kA_1 kA_2 kA_3 kB_0 kB_1 kB_2 kB_3 k1_0 k1_1 k1_2 k1_3
  have h_k2 : w6.heap.size < w8.heap.size := k1.2
  have b := alloc_bel w8 (cd3 (.bool r2.neg) (.slice A2 p2 c2) (.int .i64 r2.e))
  have k2 := K3.made w8 (.bool r2.neg) (.slice A2 p2 c2) (.int .i64 r2.e)
  replace bel := below_step bel b
  replace kA := kA.adv b
  replace kB := kB.adv b
  replace k1 := k1.adv b
  replace m1 := m1.below b
  replace m2 := m2.below b
  clear b
  generalize w8.alloc (cd3 (.bool r2.neg) (.slice A2 p2 c2) (.int .i64 r2.e)) = w9 at *
  refine (order_yes _ (H.out.2.2.2.2.1) m1 ((H.out.1).out _ bel) (H.out.2.2.2.2.2.2.1) (H.out.2.2.2.2.2.2.2.2.2.2.2.2.2.2.2.2.2.2.2.2.2.2.2.2.1)).mono ?_
  rintro e' w10 ⟨rfl, b⟩
  replace bel := below_step bel b
  replace kA := kA.adv b
  replace kB := kB.adv b
  replace k1 := k1.adv b
  replace k2 := k2.adv b
  replace m1 := m1.below b
  replace m2 := m2.below b
  clear b
  obtain ⟨kA_0, kA_1, kA_2, kA_3⟩ := kA.cell
  obtain ⟨kB_0, kB_1, kB_2, kB_3⟩ := kB.cell
  obtain ⟨k1_0, k1_1, k1_2, k1_3⟩ := k1.cell
  obtain ⟨k2_0, k2_1, k2_2, k2_3⟩ := k2.cell
  go_wp2_with fail
  clear kA_0 kA_1 kA_2 kA_3 kB_0 kB_1 kB_2 kB_3 k1_0 k1_1 k1_2 k1_3 k2_0 k2_1 k2_2 k2_3
  refine (order_yes _ (H.out.2.2.2.2.2.1) ((H.out.1).out _ bel) m2 (H.out.2.2.2.2.2.2.2.2.2.2.2.2.2.2.2.2.2.2.2.2.2.2.2.2.1) (H.out.2.2.2.2.2.2.2.1)).mono ?_
  rintro e' w11 ⟨rfl, b⟩
  replace bel := below_step bel b
  replace kA := kA.adv b
  replace kB := kB.adv b
  replace k1 := k1.adv b
  replace k2 := k2.adv b
  replace m1 := m1.below b
  replace m2 := m2.below b
  clear b
  by_cases hm0 : 0 < m
  rotate_left
  · have hm0' : ¬ (0 : Int) < (m : Int) := by omega
    cases na
    · skip
      obtain ⟨kB_0, kB_1, kB_2, kB_3⟩ := kB.cell
      obtain ⟨kA_0, kA_1, kA_2, kA_3⟩ := kA.cell
      obtain ⟨k1_0, k1_1, k1_2, k1_3⟩ := k1.cell
      obtain ⟨k2_0, k2_1, k2_2, k2_3⟩ := k2.cell
      obtain ⟨kA_f0, kA_f1, kA_f2⟩ := kA.frozen
      go_wp2_with fail
      clear kB_0 kB_1 kB_2 kB_3 kA_0 kA_1 kA_2 kA_3 k1_0 k1_1 k1_2 k1_3 k2_0 k2_1 k2_2 k2_3 kA_f0 kA_f1 kA_f2
      clear m1 m2 kB
      refine ((H.out.2.2.2.2.2.2.2.2.2.2.2.2.2.2.2.2.1).out _ bel).mono ?_
      rintro e' w12 ⟨A7, p7, c7, rfl, m7, b⟩
      replace bel := below_step bel b
      replace kA := kA.adv b
      replace k1 := k1.adv b
      replace k2 := k2.adv b
      clear b
      obtain ⟨kA_0, kA_1, kA_2, kA_3⟩ := kA.cell
      obtain ⟨k1_0, k1_1, k1_2, k1_3⟩ := k1.cell
      obtain ⟨k1_f0, k1_f1, k1_f2⟩ := k1.frozen
      go_wp2_with fail
      clear kA_0 kA_1 kA_2 kA_3 k1_0 k1_1 k1_2 k1_3 k1_f0 k1_f1 k1_f2
      have o : Only (w12) ((((w12).setCell ⟨w6.heap.size, 0, none⟩ (.bool r7.neg)).setCell ⟨w6.heap.size, 1, none⟩ (.slice A7 p7 c7)).setCell ⟨w6.heap.size, 2, none⟩ (.int .i64 r7.e)) (w6.heap.size) := only_put3 _ _ (.bool r7.neg) (.slice A7 p7 c7) (.int .i64 r7.e)
      replace bel := below_only bel o (by omega)
      replace m7 := num_only m7 k1 o
      replace kA := kA.only o (by omega)
      replace k2 := k2.only o (by omega)
      have kk : K3 ((((w12).setCell ⟨w6.heap.size, 0, none⟩ (.bool r7.neg)).setCell ⟨w6.heap.size, 1, none⟩ (.slice A7 p7 c7)).setCell ⟨w6.heap.size, 2, none⟩ (.int .i64 r7.e)) (w6.heap.size) (.bool r7.neg) (.slice A7 p7 c7) (.int .i64 r7.e) := k1.put (.bool r7.neg) (.slice A7 p7 c7) (.int .i64 r7.e)
      clear k1 o
      have k1 := kk
      clear kk
      generalize (((w12).setCell ⟨w6.heap.size, 0, none⟩ (.bool r7.neg)).setCell ⟨w6.heap.size, 1, none⟩ (.slice A7 p7 c7)).setCell ⟨w6.heap.size, 2, none⟩ (.int .i64 r7.e) = w13 at *
      refine ((H.out.2.2.2.2.2.2.2.2.2.2.2.2.2.2.2.2.2.1).out _ bel).mono ?_
      rintro e' w14 ⟨A8, p8, c8, rfl, m8, b⟩
      replace bel := below_step bel b
      replace kA := kA.adv b
      replace k1 := k1.adv b
      replace k2 := k2.adv b
      replace m7 := m7.below b
      clear b
      obtain ⟨kA_0, kA_1, kA_2, kA_3⟩ := kA.cell
      obtain ⟨k1_0, k1_1, k1_2, k1_3⟩ := k1.cell
      obtain ⟨k2_0, k2_1, k2_2, k2_3⟩ := k2.cell
      obtain ⟨k2_f0, k2_f1, k2_f2⟩ := k2.frozen
      go_wp2_with fail
      clear kA_0 kA_1 kA_2 kA_3 k1_0 k1_1 k1_2 k1_3 k2_0 k2_1 k2_2 k2_3 k2_f0 k2_f1 k2_f2
      have o : Only (w14) ((((w14).setCell ⟨w8.heap.size, 0, none⟩ (.bool r8.neg)).setCell ⟨w8.heap.size, 1, none⟩ (.slice A8 p8 c8)).setCell ⟨w8.heap.size, 2, none⟩ (.int .i64 r8.e)) (w8.heap.size) := only_put3 _ _ (.bool r8.neg) (.slice A8 p8 c8) (.int .i64 r8.e)
      replace bel := below_only bel o (by omega)
      replace m7 := num_only m7 k2 o
      replace m8 := num_only m8 k2 o
      replace kA := kA.only o (by omega)
      replace k1 := k1.only o (by omega)
      have kk : K3 ((((w14).setCell ⟨w8.heap.size, 0, none⟩ (.bool r8.neg)).setCell ⟨w8.heap.size, 1, none⟩ (.slice A8 p8 c8)).setCell ⟨w8.heap.size, 2, none⟩ (.int .i64 r8.e)) (w8.heap.size) (.bool r8.neg) (.slice A8 p8 c8) (.int .i64 r8.e) := k2.put (.bool r8.neg) (.slice A8 p8 c8) (.int .i64 r8.e)
      clear k2 o
      have k2 := kk
      clear kk
      generalize (((w14).setCell ⟨w8.heap.size, 0, none⟩ (.bool r8.neg)).setCell ⟨w8.heap.size, 1, none⟩ (.slice A8 p8 c8)).setCell ⟨w8.heap.size, 2, none⟩ (.int .i64 r8.e) = w15 at *
      refine ((H.out.2.2.2.2.2.2.2.2.2.2.2.2.2.2.2.2.2.2.1).out _ _ _ _ bel m7).mono ?_
      rintro e' w16 ⟨A9, p9, c9, rfl, m9, b⟩
      replace bel := below_step bel b
      replace kA := kA.adv b
      replace k1 := k1.adv b
      replace k2 := k2.adv b
      replace m7 := m7.below b
      replace m8 := m8.below b
      clear b
      obtain ⟨kA_0, kA_1, kA_2, kA_3⟩ := kA.cell
      obtain ⟨k1_0, k1_1, k1_2, k1_3⟩ := k1.cell
      obtain ⟨k2_0, k2_1, k2_2, k2_3⟩ := k2.cell
      go_wp2_with fail
      clear kA_0 kA_1 kA_2 kA_3 k1_0 k1_1 k1_2 k1_3 k2_0 k2_1 k2_2 k2_3
      have h_k7 : w8.heap.size < w16.heap.size := k2.2
      have b := alloc_bel w16 (cd3 (.bool sr7.neg) (.slice A9 p9 c9) (.int .i64 sr7.e))
      have k7 := K3.made w16 (.bool sr7.neg) (.slice A9 p9 c9) (.int .i64 sr7.e)
      replace bel := below_step bel b
      replace kA := kA.adv b
      replace k1 := k1.adv b
      replace k2 := k2.adv b
      replace m7 := m7.below b
      replace m8 := m8.below b
      replace m9 := m9.below b
      clear b
      generalize w16.alloc (cd3 (.bool sr7.neg) (.slice A9 p9 c9) (.int .i64 sr7.e)) = w17 at *
      refine ((H.out.2.2.2.2.2.2.2.2.2.2.2.2.2.2.2.2.2.2.2.1).out _ _ _ _ bel m8).mono ?_
      rintro e' w18 ⟨A10, p10, c10, rfl, m10, b⟩
      replace bel := below_step bel b
      replace kA := kA.adv b
      replace k1 := k1.adv b
      replace k2 := k2.adv b
      replace k7 := k7.adv b
      replace m7 := m7.below b
      replace m8 := m8.below b
      replace m9 := m9.below b
      clear b
      obtain ⟨kA_0, kA_1, kA_2, kA_3⟩ := kA.cell
      obtain ⟨k7_0, k7_1, k7_2, k7_3⟩ := k7.cell
      go_wp2_with fail
      clear kA_0 kA_1 kA_2 kA_3 k7_0 k7_1 k7_2 k7_3
      have h_k8 : w16.heap.size < w18.heap.size := k7.2
      have b := alloc_bel w18 (cd3 (.bool sr8.neg) (.slice A10 p10 c10) (.int .i64 sr8.e))
      have k8 := K3.made w18 (.bool sr8.neg) (.slice A10 p10 c10) (.int .i64 sr8.e)
      replace bel := below_step bel b
      replace kA := kA.adv b
      replace k1 := k1.adv b
      replace k2 := k2.adv b
      replace k7 := k7.adv b
      replace m7 := m7.below b
      replace m8 := m8.below b
      replace m9 := m9.below b
      replace m10 := m10.below b
      clear b
      generalize w18.alloc (cd3 (.bool sr8.neg) (.slice A10 p10 c10) (.int .i64 sr8.e)) = w19 at *
      refine (order_yes _ (H.out.2.2.2.2.2.2.2.2.2.2.2.2.2.2.2.2.2.2.2.2.1) m9 ((H.out.1).out _ bel) (H.out.2.2.2.2.2.2.2.2.2.2.2.2.2.2.2.2.2.2.2.2.2.2.1) (H.out.2.2.2.2.2.2.2.2.2.2.2.2.2.2.2.2.2.2.2.2.2.2.2.2.1)).mono ?_
      rintro e' w20 ⟨rfl, b⟩
      replace bel := below_step bel b
      replace kA := kA.adv b
      replace k1 := k1.adv b
      replace k2 := k2.adv b
      replace k7 := k7.adv b
      replace k8 := k8.adv b
      replace m7 := m7.below b
      replace m8 := m8.below b
      replace m9 := m9.below b
      replace m10 := m10.below b
      clear b
      obtain ⟨kA_0, kA_1, kA_2, kA_3⟩ := kA.cell
      obtain ⟨k8_0, k8_1, k8_2, k8_3⟩ := k8.cell
      go_wp2_with fail
      clear kA_0 kA_1 kA_2 kA_3 k8_0 k8_1 k8_2 k8_3
      refine (order_yes _ (H.out.2.2.2.2.2.2.2.2.2.2.2.2.2.2.2.2.2.2.2.2.2.1) ((H.out.1).out _ bel) m10 (H.out.2.2.2.2.2.2.2.2.2.2.2.2.2.2.2.2.2.2.2.2.2.2.2.2.1) (H.out.2.2.2.2.2.2.2.2.2.2.2.2.2.2.2.2.2.2.2.2.2.2.2.1)).mono ?_
      rintro e' w21 ⟨rfl, b⟩
      replace bel := below_step bel b
      replace kA := kA.adv b
      replace k1 := k1.adv b
      replace k2 := k2.adv b
      replace k7 := k7.adv b
      replace k8 := k8.adv b
      replace m7 := m7.below b
      replace m8 := m8.below b
      replace m9 := m9.below b
      replace m10 := m10.below b
      clear b
      go_wp2_with fail
      go_ret
      exact ⟨rfl, bel⟩
    · skip
      obtain ⟨kB_0, kB_1, kB_2, kB_3⟩ := kB.cell
      obtain ⟨kA_0, kA_1, kA_2, kA_3⟩ := kA.cell
      obtain ⟨k1_0, k1_1, k1_2, k1_3⟩ := k1.cell
      obtain ⟨k2_0, k2_1, k2_2, k2_3⟩ := k2.cell
      obtain ⟨kA_f0, kA_f1, kA_f2⟩ := kA.frozen
      go_wp2_with fail
      clear kB_0 kB_1 kB_2 kB_3 kA_0 kA_1 kA_2 kA_3 k1_0 k1_1 k1_2 k1_3 k2_0 k2_1 k2_2 k2_3 kA_f0 kA_f1 kA_f2
      clear m1 m2 kB
      have o : Only (w11) ((w11).setCell ⟨w.heap.size, 0, none⟩ (.bool false)) (w.heap.size) := only_set0 _ _ (.bool false)
      replace bel := below_only bel o (by omega)
      replace k1 := k1.only o (by omega)
      replace k2 := k2.only o (by omega)
      have kk : K3 ((w11).setCell ⟨w.heap.size, 0, none⟩ (.bool false)) (w.heap.size) (.bool false) (.slice A n c) (.int .i64 ea) := kA.set0 (.bool false)
      clear kA o
      have kA := kk
      clear kk
      generalize (w11).setCell ⟨w.heap.size, 0, none⟩ (.bool false) = w12 at *
      refine ((H.out.2.2.2.2.2.2.2.2.2.2.2.2.2.2.2.2.1).out _ bel).mono ?_
      rintro e' w13 ⟨A7, p7, c7, rfl, m7, b⟩
      replace bel := below_step bel b
      replace kA := kA.adv b
      replace k1 := k1.adv b
      replace k2 := k2.adv b
      clear b
      obtain ⟨kA_0, kA_1, kA_2, kA_3⟩ := kA.cell
      obtain ⟨k1_0, k1_1, k1_2, k1_3⟩ := k1.cell
      obtain ⟨k1_f0, k1_f1, k1_f2⟩ := k1.frozen
      go_wp2_with fail
      clear kA_0 kA_1 kA_2 kA_3 k1_0 k1_1 k1_2 k1_3 k1_f0 k1_f1 k1_f2
      have o : Only (w13) ((((w13).setCell ⟨w6.heap.size, 0, none⟩ (.bool r7.neg)).setCell ⟨w6.heap.size, 1, none⟩ (.slice A7 p7 c7)).setCell ⟨w6.heap.size, 2, none⟩ (.int .i64 r7.e)) (w6.heap.size) := only_put3 _ _ (.bool r7.neg) (.slice A7 p7 c7) (.int .i64 r7.e)
      replace bel := below_only bel o (by omega)
      replace m7 := num_only m7 k1 o
      replace kA := kA.only o (by omega)
      replace k2 := k2.only o (by omega)
      have kk : K3 ((((w13).setCell ⟨w6.heap.size, 0, none⟩ (.bool r7.neg)).setCell ⟨w6.heap.size, 1, none⟩ (.slice A7 p7 c7)).setCell ⟨w6.heap.size, 2, none⟩ (.int .i64 r7.e)) (w6.heap.size) (.bool r7.neg) (.slice A7 p7 c7) (.int .i64 r7.e) := k1.put (.bool r7.neg) (.slice A7 p7 c7) (.int .i64 r7.e)
      clear k1 o
      have k1 := kk
      clear kk
      generalize (((w13).setCell ⟨w6.heap.size, 0, none⟩ (.bool r7.neg)).setCell ⟨w6.heap.size, 1, none⟩ (.slice A7 p7 c7)).setCell ⟨w6.heap.size, 2, none⟩ (.int .i64 r7.e) = w14 at *
      refine ((H.out.2.2.2.2.2.2.2.2.2.2.2.2.2.2.2.2.2.1).out _ bel).mono ?_
      rintro e' w15 ⟨A8, p8, c8, rfl, m8, b⟩
      replace bel := below_step bel b
      replace kA := kA.adv b
      replace k1 := k1.adv b
      replace k2 := k2.adv b
      replace m7 := m7.below b
      clear b
      obtain ⟨kA_0, kA_1, kA_2, kA_3⟩ := kA.cell
      obtain ⟨k1_0, k1_1, k1_2, k1_3⟩ := k1.cell
      obtain ⟨k2_0, k2_1, k2_2, k2_3⟩ := k2.cell
      obtain ⟨k2_f0, k2_f1, k2_f2⟩ := k2.frozen
      go_wp2_with fail
      clear kA_0 kA_1 kA_2 kA_3 k1_0 k1_1 k1_2 k1_3 k2_0 k2_1 k2_2 k2_3 k2_f0 k2_f1 k2_f2
      have o : Only (w15) ((((w15).setCell ⟨w8.heap.size, 0, none⟩ (.bool r8.neg)).setCell ⟨w8.heap.size, 1, none⟩ (.slice A8 p8 c8)).setCell ⟨w8.heap.size, 2, none⟩ (.int .i64 r8.e)) (w8.heap.size) := only_put3 _ _ (.bool r8.neg) (.slice A8 p8 c8) (.int .i64 r8.e)
      replace bel := below_only bel o (by omega)
      replace m7 := num_only m7 k2 o
      replace m8 := num_only m8 k2 o
      replace kA := kA.only o (by omega)
      replace k1 := k1.only o (by omega)
      have kk : K3 ((((w15).setCell ⟨w8.heap.size, 0, none⟩ (.bool r8.neg)).setCell ⟨w8.heap.size, 1, none⟩ (.slice A8 p8 c8)).setCell ⟨w8.heap.size, 2, none⟩ (.int .i64 r8.e)) (w8.heap.size) (.bool r8.neg) (.slice A8 p8 c8) (.int .i64 r8.e) := k2.put (.bool r8.neg) (.slice A8 p8 c8) (.int .i64 r8.e)
      clear k2 o
      have k2 := kk
      clear kk
      generalize (((w15).setCell ⟨w8.heap.size, 0, none⟩ (.bool r8.neg)).setCell ⟨w8.heap.size, 1, none⟩ (.slice A8 p8 c8)).setCell ⟨w8.heap.size, 2, none⟩ (.int .i64 r8.e) = w16 at *
      refine ((H.out.2.2.2.2.2.2.2.2.2.2.2.2.2.2.2.2.2.2.1).out _ _ _ _ bel m7).mono ?_
      rintro e' w17 ⟨A9, p9, c9, rfl, m9, b⟩
      replace bel := below_step bel b
      replace kA := kA.adv b
      replace k1 := k1.adv b
      replace k2 := k2.adv b
      replace m7 := m7.below b
      replace m8 := m8.below b
      clear b
      obtain ⟨kA_0, kA_1, kA_2, kA_3⟩ := kA.cell
      obtain ⟨k1_0, k1_1, k1_2, k1_3⟩ := k1.cell
      obtain ⟨k2_0, k2_1, k2_2, k2_3⟩ := k2.cell
      go_wp2_with fail
      clear kA_0 kA_1 kA_2 kA_3 k1_0 k1_1 k1_2 k1_3 k2_0 k2_1 k2_2 k2_3
      have h_k7 : w8.heap.size < w17.heap.size := k2.2
      have b := alloc_bel w17 (cd3 (.bool sr7.neg) (.slice A9 p9 c9) (.int .i64 sr7.e))
      have k7 := K3.made w17 (.bool sr7.neg) (.slice A9 p9 c9) (.int .i64 sr7.e)
      replace bel := below_step bel b
      replace kA := kA.adv b
      replace k1 := k1.adv b
      replace k2 := k2.adv b
      replace m7 := m7.below b
      replace m8 := m8.below b
      replace m9 := m9.below b
      clear b
      generalize w17.alloc (cd3 (.bool sr7.neg) (.slice A9 p9 c9) (.int .i64 sr7.e)) = w18 at *
      refine ((H.out.2.2.2.2.2.2.2.2.2.2.2.2.2.2.2.2.2.2.2.1).out _ _ _ _ bel m8).mono ?_
      rintro e' w19 ⟨A10, p10, c10, rfl, m10, b⟩
      replace bel := below_step bel b
      replace kA := kA.adv b
      replace k1 := k1.adv b
      replace k2 := k2.adv b
      replace k7 := k7.adv b
      replace m7 := m7.below b
      replace m8 := m8.below b
      replace m9 := m9.below b
      clear b
      obtain ⟨kA_0, kA_1, kA_2, kA_3⟩ := kA.cell
      obtain ⟨k7_0, k7_1, k7_2, k7_3⟩ := k7.cell
      go_wp2_with fail
      clear kA_0 kA_1 kA_2 kA_3 k7_0 k7_1 k7_2 k7_3
      have h_k8 : w17.heap.size < w19.heap.size := k7.2
      have b := alloc_bel w19 (cd3 (.bool sr8.neg) (.slice A10 p10 c10) (.int .i64 sr8.e))
      have k8 := K3.made w19 (.bool sr8.neg) (.slice A10 p10 c10) (.int .i64 sr8.e)
      replace bel := below_step bel b
      replace kA := kA.adv b
      replace k1 := k1.adv b
      replace k2 := k2.adv b
      replace k7 := k7.adv b
      replace m7 := m7.below b
      replace m8 := m8.below b
      replace m9 := m9.below b
      replace m10 := m10.below b
      clear b
      generalize w19.alloc (cd3 (.bool sr8.neg) (.slice A10 p10 c10) (.int .i64 sr8.e)) = w20 at *
      refine (order_yes _ (H.out.2.2.2.2.2.2.2.2.2.2.2.2.2.2.2.2.2.2.2.2.1) m9 ((H.out.1).out _ bel) (H.out.2.2.2.2.2.2.2.2.2.2.2.2.2.2.2.2.2.2.2.2.2.2.1) (H.out.2.2.2.2.2.2.2.2.2.2.2.2.2.2.2.2.2.2.2.2.2.2.2.2.1)).mono ?_
      rintro e' w21 ⟨rfl, b⟩
      replace bel := below_step bel b
      replace kA := kA.adv b
      replace k1 := k1.adv b
      replace k2 := k2.adv b
      replace k7 := k7.adv b
      replace k8 := k8.adv b
      replace m7 := m7.below b
      replace m8 := m8.below b
      replace m9 := m9.below b
      replace m10 := m10.below b
      clear b
      obtain ⟨kA_0, kA_1, kA_2, kA_3⟩ := kA.cell
      obtain ⟨k8_0, k8_1, k8_2, k8_3⟩ := k8.cell
      go_wp2_with fail
      clear kA_0 kA_1 kA_2 kA_3 k8_0 k8_1 k8_2 k8_3
      refine (order_yes _ (H.out.2.2.2.2.2.2.2.2.2.2.2.2.2.2.2.2.2.2.2.2.2.1) ((H.out.1).out _ bel) m10 (H.out.2.2.2.2.2.2.2.2.2.2.2.2.2.2.2.2.2.2.2.2.2.2.2.2.1) (H.out.2.2.2.2.2.2.2.2.2.2.2.2.2.2.2.2.2.2.2.2.2.2.2.1)).mono ?_
      rintro e' w22 ⟨rfl, b⟩
      replace bel := below_step bel b
      replace kA := kA.adv b
      replace k1 := k1.adv b
      replace k2 := k2.adv b
      replace k7 := k7.adv b
      replace k8 := k8.adv b
      replace m7 := m7.below b
      replace m8 := m8.below b
      replace m9 := m9.below b
      replace m10 := m10.below b
      clear b
      go_wp2_with fail
      go_ret
      exact ⟨rfl, bel⟩
  have hm0' : (0 : Int) < (m : Int) := by omega
  clear m1 m2
  obtain ⟨kA_0, kA_1, kA_2, kA_3⟩ := kA.cell
  obtain ⟨kB_0, kB_1, kB_2, kB_3⟩ := kB.cell
  obtain ⟨k1_0, k1_1, k1_2, k1_3⟩ := k1.cell
  obtain ⟨k2_0, k2_1, k2_2, k2_3⟩ := k2.cell
  go_wp2_with fail
  clear kA_0 kA_1 kA_2 kA_3 kB_0 kB_1 kB_2 kB_3 k1_0 k1_1 k1_2 k1_3 k2_0 k2_1 k2_2 k2_3
  refine (((H.out.2.2.2.2.2.2.2.2.1) hm0).out _ bel).mono ?_
  rintro e' w12 ⟨A3, p3, c3, rfl, m3, b⟩
  replace bel := below_step bel b
  replace kA := kA.adv b
  replace kB := kB.adv b
  replace k1 := k1.adv b
  replace k2 := k2.adv b
  clear b
  obtain ⟨kA_0, kA_1, kA_2, kA_3⟩ := kA.cell
  obtain ⟨kB_0, kB_1, kB_2, kB_3⟩ := kB.cell
  go_wp2_with fail
  clear kA_0 kA_1 kA_2 kA_3 kB_0 kB_1 kB_2 kB_3
  have h_k3 : w8.heap.size < w12.heap.size := k2.2
  have b := alloc_bel w12 (cd3 (.bool r3.neg) (.slice A3 p3 c3) (.int .i64 r3.e))
  have k3 := K3.made w12 (.bool r3.neg) (.slice A3 p3 c3) (.int .i64 r3.e)
  replace bel := below_step bel b
  replace kA := kA.adv b
  replace kB := kB.adv b
  replace k1 := k1.adv b
  replace k2 := k2.adv b
  replace m3 := m3.below b
  clear b
  generalize w12.alloc (cd3 (.bool r3.neg) (.slice A3 p3 c3) (.int .i64 r3.e)) = w13 at *
  refine (((H.out.2.2.2.2.2.2.2.2.2.1) hm0).out _ bel).mono ?_
  rintro e' w14 ⟨A4, p4, c4, rfl, m4, b⟩
  replace bel := below_step bel b
  replace kA := kA.adv b
  replace kB := kB.adv b
  replace k1 := k1.adv b
  replace k2 := k2.adv b
  replace k3 := k3.adv b
  replace m3 := m3.below b
  clear b
  obtain ⟨kA_0, kA_1, kA_2, kA_3⟩ := kA.cell
  obtain ⟨kB_0, kB_1, kB_2, kB_3⟩ := kB.cell
  obtain ⟨k3_0, k3_1, k3_2, k3_3⟩ := k3.cell
  go_wp2_with fail
  clear kA_0 kA_1 kA_2 kA_3 kB_0 kB_1 kB_2 kB_3 k3_0 k3_1 k3_2 k3_3
  have h_k4 : w12.heap.size < w14.heap.size := k3.2
  have b := alloc_bel w14 (cd3 (.bool r4.neg) (.slice A4 p4 c4) (.int .i64 r4.e))
  have k4 := K3.made w14 (.bool r4.neg) (.slice A4 p4 c4) (.int .i64 r4.e)
  replace bel := below_step bel b
  replace kA := kA.adv b
  replace kB := kB.adv b
  replace k1 := k1.adv b
  replace k2 := k2.adv b
  replace k3 := k3.adv b
  replace m3 := m3.below b
  replace m4 := m4.below b
  clear b
  generalize w14.alloc (cd3 (.bool r4.neg) (.slice A4 p4 c4) (.int .i64 r4.e)) = w15 at *
  refine (((H.out.2.2.2.2.2.2.2.2.2.2.1) hm0).out _ _ _ _ bel m3).mono ?_
  rintro e' w16 ⟨A5, p5, c5, rfl, m5, b⟩
  replace bel := below_step bel b
  replace kA := kA.adv b
  replace kB := kB.adv b
  replace k1 := k1.adv b
  replace k2 := k2.adv b
  replace k3 := k3.adv b
  replace k4 := k4.adv b
  replace m3 := m3.below b
  replace m4 := m4.below b
  clear b
  obtain ⟨kB_0, kB_1, kB_2, kB_3⟩ := kB.cell
  obtain ⟨k4_0, k4_1, k4_2, k4_3⟩ := k4.cell
  go_wp2_with fail
  clear kB_0 kB_1 kB_2 kB_3 k4_0 k4_1 k4_2 k4_3
  have h_k5 : w14.heap.size < w16.heap.size := k4.2
  have b := alloc_bel w16 (cd3 (.bool sr3.neg) (.slice A5 p5 c5) (.int .i64 sr3.e))
  have k5 := K3.made w16 (.bool sr3.neg) (.slice A5 p5 c5) (.int .i64 sr3.e)
  replace bel := below_step bel b
  replace kA := kA.adv b
  replace kB := kB.adv b
  replace k1 := k1.adv b
  replace k2 := k2.adv b
  replace k3 := k3.adv b
  replace k4 := k4.adv b
  replace m3 := m3.below b
  replace m4 := m4.below b
  replace m5 := m5.below b
  clear b
  generalize w16.alloc (cd3 (.bool sr3.neg) (.slice A5 p5 c5) (.int .i64 sr3.e)) = w17 at *
  refine (((H.out.2.2.2.2.2.2.2.2.2.2.2.1) hm0).out _ _ _ _ bel m4).mono ?_
  rintro e' w18 ⟨A6, p6, c6, rfl, m6, b⟩
  replace bel := below_step bel b
  replace kA := kA.adv b
  replace kB := kB.adv b
  replace k1 := k1.adv b
  replace k2 := k2.adv b
  replace k3 := k3.adv b
  replace k4 := k4.adv b
  replace k5 := k5.adv b
  replace m3 := m3.below b
  replace m4 := m4.below b
  replace m5 := m5.below b
  clear b
  cases nb'
  · skip
    have O3 : Le sr3.neg sr3.m sr3.e na Va ea := ⟨((H.out.2.2.2.2.2.2.2.2.2.2.2.2.1) hm0).1, (H.out.2.2.2.2.2.2.2.2.2.2.2.2.2.2.2.2.2.2.2.2.2.2.2.2.2), ((H.out.2.2.2.2.2.2.2.2.2.2.2.2.1) hm0).2.1 rfl⟩
    have O4 : Le na Va ea sr4.neg sr4.m sr4.e := ⟨(H.out.2.2.2.2.2.2.2.2.2.2.2.2.2.2.2.2.2.2.2.2.2.2.2.2.2), ((H.out.2.2.2.2.2.2.2.2.2.2.2.2.2.1) hm0).1, ((H.out.2.2.2.2.2.2.2.2.2.2.2.2.2.1) hm0).2.2 (by decide)⟩
    obtain ⟨kA_0, kA_1, kA_2, kA_3⟩ := kA.cell
    obtain ⟨kB_0, kB_1, kB_2, kB_3⟩ := kB.cell
    obtain ⟨k5_0, k5_1, k5_2, k5_3⟩ := k5.cell
    go_wp2_with fail
    clear kA_0 kA_1 kA_2 kA_3 kB_0 kB_1 kB_2 kB_3 k5_0 k5_1 k5_2 k5_3
    have h_k6 : w16.heap.size < w18.heap.size := k5.2
    have b := alloc_bel w18 (cd3 (.bool sr4.neg) (.slice A6 p6 c6) (.int .i64 sr4.e))
    have k6 := K3.made w18 (.bool sr4.neg) (.slice A6 p6 c6) (.int .i64 sr4.e)
    replace bel := below_step bel b
    replace kA := kA.adv b
    replace kB := kB.adv b
    replace k1 := k1.adv b
    replace k2 := k2.adv b
    replace k3 := k3.adv b
    replace k4 := k4.adv b
    replace k5 := k5.adv b
    replace m3 := m3.below b
    replace m4 := m4.below b
    replace m5 := m5.below b
    replace m6 := m6.below b
    clear b
    generalize w18.alloc (cd3 (.bool sr4.neg) (.slice A6 p6 c6) (.int .i64 sr4.e)) = w19 at *
    refine (order_yes _ O3 m5 ((H.out.1).out _ bel) ((H.out.2.2.2.2.2.2.2.2.2.2.2.2.2.2.1) hm0) (H.out.2.2.2.2.2.2.2.2.2.2.2.2.2.2.2.2.2.2.2.2.2.2.2.2.1)).mono ?_
    rintro e' w20 ⟨rfl, b⟩
    replace bel := below_step bel b
    replace kA := kA.adv b
    replace kB := kB.adv b
    replace k1 := k1.adv b
    replace k2 := k2.adv b
    replace k3 := k3.adv b
    replace k4 := k4.adv b
    replace k5 := k5.adv b
    replace k6 := k6.adv b
    replace m3 := m3.below b
    replace m4 := m4.below b
    replace m5 := m5.below b
    replace m6 := m6.below b
    clear b
    obtain ⟨kA_0, kA_1, kA_2, kA_3⟩ := kA.cell
    obtain ⟨k6_0, k6_1, k6_2, k6_3⟩ := k6.cell
    go_wp2_with fail
    clear kA_0 kA_1 kA_2 kA_3 k6_0 k6_1 k6_2 k6_3
    refine (order_yes _ O4 ((H.out.1).out _ bel) m6 (H.out.2.2.2.2.2.2.2.2.2.2.2.2.2.2.2.2.2.2.2.2.2.2.2.2.1) ((H.out.2.2.2.2.2.2.2.2.2.2.2.2.2.2.2.1) hm0)).mono ?_
    rintro e' w21 ⟨rfl, b⟩
    replace bel := below_step bel b
    replace kA := kA.adv b
    replace kB := kB.adv b
    replace k1 := k1.adv b
    replace k2 := k2.adv b
    replace k3 := k3.adv b
    replace k4 := k4.adv b
    replace k5 := k5.adv b
    replace k6 := k6.adv b
    replace m3 := m3.below b
    replace m4 := m4.below b
    replace m5 := m5.below b
    replace m6 := m6.below b
    clear b
    clear O3 O4 k3 k4 k5 k6 m3 m4 m5 m6 kB
    cases na
    · skip
      obtain ⟨kA_0, kA_1, kA_2, kA_3⟩ := kA.cell
      obtain ⟨k1_0, k1_1, k1_2, k1_3⟩ := k1.cell
      obtain ⟨k2_0, k2_1, k2_2, k2_3⟩ := k2.cell
      obtain ⟨kA_f0, kA_f1, kA_f2⟩ := kA.frozen
      go_wp2_with fail
      clear kA_0 kA_1 kA_2 kA_3 k1_0 k1_1 k1_2 k1_3 k2_0 k2_1 k2_2 k2_3 kA_f0 kA_f1 kA_f2
      refine ((H.out.2.2.2.2.2.2.2.2.2.2.2.2.2.2.2.2.1).out _ bel).mono ?_
      rintro e' w22 ⟨A7, p7, c7, rfl, m7, b⟩
      replace bel := below_step bel b
      replace kA := kA.adv b
      replace k1 := k1.adv b
      replace k2 := k2.adv b
      clear b
      obtain ⟨kA_0, kA_1, kA_2, kA_3⟩ := kA.cell
      obtain ⟨k1_0, k1_1, k1_2, k1_3⟩ := k1.cell
      obtain ⟨k1_f0, k1_f1, k1_f2⟩ := k1.frozen
      go_wp2_with fail
      clear kA_0 kA_1 kA_2 kA_3 k1_0 k1_1 k1_2 k1_3 k1_f0 k1_f1 k1_f2
      have o : Only (w22) ((((w22).setCell ⟨w6.heap.size, 0, none⟩ (.bool r7.neg)).setCell ⟨w6.heap.size, 1, none⟩ (.slice A7 p7 c7)).setCell ⟨w6.heap.size, 2, none⟩ (.int .i64 r7.e)) (w6.heap.size) := only_put3 _ _ (.bool r7.neg) (.slice A7 p7 c7) (.int .i64 r7.e)
      replace bel := below_only bel o (by omega)
      replace m7 := num_only m7 k1 o
      replace kA := kA.only o (by omega)
      replace k2 := k2.only o (by omega)
      have kk : K3 ((((w22).setCell ⟨w6.heap.size, 0, none⟩ (.bool r7.neg)).setCell ⟨w6.heap.size, 1, none⟩ (.slice A7 p7 c7)).setCell ⟨w6.heap.size, 2, none⟩ (.int .i64 r7.e)) (w6.heap.size) (.bool r7.neg) (.slice A7 p7 c7) (.int .i64 r7.e) := k1.put (.bool r7.neg) (.slice A7 p7 c7) (.int .i64 r7.e)
      clear k1 o
      have k1 := kk
      clear kk
      generalize (((w22).setCell ⟨w6.heap.size, 0, none⟩ (.bool r7.neg)).setCell ⟨w6.heap.size, 1, none⟩ (.slice A7 p7 c7)).setCell ⟨w6.heap.size, 2, none⟩ (.int .i64 r7.e) = w23 at *
      refine ((H.out.2.2.2.2.2.2.2.2.2.2.2.2.2.2.2.2.2.1).out _ bel).mono ?_
      rintro e' w24 ⟨A8, p8, c8, rfl, m8, b⟩
      replace bel := below_step bel b
      replace kA := kA.adv b
      replace k1 := k1.adv b
      replace k2 := k2.adv b
      replace m7 := m7.below b
      clear b
      obtain ⟨kA_0, kA_1, kA_2, kA_3⟩ := kA.cell
      obtain ⟨k1_0, k1_1, k1_2, k1_3⟩ := k1.cell
      obtain ⟨k2_0, k2_1, k2_2, k2_3⟩ := k2.cell
      obtain ⟨k2_f0, k2_f1, k2_f2⟩ := k2.frozen
      go_wp2_with fail
      clear kA_0 kA_1 kA_2 kA_3 k1_0 k1_1 k1_2 k1_3 k2_0 k2_1 k2_2 k2_3 k2_f0 k2_f1 k2_f2
      have o : Only (w24) ((((w24).setCell ⟨w8.heap.size, 0, none⟩ (.bool r8.neg)).setCell ⟨w8.heap.size, 1, none⟩ (.slice A8 p8 c8)).setCell ⟨w8.heap.size, 2, none⟩ (.int .i64 r8.e)) (w8.heap.size) := only_put3 _ _ (.bool r8.neg) (.slice A8 p8 c8) (.int .i64 r8.e)
      replace bel := below_only bel o (by omega)
      replace m7 := num_only m7 k2 o
      replace m8 := num_only m8 k2 o
      replace kA := kA.only o (by omega)
      replace k1 := k1.only o (by omega)
      have kk : K3 ((((w24).setCell ⟨w8.heap.size, 0, none⟩ (.bool r8.neg)).setCell ⟨w8.heap.size, 1, none⟩ (.slice A8 p8 c8)).setCell ⟨w8.heap.size, 2, none⟩ (.int .i64 r8.e)) (w8.heap.size) (.bool r8.neg) (.slice A8 p8 c8) (.int .i64 r8.e) := k2.put (.bool r8.neg) (.slice A8 p8 c8) (.int .i64 r8.e)
      clear k2 o
      have k2 := kk
      clear kk
      generalize (((w24).setCell ⟨w8.heap.size, 0, none⟩ (.bool r8.neg)).setCell ⟨w8.heap.size, 1, none⟩ (.slice A8 p8 c8)).setCell ⟨w8.heap.size, 2, none⟩ (.int .i64 r8.e) = w25 at *
      refine ((H.out.2.2.2.2.2.2.2.2.2.2.2.2.2.2.2.2.2.2.1).out _ _ _ _ bel m7).mono ?_
      rintro e' w26 ⟨A9, p9, c9, rfl, m9, b⟩
      replace bel := below_step bel b
      replace kA := kA.adv b
      replace k1 := k1.adv b
      replace k2 := k2.adv b
      replace m7 := m7.below b
      replace m8 := m8.below b
      clear b
      obtain ⟨kA_0, kA_1, kA_2, kA_3⟩ := kA.cell
      obtain ⟨k1_0, k1_1, k1_2, k1_3⟩ := k1.cell
      obtain ⟨k2_0, k2_1, k2_2, k2_3⟩ := k2.cell
      go_wp2_with fail
      clear kA_0 kA_1 kA_2 kA_3 k1_0 k1_1 k1_2 k1_3 k2_0 k2_1 k2_2 k2_3
      have h_k7 : w8.heap.size < w26.heap.size := k2.2
      have b := alloc_bel w26 (cd3 (.bool sr7.neg) (.slice A9 p9 c9) (.int .i64 sr7.e))
      have k7 := K3.made w26 (.bool sr7.neg) (.slice A9 p9 c9) (.int .i64 sr7.e)
      replace bel := below_step bel b
      replace kA := kA.adv b
      replace k1 := k1.adv b
      replace k2 := k2.adv b
      replace m7 := m7.below b
      replace m8 := m8.below b
      replace m9 := m9.below b
      clear b
      generalize w26.alloc (cd3 (.bool sr7.neg) (.slice A9 p9 c9) (.int .i64 sr7.e)) = w27 at *
      refine ((H.out.2.2.2.2.2.2.2.2.2.2.2.2.2.2.2.2.2.2.2.1).out _ _ _ _ bel m8).mono ?_
      rintro e' w28 ⟨A10, p10, c10, rfl, m10, b⟩
      replace bel := below_step bel b
      replace kA := kA.adv b
      replace k1 := k1.adv b
      replace k2 := k2.adv b
      replace k7 := k7.adv b
      replace m7 := m7.below b
      replace m8 := m8.below b
      replace m9 := m9.below b
      clear b
      obtain ⟨kA_0, kA_1, kA_2, kA_3⟩ := kA.cell
      obtain ⟨k7_0, k7_1, k7_2, k7_3⟩ := k7.cell
      go_wp2_with fail
      clear kA_0 kA_1 kA_2 kA_3 k7_0 k7_1 k7_2 k7_3
      have h_k8 : w26.heap.size < w28.heap.size := k7.2
      have b := alloc_bel w28 (cd3 (.bool sr8.neg) (.slice A10 p10 c10) (.int .i64 sr8.e))
      have k8 := K3.made w28 (.bool sr8.neg) (.slice A10 p10 c10) (.int .i64 sr8.e)
      replace bel := below_step bel b
      replace kA := kA.adv b
      replace k1 := k1.adv b
      replace k2 := k2.adv b
      replace k7 := k7.adv b
      replace m7 := m7.below b
      replace m8 := m8.below b
      replace m9 := m9.below b
      replace m10 := m10.below b
      clear b
      generalize w28.alloc (cd3 (.bool sr8.neg) (.slice A10 p10 c10) (.int .i64 sr8.e)) = w29 at *
      refine (order_yes _ (H.out.2.2.2.2.2.2.2.2.2.2.2.2.2.2.2.2.2.2.2.2.1) m9 ((H.out.1).out _ bel) (H.out.2.2.2.2.2.2.2.2.2.2.2.2.2.2.2.2.2.2.2.2.2.2.1) (H.out.2.2.2.2.2.2.2.2.2.2.2.2.2.2.2.2.2.2.2.2.2.2.2.2.1)).mono ?_
      rintro e' w30 ⟨rfl, b⟩
      replace bel := below_step bel b
      replace kA := kA.adv b
      replace k1 := k1.adv b
      replace k2 := k2.adv b
      replace k7 := k7.adv b
      replace k8 := k8.adv b
      replace m7 := m7.below b
      replace m8 := m8.below b
      replace m9 := m9.below b
      replace m10 := m10.below b
      clear b
      obtain ⟨kA_0, kA_1, kA_2, kA_3⟩ := kA.cell
      obtain ⟨k8_0, k8_1, k8_2, k8_3⟩ := k8.cell
      go_wp2_with fail
      clear kA_0 kA_1 kA_2 kA_3 k8_0 k8_1 k8_2 k8_3
      refine (order_yes _ (H.out.2.2.2.2.2.2.2.2.2.2.2.2.2.2.2.2.2.2.2.2.2.1) ((H.out.1).out _ bel) m10 (H.out.2.2.2.2.2.2.2.2.2.2.2.2.2.2.2.2.2.2.2.2.2.2.2.2.1) (H.out.2.2.2.2.2.2.2.2.2.2.2.2.2.2.2.2.2.2.2.2.2.2.2.1)).mono ?_
      rintro e' w31 ⟨rfl, b⟩
      replace bel := below_step bel b
      replace kA := kA.adv b
      replace k1 := k1.adv b
      replace k2 := k2.adv b
      replace k7 := k7.adv b
      replace k8 := k8.adv b
      replace m7 := m7.below b
      replace m8 := m8.below b
      replace m9 := m9.below b
      replace m10 := m10.below b
      clear b
      go_wp2_with fail
      go_ret
      exact ⟨rfl, bel⟩
    · skip
      obtain ⟨kA_0, kA_1, kA_2, kA_3⟩ := kA.cell
      obtain ⟨k1_0, k1_1, k1_2, k1_3⟩ := k1.cell
      obtain ⟨k2_0, k2_1, k2_2, k2_3⟩ := k2.cell
      obtain ⟨kA_f0, kA_f1, kA_f2⟩ := kA.frozen
      go_wp2_with fail
      clear kA_0 kA_1 kA_2 kA_3 k1_0 k1_1 k1_2 k1_3 k2_0 k2_1 k2_2 k2_3 kA_f0 kA_f1 kA_f2
      have o : Only (w21) ((w21).setCell ⟨w.heap.size, 0, none⟩ (.bool false)) (w.heap.size) := only_set0 _ _ (.bool false)
      replace bel := below_only bel o (by omega)
      replace k1 := k1.only o (by omega)
      replace k2 := k2.only o (by omega)
      have kk : K3 ((w21).setCell ⟨w.heap.size, 0, none⟩ (.bool false)) (w.heap.size) (.bool false) (.slice A n c) (.int .i64 ea) := kA.set0 (.bool false)
      clear kA o
      have kA := kk
      clear kk
      generalize (w21).setCell ⟨w.heap.size, 0, none⟩ (.bool false) = w22 at *
      refine ((H.out.2.2.2.2.2.2.2.2.2.2.2.2.2.2.2.2.1).out _ bel).mono ?_
      rintro e' w23 ⟨A7, p7, c7, rfl, m7, b⟩
      replace bel := below_step bel b
      replace kA := kA.adv b
      replace k1 := k1.adv b
      replace k2 := k2.adv b
      clear b
      obtain ⟨kA_0, kA_1, kA_2, kA_3⟩ := kA.cell
      obtain ⟨k1_0, k1_1, k1_2, k1_3⟩ := k1.cell
      obtain ⟨k1_f0, k1_f1, k1_f2⟩ := k1.frozen
      go_wp2_with fail
      clear kA_0 kA_1 kA_2 kA_3 k1_0 k1_1 k1_2 k1_3 k1_f0 k1_f1 k1_f2
      have o : Only (w23) ((((w23).setCell ⟨w6.heap.size, 0, none⟩ (.bool r7.neg)).setCell ⟨w6.heap.size, 1, none⟩ (.slice A7 p7 c7)).setCell ⟨w6.heap.size, 2, none⟩ (.int .i64 r7.e)) (w6.heap.size) := only_put3 _ _ (.bool r7.neg) (.slice A7 p7 c7) (.int .i64 r7.e)
      replace bel := below_only bel o (by omega)
      replace m7 := num_only m7 k1 o
      replace kA := kA.only o (by omega)
      replace k2 := k2.only o (by omega)
      have kk : K3 ((((w23).setCell ⟨w6.heap.size, 0, none⟩ (.bool r7.neg)).setCell ⟨w6.heap.size, 1, none⟩ (.slice A7 p7 c7)).setCell ⟨w6.heap.size, 2, none⟩ (.int .i64 r7.e)) (w6.heap.size) (.bool r7.neg) (.slice A7 p7 c7) (.int .i64 r7.e) := k1.put (.bool r7.neg) (.slice A7 p7 c7) (.int .i64 r7.e)
      clear k1 o
      have k1 := kk
      clear kk
      generalize (((w23).setCell ⟨w6.heap.size, 0, none⟩ (.bool r7.neg)).setCell ⟨w6.heap.size, 1, none⟩ (.slice A7 p7 c7)).setCell ⟨w6.heap.size, 2, none⟩ (.int .i64 r7.e) = w24 at *
      refine ((H.out.2.2.2.2.2.2.2.2.2.2.2.2.2.2.2.2.2.1).out _ bel).mono ?_
      rintro e' w25 ⟨A8, p8, c8, rfl, m8, b⟩
      replace bel := below_step bel b
      replace kA := kA.adv b
      replace k1 := k1.adv b
      replace k2 := k2.adv b
      replace m7 := m7.below b
      clear b
      obtain ⟨kA_0, kA_1, kA_2, kA_3⟩ := kA.cell
      obtain ⟨k1_0, k1_1, k1_2, k1_3⟩ := k1.cell
      obtain ⟨k2_0, k2_1, k2_2, k2_3⟩ := k2.cell
      obtain ⟨k2_f0, k2_f1, k2_f2⟩ := k2.frozen
      go_wp2_with fail
      clear kA_0 kA_1 kA_2 kA_3 k1_0 k1_1 k1_2 k1_3 k2_0 k2_1 k2_2 k2_3 k2_f0 k2_f1 k2_f2
      have o : Only (w25) ((((w25).setCell ⟨w8.heap.size, 0, none⟩ (.bool r8.neg)).setCell ⟨w8.heap.size, 1, none⟩ (.slice A8 p8 c8)).setCell ⟨w8.heap.size, 2, none⟩ (.int .i64 r8.e)) (w8.heap.size) := only_put3 _ _ (.bool r8.neg) (.slice A8 p8 c8) (.int .i64 r8.e)
      replace bel := below_only bel o (by omega)
      replace m7 := num_only m7 k2 o
      replace m8 := num_only m8 k2 o
      replace kA := kA.only o (by omega)
      replace k1 := k1.only o (by omega)
      have kk : K3 ((((w25).setCell ⟨w8.heap.size, 0, none⟩ (.bool r8.neg)).setCell ⟨w8.heap.size, 1, none⟩ (.slice A8 p8 c8)).setCell ⟨w8.heap.size, 2, none⟩ (.int .i64 r8.e)) (w8.heap.size) (.bool r8.neg) (.slice A8 p8 c8) (.int .i64 r8.e) := k2.put (.bool r8.neg) (.slice A8 p8 c8) (.int .i64 r8.e)
      clear k2 o
      have k2 := kk
      clear kk
      generalize (((w25).setCell ⟨w8.heap.size, 0, none⟩ (.bool r8.neg)).setCell ⟨w8.heap.size, 1, none⟩ (.slice A8 p8 c8)).setCell ⟨w8.heap.size, 2, none⟩ (.int .i64 r8.e) = w26 at *
      refine ((H.out.2.2.2.2.2.2.2.2.2.2.2.2.2.2.2.2.2.2.1).out _ _ _ _ bel m7).mono ?_
      rintro e' w27 ⟨A9, p9, c9, rfl, m9, b⟩
      replace bel := below_step bel b
      replace kA := kA.adv b
      replace k1 := k1.adv b
      replace k2 := k2.adv b
      replace m7 := m7.below b
      replace m8 := m8.below b
      clear b
      obtain ⟨kA_0, kA_1, kA_2, kA_3⟩ := kA.cell
      obtain ⟨k1_0, k1_1, k1_2, k1_3⟩ := k1.cell
      obtain ⟨k2_0, k2_1, k2_2, k2_3⟩ := k2.cell
      go_wp2_with fail
      clear kA_0 kA_1 kA_2 kA_3 k1_0 k1_1 k1_2 k1_3 k2_0 k2_1 k2_2 k2_3
      have h_k7 : w8.heap.size < w27.heap.size := k2.2
      have b := alloc_bel w27 (cd3 (.bool sr7.neg) (.slice A9 p9 c9) (.int .i64 sr7.e))
      have k7 := K3.made w27 (.bool sr7.neg) (.slice A9 p9 c9) (.int .i64 sr7.e)
      replace bel := below_step bel b
      replace kA := kA.adv b
      replace k1 := k1.adv b
      replace k2 := k2.adv b
      replace m7 := m7.below b
      replace m8 := m8.below b
      replace m9 := m9.below b
      clear b
      generalize w27.alloc (cd3 (.bool sr7.neg) (.slice A9 p9 c9) (.int .i64 sr7.e)) = w28 at *
      refine ((H.out.2.2.2.2.2.2.2.2.2.2.2.2.2.2.2.2.2.2.2.1).out _ _ _ _ bel m8).mono ?_
      rintro e' w29 ⟨A10, p10, c10, rfl, m10, b⟩
      replace bel := below_step bel b
      replace kA := kA.adv b
      replace k1 := k1.adv b
      replace k2 := k2.adv b
      replace k7 := k7.adv b
      replace m7 := m7.below b
      replace m8 := m8.below b
      replace m9 := m9.below b
      clear b
      obtain ⟨kA_0, kA_1, kA_2, kA_3⟩ := kA.cell
      obtain ⟨k7_0, k7_1, k7_2, k7_3⟩ := k7.cell
      go_wp2_with fail
      clear kA_0 kA_1 kA_2 kA_3 k7_0 k7_1 k7_2 k7_3
      have h_k8 : w27.heap.size < w29.heap.size := k7.2
      have b := alloc_bel w29 (cd3 (.bool sr8.neg) (.slice A10 p10 c10) (.int .i64 sr8.e))
      have k8 := K3.made w29 (.bool sr8.neg) (.slice A10 p10 c10) (.int .i64 sr8.e)
      replace bel := below_step bel b
      replace kA := kA.adv b
      replace k1 := k1.adv b
      replace k2 := k2.adv b
      replace k7 := k7.adv b
      replace m7 := m7.below b
      replace m8 := m8.below b
      replace m9 := m9.below b
      replace m10 := m10.below b
      clear b
      generalize w29.alloc (cd3 (.bool sr8.neg) (.slice A10 p10 c10) (.int .i64 sr8.e)) = w30 at *
      refine (order_yes _ (H.out.2.2.2.2.2.2.2.2.2.2.2.2.2.2.2.2.2.2.2.2.1) m9 ((H.out.1).out _ bel) (H.out.2.2.2.2.2.2.2.2.2.2.2.2.2.2.2.2.2.2.2.2.2.2.1) (H.out.2.2.2.2.2.2.2.2.2.2.2.2.2.2.2.2.2.2.2.2.2.2.2.2.1)).mono ?_
      rintro e' w31 ⟨rfl, b⟩
      replace bel := below_step bel b
      replace kA := kA.adv b
      replace k1 := k1.adv b
      replace k2 := k2.adv b
      replace k7 := k7.adv b
      replace k8 := k8.adv b
      replace m7 := m7.below b
      replace m8 := m8.below b
      replace m9 := m9.below b
      replace m10 := m10.below b
      clear b
      obtain ⟨kA_0, kA_1, kA_2, kA_3⟩ := kA.cell
      obtain ⟨k8_0, k8_1, k8_2, k8_3⟩ := k8.cell
      go_wp2_with fail
      clear kA_0 kA_1 kA_2 kA_3 k8_0 k8_1 k8_2 k8_3
      refine (order_yes _ (H.out.2.2.2.2.2.2.2.2.2.2.2.2.2.2.2.2.2.2.2.2.2.1) ((H.out.1).out _ bel) m10 (H.out.2.2.2.2.2.2.2.2.2.2.2.2.2.2.2.2.2.2.2.2.2.2.2.2.1) (H.out.2.2.2.2.2.2.2.2.2.2.2.2.2.2.2.2.2.2.2.2.2.2.2.1)).mono ?_
      rintro e' w32 ⟨rfl, b⟩
      replace bel := below_step bel b
      replace kA := kA.adv b
      replace k1 := k1.adv b
      replace k2 := k2.adv b
      replace k7 := k7.adv b
      replace k8 := k8.adv b
      replace m7 := m7.below b
      replace m8 := m8.below b
      replace m9 := m9.below b
      replace m10 := m10.below b
      clear b
      go_wp2_with fail
      go_ret
      exact ⟨rfl, bel⟩
  · skip
    have O4 : Le sr4.neg sr4.m sr4.e na Va ea := ⟨((H.out.2.2.2.2.2.2.2.2.2.2.2.2.2.1) hm0).1, (H.out.2.2.2.2.2.2.2.2.2.2.2.2.2.2.2.2.2.2.2.2.2.2.2.2.2), ((H.out.2.2.2.2.2.2.2.2.2.2.2.2.2.1) hm0).2.1 rfl⟩
    have O3 : Le na Va ea sr3.neg sr3.m sr3.e := ⟨(H.out.2.2.2.2.2.2.2.2.2.2.2.2.2.2.2.2.2.2.2.2.2.2.2.2.2), ((H.out.2.2.2.2.2.2.2.2.2.2.2.2.1) hm0).1, ((H.out.2.2.2.2.2.2.2.2.2.2.2.2.1) hm0).2.2 (by decide)⟩
    obtain ⟨kA_0, kA_1, kA_2, kA_3⟩ := kA.cell
    obtain ⟨kB_0, kB_1, kB_2, kB_3⟩ := kB.cell
    obtain ⟨k5_0, k5_1, k5_2, k5_3⟩ := k5.cell
    obtain ⟨k5_f0, k5_f1, k5_f2⟩ := k5.frozen
    go_wp2_with fail
    clear kA_0 kA_1 kA_2 kA_3 kB_0 kB_1 kB_2 kB_3 k5_0 k5_1 k5_2 k5_3 k5_f0 k5_f1 k5_f2
    have o : Only (w18) ((((w18).setCell ⟨w16.heap.size, 0, none⟩ (.bool sr4.neg)).setCell ⟨w16.heap.size, 1, none⟩ (.slice A6 p6 c6)).setCell ⟨w16.heap.size, 2, none⟩ (.int .i64 sr4.e)) (w16.heap.size) := only_put3 _ _ (.bool sr4.neg) (.slice A6 p6 c6) (.int .i64 sr4.e)
    replace bel := below_only bel o (by omega)
    replace m3 := num_only m3 k5 o
    replace m4 := num_only m4 k5 o
    replace m5 := num_only m5 k5 o
    replace m6 := num_only m6 k5 o
    replace kA := kA.only o (by omega)
    replace kB := kB.only o (by omega)
    replace k1 := k1.only o (by omega)
    replace k2 := k2.only o (by omega)
    replace k3 := k3.only o (by omega)
    replace k4 := k4.only o (by omega)
    have kk : K3 ((((w18).setCell ⟨w16.heap.size, 0, none⟩ (.bool sr4.neg)).setCell ⟨w16.heap.size, 1, none⟩ (.slice A6 p6 c6)).setCell ⟨w16.heap.size, 2, none⟩ (.int .i64 sr4.e)) (w16.heap.size) (.bool sr4.neg) (.slice A6 p6 c6) (.int .i64 sr4.e) := k5.put (.bool sr4.neg) (.slice A6 p6 c6) (.int .i64 sr4.e)
    clear k5 o
    have k5 := kk
    clear kk
    have h_k6 : w16.heap.size < w18.heap.size := by have := k5.2; simpa [World.setCell] using this
    have b := alloc_bel ((((w18).setCell ⟨w16.heap.size, 0, none⟩ (.bool sr4.neg)).setCell ⟨w16.heap.size, 1, none⟩ (.slice A6 p6 c6)).setCell ⟨w16.heap.size, 2, none⟩ (.int .i64 sr4.e)) (cd3 (.bool sr3.neg) (.slice A5 p5 c5) (.int .i64 sr3.e))
    have k6 : K3 (((((w18).setCell ⟨w16.heap.size, 0, none⟩ (.bool sr4.neg)).setCell ⟨w16.heap.size, 1, none⟩ (.slice A6 p6 c6)).setCell ⟨w16.heap.size, 2, none⟩ (.int .i64 sr4.e)).alloc (cd3 (.bool sr3.neg) (.slice A5 p5 c5) (.int .i64 sr3.e))) w18.heap.size (.bool sr3.neg) (.slice A5 p5 c5) (.int .i64 sr3.e) := by
      have := K3.made ((((w18).setCell ⟨w16.heap.size, 0, none⟩ (.bool sr4.neg)).setCell ⟨w16.heap.size, 1, none⟩ (.slice A6 p6 c6)).setCell ⟨w16.heap.size, 2, none⟩ (.int .i64 sr4.e)) (.bool sr3.neg) (.slice A5 p5 c5) (.int .i64 sr3.e)
      rwa [show ((((w18).setCell ⟨w16.heap.size, 0, none⟩ (.bool sr4.neg)).setCell ⟨w16.heap.size, 1, none⟩ (.slice A6 p6 c6)).setCell ⟨w16.heap.size, 2, none⟩ (.int .i64 sr4.e)).heap.size = w18.heap.size by simp [World.setCell]] at this
    replace bel := below_step bel b
    replace kA := kA.adv b
    replace kB := kB.adv b
    replace k1 := k1.adv b
    replace k2 := k2.adv b
    replace k3 := k3.adv b
    replace k4 := k4.adv b
    replace k5 := k5.adv b
    replace m3 := m3.below b
    replace m4 := m4.below b
    replace m5 := m5.below b
    replace m6 := m6.below b
    clear b
    generalize ((((w18).setCell ⟨w16.heap.size, 0, none⟩ (.bool sr4.neg)).setCell ⟨w16.heap.size, 1, none⟩ (.slice A6 p6 c6)).setCell ⟨w16.heap.size, 2, none⟩ (.int .i64 sr4.e)).alloc (cd3 (.bool sr3.neg) (.slice A5 p5 c5) (.int .i64 sr3.e)) = w19 at *
    refine (order_yes _ O4 m6 ((H.out.1).out _ bel) ((H.out.2.2.2.2.2.2.2.2.2.2.2.2.2.2.2.1) hm0) (H.out.2.2.2.2.2.2.2.2.2.2.2.2.2.2.2.2.2.2.2.2.2.2.2.2.1)).mono ?_
    rintro e' w20 ⟨rfl, b⟩
    replace bel := below_step bel b
    replace kA := kA.adv b
    replace kB := kB.adv b
    replace k1 := k1.adv b
    replace k2 := k2.adv b
    replace k3 := k3.adv b
    replace k4 := k4.adv b
    replace k5 := k5.adv b
    replace k6 := k6.adv b
    replace m3 := m3.below b
    replace m4 := m4.below b
    replace m5 := m5.below b
    replace m6 := m6.below b
    clear b
    obtain ⟨kA_0, kA_1, kA_2, kA_3⟩ := kA.cell
    obtain ⟨k6_0, k6_1, k6_2, k6_3⟩ := k6.cell
    go_wp2_with fail
    clear kA_0 kA_1 kA_2 kA_3 k6_0 k6_1 k6_2 k6_3
    refine (order_yes _ O3 ((H.out.1).out _ bel) m5 (H.out.2.2.2.2.2.2.2.2.2.2.2.2.2.2.2.2.2.2.2.2.2.2.2.2.1) ((H.out.2.2.2.2.2.2.2.2.2.2.2.2.2.2.1) hm0)).mono ?_
    rintro e' w21 ⟨rfl, b⟩
    replace bel := below_step bel b
    replace kA := kA.adv b
    replace kB := kB.adv b
    replace k1 := k1.adv b
    replace k2 := k2.adv b
    replace k3 := k3.adv b
    replace k4 := k4.adv b
    replace k5 := k5.adv b
    replace k6 := k6.adv b
    replace m3 := m3.below b
    replace m4 := m4.below b
    replace m5 := m5.below b
    replace m6 := m6.below b
    clear b
    clear O3 O4 k3 k4 k5 k6 m3 m4 m5 m6 kB
    cases na
    · skip
      obtain ⟨kA_0, kA_1, kA_2, kA_3⟩ := kA.cell
      obtain ⟨k1_0, k1_1, k1_2, k1_3⟩ := k1.cell
      obtain ⟨k2_0, k2_1, k2_2, k2_3⟩ := k2.cell
      obtain ⟨kA_f0, kA_f1, kA_f2⟩ := kA.frozen
      go_wp2_with fail
      clear kA_0 kA_1 kA_2 kA_3 k1_0 k1_1 k1_2 k1_3 k2_0 k2_1 k2_2 k2_3 kA_f0 kA_f1 kA_f2
      refine ((H.out.2.2.2.2.2.2.2.2.2.2.2.2.2.2.2.2.1).out _ bel).mono ?_
      rintro e' w22 ⟨A7, p7, c7, rfl, m7, b⟩
      replace bel := below_step bel b
      replace kA := kA.adv b
      replace k1 := k1.adv b
      replace k2 := k2.adv b
      clear b
      obtain ⟨kA_0, kA_1, kA_2, kA_3⟩ := kA.cell
      obtain ⟨k1_0, k1_1, k1_2, k1_3⟩ := k1.cell
      obtain ⟨k1_f0, k1_f1, k1_f2⟩ := k1.frozen
      go_wp2_with fail
      clear kA_0 kA_1 kA_2 kA_3 k1_0 k1_1 k1_2 k1_3 k1_f0 k1_f1 k1_f2
      have o : Only (w22) ((((w22).setCell ⟨w6.heap.size, 0, none⟩ (.bool r7.neg)).setCell ⟨w6.heap.size, 1, none⟩ (.slice A7 p7 c7)).setCell ⟨w6.heap.size, 2, none⟩ (.int .i64 r7.e)) (w6.heap.size) := only_put3 _ _ (.bool r7.neg) (.slice A7 p7 c7) (.int .i64 r7.e)
      replace bel := below_only bel o (by omega)
      replace m7 := num_only m7 k1 o
      replace kA := kA.only o (by omega)
      replace k2 := k2.only o (by omega)
      have kk : K3 ((((w22).setCell ⟨w6.heap.size, 0, none⟩ (.bool r7.neg)).setCell ⟨w6.heap.size, 1, none⟩ (.slice A7 p7 c7)).setCell ⟨w6.heap.size, 2, none⟩ (.int .i64 r7.e)) (w6.heap.size) (.bool r7.neg) (.slice A7 p7 c7) (.int .i64 r7.e) := k1.put (.bool r7.neg) (.slice A7 p7 c7) (.int .i64 r7.e)
      clear k1 o
      have k1 := kk
      clear kk
      generalize (((w22).setCell ⟨w6.heap.size, 0, none⟩ (.bool r7.neg)).setCell ⟨w6.heap.size, 1, none⟩ (.slice A7 p7 c7)).setCell ⟨w6.heap.size, 2, none⟩ (.int .i64 r7.e) = w23 at *
      refine ((H.out.2.2.2.2.2.2.2.2.2.2.2.2.2.2.2.2.2.1).out _ bel).mono ?_
      rintro e' w24 ⟨A8, p8, c8, rfl, m8, b⟩
      replace bel := below_step bel b
      replace kA := kA.adv b
      replace k1 := k1.adv b
      replace k2 := k2.adv b
      replace m7 := m7.below b
      clear b
      obtain ⟨kA_0, kA_1, kA_2, kA_3⟩ := kA.cell
      obtain ⟨k1_0, k1_1, k1_2, k1_3⟩ := k1.cell
      obtain ⟨k2_0, k2_1, k2_2, k2_3⟩ := k2.cell
      obtain ⟨k2_f0, k2_f1, k2_f2⟩ := k2.frozen
      go_wp2_with fail
      clear kA_0 kA_1 kA_2 kA_3 k1_0 k1_1 k1_2 k1_3 k2_0 k2_1 k2_2 k2_3 k2_f0 k2_f1 k2_f2
      have o : Only (w24) ((((w24).setCell ⟨w8.heap.size, 0, none⟩ (.bool r8.neg)).setCell ⟨w8.heap.size, 1, none⟩ (.slice A8 p8 c8)).setCell ⟨w8.heap.size, 2, none⟩ (.int .i64 r8.e)) (w8.heap.size) := only_put3 _ _ (.bool r8.neg) (.slice A8 p8 c8) (.int .i64 r8.e)
      replace bel := below_only bel o (by omega)
      replace m7 := num_only m7 k2 o
      replace m8 := num_only m8 k2 o
      replace kA := kA.only o (by omega)
      replace k1 := k1.only o (by omega)
      have kk : K3 ((((w24).setCell ⟨w8.heap.size, 0, none⟩ (.bool r8.neg)).setCell ⟨w8.heap.size, 1, none⟩ (.slice A8 p8 c8)).setCell ⟨w8.heap.size, 2, none⟩ (.int .i64 r8.e)) (w8.heap.size) (.bool r8.neg) (.slice A8 p8 c8) (.int .i64 r8.e) := k2.put (.bool r8.neg) (.slice A8 p8 c8) (.int .i64 r8.e)
      clear k2 o
      have k2 := kk
      clear kk
      generalize (((w24).setCell ⟨w8.heap.size, 0, none⟩ (.bool r8.neg)).setCell ⟨w8.heap.size, 1, none⟩ (.slice A8 p8 c8)).setCell ⟨w8.heap.size, 2, none⟩ (.int .i64 r8.e) = w25 at *
      refine ((H.out.2.2.2.2.2.2.2.2.2.2.2.2.2.2.2.2.2.2.1).out _ _ _ _ bel m7).mono ?_
      rintro e' w26 ⟨A9, p9, c9, rfl, m9, b⟩
      replace bel := below_step bel b
      replace kA := kA.adv b
      replace k1 := k1.adv b
      replace k2 := k2.adv b
      replace m7 := m7.below b
      replace m8 := m8.below b
      clear b
      obtain ⟨kA_0, kA_1, kA_2, kA_3⟩ := kA.cell
      obtain ⟨k1_0, k1_1, k1_2, k1_3⟩ := k1.cell
      obtain ⟨k2_0, k2_1, k2_2, k2_3⟩ := k2.cell
      go_wp2_with fail
      clear kA_0 kA_1 kA_2 kA_3 k1_0 k1_1 k1_2 k1_3 k2_0 k2_1 k2_2 k2_3
      have h_k7 : w8.heap.size < w26.heap.size := k2.2
      have b := alloc_bel w26 (cd3 (.bool sr7.neg) (.slice A9 p9 c9) (.int .i64 sr7.e))
      have k7 := K3.made w26 (.bool sr7.neg) (.slice A9 p9 c9) (.int .i64 sr7.e)
      replace bel := below_step bel b
      replace kA := kA.adv b
      replace k1 := k1.adv b
      replace k2 := k2.adv b
      replace m7 := m7.below b
      replace m8 := m8.below b
      replace m9 := m9.below b
      clear b
      generalize w26.alloc (cd3 (.bool sr7.neg) (.slice A9 p9 c9) (.int .i64 sr7.e)) = w27 at *
      refine ((H.out.2.2.2.2.2.2.2.2.2.2.2.2.2.2.2.2.2.2.2.1).out _ _ _ _ bel m8).mono ?_
      rintro e' w28 ⟨A10, p10, c10, rfl, m10, b⟩
      replace bel := below_step bel b
      replace kA := kA.adv b
      replace k1 := k1.adv b
      replace k2 := k2.adv b
      replace k7 := k7.adv b
      replace m7 := m7.below b
      replace m8 := m8.below b
      replace m9 := m9.below b
      clear b
      obtain ⟨kA_0, kA_1, kA_2, kA_3⟩ := kA.cell
      obtain ⟨k7_0, k7_1, k7_2, k7_3⟩ := k7.cell
      go_wp2_with fail
      clear kA_0 kA_1 kA_2 kA_3 k7_0 k7_1 k7_2 k7_3
      have h_k8 : w26.heap.size < w28.heap.size := k7.2
      have b := alloc_bel w28 (cd3 (.bool sr8.neg) (.slice A10 p10 c10) (.int .i64 sr8.e))
      have k8 := K3.made w28 (.bool sr8.neg) (.slice A10 p10 c10) (.int .i64 sr8.e)
      replace bel := below_step bel b
      replace kA := kA.adv b
      replace k1 := k1.adv b
      replace k2 := k2.adv b
      replace k7 := k7.adv b
      replace m7 := m7.below b
      replace m8 := m8.below b
      replace m9 := m9.below b
      replace m10 := m10.below b
      clear b
      generalize w28.alloc (cd3 (.bool sr8.neg) (.slice A10 p10 c10) (.int .i64 sr8.e)) = w29 at *
      refine (order_yes _ (H.out.2.2.2.2.2.2.2.2.2.2.2.2.2.2.2.2.2.2.2.2.1) m9 ((H.out.1).out _ bel) (H.out.2.2.2.2.2.2.2.2.2.2.2.2.2.2.2.2.2.2.2.2.2.2.1) (H.out.2.2.2.2.2.2.2.2.2.2.2.2.2.2.2.2.2.2.2.2.2.2.2.2.1)).mono ?_
      rintro e' w30 ⟨rfl, b⟩
      replace bel := below_step bel b
      replace kA := kA.adv b
      replace k1 := k1.adv b
      replace k2 := k2.adv b
      replace k7 := k7.adv b
      replace k8 := k8.adv b
      replace m7 := m7.below b
      replace m8 := m8.below b
      replace m9 := m9.below b
      replace m10 := m10.below b
      clear b
      obtain ⟨kA_0, kA_1, kA_2, kA_3⟩ := kA.cell
      obtain ⟨k8_0, k8_1, k8_2, k8_3⟩ := k8.cell
      go_wp2_with fail
      clear kA_0 kA_1 kA_2 kA_3 k8_0 k8_1 k8_2 k8_3
      refine (order_yes _ (H.out.2.2.2.2.2.2.2.2.2.2.2.2.2.2.2.2.2.2.2.2.2.1) ((H.out.1).out _ bel) m10 (H.out.2.2.2.2.2.2.2.2.2.2.2.2.2.2.2.2.2.2.2.2.2.2.2.2.1) (H.out.2.2.2.2.2.2.2.2.2.2.2.2.2.2.2.2.2.2.2.2.2.2.2.1)).mono ?_
      rintro e' w31 ⟨rfl, b⟩
      replace bel := below_step bel b
      replace kA := kA.adv b
      replace k1 := k1.adv b
      replace k2 := k2.adv b
      replace k7 := k7.adv b
      replace k8 := k8.adv b
      replace m7 := m7.below b
      replace m8 := m8.below b
      replace m9 := m9.below b
      replace m10 := m10.below b
      clear b
      go_wp2_with fail
      go_ret
      exact ⟨rfl, bel⟩
    · skip
      obtain ⟨kA_0, kA_1, kA_2, kA_3⟩ := kA.cell
      obtain ⟨k1_0, k1_1, k1_2, k1_3⟩ := k1.cell
      obtain ⟨k2_0, k2_1, k2_2, k2_3⟩ := k2.cell
      obtain ⟨kA_f0, kA_f1, kA_f2⟩ := kA.frozen
      go_wp2_with fail
      clear kA_0 kA_1 kA_2 kA_3 k1_0 k1_1 k1_2 k1_3 k2_0 k2_1 k2_2 k2_3 kA_f0 kA_f1 kA_f2
      have o : Only (w21) ((w21).setCell ⟨w.heap.size, 0, none⟩ (.bool false)) (w.heap.size) := only_set0 _ _ (.bool false)
      replace bel := below_only bel o (by omega)
      replace k1 := k1.only o (by omega)
      replace k2 := k2.only o (by omega)
      have kk : K3 ((w21).setCell ⟨w.heap.size, 0, none⟩ (.bool false)) (w.heap.size) (.bool false) (.slice A n c) (.int .i64 ea) := kA.set0 (.bool false)
      clear kA o
      have kA := kk
      clear kk
      generalize (w21).setCell ⟨w.heap.size, 0, none⟩ (.bool false) = w22 at *
      refine ((H.out.2.2.2.2.2.2.2.2.2.2.2.2.2.2.2.2.1).out _ bel).mono ?_
      rintro e' w23 ⟨A7, p7, c7, rfl, m7, b⟩
      replace bel := below_step bel b
      replace kA := kA.adv b
      replace k1 := k1.adv b
      replace k2 := k2.adv b
      clear b
      obtain ⟨kA_0, kA_1, kA_2, kA_3⟩ := kA.cell
      obtain ⟨k1_0, k1_1, k1_2, k1_3⟩ := k1.cell
      obtain ⟨k1_f0, k1_f1, k1_f2⟩ := k1.frozen
      go_wp2_with fail
      clear kA_0 kA_1 kA_2 kA_3 k1_0 k1_1 k1_2 k1_3 k1_f0 k1_f1 k1_f2
      have o : Only (w23) ((((w23).setCell ⟨w6.heap.size, 0, none⟩ (.bool r7.neg)).setCell ⟨w6.heap.size, 1, none⟩ (.slice A7 p7 c7)).setCell ⟨w6.heap.size, 2, none⟩ (.int .i64 r7.e)) (w6.heap.size) := only_put3 _ _ (.bool r7.neg) (.slice A7 p7 c7) (.int .i64 r7.e)
      replace bel := below_only bel o (by omega)
      replace m7 := num_only m7 k1 o
      replace kA := kA.only o (by omega)
      replace k2 := k2.only o (by omega)
      have kk : K3 ((((w23).setCell ⟨w6.heap.size, 0, none⟩ (.bool r7.neg)).setCell ⟨w6.heap.size, 1, none⟩ (.slice A7 p7 c7)).setCell ⟨w6.heap.size, 2, none⟩ (.int .i64 r7.e)) (w6.heap.size) (.bool r7.neg) (.slice A7 p7 c7) (.int .i64 r7.e) := k1.put (.bool r7.neg) (.slice A7 p7 c7) (.int .i64 r7.e)
      clear k1 o
      have k1 := kk
      clear kk
      generalize (((w23).setCell ⟨w6.heap.size, 0, none⟩ (.bool r7.neg)).setCell ⟨w6.heap.size, 1, none⟩ (.slice A7 p7 c7)).setCell ⟨w6.heap.size, 2, none⟩ (.int .i64 r7.e) = w24 at *
      refine ((H.out.2.2.2.2.2.2.2.2.2.2.2.2.2.2.2.2.2.1).out _ bel).mono ?_
      rintro e' w25 ⟨A8, p8, c8, rfl, m8, b⟩
      replace bel := below_step bel b
      replace kA := kA.adv b
      replace k1 := k1.adv b
      replace k2 := k2.adv b
      replace m7 := m7.below b
      clear b
      obtain ⟨kA_0, kA_1, kA_2, kA_3⟩ := kA.cell
      obtain ⟨k1_0, k1_1, k1_2, k1_3⟩ := k1.cell
      obtain ⟨k2_0, k2_1, k2_2, k2_3⟩ := k2.cell
      obtain ⟨k2_f0, k2_f1, k2_f2⟩ := k2.frozen
      go_wp2_with fail
      clear kA_0 kA_1 kA_2 kA_3 k1_0 k1_1 k1_2 k1_3 k2_0 k2_1 k2_2 k2_3 k2_f0 k2_f1 k2_f2
      have o : Only (w25) ((((w25).setCell ⟨w8.heap.size, 0, none⟩ (.bool r8.neg)).setCell ⟨w8.heap.size, 1, none⟩ (.slice A8 p8 c8)).setCell ⟨w8.heap.size, 2, none⟩ (.int .i64 r8.e)) (w8.heap.size) := only_put3 _ _ (.bool r8.neg) (.slice A8 p8 c8) (.int .i64 r8.e)
      replace bel := below_only bel o (by omega)
      replace m7 := num_only m7 k2 o
      replace m8 := num_only m8 k2 o
      replace kA := kA.only o (by omega)
      replace k1 := k1.only o (by omega)
      have kk : K3 ((((w25).setCell ⟨w8.heap.size, 0, none⟩ (.bool r8.neg)).setCell ⟨w8.heap.size, 1, none⟩ (.slice A8 p8 c8)).setCell ⟨w8.heap.size, 2, none⟩ (.int .i64 r8.e)) (w8.heap.size) (.bool r8.neg) (.slice A8 p8 c8) (.int .i64 r8.e) := k2.put (.bool r8.neg) (.slice A8 p8 c8) (.int .i64 r8.e)
      clear k2 o
      have k2 := kk
      clear kk
      generalize (((w25).setCell ⟨w8.heap.size, 0, none⟩ (.bool r8.neg)).setCell ⟨w8.heap.size, 1, none⟩ (.slice A8 p8 c8)).setCell ⟨w8.heap.size, 2, none⟩ (.int .i64 r8.e) = w26 at *
      refine ((H.out.2.2.2.2.2.2.2.2.2.2.2.2.2.2.2.2.2.2.1).out _ _ _ _ bel m7).mono ?_
      rintro e' w27 ⟨A9, p9, c9, rfl, m9, b⟩
      replace bel := below_step bel b
      replace kA := kA.adv b
      replace k1 := k1.adv b
      replace k2 := k2.adv b
      replace m7 := m7.below b
      replace m8 := m8.below b
      clear b
      obtain ⟨kA_0, kA_1, kA_2, kA_3⟩ := kA.cell
      obtain ⟨k1_0, k1_1, k1_2, k1_3⟩ := k1.cell
      obtain ⟨k2_0, k2_1, k2_2, k2_3⟩ := k2.cell
      go_wp2_with fail
      clear kA_0 kA_1 kA_2 kA_3 k1_0 k1_1 k1_2 k1_3 k2_0 k2_1 k2_2 k2_3
      have h_k7 : w8.heap.size < w27.heap.size := k2.2
      have b := alloc_bel w27 (cd3 (.bool sr7.neg) (.slice A9 p9 c9) (.int .i64 sr7.e))
      have k7 := K3.made w27 (.bool sr7.neg) (.slice A9 p9 c9) (.int .i64 sr7.e)
      replace bel := below_step bel b
      replace kA := kA.adv b
      replace k1 := k1.adv b
      replace k2 := k2.adv b
      replace m7 := m7.below b
      replace m8 := m8.below b
      replace m9 := m9.below b
      clear b
      generalize w27.alloc (cd3 (.bool sr7.neg) (.slice A9 p9 c9) (.int .i64 sr7.e)) = w28 at *
      refine ((H.out.2.2.2.2.2.2.2.2.2.2.2.2.2.2.2.2.2.2.2.1).out _ _ _ _ bel m8).mono ?_
      rintro e' w29 ⟨A10, p10, c10, rfl, m10, b⟩
      replace bel := below_step bel b
      replace kA := kA.adv b
      replace k1 := k1.adv b
      replace k2 := k2.adv b
      replace k7 := k7.adv b
      replace m7 := m7.below b
      replace m8 := m8.below b
      replace m9 := m9.below b
      clear b
      obtain ⟨kA_0, kA_1, kA_2, kA_3⟩ := kA.cell
      obtain ⟨k7_0, k7_1, k7_2, k7_3⟩ := k7.cell
      go_wp2_with fail
      clear kA_0 kA_1 kA_2 kA_3 k7_0 k7_1 k7_2 k7_3
      have h_k8 : w27.heap.size < w29.heap.size := k7.2
      have b := alloc_bel w29 (cd3 (.bool sr8.neg) (.slice A10 p10 c10) (.int .i64 sr8.e))
      have k8 := K3.made w29 (.bool sr8.neg) (.slice A10 p10 c10) (.int .i64 sr8.e)
      replace bel := below_step bel b
      replace kA := kA.adv b
      replace k1 := k1.adv b
      replace k2 := k2.adv b
      replace k7 := k7.adv b
      replace m7 := m7.below b
      replace m8 := m8.below b
      replace m9 := m9.below b
      replace m10 := m10.below b
      clear b
      generalize w29.alloc (cd3 (.bool sr8.neg) (.slice A10 p10 c10) (.int .i64 sr8.e)) = w30 at *
      refine (order_yes _ (H.out.2.2.2.2.2.2.2.2.2.2.2.2.2.2.2.2.2.2.2.2.1) m9 ((H.out.1).out _ bel) (H.out.2.2.2.2.2.2.2.2.2.2.2.2.2.2.2.2.2.2.2.2.2.2.1) (H.out.2.2.2.2.2.2.2.2.2.2.2.2.2.2.2.2.2.2.2.2.2.2.2.2.1)).mono ?_
      rintro e' w31 ⟨rfl, b⟩
      replace bel := below_step bel b
      replace kA := kA.adv b
      replace k1 := k1.adv b
      replace k2 := k2.adv b
      replace k7 := k7.adv b
      replace k8 := k8.adv b
      replace m7 := m7.below b
      replace m8 := m8.below b
      replace m9 := m9.below b
      replace m10 := m10.below b
      clear b
      obtain ⟨kA_0, kA_1, kA_2, kA_3⟩ := kA.cell
      obtain ⟨k8_0, k8_1, k8_2, k8_3⟩ := k8.cell
      go_wp2_with fail
      clear kA_0 kA_1 kA_2 kA_3 k8_0 k8_1 k8_2 k8_3
      refine (order_yes _ (H.out.2.2.2.2.2.2.2.2.2.2.2.2.2.2.2.2.2.2.2.2.2.1) ((H.out.1).out _ bel) m10 (H.out.2.2.2.2.2.2.2.2.2.2.2.2.2.2.2.2.2.2.2.2.2.2.2.2.1) (H.out.2.2.2.2.2.2.2.2.2.2.2.2.2.2.2.2.2.2.2.2.2.2.2.1)).mono ?_
      rintro e' w32 ⟨rfl, b⟩
      replace bel := below_step bel b
      replace kA := kA.adv b
      replace k1 := k1.adv b
      replace k2 := k2.adv b
      replace k7 := k7.adv b
      replace k8 := k8.adv b
      replace m7 := m7.below b
      replace m8 := m8.below b
      replace m9 := m9.below b
      replace m10 := m10.below b
      clear b
      go_wp2_with fail
      go_ret
      exact ⟨rfl, bel⟩
end Go.Proofs.YtijdpmhcgmkjgaaDoor
