/-
  The law SeriesLn2.
-/
import Derived.Test.YtodjldhppbbhdaaGreatDoorPlSerGSe7
import Derived.Test.YtodjldhppbbhdaaGreatDoorPlSerGSe10
import Derived.Test.YtodjldhppbbhdaaGreatDoorPlSerGSe9
namespace Go.Proofs.YtodjldhppbbhdaaGreatDoor
open Go.RowKit

set_option maxRecDepth 8000 in
set_option maxHeartbeats 8000000 in
theorem sln_any (p : Int) (bad : Bool) (w : World) (hT : Tab w) : Calls Tryz.prog 4 #[.int .i64 p, .bool bad] w (TruePost w) := by
  have AW := Lib.hid (awake4 w hT)
  have HT := Lib.hid hT
  clear hT
  go_enter Tryz.func4, Tryz.ntmps4
  go_wp2_with fail
  refine AW.out.mono ?_
  clear AW
  rintro e' w1 ⟨rfl, b1⟩
  have HB1 := Lib.hid b1
  clear b1
  by_cases c0 : 600 < p ∧ p ≤ 7000
  · have c1 : decide (600 < p) = true := decide_eq_true c0.1
    have c2 : decide (p ≤ 7000) = true := decide_eq_true c0.2
    clear c0
    go_wp2_with fail
    go_ret
    exact ⟨rfl, HB1.out⟩
  cases bad
  rotate_left
  · by_cases c1 : 600 < p
    · have c1' : decide (600 < p) = true := decide_eq_true c1
      have c2' : decide (p ≤ 7000) = false := decide_eq_false (by omega)
      have HGB : goesBad p true = true := rfl
      clear c0 c1
      have CN : Hid (∀ w' g, Wk 34 w' g p true → Calls Tryz.prog 13 #[.pointer (some ⟨g, 0, none⟩)] w' (SPost 34 w' g p SRes.no)) := Lib.hid (fun w' g h => ln_no g p true w' HGB h)
      go_wp2_with fail
      refine (calc_any p true w1).mono ?_
      rintro e' w2 ⟨g, rfl, hG, hg, b2⟩
      have HB2 := Lib.hid (below_step HB1.out b2)
      have hg' : w.heap.size ≤ g := Nat.le_trans HB1.out.size hg
      clear hg b2
      go_wp2_with fail
      refine (CN.out _ _ hG).mono ?_
      rintro e' w3 ⟨A, n, c, B, m, d, rfl, Na, Nb, hW3, o3⟩
      have b3 := below_only HB2.out o3 hg'
      have b4 := alloc_bel w3 (.cells #[.bool SRes.no.lo.neg, .slice A n c, .int .i64 SRes.no.lo.e, .bool SRes.no.hi.neg, .slice B m d, .int .i64 SRes.no.hi.e] 29)
      have kB := KC.made 29 w3 #[.bool SRes.no.lo.neg, .slice A n c, .int .i64 SRes.no.lo.e, .bool SRes.no.hi.neg, .slice B m d, .int .i64 SRes.no.hi.e]
      have SM := Lib.hid (same_span DR.zero DR.zero A B none none n c m d 0 0 0 0 _ (Na.below b4) (Nb.below b4) (num_nil _) (num_nil _) (by decide) (by decide))
      have B4 := Lib.hid (below_step b3 b4)
      have hW4 := hW3.below b4
      obtain ⟨kw0, kw1⟩ := hW4.cell
      have k0 := kB.at_ 0 _ rfl
      have k1 := kB.at_ 1 _ rfl
      have k2 := kB.at_ 2 _ rfl
      have k3 := kB.at_ 3 _ rfl
      have k4 := kB.at_ 4 _ rfl
      have k5 := kB.at_ 5 _ rfl
      clear Na Nb hW3 o3 b3 b4 hG CN HB1 HB2 kB hW4
      go_wp2_with fail
      refine SM.out.mono ?_
      clear SM
      rintro e' w5 ⟨rfl, b5⟩
      have B5 := Lib.hid (below_step B4.out b5)
      clear b5 B4 k0 k1 k2 k3 k4 k5 kw0 kw1
      go_wp2_with fail
      go_ret
      exact ⟨rfl, B5.out⟩
    · have c1' : decide (600 < p) = false := decide_eq_false c1
      have HGB : goesBad p true = true := rfl
      clear c0 c1
      have CN : Hid (∀ w' g, Wk 34 w' g p true → Calls Tryz.prog 13 #[.pointer (some ⟨g, 0, none⟩)] w' (SPost 34 w' g p SRes.no)) := Lib.hid (fun w' g h => ln_no g p true w' HGB h)
      go_wp2_with fail
      refine (calc_any p true w1).mono ?_
      rintro e' w2 ⟨g, rfl, hG, hg, b2⟩
      have HB2 := Lib.hid (below_step HB1.out b2)
      have hg' : w.heap.size ≤ g := Nat.le_trans HB1.out.size hg
      clear hg b2
      go_wp2_with fail
      refine (CN.out _ _ hG).mono ?_
      rintro e' w3 ⟨A, n, c, B, m, d, rfl, Na, Nb, hW3, o3⟩
      have b3 := below_only HB2.out o3 hg'
      have b4 := alloc_bel w3 (.cells #[.bool SRes.no.lo.neg, .slice A n c, .int .i64 SRes.no.lo.e, .bool SRes.no.hi.neg, .slice B m d, .int .i64 SRes.no.hi.e] 29)
      have kB := KC.made 29 w3 #[.bool SRes.no.lo.neg, .slice A n c, .int .i64 SRes.no.lo.e, .bool SRes.no.hi.neg, .slice B m d, .int .i64 SRes.no.hi.e]
      have SM := Lib.hid (same_span DR.zero DR.zero A B none none n c m d 0 0 0 0 _ (Na.below b4) (Nb.below b4) (num_nil _) (num_nil _) (by decide) (by decide))
      have B4 := Lib.hid (below_step b3 b4)
      have hW4 := hW3.below b4
      obtain ⟨kw0, kw1⟩ := hW4.cell
      have k0 := kB.at_ 0 _ rfl
      have k1 := kB.at_ 1 _ rfl
      have k2 := kB.at_ 2 _ rfl
      have k3 := kB.at_ 3 _ rfl
      have k4 := kB.at_ 4 _ rfl
      have k5 := kB.at_ 5 _ rfl
      clear Na Nb hW3 o3 b3 b4 hG CN HB1 HB2 kB hW4
      go_wp2_with fail
      refine SM.out.mono ?_
      clear SM
      rintro e' w5 ⟨rfl, b5⟩
      have B5 := Lib.hid (below_step B4.out b5)
      clear b5 B4 k0 k1 k2 k3 k4 k5 kw0 kw1
      go_wp2_with fail
      go_ret
      exact ⟨rfl, B5.out⟩
  by_cases c3 : p < 16
  · have c3' : decide (p < 16) = true := decide_eq_true c3
    have c1' : decide (600 < p) = false := decide_eq_false (by omega)
    have HGB : goesBad p false = true := by unfold goesBad; rw [c3']; rfl
    clear c0 c3
    have CN : Hid (∀ w' g, Wk 34 w' g p false → Calls Tryz.prog 13 #[.pointer (some ⟨g, 0, none⟩)] w' (SPost 34 w' g p SRes.no)) := Lib.hid (fun w' g h => ln_no g p false w' HGB h)
    go_wp2_with fail
    refine (calc_any p false w1).mono ?_
    rintro e' w2 ⟨g, rfl, hG, hg, b2⟩
    have HB2 := Lib.hid (below_step HB1.out b2)
    have hg' : w.heap.size ≤ g := Nat.le_trans HB1.out.size hg
    clear hg b2
    go_wp2_with fail
    refine (CN.out _ _ hG).mono ?_
    rintro e' w3 ⟨A, n, c, B, m, d, rfl, Na, Nb, hW3, o3⟩
    have b3 := below_only HB2.out o3 hg'
    have b4 := alloc_bel w3 (.cells #[.bool SRes.no.lo.neg, .slice A n c, .int .i64 SRes.no.lo.e, .bool SRes.no.hi.neg, .slice B m d, .int .i64 SRes.no.hi.e] 29)
    have kB := KC.made 29 w3 #[.bool SRes.no.lo.neg, .slice A n c, .int .i64 SRes.no.lo.e, .bool SRes.no.hi.neg, .slice B m d, .int .i64 SRes.no.hi.e]
    have SM := Lib.hid (same_span DR.zero DR.zero A B none none n c m d 0 0 0 0 _ (Na.below b4) (Nb.below b4) (num_nil _) (num_nil _) (by decide) (by decide))
    have B4 := Lib.hid (below_step b3 b4)
    have hW4 := hW3.below b4
    obtain ⟨kw0, kw1⟩ := hW4.cell
    have k0 := kB.at_ 0 _ rfl
    have k1 := kB.at_ 1 _ rfl
    have k2 := kB.at_ 2 _ rfl
    have k3 := kB.at_ 3 _ rfl
    have k4 := kB.at_ 4 _ rfl
    have k5 := kB.at_ 5 _ rfl
    clear Na Nb hW3 o3 b3 b4 hG CN HB1 HB2 kB hW4
    go_wp2_with fail
    refine SM.out.mono ?_
    clear SM
    rintro e' w5 ⟨rfl, b5⟩
    have B5 := Lib.hid (below_step B4.out b5)
    clear b5 B4 k0 k1 k2 k3 k4 k5 kw0 kw1
    go_wp2_with fail
    go_ret
    exact ⟨rfl, B5.out⟩
  by_cases c4 : 7000 < p
  · have c4' : decide (7000 < p) = true := decide_eq_true c4
    have c3' : decide (p < 16) = false := decide_eq_false c3
    have c1' : decide (600 < p) = true := decide_eq_true (by omega)
    have c2' : decide (p ≤ 7000) = false := decide_eq_false (by omega)
    have HGB : goesBad p false = true := by unfold goesBad; rw [c4', Bool.or_true]
    clear c0 c3 c4
    have CN : Hid (∀ w' g, Wk 34 w' g p false → Calls Tryz.prog 13 #[.pointer (some ⟨g, 0, none⟩)] w' (SPost 34 w' g p SRes.no)) := Lib.hid (fun w' g h => ln_no g p false w' HGB h)
    go_wp2_with fail
    refine (calc_any p false w1).mono ?_
    rintro e' w2 ⟨g, rfl, hG, hg, b2⟩
    have HB2 := Lib.hid (below_step HB1.out b2)
    have hg' : w.heap.size ≤ g := Nat.le_trans HB1.out.size hg
    clear hg b2
    go_wp2_with fail
    refine (CN.out _ _ hG).mono ?_
    rintro e' w3 ⟨A, n, c, B, m, d, rfl, Na, Nb, hW3, o3⟩
    have b3 := below_only HB2.out o3 hg'
    have b4 := alloc_bel w3 (.cells #[.bool SRes.no.lo.neg, .slice A n c, .int .i64 SRes.no.lo.e, .bool SRes.no.hi.neg, .slice B m d, .int .i64 SRes.no.hi.e] 29)
    have kB := KC.made 29 w3 #[.bool SRes.no.lo.neg, .slice A n c, .int .i64 SRes.no.lo.e, .bool SRes.no.hi.neg, .slice B m d, .int .i64 SRes.no.hi.e]
    have SM := Lib.hid (same_span DR.zero DR.zero A B none none n c m d 0 0 0 0 _ (Na.below b4) (Nb.below b4) (num_nil _) (num_nil _) (by decide) (by decide))
    have B4 := Lib.hid (below_step b3 b4)
    have hW4 := hW3.below b4
    obtain ⟨kw0, kw1⟩ := hW4.cell
    have k0 := kB.at_ 0 _ rfl
    have k1 := kB.at_ 1 _ rfl
    have k2 := kB.at_ 2 _ rfl
    have k3 := kB.at_ 3 _ rfl
    have k4 := kB.at_ 4 _ rfl
    have k5 := kB.at_ 5 _ rfl
    clear Na Nb hW3 o3 b3 b4 hG CN HB1 HB2 kB hW4
    go_wp2_with fail
    refine SM.out.mono ?_
    clear SM
    rintro e' w5 ⟨rfl, b5⟩
    have B5 := Lib.hid (below_step B4.out b5)
    clear b5 B4 k0 k1 k2 k3 k4 k5 kw0 kw1
    go_wp2_with fail
    go_ret
    exact ⟨rfl, B5.out⟩
  have c1' : decide (600 < p) = false := decide_eq_false (by omega)
  have c3' : decide (p < 16) = false := decide_eq_false c3
  have c4' : decide (7000 < p) = false := decide_eq_false c4
  obtain ⟨P, rfl⟩ : ∃ P : Nat, p = (P : Int) := ⟨p.toNat, by omega⟩
  have hP1 : 16 ≤ P := by omega
  have hP2 : P ≤ 600 := by omega
  have XP := ln_at hP1 hP2
  unfold chkLn narR at XP
  simp only [Bool.and_eq_true, decide_eq_true_eq] at XP
  obtain ⟨⟨x1, x2⟩, ⟨x3, x4⟩, x5⟩ := XP
  have GP := hold_good x2
  obtain ⟨M0, M1, M2, l0, l1, l2, E⟩ := rln_en (p := (P : Int) + 100) (by omega) (by omega)
  obtain ⟨m1, m2⟩ := both_meet GP E lnQ_is.1 lnQ_is.2
  have gp := Lib.hid GP.bad
  have CP : Hid (∀ w' g, Wk 34 w' g (P : Int) false → Below w.heap.size w w' → Calls Tryz.prog 13 #[.pointer (some ⟨g, 0, none⟩)] w' (SPost 34 w' g (P : Int) (lnR P))) := Lib.hid (fun w' g k b => ln_any g P w' hP1 hP2 x1 k (HT.out.below b))
  have CR : Hid (∀ w' g, Wk 41 w' g ((P : Int) + 100) false → Below w.heap.size w w' → Calls Tryz.prog 14 #[.pointer (some ⟨g, 0, none⟩)] w' (SPost 41 w' g ((P : Int) + 100) (rlnR ((P : Int) + 100) false M0 M1 M2))) := Lib.hid (fun w' g k b => rln_any M0 M1 M2 g ((P : Int) + 100) false w' k (HT.out.below b) (by omega) (by omega) l0 l1 l2)
  have eb := Lib.hid E.bad
  generalize rlnR ((P : Int) + 100) false M0 M1 M2 = s at *
  generalize lnR P = r at *
  have MT : Hid (∀ w' A n c B m d A' n' c' B' m' d', Num w' (.slice A n c) r.lo.m → Num w' (.slice B m d) r.hi.m → Num w' (.slice A' n' c') s.lo.m → Num w' (.slice B' m' d') s.hi.m → Calls Tryz.prog 15 #[spv r.lo.neg A n c r.lo.e r.hi.neg B m d r.hi.e, spv s.lo.neg A' n' c' s.lo.e s.hi.neg B' m' d' s.hi.e] w' (TruePost w')) := Lib.hid (fun w' A n c B m d A' n' c' B' m' d' k1 k2 k3 k4 => meet_yes w' (DIn.of_num k1 GP.good.l2 GP.good.l1) (DIn.of_num k2 GP.good.h2 GP.good.h1) (DIn.of_num k3 E.l.pl E.l.ok) (DIn.of_num k4 E.h.pl E.h.ok) GP.good.l1 GP.good.h1 E.l.ok E.h.ok m1 m2)
  have NR : Hid (∀ w' A n c B m d, Num w' (.slice A n c) r.lo.m → Num w' (.slice B m d) r.hi.m → Below w.heap.size w w' → Calls Tryz.prog 21 #[spv r.lo.neg A n c r.lo.e r.hi.neg B m d r.hi.e, .int .i64 (4 - (P : Int))] w' (TruePost w')) := Lib.hid (fun w' A n c B m d k1 k2 b => narrow_yes (4 - (P : Int)) w' (DIn.of_num k1 GP.good.l2 GP.good.l1) (DIn.of_num k2 GP.good.h2 GP.good.h1) (HT.out.below b) GP.good.l1 GP.good.h1 x3 x4 x5 (by omega) (by omega))
  have CH : Hid (∀ w' g A n c B m d A' n' c' B' m' d', Wk 41 w' g ((P : Int) + 100) false → Below w.heap.size w w' → Num w' (.slice A n c) r.lo.m → Num w' (.slice B m d) r.hi.m → Num w' (.slice A' n' c') s.lo.m → Num w' (.slice B' m' d') s.hi.m → Calls Tryz.prog 11 #[spv r.lo.neg A n c r.lo.e r.hi.neg B m d r.hi.e, spv s.lo.neg A' n' c' s.lo.e s.hi.neg B' m' d' s.hi.e, .pointer (some ⟨g, 0, none⟩), .int .i64 (4 - (P : Int))] w' (TruePost w')) := Lib.hid (fun w' g A n c B m d A' n' c' B' m' d' hw b k1 k2 k3 k4 => holds_yes g ((P : Int) + 100) (4 - (P : Int)) w' hw (fun w2 b2 => MT.out w2 _ _ _ _ _ _ _ _ _ _ _ _ (k1.below b2) (k2.below b2) (k3.below b2) (k4.below b2)) (fun w2 b2 => NR.out w2 _ _ _ _ _ _ (k1.below b2) (k2.below b2) (below_step b b2)))
  have hw1 : IntKind.i64.wrap ((P : Int) + 100) = (P : Int) + 100 := wrap_id (by omega) (by omega)
  have hw2 : IntKind.i64.wrap (4 - (P : Int)) = 4 - (P : Int) := wrap_id (by omega) (by omega)
  clear c0 c3 c4 hP1 hP2 x1 x2 x3 x4 x5 GP l0 l1 l2 E m1 m2 MT NR HT
  go_wp2_with fail
  refine (calc_any (P : Int) false w1).mono ?_
  rintro e' w2 ⟨g, rfl, hG, hg, b2⟩
  have HB2 := Lib.hid (below_step HB1.out b2)
  have hg' : w.heap.size ≤ g := Nat.le_trans HB1.out.size hg
  clear hg b2
  go_wp2_with fail
  refine (CP.out _ _ hG HB2.out).mono ?_
  rintro e' w3 ⟨A, n, c, B, m, d, rfl, Na, Nb, hW3, o3⟩
  rw [gp.out] at hW3
  have b3 := below_only HB2.out o3 hg'
  have b4 := alloc_bel w3 (.cells #[.bool r.lo.neg, .slice A n c, .int .i64 r.lo.e, .bool r.hi.neg, .slice B m d, .int .i64 r.hi.e] 29)
  have kB := KC.made 29 w3 #[.bool r.lo.neg, .slice A n c, .int .i64 r.lo.e, .bool r.hi.neg, .slice B m d, .int .i64 r.hi.e]
  have Na4 := Na.below b4
  have Nb4 := Nb.below b4
  have hW4 := hW3.below b4
  have HB4 := Lib.hid (below_step b3 b4)
  have hgb : g < w3.heap.size := hW3.2
  clear Na Nb hW3 o3 b3 b4 hG CP HB1 HB2 gp
  go_wp2_with fail
  refine (begin_any ((P : Int) + 100) _).mono ?_
  generalize hb0 : w3.heap.size = b0 at *
  generalize w3.alloc (.cells #[.bool r.lo.neg, .slice A n c, .int .i64 r.lo.e, .bool r.hi.neg, .slice B m d, .int .i64 r.hi.e] 29) = w4 at *
  clear hb0
  rintro e' w5 ⟨k, rfl, hK, hk, b5⟩
  have hgk : g ≠ k := by have := hW4.2; omega
  have hbk : b0 ≠ k := by have := kB.2; omega
  have hwk : w.heap.size ≤ k := Nat.le_trans HB4.out.size hk
  have S := ((((St.start hK).blk (T' := 34) (hW4.below b5) hgk).blk (T' := 29) (kB.adv b5) hbk).num (Nb4.below b5)).num (Na4.below b5)
  have HB5 := Lib.hid (below_step HB4.out b5)
  clear HB4 b5 hW4 kB Na4 Nb4 hK hk
  have HC : Hid (∀ b' w' ns, St 41 w5 k ((P : Int) + 100) b' w' [(29, b0, #[.bool r.lo.neg, .slice A n c, .int .i64 r.lo.e, .bool r.hi.neg, .slice B m d, .int .i64 r.hi.e]), (34, g, #[.int .i64 (P : Int), .bool false])] ns → w'.cell? ⟨g, 1, none⟩ = some (.bool false) ∧ w'.cell? ⟨b0, 0, none⟩ = some (.bool r.lo.neg) ∧ w'.cell? ⟨b0, 1, none⟩ = some (.slice A n c) ∧ w'.cell? ⟨b0, 2, none⟩ = some (.int .i64 r.lo.e) ∧ w'.cell? ⟨b0, 3, none⟩ = some (.bool r.hi.neg) ∧ w'.cell? ⟨b0, 4, none⟩ = some (.slice B m d) ∧ w'.cell? ⟨b0, 5, none⟩ = some (.int .i64 r.hi.e)) := Lib.hid (fun b' w' ns h => ⟨h.ks.2.1.1.at_ 1 _ rfl, h.ks.1.1.at_ 0 _ rfl, h.ks.1.1.at_ 1 _ rfl, h.ks.1.1.at_ 2 _ rfl, h.ks.1.1.at_ 3 _ rfl, h.ks.1.1.at_ 4 _ rfl, h.ks.1.1.at_ 5 _ rfl⟩)
  have WB : Hid (∀ b' w' ks ns, St 41 w5 k ((P : Int) + 100) b' w' ks ns → Below w.heap.size w w') := Lib.hid (fun b' w' ks ns h => below_only HB5.out h.O hwk)
  clear hgk hbk hgb hg' HB5
  go_upto_region 10 with fail
  try simp only [List.append_eq, List.cons_append, List.nil_append]
  have VD := S.drew
  clear S
  have XS := HC.out _ _ _ VD
  have BD := WB.out _ _ _ _ VD
  go_region_held3 (fun w' => w'.cell? ⟨g, 1, none⟩ = some (.bool false) ∧ w'.cell? ⟨b0, 0, none⟩ = some (.bool r.lo.neg) ∧ w'.cell? ⟨b0, 1, none⟩ = some (.slice A n c) ∧ w'.cell? ⟨b0, 2, none⟩ = some (.int .i64 r.lo.e) ∧ w'.cell? ⟨b0, 3, none⟩ = some (.bool r.hi.neg) ∧ w'.cell? ⟨b0, 4, none⟩ = some (.slice B m d) ∧ w'.cell? ⟨b0, 5, none⟩ = some (.int .i64 r.hi.e))
    (first | with_reducible exact HC.out _ _ _ V6 | with_reducible exact HC.out _ _ _ V5 | with_reducible exact XS)
    (first
      | (go_at_call 14; refine (CR.out w5.drew _ VD.W BD).mono ?_; rintro e' v5 ⟨A5, n5, c5, B5, m5, d5, rfl, N1, N2, W5, o5⟩; have V5 := ((VD.only o5 W5).num N2).num N1; rw [eb.out] at V5; have B5 := WB.out _ _ _ _ V5; have r1 := V5.ns.1; have r2 := V5.ns.2.1; have r3 := V5.ns.2.2.1; have r4 := V5.ns.2.2.2.1)
      | (go_at_call 11; refine (CH.out v5 _ _ _ _ _ _ _ _ _ _ _ _ _ V5.W B5 r3 r4 r1 r2).mono ?_; rintro e' v6 ⟨rfl, b6⟩; have V6 := V5.below b6))
  go_wp2_with fail
  go_ret
  exact ⟨rfl, WB.out _ _ _ _ V6⟩
end Go.Proofs.YtodjldhppbbhdaaGreatDoor
