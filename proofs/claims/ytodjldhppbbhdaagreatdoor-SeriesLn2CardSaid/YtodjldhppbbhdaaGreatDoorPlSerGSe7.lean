/-
  volvellelaw04: calc, awake.
-/
import Derived.RegionTactic
import Derived.ChangeAlike
import Derived.KernelRfl
import Derived.Test.YtodjldhppbbhdaaGreatDoorPlSerGDy11
import Derived.Test.YtodjldhppbbhdaaGreatDoorPlSerGSp3
import Derived.Test.YtodjldhppbbhdaaGreatDoorPlSerGSp7
import Derived.Test.YtodjldhppbbhdaaGreatDoorPlSerGSp5
import Derived.Test.YtodjldhppbbhdaaGreatDoorPlSerGSe6
namespace Go.Proofs.YtodjldhppbbhdaaGreatDoor
open Go.RowKit

/-- A new calc. -/
def CalcP (w : World) (p : Int) (bad : Bool) (e : Ending) (w' : World) : Prop := ∃ g, e = .returned (.pointer (some ⟨g, 0, none⟩)) ∧ Wk 34 w' g p bad ∧ w.heap.size ≤ g ∧ Below w.heap.size w w'
theorem calc_any (p : Int) (bad : Bool) (w : World) : Calls Tryz.prog 7 #[.int .i64 p, .bool bad] w (CalcP w p bad) := by
  have hW : Wk 34 (w.alloc (.cells #[.int .i64 p, .bool bad] 34)) w.heap.size p bad := KC.made 34 w #[.int .i64 p, .bool bad]
  have b := alloc_bel w (.cells #[.int .i64 p, .bool bad] 34)
  go_enter Tryz.func7, Tryz.ntmps7
  go_wp2_with fail
  go_ret
  exact ⟨_, rfl, hW, Nat.le_refl _, b⟩
set_option maxRecDepth 8000 in
set_option maxHeartbeats 4000000 in
theorem awake4 (w : World) (hT : Tab w) : Calls Tryz.prog 6 #[] w (TruePost w) := by
  have HP := pi_at (p := 16) (by omega) (by omega)
  have HA := aw_all
  obtain ⟨s, hs⟩ : ∃ s, s = piR 16 := ⟨_, rfl⟩
  obtain ⟨r3, hr3⟩ : ∃ r, r = numS 16 false 3 := ⟨_, rfl⟩
  obtain ⟨r4, hr4⟩ : ∃ r, r = subS 16 false s.lo s.hi r3.lo r3.hi := ⟨_, rfl⟩
  unfold chkPi at HP
  unfold chkAw awT at HA
  rw [← hs] at HP HA
  rw [← hr3] at HA
  rw [← hr4] at HA
  simp only [Bool.and_eq_true, decide_eq_true_eq, Bool.not_eq_true'] at HP HA
  obtain ⟨⟨HP1, HP2⟩, HP3⟩ := HP
  obtain ⟨⟨⟨HA1, HA2⟩, HA3⟩, HA4⟩ := HA
  have GS := hold_good HP2
  have G3 : SGood r3 := by rw [hr3]; exact sgood_num (by omega) (by omega)
  have G4 : SGood r4 := by rw [hr4]; exact sgood_sub
  unfold narR at HP3
  simp only [Bool.and_eq_true, decide_eq_true_eq] at HP3
  obtain ⟨⟨HR1, HR2⟩, HR3⟩ := HP3
  have CPI : Hid (∀ (w' : World) (g : Nat), Wk 34 w' g 16 false → Tab w' → Calls Tryz.prog 8 #[.pointer (some ⟨g, 0, none⟩)] w' (SPost 34 w' g 16 s)) := Lib.hid (fun w' g k t => by rw [hs]; exact pi_any g 16 w' (by omega) (by omega) HP1 k t)
  have C3 : Hid (∀ w' g, Wk 34 w' g 16 false → Tab w' → Calls Tryz.prog 17 #[.pointer (some ⟨g, 0, none⟩), .int .i64 3] w' (SPost 34 w' g 16 r3)) := Lib.hid (fun w' g k t => by rw [hr3]; exact num_any 3 g 16 false w' k t (by omega) (by omega))
  have C4 : Hid (∀ w' g A n c B m d A' n' c' B' m' d', Wk 34 w' g 16 false → Tab w' → Num w' (.slice A n c) s.lo.m → Num w' (.slice B m d) s.hi.m → Num w' (.slice A' n' c') r3.lo.m → Num w' (.slice B' m' d') r3.hi.m → Calls Tryz.prog 20 #[.pointer (some ⟨g, 0, none⟩), spv s.lo.neg A n c s.lo.e s.hi.neg B m d s.hi.e, spv r3.lo.neg A' n' c' r3.lo.e r3.hi.neg B' m' d' r3.hi.e] w' (SPost 34 w' g 16 r4)) := Lib.hid (fun w' g A n c B m d A' n' c' B' m' d' k t h1 h2 h3 h4 => by
    rw [hr4]
    exact ssub_any g 16 false w' k (DIn.of_num h1 GS.good.l2 GS.good.l1) (DIn.of_num h2 GS.good.h2 GS.good.h1) (DIn.of_num h3 G3.l2 G3.l1) (DIn.of_num h4 G3.h2 G3.h1) t)
  have CN : Hid (∀ w' A n c B m d, Tab w' → Num w' (.slice A n c) s.lo.m → Num w' (.slice B m d) s.hi.m → Calls Tryz.prog 21 #[spv s.lo.neg A n c s.lo.e s.hi.neg B m d s.hi.e, .int .i64 (-12)] w' (TruePost w')) := Lib.hid (fun w' A n c B m d t h1 h2 => narrow_yes (-12) w' (DIn.of_num h1 GS.good.l2 GS.good.l1) (DIn.of_num h2 GS.good.h2 GS.good.h1) t GS.good.l1 GS.good.h1 HR1 HR2 HR3 (by omega) (by omega))
  have HSB := GS.bad
  have HA1H := Lib.hid HA1
  have HA2H := Lib.hid HA2
  have HA3H := Lib.hid HA3
  have HA4H := Lib.hid HA4
  have HT := Lib.hid hT
  clear HA1 HA2 HA3 HA4 hT HR1 HR2 HR3 HP1 HP2 hs hr3 hr4 GS G3 G4
  go_enter Tryz.func6, Tryz.ntmps6
  go_wp2_with fail
  refine (calc_any 16 false w).mono ?_
  rintro e' w1 ⟨g, rfl, hW, hg, b1⟩
  have HT1 := Lib.hid (HT.out.below b1)
  have CP1 := Lib.hid (CPI.out w1 g hW HT1.out)
  have HB1 := Lib.hid b1
  clear CPI b1
  have S := St.start hW
  have HWW := Lib.hid hW
  clear hW
  go_wp2_with fail
  refine CP1.out.mono ?_
  clear CP1
  rintro e' w2 ⟨A2, n2, c2, B2, m2, d2, rfl, N1, N2, W2, o2⟩
  have S2 := ((S.only o2 W2).num N2).num N1
  clear S N1 N2 W2 o2
  have S3 := S2.alloc 29 #[.bool s.lo.neg, .slice A2 n2 c2, .int .i64 s.lo.e, .bool s.hi.neg, .slice B2 m2 d2, .int .i64 s.hi.e]
  have hwl := S2.lt
  have hg2 : w1.heap.size ≤ w2.heap.size := S2.size
  clear S2
  go_upto_region 3 with fail
  generalize w2.alloc (.cells #[.bool s.lo.neg, .slice A2 n2 c2, .int .i64 s.lo.e, .bool s.hi.neg, .slice B2 m2 d2, .int .i64 s.hi.e] 29) = w3 at *
  rw [HSB] at S3
  have TB : Hid (∀ b w' ks ns, St 34 w1 g 16 b w' ks ns → Tab w') := Lib.hid (fun b w' ks ns h => HT1.out.wk HWW.out h.O)
  have D3 : Hid (∀ w' ks ns, St 34 w1 g 16 false w' ks ns → Calls Tryz.prog 17 #[.pointer (some ⟨g, 0, none⟩), .int .i64 3] w' (SPost 34 w' g 16 r3)) := Lib.hid (fun w' ks ns h => C3.out w' g h.W (TB.out _ _ _ _ h))
  have D4 : Hid (∀ w' ks ns A n c B m d A' n' c' B' m' d', St 34 w1 g 16 r3.bad w' ks ns → Num w' (.slice A n c) s.lo.m → Num w' (.slice B m d) s.hi.m → Num w' (.slice A' n' c') r3.lo.m → Num w' (.slice B' m' d') r3.hi.m → Calls Tryz.prog 20 #[.pointer (some ⟨g, 0, none⟩), spv s.lo.neg A n c s.lo.e s.hi.neg B m d s.hi.e, spv r3.lo.neg A' n' c' r3.lo.e r3.hi.neg B' m' d' r3.hi.e] w' (SPost 34 w' g 16 r4)) := Lib.hid (fun w' ks ns A n c B m d A' n' c' B' m' d' h h1 h2 h3 h4 => by
    have k := h.W
    rw [HA1H.out] at k
    exact C4.out w' g A n c B m d A' n' c' B' m' d' k (TB.out _ _ _ _ h) h1 h2 h3 h4)
  have DN : Hid (∀ b w' ks ns A n c B m d, St 34 w1 g 16 b w' ks ns → Num w' (.slice A n c) s.lo.m → Num w' (.slice B m d) s.hi.m → Calls Tryz.prog 21 #[spv s.lo.neg A n c s.lo.e s.hi.neg B m d s.hi.e, .int .i64 (-12)] w' (TruePost w')) := Lib.hid (fun b w' ks ns A n c B m d h h1 h2 => CN.out w' A n c B m d (TB.out _ _ _ _ h) h1 h2)
  clear C3 C4 CN TB HT HT1 HWW
  have HC : Hid (∀ b w' ns, St 34 w1 g 16 b w' [(29, w2.heap.size, #[.bool s.lo.neg, .slice A2 n2 c2, .int .i64 s.lo.e, .bool s.hi.neg, .slice B2 m2 d2, .int .i64 s.hi.e])] ns → w'.cell? ⟨w2.heap.size, 0, none⟩ = some (.bool s.lo.neg) ∧ w'.cell? ⟨w2.heap.size, 1, none⟩ = some (.slice A2 n2 c2) ∧ w'.cell? ⟨w2.heap.size, 2, none⟩ = some (.int .i64 s.lo.e) ∧ w'.cell? ⟨w2.heap.size, 3, none⟩ = some (.bool s.hi.neg) ∧ w'.cell? ⟨w2.heap.size, 4, none⟩ = some (.slice B2 m2 d2) ∧ w'.cell? ⟨w2.heap.size, 5, none⟩ = some (.int .i64 s.hi.e)) := Lib.hid (fun b w' ns h => ⟨h.ks.1.1.at_ 0 _ rfl, h.ks.1.1.at_ 1 _ rfl, h.ks.1.1.at_ 2 _ rfl, h.ks.1.1.at_ 3 _ rfl, h.ks.1.1.at_ 4 _ rfl, h.ks.1.1.at_ 5 _ rfl⟩)
  have HPT : Hid (∀ b w' ns, St 34 w1 g 16 b w' [(29, w2.heap.size, #[.bool s.lo.neg, .slice A2 n2 c2, .int .i64 s.lo.e, .bool s.hi.neg, .slice B2 m2 d2, .int .i64 s.hi.e])] ns → ∀ a, a ≠ w2.heap.size → ∀ x y z x' y' z', (put6 w' a x y z x' y' z').cell? ⟨w2.heap.size, 0, none⟩ = some (.bool s.lo.neg) ∧ (put6 w' a x y z x' y' z').cell? ⟨w2.heap.size, 1, none⟩ = some (.slice A2 n2 c2) ∧ (put6 w' a x y z x' y' z').cell? ⟨w2.heap.size, 2, none⟩ = some (.int .i64 s.lo.e) ∧ (put6 w' a x y z x' y' z').cell? ⟨w2.heap.size, 3, none⟩ = some (.bool s.hi.neg) ∧ (put6 w' a x y z x' y' z').cell? ⟨w2.heap.size, 4, none⟩ = some (.slice B2 m2 d2) ∧ (put6 w' a x y z x' y' z').cell? ⟨w2.heap.size, 5, none⟩ = some (.int .i64 s.hi.e)) := Lib.hid (fun b w' ns h a hne x y z x' y' z' => ⟨(h.ks.1.1.only (only_put6 w' a x y z x' y' z') (Ne.symm hne)).at_ 0 _ rfl, (h.ks.1.1.only (only_put6 w' a x y z x' y' z') (Ne.symm hne)).at_ 1 _ rfl, (h.ks.1.1.only (only_put6 w' a x y z x' y' z') (Ne.symm hne)).at_ 2 _ rfl, (h.ks.1.1.only (only_put6 w' a x y z x' y' z') (Ne.symm hne)).at_ 3 _ rfl, (h.ks.1.1.only (only_put6 w' a x y z x' y' z') (Ne.symm hne)).at_ 4 _ rfl, (h.ks.1.1.only (only_put6 w' a x y z x' y' z') (Ne.symm hne)).at_ 5 _ rfl⟩)
  have HAL : Hid (∀ b w' ns, St 34 w1 g 16 b w' [(29, w2.heap.size, #[.bool s.lo.neg, .slice A2 n2 c2, .int .i64 s.lo.e, .bool s.hi.neg, .slice B2 m2 d2, .int .i64 s.hi.e])] ns → ∀ o, (w'.alloc o).cell? ⟨w2.heap.size, 0, none⟩ = some (.bool s.lo.neg) ∧ (w'.alloc o).cell? ⟨w2.heap.size, 1, none⟩ = some (.slice A2 n2 c2) ∧ (w'.alloc o).cell? ⟨w2.heap.size, 2, none⟩ = some (.int .i64 s.lo.e) ∧ (w'.alloc o).cell? ⟨w2.heap.size, 3, none⟩ = some (.bool s.hi.neg) ∧ (w'.alloc o).cell? ⟨w2.heap.size, 4, none⟩ = some (.slice B2 m2 d2) ∧ (w'.alloc o).cell? ⟨w2.heap.size, 5, none⟩ = some (.int .i64 s.hi.e)) := Lib.hid (fun b w' ns h o => HC.out _ _ _ (h.below (alloc_bel w' o)))
  go_cut [3] (fun s3 wx => EP 34 w1 g 16 [(29, w2.heap.size, #[.bool s.lo.neg, .slice A2 n2 c2, .int .i64 s.lo.e, .bool s.hi.neg, .slice B2 m2 d2, .int .i64 s.hi.e])] ((.slice A2 n2 c2, s.lo.m) :: (.slice B2 m2 d2, s.hi.m) :: []) r4 s3 wx)
  case first =>
    have SD := S3.drew
    have SA := (S3.below (alloc_bel w3 (.cells zs 29))).drew
    have YA := (KC.made 29 w3 zs).drew
    have hz3 : w1.heap.size ≤ w3.heap.size := S3.size
    have hz3' : w2.heap.size < w3.heap.size := S3.ks.1.1.2
    have hgw : g < w1.heap.size := S3.hg
    have XS := HC.out _ _ _ SD
    have XA := HC.out _ _ _ SA
    go_region_held3 (fun w' => w'.cell? ⟨w2.heap.size, 0, none⟩ = some (.bool s.lo.neg) ∧ w'.cell? ⟨w2.heap.size, 1, none⟩ = some (.slice A2 n2 c2) ∧ w'.cell? ⟨w2.heap.size, 2, none⟩ = some (.int .i64 s.lo.e) ∧ w'.cell? ⟨w2.heap.size, 3, none⟩ = some (.bool s.hi.neg) ∧ w'.cell? ⟨w2.heap.size, 4, none⟩ = some (.slice B2 m2 d2) ∧ w'.cell? ⟨w2.heap.size, 5, none⟩ = some (.int .i64 s.hi.e))
      (first | with_reducible exact HPT.out _ _ _ V4 _ (by omega) _ _ _ _ _ _ | with_reducible exact HC.out _ _ _ V4 | with_reducible exact HC.out _ _ _ V3 | with_reducible exact XS | with_reducible exact XA | with_reducible exact HAL.out _ _ _ V4 _ | with_reducible exact HAL.out _ _ _ V3 _)
      (first
        | (go_at_call 17; refine (D3.out _ _ _ (by first | with_reducible exact SD | with_reducible exact SA)).mono ?_; rintro e' v3 ⟨A3, n3, c3, B3, m3, d3, rfl, N1, N2, W3, o3⟩; have V3 : St 34 w1 g 16 r3.bad v3 [(29, w2.heap.size, #[.bool s.lo.neg, .slice A2 n2 c2, .int .i64 s.lo.e, .bool s.hi.neg, .slice B2 m2 d2, .int .i64 s.hi.e])] ((.slice A3 n3 c3, r3.lo.m) :: (.slice B3 m3 d3, r3.hi.m) :: (.slice A2 n2 c2, s.lo.m) :: (.slice B2 m2 d2, s.hi.m) :: []) := (by first | with_reducible exact ((SD.only o3 W3).num N2).num N1 | with_reducible exact ((SA.only o3 W3).num N2).num N1); have hv3 : w2.heap.size < v3.heap.size := V3.ks.1.1.2; have hv3g : g < v3.heap.size := V3.lt; have u1 := V3.ns.2.2.1; have u2 := V3.ns.2.2.2.1; have u3 := V3.ns.1; have u4 := V3.ns.2.1; first | (have ox : Only (w3.alloc (.cells zs 29)).drew v3 g := (by with_reducible exact o3); have ya := YA.only ox (by omega)) | skip)
        | (go_at_call 20; refine (D4.out _ _ _ _ _ _ _ _ _ _ _ _ _ _ _ (by first | with_reducible exact V3 | with_reducible exact V3.below (alloc_bel _ _)) (by first | with_reducible exact u1 | with_reducible exact num_al u1 _) (by first | with_reducible exact u2 | with_reducible exact num_al u2 _) (by first | with_reducible exact u3 | with_reducible exact num_al u3 _) (by first | with_reducible exact u4 | with_reducible exact num_al u4 _)).mono ?_; rintro e' v4 ⟨A4, n4, c4, B4, m4, d4, rfl, N1, N2, W4, o4⟩; have V4 : St 34 w1 g 16 r4.bad v4 [(29, w2.heap.size, #[.bool s.lo.neg, .slice A2 n2 c2, .int .i64 s.lo.e, .bool s.hi.neg, .slice B2 m2 d2, .int .i64 s.hi.e])] ((.slice A4 n4 c4, r4.lo.m) :: (.slice B4 m4 d4, r4.hi.m) :: (.slice A3 n3 c3, r3.lo.m) :: (.slice B3 m3 d3, r3.hi.m) :: (.slice A2 n2 c2, s.lo.m) :: (.slice B2 m2 d2, s.hi.m) :: []) := (by first | with_reducible exact ((V3.only o4 W4).num N2).num N1 | with_reducible exact (((V3.below (alloc_bel _ _)).only o4 W4).num N2).num N1); first | (have ox : Only v3 v4 g := (by with_reducible exact o4); have z1 := ya.only ox (by omega); have z1c0 := z1.at_ 0 _ rfl; have z1c1 := z1.at_ 1 _ rfl; have z1c2 := z1.at_ 2 _ rfl; have z1c3 := z1.at_ 3 _ rfl; have z1c4 := z1.at_ 4 _ rfl; have z1c5 := z1.at_ 5 _ rfl; have z1f0 := z1.fr 0; have z1f1 := z1.fr 1; have z1f2 := z1.fr 2; have z1f3 := z1.fr 3; have z1f4 := z1.fr 4; have z1f5 := z1.fr 5; have z1l := z1.2; have z1n := Nat.ne_of_lt z1.2; have z1n2 := Nat.ne_of_gt z1.2) | (have ox : Only (v3.alloc (.cells zs 29)) v4 g := (by with_reducible exact o4); have z1 := (KC.made 29 v3 zs).only ox (by omega); have z1c0 := z1.at_ 0 _ rfl; have z1c1 := z1.at_ 1 _ rfl; have z1c2 := z1.at_ 2 _ rfl; have z1c3 := z1.at_ 3 _ rfl; have z1c4 := z1.at_ 4 _ rfl; have z1c5 := z1.at_ 5 _ rfl; have z1f0 := z1.fr 0; have z1f1 := z1.fr 1; have z1f2 := z1.fr 2; have z1f3 := z1.fr 3; have z1f4 := z1.fr 4; have z1f5 := z1.fr 5; have z1l := z1.2; have z1n := Nat.ne_of_lt z1.2; have z1n2 := Nat.ne_of_gt z1.2) | skip))
    all_goals (
      go_wp2_with fail
      go_meet
      have f1 := V4.ns.1
      have f2 := V4.ns.2.1
      have f3 : NS v4 ((.slice A2 n2 c2, s.lo.m) :: (.slice B2 m2 d2, s.hi.m) :: []) := V4.ns.2.2.2.2
      first
        | ((with_reducible refine end_ep V4 f1 f2 f3 z1 ?_ ?_) <;> first | omega | exact ⟨by omega, trivial⟩)
        | with_reducible exact end_ea V4 f1 f2 f3)
  case rest =>
    obtain ⟨g3, A4, n4, c4, B4, m4, d4, rfl, hg3, hne3, V4⟩ := hcut
    rw [HA2H.out] at V4
    have k0 := V4.ks.2.1.1.at_ 0 _ rfl
    have k1 := V4.ks.2.1.1.at_ 1 _ rfl
    have k2 := V4.ks.2.1.1.at_ 2 _ rfl
    have k3 := V4.ks.2.1.1.at_ 3 _ rfl
    have k4 := V4.ks.2.1.1.at_ 4 _ rfl
    have k5 := V4.ks.2.1.1.at_ 5 _ rfl
    obtain ⟨kw0, kw1⟩ := V4.wc
    have u1 := V4.ns.2.2.1
    have u2 := V4.ns.2.2.2.1
    have DNx := Lib.hid (DN.out _ _ _ _ _ _ _ _ _ _ V4 u1 u2)
    have HV4 := Lib.hid V4
    have hn4 : (0 : Int) < (n4 : Int) := by
      have h1 : n4 = 0 ↔ r4.lo.m = 0 := V4.ns.1.empty
      have h2 := HA4H.out
      omega
    clear V4 u1 u2 DN D3 D4 HC HPT HAL S3
    go_wp2_with fail
    refine DNx.out.mono ?_
    clear DNx k0 k1 k2 k3 k4 k5 kw0 kw1
    rintro e' w5 ⟨rfl, b5⟩
    have V5 := HV4.out.below b5
    have j0 := V5.ks.1.1.at_ 0 _ rfl
    have j1 := V5.ks.1.1.at_ 1 _ rfl
    have HB5 := Lib.hid (below_only HB1.out V5.O hg)
    rw [HA3H.out] at j0
    clear V5 HV4 b5
    go_wp2_with fail
    go_ret
    exact ⟨by simp; omega, HB5.out⟩
end Go.Proofs.YtodjldhppbbhdaaGreatDoor
