/-
  volvelleref04: Begin, Top, Size.
  volvelleref04: Around.
  Spans in blocks of a call's own, told by numbers alone; the state of volvelleref04.Inverse.
  volvelleref04.Inverse.
  volvelleref04: Pi, Ln2.
-/
import Derived.Test.YtodjldhppbbhdaaGreatDoorPlSerGSp9
import Derived.Test.YtodjldhppbbhdaaGreatDoorPlSerGSp6
import Derived.Test.YtodjldhppbbhdaaGreatDoorPlSerGSp11
import Derived.Test.YtodjldhppbbhdaaGreatDoorPlSerGSp5
import Derived.Test.YtodjldhppbbhdaaGreatDoorPlSerGSRDiv
import Derived.Test.YtodjldhppbbhdaaGreatDoorPlSerGSRMul
import Derived.Test.YtodjldhppbbhdaaGreatDoorPlSerGSe1
import Derived.Test.YtodjldhppbbhdaaGreatDoorPlSerGSe4
namespace Go.Proofs.YtodjldhppbbhdaaGreatDoor
open Go.RowKit

def BeginP (w : World) (p : Int) (e : Ending) (w' : World) : Prop := ∃ g, e = .returned (.pointer (some ⟨g, 0, none⟩)) ∧ Wk 41 w' g p false ∧ w.heap.size ≤ g ∧ Below w.heap.size w w'
theorem begin_any (p : Int) (w : World) : Calls Tryz.prog 10 #[.int .i64 p] w (BeginP w p) := by
  have hW : Wk 41 (w.alloc (.cells #[.int .i64 p, .bool false] 41)) w.heap.size p false := KC.made 41 w #[.int .i64 p, .bool false]
  have b := alloc_bel w (.cells #[.int .i64 p, .bool false] 41)
  go_enter Tryz.func10, Tryz.ntmps10
  go_wp2_with fail
  go_ret
  exact ⟨_, rfl, hW, Nat.le_refl _, b⟩
/-- The place of a number's highest bit. -/
def topI (r : DR) : Int := (nb r.m : Int) + r.e
set_option maxHeartbeats 2000000 in
theorem rtop_any {r : DR} {A : Option Addr} {n c : Nat} (w : World) (ha : DIn w A n c r) (h1 : r.ok = true) : Calls Tryz.prog 96 #[dyv r.neg A n c r.e] w (IP w (topI r)) := by
  have pl := ha.plain h1
  have p1 := pl.bits
  have p2 := pl.e1
  have p3 := pl.e2
  have P : Pu w (w.alloc (.cells #[.bool r.neg, .slice A n c, .int .i64 r.e] 27)) [(27, w.heap.size, #[.bool r.neg, .slice A n c, .int .i64 r.e])] [] := Pu.alloc (⟨Below.refl _ w, trivial, trivial⟩ : Pu w w [] []) 27 #[.bool r.neg, .slice A n c, .int .i64 r.e]
  have BT : Hid (∀ w', Below w.heap.size w w' → Calls Tryz.prog 78 #[.slice A n c] w' (IP w' (nb r.m : Int))) := Lib.hid (fun w' b => rbitsN w' ((ha.num h1).below b) (by omega))
  have HC : Hid (∀ w' ns, Pu w w' [(27, w.heap.size, #[.bool r.neg, .slice A n c, .int .i64 r.e])] ns → w'.cell? ⟨w.heap.size, 1, none⟩ = some (.slice A n c) ∧ w'.cell? ⟨w.heap.size, 2, none⟩ = some (.int .i64 r.e)) := Lib.hid (fun w' ns h => ⟨h.ks.1.at_ 1 _ rfl, h.ks.1.at_ 2 _ rfl⟩)
  have hwr : IntKind.i64.wrap ((nb r.m : Int) + r.e) = topI r := wrap_id (by omega) (by omega)
  have HWR := Lib.hid hwr
  clear pl ha h1
  go_enter Tryz.func96, Tryz.ntmps96
  go_upto_region 1 with fail
  generalize w.alloc (.cells #[.bool r.neg, .slice A n c, .int .i64 r.e] 27) = w1 at *
  have PD := P.drew
  clear P
  have XS := HC.out _ _ PD
  go_region_held3 (fun w' => w'.cell? ⟨w.heap.size, 1, none⟩ = some (.slice A n c) ∧ w'.cell? ⟨w.heap.size, 2, none⟩ = some (.int .i64 r.e))
    (first | with_reducible exact HC.out _ _ P2 | with_reducible exact XS)
    (first | (go_at_call 78; refine (BT.out _ PD.bel).mono ?_; rintro e' v1 ⟨rfl, b1⟩; have P2 := PD.below b1) | fail)
  go_wp2_with fail
  go_ret
  exact ⟨rfl, P2.bel⟩
/-- The place of the highest bit of a span's ends. -/
def sizeI (lo hi : DR) : Int := if hi.m = 0 then (if lo.m = 0 then -1000000 else max (-1000000) (topI lo)) else max (if lo.m = 0 then -1000000 else max (-1000000) (topI lo)) (topI hi)
theorem topI_b {r : DR} (h : PlainR r) : -262144 ≤ topI r ∧ topI r ≤ 278528 := by
  have := h.bits
  have := h.e1
  have := h.e2
  unfold topI
  omega
set_option maxHeartbeats 2000000 in
theorem size_any {lo hi : DR} {A B : Option Addr} {n c m d : Nat} (w : World) (ha : DIn w A n c lo) (hb : DIn w B m d hi) (h1 : lo.ok = true) (h2 : hi.ok = true) : Calls Tryz.prog 56 #[spv lo.neg A n c lo.e hi.neg B m d hi.e] w (IP w (sizeI lo hi)) := by
  have t1 := topI_b (ha.plain h1)
  have t2 := topI_b (hb.plain h2)
  have z1 := ha.len0 h1
  have z2 := hb.len0 h2
  have P : Pu w (w.alloc (.cells #[.bool lo.neg, .slice A n c, .int .i64 lo.e, .bool hi.neg, .slice B m d, .int .i64 hi.e] 29)) [(29, w.heap.size, #[.bool lo.neg, .slice A n c, .int .i64 lo.e, .bool hi.neg, .slice B m d, .int .i64 hi.e])] [] := Pu.alloc (⟨Below.refl _ w, trivial, trivial⟩ : Pu w w [] []) 29 #[.bool lo.neg, .slice A n c, .int .i64 lo.e, .bool hi.neg, .slice B m d, .int .i64 hi.e]
  have T1 : Hid (∀ w', Below w.heap.size w w' → Calls Tryz.prog 96 #[dyv lo.neg A n c lo.e] w' (IP w' (topI lo))) := Lib.hid (fun w' b => rtop_any w' (ha.below b) h1)
  have T2 : Hid (∀ w', Below w.heap.size w w' → Calls Tryz.prog 96 #[dyv hi.neg B m d hi.e] w' (IP w' (topI hi))) := Lib.hid (fun w' b => rtop_any w' (hb.below b) h2)
  have HC : Hid (∀ w', Pu w w' [(29, w.heap.size, #[.bool lo.neg, .slice A n c, .int .i64 lo.e, .bool hi.neg, .slice B m d, .int .i64 hi.e])] [] → w'.cell? ⟨w.heap.size, 0, none⟩ = some (.bool lo.neg) ∧ w'.cell? ⟨w.heap.size, 1, none⟩ = some (.slice A n c) ∧ w'.cell? ⟨w.heap.size, 2, none⟩ = some (.int .i64 lo.e) ∧ w'.cell? ⟨w.heap.size, 3, none⟩ = some (.bool hi.neg) ∧ w'.cell? ⟨w.heap.size, 4, none⟩ = some (.slice B m d) ∧ w'.cell? ⟨w.heap.size, 5, none⟩ = some (.int .i64 hi.e)) := Lib.hid (fun w' h => ⟨h.ks.1.at_ 0 _ rfl, h.ks.1.at_ 1 _ rfl, h.ks.1.at_ 2 _ rfl, h.ks.1.at_ 3 _ rfl, h.ks.1.at_ 4 _ rfl, h.ks.1.at_ 5 _ rfl⟩)
  obtain ⟨k0, k1, k2, k3, k4, k5⟩ := HC.out _ P
  have HS : Hid (sizeI lo hi = if hi.m = 0 then (if lo.m = 0 then -1000000 else max (-1000000) (topI lo)) else max (if lo.m = 0 then -1000000 else max (-1000000) (topI lo)) (topI hi)) := Lib.hid rfl
  generalize topI lo = x at *
  generalize topI hi = y at *
  clear ha hb h1 h2
  have HB := Lib.hid P.bel
  have HP := Lib.hid P
  clear P
  by_cases e1 : n = 0
  · have f1 := z1.1 e1
    by_cases e2 : m = 0
    · have f2 := z2.1 e2
      rw [if_pos f2, if_pos f1] at HS
      clear z1 z2 f1 f2 T1 T2 HP HC
      subst e1 e2
      go_enter Tryz.func56, Tryz.ntmps56
      go_wp2_with fail
      rw [HS.out]
      go_ret
      exact ⟨by first | rfl | go_num | (simp; done) | (simp; omega), HB.out⟩
    · have f2 : hi.m ≠ 0 := fun h => e2 (z2.2 h)
      rw [if_neg f2, if_pos f1] at HS
      have hm : (0 : Int) < (m : Int) := by omega
      have TT := Lib.hid (T2.out _ HB.out)
      clear z1 z2 f1 f2 T1 T2 e2 HP HC
      subst e1
      go_enter Tryz.func56, Tryz.ntmps56
      go_wp2_with fail
      refine TT.out.mono ?_
      rintro e' w2 ⟨rfl, b2⟩
      have B2 := below_step HB.out b2
      go_wp2_with fail
      rw [HS.out]
      go_ret
      exact ⟨by first | rfl | go_num | (simp; done) | (simp; omega), B2⟩
  · have f1 : lo.m ≠ 0 := fun h => e1 (z1.2 h)
    have hn : (0 : Int) < (n : Int) := by omega
    by_cases e2 : m = 0
    · have f2 := z2.1 e2
      rw [if_pos f2, if_neg f1] at HS
      have TT := Lib.hid (T1.out _ HB.out)
      clear z1 z2 f1 f2 T1 T2 e1
      subst e2
      go_enter Tryz.func56, Tryz.ntmps56
      go_wp2_with fail
      refine TT.out.mono ?_
      clear k0 k1 k2 k3 k4 k5 TT
      have P := HP.out
      clear HP HB
      generalize w.alloc (.cells #[.bool lo.neg, .slice A n c, .int .i64 lo.e, .bool hi.neg, .slice B 0 d, .int .i64 hi.e] 29) = w1 at *
      rintro e' w2 ⟨rfl, b2⟩
      have P2 := P.below b2
      have B2 := Lib.hid P2.bel
      obtain ⟨k0, k1, k2, k3, k4, k5⟩ := HC.out _ P2
      clear P b2 P2 HC
      go_wp2_with fail
      rw [HS.out]
      go_ret
      exact ⟨by first | rfl | go_num | (simp; done) | (simp; omega), B2.out⟩
    · have f2 : hi.m ≠ 0 := fun h => e2 (z2.2 h)
      rw [if_neg f2, if_neg f1] at HS
      have hm : (0 : Int) < (m : Int) := by omega
      have TT := Lib.hid (T1.out _ HB.out)
      clear z1 z2 f1 f2 T1 e1 e2
      go_enter Tryz.func56, Tryz.ntmps56
      go_wp2_with fail
      refine TT.out.mono ?_
      clear k0 k1 k2 k3 k4 k5 TT
      have P := HP.out
      clear HP HB
      generalize w.alloc (.cells #[.bool lo.neg, .slice A n c, .int .i64 lo.e, .bool hi.neg, .slice B m d, .int .i64 hi.e] 29) = w1 at *
      rintro e' w2 ⟨rfl, b2⟩
      have P2 := P.below b2
      have TU := Lib.hid (T2.out _ P2.bel)
      have B2 := Lib.hid P2.bel
      obtain ⟨k0, k1, k2, k3, k4, k5⟩ := HC.out _ P2
      clear P b2 P2 HC T2
      go_wp2_with fail
      refine TU.out.mono ?_
      rintro e' w3 ⟨rfl, b3⟩
      have B3 := below_step B2.out b3
      go_wp2_with fail
      rw [HS.out]
      go_ret
      exact ⟨by first | rfl | go_num | (simp; done) | (simp; omega), B3⟩
end Go.Proofs.YtodjldhppbbhdaaGreatDoor

namespace Go.Proofs.YtodjldhppbbhdaaGreatDoor
open Go.RowKit

def oneR (p : Int) (bad : Bool) (size : Int) : SRes := scaleS p (numS p bad 1).bad (numS p bad 1).lo (numS p bad 1).hi (max size (-p - 64))
/-- From -2^size to 2^size. -/
def aroundR (p : Int) (bad : Bool) (size : Int) : SRes := hullS p (negS p (oneR p bad size).bad (oneR p bad size).lo (oneR p bad size).hi).bad (negS p (oneR p bad size).bad (oneR p bad size).lo (oneR p bad size).hi).lo (negS p (oneR p bad size).bad (oneR p bad size).lo (oneR p bad size).hi).hi (oneR p bad size).lo (oneR p bad size).hi
theorem sgood_scale {p : Int} {bad : Bool} {lo hi : DR} {k : Int} : SGood (scaleS p bad lo hi k) := sgood_two (plIf_mk _ _ _) (plIf_mk _ _ _)
theorem sgood_around {p : Int} {bad : Bool} {size : Int} : SGood (aroundR p bad size) := by
  have G : SGood (oneR p bad size) := sgood_scale
  have N : SGood (negS p (oneR p bad size).bad (oneR p bad size).lo (oneR p bad size).hi) := sgood_neg (fun _ => plainR_of G.l2) (fun _ => plainR_of G.h2)
  exact sgood_hull (fun _ => plainR_of N.l2) (fun _ => plainR_of N.h2) (fun _ => plainR_of G.l2) (fun _ => plainR_of G.h2)
set_option maxRecDepth 8000 in
set_option maxHeartbeats 4000000 in
theorem around_any (size : Int) (g : Nat) (p : Int) (bad : Bool) (w : World) (hW : Wk 41 w g p bad) (hT : Tab w) (hp1 : -1000000 ≤ p) (hp2 : p ≤ 1000000) (hs1 : -2000000 ≤ size) (hs2 : size ≤ 2000000) :
    Calls Tryz.prog 58 #[.pointer (some ⟨g, 0, none⟩), .int .i64 size] w (SPost 41 w g p (aroundR p bad size)) := by
  have S0 := (St.start hW).alloc 29 zs
  obtain ⟨a, ha⟩ : ∃ r, r = numS p bad 1 := ⟨_, rfl⟩
  obtain ⟨s, hs⟩ : ∃ r, r = scaleS p a.bad a.lo a.hi (max size (-p - 64)) := ⟨_, rfl⟩
  obtain ⟨b, hb⟩ : ∃ r, r = negS p s.bad s.lo s.hi := ⟨_, rfl⟩
  obtain ⟨r, hr⟩ : ∃ r, r = hullS p b.bad b.lo b.hi s.lo s.hi := ⟨_, rfl⟩
  have HR : Hid (aroundR p bad size = r) := Lib.hid (by rw [hr, hb, hs, ha]; rfl)
  have GA : SGood a := by rw [ha]; exact sgood_num (by omega) (by omega)
  have GS : SGood s := by rw [hs]; exact sgood_scale
  have GB : SGood b := by rw [hb]; exact sgood_neg (fun _ => plainR_of GS.l2) (fun _ => plainR_of GS.h2)
  have TB : Hid (∀ b' w' ks ns, St 41 w g p b' w' ks ns → Tab w') := Lib.hid (fun b' w' ks ns h => hT.wk hW h.O)
  have C1 : Hid (∀ w' ks ns, St 41 w g p bad w' ks ns → Calls Tryz.prog 19 #[.pointer (some ⟨g, 0, none⟩), .int .i64 1] w' (SPost 41 w' g p a)) := Lib.hid (fun w' ks ns h => by rw [ha]; exact rnum_any 1 g p bad w' h.W (TB.out _ _ _ _ h) (by omega) (by omega))
  have C2 : Hid (∀ w' ks ns A n c B m d z, z = max size (-p - 64) → St 41 w g p a.bad w' ks ns → Num w' (.slice A n c) a.lo.m → Num w' (.slice B m d) a.hi.m → Calls Tryz.prog 97 #[.pointer (some ⟨g, 0, none⟩), spv a.lo.neg A n c a.lo.e a.hi.neg B m d a.hi.e, .int .i64 z] w' (SPost 41 w' g p s)) := Lib.hid (fun w' ks ns A n c B m d z hz h h1 h2 => by
    rw [hs, ← hz]
    exact rscale_any g p a.bad z w' h.W (DIn.of_num h1 GA.l2 GA.l1) (DIn.of_num h2 GA.h2 GA.h1) (TB.out _ _ _ _ h) (by omega) (by omega))
  have C3 : Hid (∀ w' ks ns A n c B m d, St 41 w g p s.bad w' ks ns → Num w' (.slice A n c) s.lo.m → Num w' (.slice B m d) s.hi.m → Calls Tryz.prog 57 #[.pointer (some ⟨g, 0, none⟩), spv s.lo.neg A n c s.lo.e s.hi.neg B m d s.hi.e] w' (SPost 41 w' g p b)) := Lib.hid (fun w' ks ns A n c B m d h h1 h2 => by
    rw [hb]
    exact rneg_I g p s.bad w' h.W (DIn.of_num h1 GS.l2 GS.l1) (DIn.of_num h2 GS.h2 GS.h1) (TB.out _ _ _ _ h))
  have C4 : Hid (∀ w' ks ns A n c B m d A' n' c' B' m' d', St 41 w g p b.bad w' ks ns → Num w' (.slice A n c) b.lo.m → Num w' (.slice B m d) b.hi.m → Num w' (.slice A' n' c') s.lo.m → Num w' (.slice B' m' d') s.hi.m → Calls Tryz.prog 98 #[.pointer (some ⟨g, 0, none⟩), spv b.lo.neg A n c b.lo.e b.hi.neg B m d b.hi.e, spv s.lo.neg A' n' c' s.lo.e s.hi.neg B' m' d' s.hi.e] w' (SPost 41 w' g p r)) := Lib.hid (fun w' ks ns A n c B m d A' n' c' B' m' d' h h1 h2 h3 h4 => by
    rw [hr]
    exact rhull_any g p b.bad w' h.W (DIn.of_num h1 GB.l2 GB.l1) (DIn.of_num h2 GB.h2 GB.h1) (DIn.of_num h3 GS.l2 GS.l1) (DIn.of_num h4 GS.h2 GS.h1))
  have HC : Hid (∀ b' w' ks ns, St 41 w g p b' w' ks ns → w'.cell? ⟨g, 0, none⟩ = some (.int .i64 p)) := Lib.hid (fun b' w' ks ns h => h.wc.1)
  have HPT : Hid (∀ b' w' ks ns, St 41 w g p b' w' ks ns → ∀ q, w.heap.size ≤ q → ∀ x y z x' y' z', (put6 w' q x y z x' y' z').cell? ⟨g, 0, none⟩ = some (.int .i64 p)) := Lib.hid (fun b' w' ks ns h q hq x y z x' y' z' => (h.W.only (only_put6 w' q x y z x' y' z') (by have := h.hg; omega)).cell.1)
  have HAL : Hid (∀ b' w' ks ns, St 41 w g p b' w' ks ns → ∀ o, (w'.alloc o).cell? ⟨g, 0, none⟩ = some (.int .i64 p)) := Lib.hid (fun b' w' ks ns h o => (h.below (alloc_bel w' o)).wc.1)
  have hwn : IntKind.i64.wrap (-p) = -p := wrap_id (by omega) (by omega)
  have hwm : IntKind.i64.wrap (-p - 64) = -p - 64 := wrap_id (by omega) (by omega)
  clear ha hs hb hr GA GS GB TB hT hW
  go_enter Tryz.func58, Tryz.ntmps58
  go_upto_region 1 with fail
  generalize w.alloc (.cells zs 29) = w1 at *
  go_cut [5] (fun s5 wx => EP 41 w g p [(29, w.heap.size, zs)] [] s s5 wx)
  case first =>
    have SD := S0.drew
    have SA := (S0.below (alloc_bel w1 (.cells zs 29))).drew
    have YA := (KC.made 29 w1 zs).drew
    have hz1 : w.heap.size < w1.heap.size := S0.ks.1.1.2
    have hgw : g < w.heap.size := S0.hg
    have XS := HC.out _ _ _ _ SD
    have XA := HC.out _ _ _ _ SA
    go_region_held3 (fun w' => w'.cell? ⟨g, 0, none⟩ = some (.int .i64 p))
      (first | with_reducible exact HPT.out _ _ _ _ V2 _ (by omega) _ _ _ _ _ _ | with_reducible exact HC.out _ _ _ _ V2 | with_reducible exact HC.out _ _ _ _ V1 | with_reducible exact XS | with_reducible exact XA | with_reducible exact HAL.out _ _ _ _ V2 _ | with_reducible exact HAL.out _ _ _ _ V1 _)
      (first
        | (go_at_call 19; refine (C1.out _ _ _ (by first | with_reducible exact SD | with_reducible exact SA)).mono ?_; rintro e' v1 ⟨A1, n1, c1, B1, m1, d1, rfl, N1, N2, W1, o1⟩; have V1 : St 41 w g p a.bad v1 [(29, w.heap.size, zs)] ((.slice A1 n1 c1, a.lo.m) :: (.slice B1 m1 d1, a.hi.m) :: []) := (by first | with_reducible exact ((SD.only o1 W1).num N2).num N1 | with_reducible exact ((SA.only o1 W1).num N2).num N1); have hv1 : w.heap.size < v1.heap.size := V1.ks.1.1.2; have hv1g : g < v1.heap.size := V1.lt; have u1 := V1.ns.1; have u2 := V1.ns.2.1; first | (have ox : Only (w1.alloc (.cells zs 29)).drew v1 g := (by with_reducible exact o1); have ya := YA.only ox (by omega)) | skip)
        | (go_at_call 97; refine (C2.out _ _ _ _ _ _ _ _ _ _ (by first | with_reducible rfl | omega) (by first | with_reducible exact V1 | with_reducible exact V1.below (alloc_bel _ _)) (by first | with_reducible exact u1 | with_reducible exact num_al u1 _) (by first | with_reducible exact u2 | with_reducible exact num_al u2 _)).mono ?_; rintro e' v2 ⟨A2, n2, c2, B2, m2, d2, rfl, N1, N2, W2, o2⟩; have V2 : St 41 w g p s.bad v2 [(29, w.heap.size, zs)] ((.slice A2 n2 c2, s.lo.m) :: (.slice B2 m2 d2, s.hi.m) :: (.slice A1 n1 c1, a.lo.m) :: (.slice B1 m1 d1, a.hi.m) :: []) := (by first | with_reducible exact ((V1.only o2 W2).num N2).num N1 | with_reducible exact (((V1.below (alloc_bel _ _)).only o2 W2).num N2).num N1); first | (have ox : Only v1 v2 g := (by with_reducible exact o2); have z1 := ya.only ox (by omega); have z1c0 := z1.at_ 0 _ rfl; have z1c1 := z1.at_ 1 _ rfl; have z1c2 := z1.at_ 2 _ rfl; have z1c3 := z1.at_ 3 _ rfl; have z1c4 := z1.at_ 4 _ rfl; have z1c5 := z1.at_ 5 _ rfl; have z1f0 := z1.fr 0; have z1f1 := z1.fr 1; have z1f2 := z1.fr 2; have z1f3 := z1.fr 3; have z1f4 := z1.fr 4; have z1f5 := z1.fr 5; have z1l := z1.2; have z1n := Nat.ne_of_lt z1.2; have z1n2 := Nat.ne_of_gt z1.2) | (have ox : Only (v1.alloc (.cells zs 29)) v2 g := (by with_reducible exact o2); have z1 := (KC.made 29 v1 zs).only ox (by omega); have z1c0 := z1.at_ 0 _ rfl; have z1c1 := z1.at_ 1 _ rfl; have z1c2 := z1.at_ 2 _ rfl; have z1c3 := z1.at_ 3 _ rfl; have z1c4 := z1.at_ 4 _ rfl; have z1c5 := z1.at_ 5 _ rfl; have z1f0 := z1.fr 0; have z1f1 := z1.fr 1; have z1f2 := z1.fr 2; have z1f3 := z1.fr 3; have z1f4 := z1.fr 4; have z1f5 := z1.fr 5; have z1l := z1.2; have z1n := Nat.ne_of_lt z1.2; have z1n2 := Nat.ne_of_gt z1.2) | skip))
    all_goals (
      go_wp2_with fail
      go_meet
      have f1 := V2.ns.1
      have f2 := V2.ns.2.1
      have f3 : NS v2 [] := trivial
      first
        | ((with_reducible refine end_ep V2 f1 f2 f3 z1 ?_ ?_) <;> first | omega | exact ⟨by omega, trivial⟩)
        | with_reducible exact end_ea V2 f1 f2 f3)
  case rest =>
    obtain ⟨g5, A5, n5, c5, B5, m5, d5, rfl, hg5, hne5, V4⟩ := hcut
    obtain ⟨hd1, _⟩ := hne5
    have hk5 := V4.ks.1.1.2
    have HC4 : Hid (∀ b' w' ns, St 41 w g p b' w' [(29, g5, #[.bool s.lo.neg, .slice A5 n5 c5, .int .i64 s.lo.e, .bool s.hi.neg, .slice B5 m5 d5, .int .i64 s.hi.e]), (29, w.heap.size, zs)] ns → w'.cell? ⟨g5, 0, none⟩ = some (.bool s.lo.neg) ∧ w'.cell? ⟨g5, 1, none⟩ = some (.slice A5 n5 c5) ∧ w'.cell? ⟨g5, 2, none⟩ = some (.int .i64 s.lo.e) ∧ w'.cell? ⟨g5, 3, none⟩ = some (.bool s.hi.neg) ∧ w'.cell? ⟨g5, 4, none⟩ = some (.slice B5 m5 d5) ∧ w'.cell? ⟨g5, 5, none⟩ = some (.int .i64 s.hi.e)) := Lib.hid (fun b' w' ns h => ⟨h.ks.1.1.at_ 0 _ rfl, h.ks.1.1.at_ 1 _ rfl, h.ks.1.1.at_ 2 _ rfl, h.ks.1.1.at_ 3 _ rfl, h.ks.1.1.at_ 4 _ rfl, h.ks.1.1.at_ 5 _ rfl⟩)
    have HP4 : Hid (∀ b' w' ns, St 41 w g p b' w' [(29, g5, #[.bool s.lo.neg, .slice A5 n5 c5, .int .i64 s.lo.e, .bool s.hi.neg, .slice B5 m5 d5, .int .i64 s.hi.e]), (29, w.heap.size, zs)] ns → ∀ x y z x' y' z', (put6 w' w.heap.size x y z x' y' z').cell? ⟨g5, 0, none⟩ = some (.bool s.lo.neg) ∧ (put6 w' w.heap.size x y z x' y' z').cell? ⟨g5, 1, none⟩ = some (.slice A5 n5 c5) ∧ (put6 w' w.heap.size x y z x' y' z').cell? ⟨g5, 2, none⟩ = some (.int .i64 s.lo.e) ∧ (put6 w' w.heap.size x y z x' y' z').cell? ⟨g5, 3, none⟩ = some (.bool s.hi.neg) ∧ (put6 w' w.heap.size x y z x' y' z').cell? ⟨g5, 4, none⟩ = some (.slice B5 m5 d5) ∧ (put6 w' w.heap.size x y z x' y' z').cell? ⟨g5, 5, none⟩ = some (.int .i64 s.hi.e)) := Lib.hid (fun b' w' ns h x y z x' y' z' => ⟨(h.ks.1.1.only (only_put6 w' w.heap.size x y z x' y' z') (by omega)).at_ 0 _ rfl, (h.ks.1.1.only (only_put6 w' w.heap.size x y z x' y' z') (by omega)).at_ 1 _ rfl, (h.ks.1.1.only (only_put6 w' w.heap.size x y z x' y' z') (by omega)).at_ 2 _ rfl, (h.ks.1.1.only (only_put6 w' w.heap.size x y z x' y' z') (by omega)).at_ 3 _ rfl, (h.ks.1.1.only (only_put6 w' w.heap.size x y z x' y' z') (by omega)).at_ 4 _ rfl, (h.ks.1.1.only (only_put6 w' w.heap.size x y z x' y' z') (by omega)).at_ 5 _ rfl⟩)
    have hwl := V4.lt
    clear C1 C2 HC HPT HAL S0
    go_upto_region 2 with fail
    have VD := V4.drew
    have q1 := VD.ns.1
    have q2 := VD.ns.2.1
    have XS := HC4.out _ _ _ VD
    go_region_held3 (fun w' => w'.cell? ⟨g5, 0, none⟩ = some (.bool s.lo.neg) ∧ w'.cell? ⟨g5, 1, none⟩ = some (.slice A5 n5 c5) ∧ w'.cell? ⟨g5, 2, none⟩ = some (.int .i64 s.lo.e) ∧ w'.cell? ⟨g5, 3, none⟩ = some (.bool s.hi.neg) ∧ w'.cell? ⟨g5, 4, none⟩ = some (.slice B5 m5 d5) ∧ w'.cell? ⟨g5, 5, none⟩ = some (.int .i64 s.hi.e))
      (first | with_reducible exact HP4.out _ _ _ V6 _ _ _ _ _ _ | with_reducible exact HC4.out _ _ _ V6 | with_reducible exact HC4.out _ _ _ V5 | with_reducible exact XS)
      (first
        | (go_at_call 57; refine (C3.out wc.drew _ _ _ _ _ _ _ _ VD q1 q2).mono ?_; rintro e' v5 ⟨A8, n8, c8, B8, m8, d8, rfl, N1, N2, W5, o5⟩; have V5 := ((VD.only o5 W5).num N2).num N1; have u1 := V5.ns.1; have u2 := V5.ns.2.1; have u3 := V5.ns.2.2.1; have u4 := V5.ns.2.2.2.1)
        | (go_at_call 98; refine (C4.out v5 _ _ _ _ _ _ _ _ _ _ _ _ _ _ V5 u1 u2 u3 u4).mono ?_; rintro e' v6 ⟨A9, n9, c9, B9, m9, d9, rfl, N1, N2, W6, o6⟩; have V6 := ((V5.only o6 W6).num N2).num N1; have z1 := V6.ks.2.1.1; have z1c0 := z1.at_ 0 _ rfl; have z1c1 := z1.at_ 1 _ rfl; have z1c2 := z1.at_ 2 _ rfl; have z1c3 := z1.at_ 3 _ rfl; have z1c4 := z1.at_ 4 _ rfl; have z1c5 := z1.at_ 5 _ rfl; have z1f0 := z1.fr 0; have z1f1 := z1.fr 1; have z1f2 := z1.fr 2; have z1f3 := z1.fr 3; have z1f4 := z1.fr 4; have z1f5 := z1.fr 5; have z1l := z1.2; have z1n := Nat.ne_of_lt z1.2; have z1n2 := Nat.ne_of_gt z1.2))
    go_wp2_with fail
    rw [HR.out]
    have y1 := V6.ns.1
    have y2 := V6.ns.2.1
    obtain ⟨x1, x2, x3, x4⟩ := V6.give (lo := r.lo) (hi := r.hi) y1 y2 z1 (by omega)
    exact bodyPost_ret (v := spv r.lo.neg A9 n9 c9 r.lo.e r.hi.neg B9 m9 d9 r.hi.e) (by simp [results, Tryz.results58, go_sem, z1c0, z1c1, z1c2, z1c3, z1c4, z1c5]) rfl ⟨A9, n9, c9, B9, m9, d9, rfl, x1, x2, x3, x4⟩
end Go.Proofs.YtodjldhppbbhdaaGreatDoor

namespace Go.Proofs.YtodjldhppbbhdaaGreatDoor
open Go.RowKit

/-- Block a holds the span r, by its cells. -/
def SpC (w : World) (a : Nat) (r : SRes) (A : Option Addr) (n c : Nat) (B : Option Addr) (m d : Nat) : Prop :=
  KC 29 w a #[.bool r.lo.neg, .slice A n c, .int .i64 r.lo.e, .bool r.hi.neg, .slice B m d, .int .i64 r.hi.e] ∧ Num w (.slice A n c) r.lo.m ∧ Num w (.slice B m d) r.hi.m
def SpK (w : World) (a : Nat) (r : SRes) : Prop := ∃ A n c B m d, SpC w a r A n c B m d
theorem SpC.below {w w' : World} {a : Nat} {r : SRes} {A : Option Addr} {n c : Nat} {B : Option Addr} {m d : Nat} (h : SpC w a r A n c B m d) (b : Below w.heap.size w w') : SpC w' a r A n c B m d := ⟨h.1.adv b, h.2.1.below b, h.2.2.below b⟩
theorem SpC.only {T : TypeId} {w w' : World} {g a : Nat} {p : Int} {bad : Bool} {r : SRes} {A : Option Addr} {n c : Nat} {B : Option Addr} {m d : Nat} (h : SpC w a r A n c B m d) (k : Wk T w g p bad) (o : Only w w' g) (hne : a ≠ g) : SpC w' a r A n c B m d := ⟨h.1.only o hne, num_wk k o h.2.1, num_wk k o h.2.2⟩
theorem SpC.put {w : World} {a b : Nat} {r : SRes} {A A' B B' : Option Addr} {n c m d n' c' m' d' : Nat} {na nb' : Bool} {ea eb : Int} (h : SpC w a r A n c B m d) (k : KC 29 w b #[.bool na, .slice A' n' c', .int .i64 ea, .bool nb', .slice B' m' d', .int .i64 eb]) (hne : a ≠ b) (x y z x' y' z' : Value) : SpC (put6 w b x y z x' y' z') a r A n c B m d :=
  ⟨h.1.only (only_put6 w b x y z x' y' z') hne, num_put6 h.2.1 k.b6 x y z x' y' z', num_put6 h.2.2 k.b6 x y z x' y' z'⟩
theorem SpC.new {w : World} {a : Nat} {r : SRes} {A A' B B' : Option Addr} {n c m d n' c' m' d' : Nat} {na nb' : Bool} {ea eb : Int} (k : KC 29 w a #[.bool na, .slice A' n' c', .int .i64 ea, .bool nb', .slice B' m' d', .int .i64 eb]) (h1 : Num w (.slice A n c) r.lo.m) (h2 : Num w (.slice B m d) r.hi.m) : SpC (put6 w a (.bool r.lo.neg) (.slice A n c) (.int .i64 r.lo.e) (.bool r.hi.neg) (.slice B m d) (.int .i64 r.hi.e)) a r A n c B m d :=
  ⟨k.put6 _ _ _ _ _ _, num_put6 h1 k.b6 _ _ _ _ _ _, num_put6 h2 k.b6 _ _ _ _ _ _⟩
theorem SpC.made {w : World} {r : SRes} {A B : Option Addr} {n c m d : Nat} (h1 : Num w (.slice A n c) r.lo.m) (h2 : Num w (.slice B m d) r.hi.m) : SpC (w.alloc (.cells #[.bool r.lo.neg, .slice A n c, .int .i64 r.lo.e, .bool r.hi.neg, .slice B m d, .int .i64 r.hi.e] 29)) w.heap.size r A n c B m d :=
  ⟨KC.made _ _ _, num_al h1 _, num_al h2 _⟩
/-- The state of Inverse: the place of its answer, the work, three spans. -/
structure IV (w wi : World) (g : Nat) (p : Int) (bad : Bool) (g7 g8 g9 : Nat) (t s sq : SRes) : Prop where
  S : St 41 w g p bad wi [(29, w.heap.size, zs)] []
  k7 : SpK wi g7 t
  k8 : SpK wi g8 s
  k9 : SpK wi g9 sq
  h7 : w.heap.size < g7
  h8 : w.heap.size < g8
  h9 : w.heap.size < g9
  n78 : g7 ≠ g8
  n79 : g7 ≠ g9
  n89 : g8 ≠ g9
section
variable {w wi wj : World} {g : Nat} {p : Int} {bad b' : Bool} {g7 g8 g9 : Nat} {t s sq : SRes}
theorem SpK.below {a : Nat} {r : SRes} (h : SpK wi a r) (b : Below wi.heap.size wi wj) : SpK wj a r := by
  obtain ⟨A, n, c, B, m, d, h⟩ := h
  exact ⟨A, n, c, B, m, d, h.below b⟩
theorem SpK.only {T : TypeId} {a : Nat} {r : SRes} (h : SpK wi a r) (k : Wk T wi g p bad) (o : Only wi wj g) (hne : a ≠ g) : SpK wj a r := by
  obtain ⟨A, n, c, B, m, d, h⟩ := h
  exact ⟨A, n, c, B, m, d, h.only k o hne⟩
theorem SpK.put {a b : Nat} {r : SRes} {A' B' : Option Addr} {n' c' m' d' : Nat} {na nb' : Bool} {ea eb : Int} (h : SpK wi a r) (k : KC 29 wi b #[.bool na, .slice A' n' c', .int .i64 ea, .bool nb', .slice B' m' d', .int .i64 eb]) (hne : a ≠ b) (x y z x' y' z' : Value) : SpK (put6 wi b x y z x' y' z') a r := by
  obtain ⟨A, n, c, B, m, d, h⟩ := h
  exact ⟨A, n, c, B, m, d, h.put k hne x y z x' y' z'⟩
theorem IV.below (h : IV w wi g p bad g7 g8 g9 t s sq) (b : Below wi.heap.size wi wj) : IV w wj g p bad g7 g8 g9 t s sq := ⟨h.S.below b, h.k7.below b, h.k8.below b, h.k9.below b, h.h7, h.h8, h.h9, h.n78, h.n79, h.n89⟩
theorem IV.drew (h : IV w wi g p bad g7 g8 g9 t s sq) : IV w wi.drew g p bad g7 g8 g9 t s sq := h.below (Below.refl _ wi).drew
theorem IV.only (h : IV w wi g p bad g7 g8 g9 t s sq) (o : Only wi wj g) (W : Wk 41 wj g p b') : IV w wj g p b' g7 g8 g9 t s sq := by
  have hg := h.S.hg
  have h7 := h.h7
  have h8 := h.h8
  have h9 := h.h9
  exact ⟨h.S.only o W, h.k7.only h.S.W o (by omega), h.k8.only h.S.W o (by omega), h.k9.only h.S.W o (by omega), h.h7, h.h8, h.h9, h.n78, h.n79, h.n89⟩
/-- A block of the call's own that is none of these is written. -/
theorem IV.put (h : IV w wi g p bad g7 g8 g9 t s sq) {a : Nat} {A' B' : Option Addr} {n' c' m' d' : Nat} {na nb' : Bool} {ea eb : Int} (k : KC 29 wi a #[.bool na, .slice A' n' c', .int .i64 ea, .bool nb', .slice B' m' d', .int .i64 eb]) (ha : w.heap.size < a) (h7 : g7 ≠ a) (h8 : g8 ≠ a) (h9 : g9 ≠ a) (x y z x' y' z' : Value) : IV w (put6 wi a x y z x' y' z') g p bad g7 g8 g9 t s sq :=
  ⟨h.S.other (only_put6 wi a x y z x' y' z') (by omega) (h.S.ks.put (only_put6 wi a x y z x' y' z') ⟨by omega, trivial⟩) trivial, h.k7.put k h7 x y z x' y' z', h.k8.put k h8 x y z x' y' z', h.k9.put k h9 x y z x' y' z', h.h7, h.h8, h.h9, h.n78, h.n79, h.n89⟩
/-- The next term is written; the next sum. -/
theorem IV.put7 (h : IV w wi g p bad g7 g8 g9 t s sq) {r : SRes} {A B : Option Addr} {n c m d : Nat} (h1 : Num wi (.slice A n c) r.lo.m) (h2 : Num wi (.slice B m d) r.hi.m) : IV w (put6 wi g7 (.bool r.lo.neg) (.slice A n c) (.int .i64 r.lo.e) (.bool r.hi.neg) (.slice B m d) (.int .i64 r.hi.e)) g p bad g7 g8 g9 r s sq := by
  have q7 := h.h7
  obtain ⟨A', n', c', B', m', d', k, _⟩ := h.k7
  exact ⟨h.S.other (only_put6 wi g7 _ _ _ _ _ _) (by omega) (h.S.ks.put (only_put6 wi g7 _ _ _ _ _ _) ⟨by omega, trivial⟩) trivial, ⟨A, n, c, B, m, d, SpC.new k h1 h2⟩, h.k8.put k (Ne.symm h.n78) _ _ _ _ _ _, h.k9.put k (Ne.symm h.n79) _ _ _ _ _ _, h.h7, h.h8, h.h9, h.n78, h.n79, h.n89⟩
theorem IV.put8 (h : IV w wi g p bad g7 g8 g9 t s sq) {r : SRes} {A B : Option Addr} {n c m d : Nat} (h1 : Num wi (.slice A n c) r.lo.m) (h2 : Num wi (.slice B m d) r.hi.m) : IV w (put6 wi g8 (.bool r.lo.neg) (.slice A n c) (.int .i64 r.lo.e) (.bool r.hi.neg) (.slice B m d) (.int .i64 r.hi.e)) g p bad g7 g8 g9 t r sq := by
  have q8 := h.h8
  obtain ⟨A', n', c', B', m', d', k, _⟩ := h.k8
  exact ⟨h.S.other (only_put6 wi g8 _ _ _ _ _ _) (by omega) (h.S.ks.put (only_put6 wi g8 _ _ _ _ _ _) ⟨by omega, trivial⟩) trivial, h.k7.put k h.n78 _ _ _ _ _ _, ⟨A, n, c, B, m, d, SpC.new k h1 h2⟩, h.k9.put k (Ne.symm h.n89) _ _ _ _ _ _, h.h7, h.h8, h.h9, h.n78, h.n79, h.n89⟩
end
/-- The numbers of Inverse: a term and the sum so far (its mark is the work's). -/
structure TS where
  t : SRes
  s : SRes
def invTerm (p : Int) (sq : SRes) (v : TS) : SRes := divR p v.s.bad v.t.lo v.t.hi sq.lo sq.hi
def invPart (p : Int) (sq : SRes) (k : Nat) (v : TS) : SRes := divR p (numS p (invTerm p sq v).bad (2 * (k : Int) + 1)).bad (invTerm p sq v).lo (invTerm p sq v).hi (numS p (invTerm p sq v).bad (2 * (k : Int) + 1)).lo (numS p (invTerm p sq v).bad (2 * (k : Int) + 1)).hi
def invTurn (p : Int) (sq : SRes) (minus : Bool) (k : Nat) (v : TS) : SRes := if minus && decide (k % 2 = 1) then negS p (invPart p sq k v).bad (invPart p sq k v).lo (invPart p sq k v).hi else invPart p sq k v
def invStep (p : Int) (sq : SRes) (minus : Bool) (k : Nat) (v : TS) : TS := ⟨invTerm p sq v, addS p (invTurn p sq minus k v).bad v.s.lo v.s.hi (invTurn p sq minus k v).lo (invTurn p sq minus k v).hi⟩
/-- Behind j rounds. -/
def invIt (p : Int) (sq : SRes) (minus : Bool) (v : TS) : Nat → TS
  | 0 => v
  | j + 1 => invStep p sq minus (j + 1) (invIt p sq minus v j)
def invGo (p : Int) (v : TS) : Bool := decide (-p - 4 < sizeI v.t.lo v.t.hi) && !v.s.bad
def invFirst (p : Int) (bad : Bool) (n : Int) : SRes := divR p (numS p (numS p bad 1).bad n).bad (numS p bad 1).lo (numS p bad 1).hi (numS p (numS p bad 1).bad n).lo (numS p (numS p bad 1).bad n).hi
def invSq (p : Int) (bad : Bool) (n : Int) : SRes := numS p (invFirst p bad n).bad (n * n)
def invV (p : Int) (bad : Bool) (n : Int) : TS := ⟨invFirst p bad n, ⟨(invSq p bad n).bad, (invFirst p bad n).lo, (invFirst p bad n).hi⟩⟩
/-- What Inverse answers, where its loop ends behind K rounds. -/
def invAt (p : Int) (bad : Bool) (n : Int) (minus : Bool) (K : Nat) : TS := invIt p (invSq p bad n) minus (invV p bad n) K
def inverseR (p : Int) (bad : Bool) (n : Int) (minus : Bool) (K : Nat) : SRes :=
  addS p (aroundR p (invAt p bad n minus K).s.bad (sizeI (invAt p bad n minus K).t.lo (invAt p bad n minus K).t.hi + 1)).bad (invAt p bad n minus K).s.lo (invAt p bad n minus K).s.hi
    (aroundR p (invAt p bad n minus K).s.bad (sizeI (invAt p bad n minus K).t.lo (invAt p bad n minus K).t.hi + 1)).lo (aroundR p (invAt p bad n minus K).s.bad (sizeI (invAt p bad n minus K).t.lo (invAt p bad n minus K).t.hi + 1)).hi
end Go.Proofs.YtodjldhppbbhdaaGreatDoor

namespace Go.Proofs.YtodjldhppbbhdaaGreatDoor
open Go.RowKit

theorem sgood_divR {p : Int} {bad : Bool} {lo hi lo' hi' : DR} : SGood (divR p bad lo hi lo' hi') := by
  unfold divR
  split
  · exact sgood_no
  · split
    · exact sgood_no
    · split
      · rename_i h
        simp only [Bool.and_eq_true] at h
        have l := ok4_true h.1 (bestR (quo4 p false lo hi lo' hi') false 3) (by have := bestR_le (quo4 p false lo hi lo' hi') false 3; omega)
        have u := ok4_true h.2 (bestR (quo4 p true lo hi lo' hi') true 3) (by have := bestR_le (quo4 p true lo hi lo' hi') true 3; omega)
        exact ⟨l, plIf_overI _ _ _ _ l, u, plIf_overI _ _ _ _ u⟩
      · exact sgood_no
theorem sgood_turn {p : Int} {sq : SRes} {minus : Bool} {k : Nat} {v : TS} : SGood (invTurn p sq minus k v) := by
  have G : SGood (invPart p sq k v) := sgood_divR
  unfold invTurn
  split
  · exact sgood_neg (fun _ => plainR_of G.l2) (fun _ => plainR_of G.h2)
  · exact G
/-- The work's calls over spans told by numbers: what each answers. -/
structure RC (w : World) (g : Nat) (p : Int) : Prop where
  num : ∀ w' bad z, Only w w' g → Wk 41 w' g p bad → -9223372036854775808 ≤ z → z ≤ 9223372036854775807 → Calls Tryz.prog 19 #[.pointer (some ⟨g, 0, none⟩), .int .i64 z] w' (SPost 41 w' g p (numS p bad z))
  div : ∀ w' bad r s A n c B m d A' n' c' B' m' d', Only w w' g → Wk 41 w' g p bad → SGood r → SGood s → Num w' (.slice A n c) r.lo.m → Num w' (.slice B m d) r.hi.m → Num w' (.slice A' n' c') s.lo.m → Num w' (.slice B' m' d') s.hi.m → Calls Tryz.prog 18 #[.pointer (some ⟨g, 0, none⟩), spv r.lo.neg A n c r.lo.e r.hi.neg B m d r.hi.e, spv s.lo.neg A' n' c' s.lo.e s.hi.neg B' m' d' s.hi.e] w' (SPost 41 w' g p (divR p bad r.lo r.hi s.lo s.hi))
  add : ∀ w' bad r s A n c B m d A' n' c' B' m' d', Only w w' g → Wk 41 w' g p bad → SGood r → SGood s → Num w' (.slice A n c) r.lo.m → Num w' (.slice B m d) r.hi.m → Num w' (.slice A' n' c') s.lo.m → Num w' (.slice B' m' d') s.hi.m → Calls Tryz.prog 27 #[.pointer (some ⟨g, 0, none⟩), spv r.lo.neg A n c r.lo.e r.hi.neg B m d r.hi.e, spv s.lo.neg A' n' c' s.lo.e s.hi.neg B' m' d' s.hi.e] w' (SPost 41 w' g p (addS p bad r.lo r.hi s.lo s.hi))
  neg : ∀ w' bad r A n c B m d, Only w w' g → Wk 41 w' g p bad → SGood r → Num w' (.slice A n c) r.lo.m → Num w' (.slice B m d) r.hi.m → Calls Tryz.prog 57 #[.pointer (some ⟨g, 0, none⟩), spv r.lo.neg A n c r.lo.e r.hi.neg B m d r.hi.e] w' (SPost 41 w' g p (negS p bad r.lo r.hi))
theorem rc_any {w : World} {g : Nat} {p : Int} {b : Bool} (hW : Wk 41 w g p b) (hT : Tab w) : RC w g p where
  num := fun w' bad z o k h1 h2 => rnum_any z g p bad w' k (hT.wk hW o) h1 h2
  div := fun w' bad _ _ _ _ _ _ _ _ _ _ _ _ _ _ o k G1 G2 h1 h2 h3 h4 => rsdiv_any g p bad w' k (DIn.of_num h1 G1.l2 G1.l1) (DIn.of_num h2 G1.h2 G1.h1) (DIn.of_num h3 G2.l2 G2.l1) (DIn.of_num h4 G2.h2 G2.h1) (hT.wk hW o)
  add := fun w' bad _ _ _ _ _ _ _ _ _ _ _ _ _ _ o k G1 G2 h1 h2 h3 h4 => rsadd_any g p bad w' k (DIn.of_num h1 G1.l2 G1.l1) (DIn.of_num h2 G1.h2 G1.h1) (DIn.of_num h3 G2.l2 G2.l1) (DIn.of_num h4 G2.h2 G2.h1) (hT.wk hW o)
  neg := fun w' bad _ _ _ _ _ _ _ o k G1 h1 h2 => rneg_I g p bad w' k (DIn.of_num h1 G1.l2 G1.l1) (DIn.of_num h2 G1.h2 G1.h1) (hT.wk hW o)
theorem sizeI_b {lo hi : DR} (h1 : PlainR lo) (h2 : PlainR hi) : -1000000 ≤ sizeI lo hi ∧ sizeI lo hi ≤ 278528 := by
  have t1 := topI_b h1
  have t2 := topI_b h2
  unfold sizeI
  split <;> split <;> omega
/-- Behind region 8: the part in a block of its own. -/
def PP (w : World) (g : Nat) (p : Int) (g7 g8 g9 : Nat) (t s sq q : SRes) (s11 : Value) (wx : World) : Prop := ∃ g11, s11 = .pointer (some ⟨g11, 0, none⟩) ∧ w.heap.size < g11 ∧ g7 ≠ g11 ∧ g8 ≠ g11 ∧ g9 ≠ g11 ∧ SpK wx g11 q ∧ IV w wx g p q.bad g7 g8 g9 t s sq
section
variable {w v : World} {g : Nat} {p : Int} {g7 g8 g9 a : Nat} {t s sq q : SRes} {A B : Option Addr} {n c m d : Nat}
theorem SpK.lt {r : SRes} (h : SpK v a r) : a < v.heap.size := by
  obtain ⟨A, n, c, B, m, d, k, _⟩ := h
  exact k.2
theorem end_vp (V : IV w v g p q.bad g7 g8 g9 t s sq) (h1 : Num v (.slice A n c) q.lo.m) (h2 : Num v (.slice B m d) q.hi.m) (k : KC 29 v a zs) (ha : w.heap.size < a) (n7 : g7 ≠ a) (n8 : g8 ≠ a) (n9 : g9 ≠ a) :
    PP w g p g7 g8 g9 t s sq q (.pointer (some ⟨a, 0, none⟩)) (put6 v a (.bool q.lo.neg) (.slice A n c) (.int .i64 q.lo.e) (.bool q.hi.neg) (.slice B m d) (.int .i64 q.hi.e)) :=
  ⟨a, rfl, ha, n7, n8, n9, ⟨A, n, c, B, m, d, SpC.new k h1 h2⟩, V.put k ha n7 n8 n9 _ _ _ _ _ _⟩
theorem end_va (V : IV w v g p q.bad g7 g8 g9 t s sq) (h1 : Num v (.slice A n c) q.lo.m) (h2 : Num v (.slice B m d) q.hi.m) :
    PP w g p g7 g8 g9 t s sq q (.pointer (some ⟨v.heap.size, 0, none⟩)) (v.alloc (.cells #[.bool q.lo.neg, .slice A n c, .int .i64 q.lo.e, .bool q.hi.neg, .slice B m d, .int .i64 q.hi.e] 29)) :=
  ⟨v.heap.size, rfl, Nat.lt_of_lt_of_le V.h7 (Nat.le_of_lt V.k7.lt), Nat.ne_of_lt V.k7.lt, Nat.ne_of_lt V.k8.lt, Nat.ne_of_lt V.k9.lt, ⟨A, n, c, B, m, d, SpC.made h1 h2⟩, V.below (alloc_bel v _)⟩
end
set_option maxRecDepth 8000 in
set_option maxHeartbeats 4000000 in
theorem inverse_any (n sign : Int) (minus : Bool) (K : Nat) (g : Nat) (p : Int) (bad : Bool) (w : World) (hW : Wk 41 w g p bad) (hT : Tab w) (hp1 : -1000000 ≤ p) (hp2 : p ≤ 1000000) (hn1 : 1 ≤ n) (hn2 : n ≤ 100000) (hsg : minus = decide (sign < 0)) (hK0 : K ≤ 1000000)
    (hK : invGo p (invAt p bad n minus K) = false) (hlt : ∀ j, j < K → invGo p (invAt p bad n minus j) = true) :
    Calls Tryz.prog 25 #[.pointer (some ⟨g, 0, none⟩), .int .i64 n, .int .i64 sign] w (SPost 41 w g p (inverseR p bad n minus K)) := by
  have S0 := (St.start hW).alloc 29 zs
  have RCC := Lib.hid (rc_any hW hT)
  have HTT := Lib.hid hT
  have HWW := Lib.hid hW
  obtain ⟨o1, ho1⟩ : ∃ r, r = numS p bad 1 := ⟨_, rfl⟩
  obtain ⟨o2, ho2⟩ : ∃ r, r = numS p o1.bad n := ⟨_, rfl⟩
  obtain ⟨t0, ht0⟩ : ∃ r, r = divR p o2.bad o1.lo o1.hi o2.lo o2.hi := ⟨_, rfl⟩
  obtain ⟨sq, hsq⟩ : ∃ r, r = numS p t0.bad (n * n) := ⟨_, rfl⟩
  have hnn : n * n ≤ 10000000000 := Int.le_trans (Int.mul_le_mul hn2 hn2 (by omega) (by omega)) (by decide)
  have hnn0 : 0 ≤ n * n := Int.mul_nonneg (by omega) (by omega)
  have G1 : SGood o1 := by rw [ho1]; exact sgood_num (by omega) (by omega)
  have G2 : SGood o2 := by rw [ho2]; exact sgood_num (by omega) (by omega)
  have GT : SGood t0 := by rw [ht0]; exact sgood_divR
  have GQ : SGood sq := by rw [hsq]; exact sgood_num (by omega) (by omega)
  have e0 : invFirst p bad n = t0 := by rw [ht0, ho2, ho1]; rfl
  have e1 : invSq p bad n = sq := by unfold invSq; rw [e0, hsq]
  have e2 : invV p bad n = ⟨t0, ⟨sq.bad, t0.lo, t0.hi⟩⟩ := by unfold invV; rw [e0, e1]
  have hIt : ∀ j, invAt p bad n minus j = invIt p sq minus ⟨t0, ⟨sq.bad, t0.lo, t0.hi⟩⟩ j := fun j => by unfold invAt; rw [e1, e2]
  have HIT := Lib.hid hIt
  have HKK : Hid (invGo p (invIt p sq minus ⟨t0, ⟨sq.bad, t0.lo, t0.hi⟩⟩ K) = false) := Lib.hid (by rw [← hIt]; exact hK)
  have HLT : Hid (∀ j, j < K → invGo p (invIt p sq minus ⟨t0, ⟨sq.bad, t0.lo, t0.hi⟩⟩ j) = true) := Lib.hid (fun j hj => by rw [← hIt]; exact hlt j hj)
  have X1 := Lib.hid (fun w' (h : Only w w' g) k => (RCC.out.num w' bad 1 h k (by omega) (by omega)))
  rw [← ho1] at X1
  have X2 := Lib.hid (fun w' (h : Only w w' g) k => (RCC.out.num w' o1.bad n h k (by omega) (by omega)))
  rw [← ho2] at X2
  have X3 := Lib.hid (fun w' A n c B m d A' n' c' B' m' d' (h : Only w w' g) k => (RCC.out.div w' o2.bad o1 o2 A n c B m d A' n' c' B' m' d' h k G1 G2))
  rw [← ht0] at X3
  have X4 := Lib.hid (fun w' (h : Only w w' g) k => (RCC.out.num w' t0.bad (n * n) h k (by omega) (by omega)))
  rw [← hsq] at X4
  have hwn : IntKind.i64.wrap (n * n) = n * n := wrap_id (by omega) (by omega)
  clear ho1 ho2 ht0 hsq e0 e1 e2 hIt hK hlt hT hW G1 G2
  go_enter Tryz.func25, Tryz.ntmps25
  go_wp2_with fail
  refine (X1.out _ S0.O S0.W).mono ?_
  generalize w.alloc (.cells zs 29) = w1 at *
  rintro e' w2 ⟨A1, n1, c1, B1, m1, d1, rfl, N1, N2, W2, o2_⟩
  have S1 := ((S0.only o2_ W2).num N2).num N1
  clear S0 N1 N2 W2 o2_ X1
  go_wp2_with fail
  refine (X2.out _ S1.O S1.W).mono ?_
  rintro e' w3 ⟨A2, n2, c2, B2, m2, d2, rfl, N1, N2, W3, o3⟩
  have S2 := ((S1.only o3 W3).num N2).num N1
  clear S1 N1 N2 W3 o3 X2
  go_wp2_with fail
  refine (X3.out _ _ _ _ _ _ _ _ _ _ _ _ _ S2.O S2.W S2.ns.2.2.1 S2.ns.2.2.2.1 S2.ns.1 S2.ns.2.1).mono ?_
  rintro e' w4 ⟨A3, n3, c3, B3, m3, d3, rfl, N1, N2, W4, o4⟩
  have S3 := S2.only o4 W4
  have hz4 : w.heap.size < w4.heap.size := S3.ks.1.1.2
  have hg4 : g < w4.heap.size := S3.lt
  have b5 := below_step (alloc_bel w4 (.cells #[.bool t0.lo.neg, .slice A3 n3 c3, .int .i64 t0.lo.e, .bool t0.hi.neg, .slice B3 m3 d3, .int .i64 t0.hi.e] 29)) (alloc_bel (w4.alloc (.cells #[.bool t0.lo.neg, .slice A3 n3 c3, .int .i64 t0.lo.e, .bool t0.hi.neg, .slice B3 m3 d3, .int .i64 t0.hi.e] 29)) (.cells #[.bool t0.lo.neg, .slice A3 n3 c3, .int .i64 t0.lo.e, .bool t0.hi.neg, .slice B3 m3 d3, .int .i64 t0.hi.e] 29))
  have K7 : SpC ((w4.alloc (.cells #[.bool t0.lo.neg, .slice A3 n3 c3, .int .i64 t0.lo.e, .bool t0.hi.neg, .slice B3 m3 d3, .int .i64 t0.hi.e] 29)).alloc (.cells #[.bool t0.lo.neg, .slice A3 n3 c3, .int .i64 t0.lo.e, .bool t0.hi.neg, .slice B3 m3 d3, .int .i64 t0.hi.e] 29)) w4.heap.size t0 A3 n3 c3 B3 m3 d3 := (SpC.made N1 N2).below (alloc_bel _ _)
  have K8 : SpC ((w4.alloc (.cells #[.bool t0.lo.neg, .slice A3 n3 c3, .int .i64 t0.lo.e, .bool t0.hi.neg, .slice B3 m3 d3, .int .i64 t0.hi.e] 29)).alloc (.cells #[.bool t0.lo.neg, .slice A3 n3 c3, .int .i64 t0.lo.e, .bool t0.hi.neg, .slice B3 m3 d3, .int .i64 t0.hi.e] 29)) (w4.heap.size + 1) ⟨sq.bad, t0.lo, t0.hi⟩ A3 n3 c3 B3 m3 d3 := by
    have h := SpC.made (r := ⟨sq.bad, t0.lo, t0.hi⟩) (num_al N1 (.cells #[.bool t0.lo.neg, .slice A3 n3 c3, .int .i64 t0.lo.e, .bool t0.hi.neg, .slice B3 m3 d3, .int .i64 t0.hi.e] 29)) (num_al N2 (.cells #[.bool t0.lo.neg, .slice A3 n3 c3, .int .i64 t0.lo.e, .bool t0.hi.neg, .slice B3 m3 d3, .int .i64 t0.hi.e] 29))
    rw [show (w4.alloc (.cells #[.bool t0.lo.neg, .slice A3 n3 c3, .int .i64 t0.lo.e, .bool t0.hi.neg, .slice B3 m3 d3, .int .i64 t0.hi.e] 29)).heap.size = w4.heap.size + 1 by simp] at h
    exact h
  have S5 : St 41 w g p t0.bad _ [(29, w.heap.size, zs)] [] := ⟨S3.hg, S3.O, S3.W, S3.ks, trivial⟩
  have S5 := S5.below b5
  clear S2 S3 W4 o4 X3 N1 N2 b5
  go_wp2_with fail
  refine (X4.out _ S5.O S5.W).mono ?_
  generalize (w4.alloc (.cells #[.bool t0.lo.neg, .slice A3 n3 c3, .int .i64 t0.lo.e, .bool t0.hi.neg, .slice B3 m3 d3, .int .i64 t0.hi.e] 29)).alloc (.cells #[.bool t0.lo.neg, .slice A3 n3 c3, .int .i64 t0.lo.e, .bool t0.hi.neg, .slice B3 m3 d3, .int .i64 t0.hi.e] 29) = w5 at *
  rintro e' w6 ⟨A6, n6, c6, B6, m6, d6, rfl, N1, N2, W6, o6⟩
  have S6 := S5.only o6 W6
  have K7 := K7.only S5.W o6 (by omega)
  have K8 := K8.only S5.W o6 (by omega)
  have K9 : SpC (w6.alloc (.cells #[.bool sq.lo.neg, .slice A6 n6 c6, .int .i64 sq.lo.e, .bool sq.hi.neg, .slice B6 m6 d6, .int .i64 sq.hi.e] 29)) w6.heap.size sq A6 n6 c6 B6 m6 d6 := SpC.made N1 N2
  have l8 := K8.1.2
  have V0 : IV w (w6.alloc (.cells #[.bool sq.lo.neg, .slice A6 n6 c6, .int .i64 sq.lo.e, .bool sq.hi.neg, .slice B6 m6 d6, .int .i64 sq.hi.e] 29)) g p sq.bad w4.heap.size (w4.heap.size + 1) w6.heap.size t0 ⟨sq.bad, t0.lo, t0.hi⟩ sq := ⟨S6.below (alloc_bel _ _), ⟨_, _, _, _, _, _, K7.below (alloc_bel _ _)⟩, ⟨_, _, _, _, _, _, K8.below (alloc_bel _ _)⟩, ⟨_, _, _, _, _, _, K9⟩, by omega, by omega, by omega, by omega, by omega, by omega⟩
  clear S5 S6 K7 K8 K9 N1 N2 W6 o6 X4
  obtain ⟨g7, hg7⟩ : ∃ x, x = w4.heap.size := ⟨_, rfl⟩
  obtain ⟨g9, hg9⟩ : ∃ x, x = w6.heap.size := ⟨_, rfl⟩
  go_wp2_with fail
  generalize w6.alloc (.cells #[.bool sq.lo.neg, .slice A6 n6 c6, .int .i64 sq.lo.e, .bool sq.hi.neg, .slice B6 m6 d6, .int .i64 sq.hi.e] 29) = w7 at *
  go_loopw [10] (fun s10 wr => ∃ j : Nat, j ≤ K ∧ s10 = .int .i64 ((j : Int) + 1) ∧ SGood (invIt p sq minus ⟨t0, ⟨sq.bad, t0.lo, t0.hi⟩⟩ j).t ∧ SGood (invIt p sq minus ⟨t0, ⟨sq.bad, t0.lo, t0.hi⟩⟩ j).s ∧ IV w wr g p (invIt p sq minus ⟨t0, ⟨sq.bad, t0.lo, t0.hi⟩⟩ j).s.bad w4.heap.size (w4.heap.size + 1) w6.heap.size (invIt p sq minus ⟨t0, ⟨sq.bad, t0.lo, t0.hi⟩⟩ j).t (invIt p sq minus ⟨t0, ⟨sq.bad, t0.lo, t0.hi⟩⟩ j).s sq) (fun s10 _ => K + 1 - (intOf s10).toNat)
  case atStart => exact ⟨0, Nat.zero_le _, rfl, GT, ⟨GT.l1, GT.l2, GT.h1, GT.h2⟩, V0⟩
  case round =>
    clear V0
    obtain ⟨j, hj, rfl, GTj, GSj, V⟩ := hrel
    have HJ : Hid (invIt p sq minus ⟨t0, ⟨sq.bad, t0.lo, t0.hi⟩⟩ (j + 1) = invStep p sq minus (j + 1) (invIt p sq minus ⟨t0, ⟨sq.bad, t0.lo, t0.hi⟩⟩ j)) := Lib.hid rfl
    have HE : Hid (j = K → inverseR p bad n minus K = addS p (aroundR p (invIt p sq minus ⟨t0, ⟨sq.bad, t0.lo, t0.hi⟩⟩ j).s.bad (sizeI (invIt p sq minus ⟨t0, ⟨sq.bad, t0.lo, t0.hi⟩⟩ j).t.lo (invIt p sq minus ⟨t0, ⟨sq.bad, t0.lo, t0.hi⟩⟩ j).t.hi + 1)).bad (invIt p sq minus ⟨t0, ⟨sq.bad, t0.lo, t0.hi⟩⟩ j).s.lo (invIt p sq minus ⟨t0, ⟨sq.bad, t0.lo, t0.hi⟩⟩ j).s.hi (aroundR p (invIt p sq minus ⟨t0, ⟨sq.bad, t0.lo, t0.hi⟩⟩ j).s.bad (sizeI (invIt p sq minus ⟨t0, ⟨sq.bad, t0.lo, t0.hi⟩⟩ j).t.lo (invIt p sq minus ⟨t0, ⟨sq.bad, t0.lo, t0.hi⟩⟩ j).t.hi + 1)).lo (aroundR p (invIt p sq minus ⟨t0, ⟨sq.bad, t0.lo, t0.hi⟩⟩ j).s.bad (sizeI (invIt p sq minus ⟨t0, ⟨sq.bad, t0.lo, t0.hi⟩⟩ j).t.lo (invIt p sq minus ⟨t0, ⟨sq.bad, t0.lo, t0.hi⟩⟩ j).t.hi + 1)).hi) := Lib.hid (fun h => by rw [h]; unfold inverseR; rw [HIT.out])
    have HGO : Hid ((j < K → invGo p (invIt p sq minus ⟨t0, ⟨sq.bad, t0.lo, t0.hi⟩⟩ j) = true) ∧ (j = K → invGo p (invIt p sq minus ⟨t0, ⟨sq.bad, t0.lo, t0.hi⟩⟩ j) = false)) := Lib.hid ⟨fun h => HLT.out j h, fun h => by rw [h]; exact HKK.out⟩
    clear HIT HKK HLT
    generalize invIt p sq minus ⟨t0, ⟨sq.bad, t0.lo, t0.hi⟩⟩ j = v at *
    obtain ⟨A7, n7, c7, B7, m7, d7, k7, u1, u2⟩ := V.k7
    have SZ : Hid (∀ w', Below wr.heap.size wr w' → Calls Tryz.prog 56 #[spv v.t.lo.neg A7 n7 c7 v.t.lo.e v.t.hi.neg B7 m7 d7 v.t.hi.e] w' (IP w' (sizeI v.t.lo v.t.hi))) := Lib.hid (fun w' b => size_any w' (DIn.of_num (u1.below b) GTj.l2 GTj.l1) (DIn.of_num (u2.below b) GTj.h2 GTj.h1) GTj.l1 GTj.h1)
    have SZ2 : Hid (∀ w', SpC w' w4.heap.size v.t A7 n7 c7 B7 m7 d7 → Calls Tryz.prog 56 #[spv v.t.lo.neg A7 n7 c7 v.t.lo.e v.t.hi.neg B7 m7 d7 v.t.hi.e] w' (IP w' (sizeI v.t.lo v.t.hi))) := Lib.hid (fun w' k => size_any w' (DIn.of_num k.2.1 GTj.l2 GTj.l1) (DIn.of_num k.2.2 GTj.h2 GTj.h1) GTj.l1 GTj.h1)
    have HC5 : Hid (∀ w' t s, IV w w' g p v.s.bad w4.heap.size (w4.heap.size + 1) w6.heap.size t s sq → KC 29 w' w4.heap.size #[.bool v.t.lo.neg, .slice A7 n7 c7, .int .i64 v.t.lo.e, .bool v.t.hi.neg, .slice B7 m7 d7, .int .i64 v.t.hi.e] → w'.cell? ⟨w4.heap.size, 0, none⟩ = some (.bool v.t.lo.neg) ∧ w'.cell? ⟨w4.heap.size, 1, none⟩ = some (.slice A7 n7 c7) ∧ w'.cell? ⟨w4.heap.size, 2, none⟩ = some (.int .i64 v.t.lo.e) ∧ w'.cell? ⟨w4.heap.size, 3, none⟩ = some (.bool v.t.hi.neg) ∧ w'.cell? ⟨w4.heap.size, 4, none⟩ = some (.slice B7 m7 d7) ∧ w'.cell? ⟨w4.heap.size, 5, none⟩ = some (.int .i64 v.t.hi.e) ∧ w'.cell? ⟨g, 0, none⟩ = some (.int .i64 p) ∧ w'.cell? ⟨g, 1, none⟩ = some (.bool v.s.bad)) := Lib.hid (fun w' t s h k => ⟨k.at_ 0 _ rfl, k.at_ 1 _ rfl, k.at_ 2 _ rfl, k.at_ 3 _ rfl, k.at_ 4 _ rfl, k.at_ 5 _ rfl, h.S.wc.1, h.S.wc.2⟩)
    have hzb := sizeI_b (plainR_of GTj.l2) (plainR_of GTj.h2)
    have HGG : Hid (invGo p v = (decide (-p - 4 < sizeI v.t.lo v.t.hi) && !v.s.bad)) := Lib.hid rfl
    obtain ⟨z, hz⟩ : ∃ z, z = sizeI v.t.lo v.t.hi := ⟨_, rfl⟩
    rw [← hz] at SZ SZ2 hzb HE HGG
    clear hz
    have VD := V.drew
    have KD := k7.drew
    have XS := HC5.out _ _ _ VD KD
    have HV := Lib.hid VD
    have HKD := Lib.hid KD
    have hwp : IntKind.i64.wrap (-p) = -p := wrap_id (by omega) (by omega)
    have hwq : IntKind.i64.wrap (-p - 4) = -p - 4 := wrap_id (by omega) (by omega)
    have HUN := Lib.hid (⟨u1.below (Below.refl _ wr).drew, u2.below (Below.refl _ wr).drew⟩ : Num wr.drew (.slice A7 n7 c7) v.t.lo.m ∧ Num wr.drew (.slice B7 m7 d7) v.t.hi.m)
    clear V k7 u1 u2 VD KD
    obtain ⟨b, hb⟩ : ∃ b, b = v.s.bad := ⟨_, rfl⟩
    by_cases hgo : -p - 4 < z ∧ b = false
    · obtain ⟨hs, rfl⟩ := hgo
      have hs' : decide (-p - 4 < z) = true := decide_eq_true hs
      have HGT : Hid (invGo p v = true) := Lib.hid (by rw [HGG.out, hs', ← hb]; rfl)
      rw [← hb] at XS HC5 HV
      have HB := Lib.hid hb
      clear hb
      go_upto_region 5 with fail
      go_region_held3 (fun w' => w'.cell? ⟨w4.heap.size, 0, none⟩ = some (.bool v.t.lo.neg) ∧ w'.cell? ⟨w4.heap.size, 1, none⟩ = some (.slice A7 n7 c7) ∧ w'.cell? ⟨w4.heap.size, 2, none⟩ = some (.int .i64 v.t.lo.e) ∧ w'.cell? ⟨w4.heap.size, 3, none⟩ = some (.bool v.t.hi.neg) ∧ w'.cell? ⟨w4.heap.size, 4, none⟩ = some (.slice B7 m7 d7) ∧ w'.cell? ⟨w4.heap.size, 5, none⟩ = some (.int .i64 v.t.hi.e) ∧ w'.cell? ⟨g, 0, none⟩ = some (.int .i64 p) ∧ w'.cell? ⟨g, 1, none⟩ = some (.bool false))
        (first | with_reducible exact HC5.out _ _ _ V1 K1 | with_reducible exact XS)
        (first | (go_at_call 56; refine (SZ.out wr.drew (Below.refl _ wr).drew).mono ?_; rintro e' v1 ⟨rfl, b1⟩; have V1 := HV.out.below b1; have K1 := HKD.out.adv b1; have U1 := HUN.out.1.below b1; have U2 := HUN.out.2.below b1) | fail)
      clear XS HC5 HUN HKD HV hs hs' HGG SZ
      obtain ⟨A9, n9, c9, B9, m9, d9, K9, y1, y2⟩ := V1.k9
      obtain ⟨t', ht'⟩ : ∃ r, r = invTerm p sq v := ⟨_, rfl⟩
      have GT' : SGood t' := by rw [ht']; exact sgood_divR
      have X5 : Hid (Calls Tryz.prog 18 #[.pointer (some ⟨g, 0, none⟩), spv v.t.lo.neg A7 n7 c7 v.t.lo.e v.t.hi.neg B7 m7 d7 v.t.hi.e, spv sq.lo.neg A9 n9 c9 sq.lo.e sq.hi.neg B9 m9 d9 sq.hi.e] v1 (SPost 41 v1 g p t')) := Lib.hid (by
        rw [ht']
        unfold invTerm
        rw [← HB.out]
        exact RCC.out.div v1 false v.t sq A7 n7 c7 B7 m7 d7 A9 n9 c9 B9 m9 d9 V1.S.O V1.S.W GTj GQ U1 U2 y1 y2)
      have z7c0 := K1.at_ 0 _ rfl
      have z7c1 := K1.at_ 1 _ rfl
      have z7c2 := K1.at_ 2 _ rfl
      have z7c3 := K1.at_ 3 _ rfl
      have z7c4 := K1.at_ 4 _ rfl
      have z7c5 := K1.at_ 5 _ rfl
      have z7l := K1.2
      have z9c0 := K9.at_ 0 _ rfl
      have z9c1 := K9.at_ 1 _ rfl
      have z9c2 := K9.at_ 2 _ rfl
      have z9c3 := K9.at_ 3 _ rfl
      have z9c4 := K9.at_ 4 _ rfl
      have z9c5 := K9.at_ 5 _ rfl
      have z9l := K9.2
      have HT' := Lib.hid ht'
      clear U1 U2 y1 y2 K9 ht'
      go_wp2_with fail
      refine X5.out.mono ?_
      rintro e' v2 ⟨A10, n10, c10, B10, m10, d10, rfl, N1, N2, W2, o2⟩
      have V2 := V1.only o2 W2
      have KB := K1.only o2 (show w4.heap.size ≠ g by omega)
      clear X5 V1 K1 W2 o2 z7c0 z7c1 z7c2 z7c3 z7c4 z7c5 z7l z9c0 z9c1 z9c2 z9c3 z9c4 z9c5 z9l
      have z7c0 := KB.at_ 0 _ rfl
      have z7c1 := KB.at_ 1 _ rfl
      have z7c2 := KB.at_ 2 _ rfl
      have z7c3 := KB.at_ 3 _ rfl
      have z7c4 := KB.at_ 4 _ rfl
      have z7c5 := KB.at_ 5 _ rfl
      have z7f0 := KB.fr 0
      have z7f1 := KB.fr 1
      have z7f2 := KB.fr 2
      have z7f3 := KB.fr 3
      have z7f4 := KB.fr 4
      have z7f5 := KB.fr 5
      have z7l := KB.2
      go_upto_region 8 with fail
      have V3 := V2.put7 N1 N2
      have K7 : SpC ((((((v2.setCell ⟨w4.heap.size, 0, none⟩ (.bool t'.lo.neg)).setCell ⟨w4.heap.size, 1, none⟩ (.slice A10 n10 c10)).setCell ⟨w4.heap.size, 2, none⟩ (.int .i64 t'.lo.e)).setCell ⟨w4.heap.size, 3, none⟩ (.bool t'.hi.neg)).setCell ⟨w4.heap.size, 4, none⟩ (.slice B10 m10 d10)).setCell ⟨w4.heap.size, 5, none⟩ (.int .i64 t'.hi.e)) w4.heap.size t' A10 n10 c10 B10 m10 d10 := SpC.new KB N1 N2
      have V3 : IV w ((((((v2.setCell ⟨w4.heap.size, 0, none⟩ (.bool t'.lo.neg)).setCell ⟨w4.heap.size, 1, none⟩ (.slice A10 n10 c10)).setCell ⟨w4.heap.size, 2, none⟩ (.int .i64 t'.lo.e)).setCell ⟨w4.heap.size, 3, none⟩ (.bool t'.hi.neg)).setCell ⟨w4.heap.size, 4, none⟩ (.slice B10 m10 d10)).setCell ⟨w4.heap.size, 5, none⟩ (.int .i64 t'.hi.e)) g p t'.bad w4.heap.size (w4.heap.size + 1) w6.heap.size t' v.s sq := V3
      clear V2 KB N1 N2 z7c0 z7c1 z7c2 z7c3 z7c4 z7c5 z7f0 z7f1 z7f2 z7f3 z7f4 z7f5 z7l
      generalize ((((((v2.setCell ⟨w4.heap.size, 0, none⟩ (.bool t'.lo.neg)).setCell ⟨w4.heap.size, 1, none⟩ (.slice A10 n10 c10)).setCell ⟨w4.heap.size, 2, none⟩ (.int .i64 t'.lo.e)).setCell ⟨w4.heap.size, 3, none⟩ (.bool t'.hi.neg)).setCell ⟨w4.heap.size, 4, none⟩ (.slice B10 m10 d10)).setCell ⟨w4.heap.size, 5, none⟩ (.int .i64 t'.hi.e)) = w8 at *
      obtain ⟨dd, hdd⟩ : ∃ r, r = numS p t'.bad (2 * ((j : Int) + 1) + 1) := ⟨_, rfl⟩
      obtain ⟨q, hq⟩ : ∃ r, r = divR p dd.bad t'.lo t'.hi dd.lo dd.hi := ⟨_, rfl⟩
      have GD : SGood dd := by rw [hdd]; exact sgood_num (by omega) (by omega)
      have GQ' : SGood q := by rw [hq]; exact sgood_divR
      have HQ : Hid (invPart p sq (j + 1) v = q) := Lib.hid (by unfold invPart; rw [← HT'.out, show (2 * ((j + 1 : Nat) : Int) + 1) = 2 * ((j : Int) + 1) + 1 by omega, ← hdd, ← hq])
      have Y1 : Hid (∀ w' z, z = 2 * ((j : Int) + 1) + 1 → IV w w' g p t'.bad w4.heap.size (w4.heap.size + 1) w6.heap.size t' v.s sq → Calls Tryz.prog 19 #[.pointer (some ⟨g, 0, none⟩), .int .i64 z] w' (SPost 41 w' g p dd)) := Lib.hid (fun w' z hz h => by rw [hdd, hz]; exact RCC.out.num w' t'.bad _ h.S.O h.S.W (by omega) (by omega))
      have Y2 : Hid (∀ w' A' n' c' B' m' d', IV w w' g p dd.bad w4.heap.size (w4.heap.size + 1) w6.heap.size t' v.s sq → SpC w' w4.heap.size t' A10 n10 c10 B10 m10 d10 → Num w' (.slice A' n' c') dd.lo.m → Num w' (.slice B' m' d') dd.hi.m → Calls Tryz.prog 18 #[.pointer (some ⟨g, 0, none⟩), spv t'.lo.neg A10 n10 c10 t'.lo.e t'.hi.neg B10 m10 d10 t'.hi.e, spv dd.lo.neg A' n' c' dd.lo.e dd.hi.neg B' m' d' dd.hi.e] w' (SPost 41 w' g p q)) := Lib.hid (fun w' A' n' c' B' m' d' h k h1 h2 => by rw [hq]; exact RCC.out.div w' dd.bad t' dd A10 n10 c10 B10 m10 d10 _ _ _ _ _ _ h.S.O h.S.W GT' GD k.2.1 k.2.2 h1 h2)
      have HC : Hid (∀ w', SpC w' w4.heap.size t' A10 n10 c10 B10 m10 d10 → w'.cell? ⟨w4.heap.size, 0, none⟩ = some (.bool t'.lo.neg) ∧ w'.cell? ⟨w4.heap.size, 1, none⟩ = some (.slice A10 n10 c10) ∧ w'.cell? ⟨w4.heap.size, 2, none⟩ = some (.int .i64 t'.lo.e) ∧ w'.cell? ⟨w4.heap.size, 3, none⟩ = some (.bool t'.hi.neg) ∧ w'.cell? ⟨w4.heap.size, 4, none⟩ = some (.slice B10 m10 d10) ∧ w'.cell? ⟨w4.heap.size, 5, none⟩ = some (.int .i64 t'.hi.e)) := Lib.hid (fun w' h => ⟨h.1.at_ 0 _ rfl, h.1.at_ 1 _ rfl, h.1.at_ 2 _ rfl, h.1.at_ 3 _ rfl, h.1.at_ 4 _ rfl, h.1.at_ 5 _ rfl⟩)
      have HPT : Hid (∀ w' a, SpC w' w4.heap.size t' A10 n10 c10 B10 m10 d10 → a ≠ w4.heap.size → ∀ x y z x' y' z', (put6 w' a x y z x' y' z').cell? ⟨w4.heap.size, 0, none⟩ = some (.bool t'.lo.neg) ∧ (put6 w' a x y z x' y' z').cell? ⟨w4.heap.size, 1, none⟩ = some (.slice A10 n10 c10) ∧ (put6 w' a x y z x' y' z').cell? ⟨w4.heap.size, 2, none⟩ = some (.int .i64 t'.lo.e) ∧ (put6 w' a x y z x' y' z').cell? ⟨w4.heap.size, 3, none⟩ = some (.bool t'.hi.neg) ∧ (put6 w' a x y z x' y' z').cell? ⟨w4.heap.size, 4, none⟩ = some (.slice B10 m10 d10) ∧ (put6 w' a x y z x' y' z').cell? ⟨w4.heap.size, 5, none⟩ = some (.int .i64 t'.hi.e)) := Lib.hid (fun w' a h hne x y z x' y' z' => ⟨(h.1.only (only_put6 w' a x y z x' y' z') (Ne.symm hne)).at_ 0 _ rfl, (h.1.only (only_put6 w' a x y z x' y' z') (Ne.symm hne)).at_ 1 _ rfl, (h.1.only (only_put6 w' a x y z x' y' z') (Ne.symm hne)).at_ 2 _ rfl, (h.1.only (only_put6 w' a x y z x' y' z') (Ne.symm hne)).at_ 3 _ rfl, (h.1.only (only_put6 w' a x y z x' y' z') (Ne.symm hne)).at_ 4 _ rfl, (h.1.only (only_put6 w' a x y z x' y' z') (Ne.symm hne)).at_ 5 _ rfl⟩)
      have HAL : Hid (∀ w' o, SpC w' w4.heap.size t' A10 n10 c10 B10 m10 d10 → (w'.alloc o).cell? ⟨w4.heap.size, 0, none⟩ = some (.bool t'.lo.neg) ∧ (w'.alloc o).cell? ⟨w4.heap.size, 1, none⟩ = some (.slice A10 n10 c10) ∧ (w'.alloc o).cell? ⟨w4.heap.size, 2, none⟩ = some (.int .i64 t'.lo.e) ∧ (w'.alloc o).cell? ⟨w4.heap.size, 3, none⟩ = some (.bool t'.hi.neg) ∧ (w'.alloc o).cell? ⟨w4.heap.size, 4, none⟩ = some (.slice B10 m10 d10) ∧ (w'.alloc o).cell? ⟨w4.heap.size, 5, none⟩ = some (.int .i64 t'.hi.e)) := Lib.hid (fun w' o h => HC.out _ (h.below (alloc_bel w' o)))
      have hwa : IntKind.i64.wrap (2 * ((j : Int) + 1)) = 2 * ((j : Int) + 1) := wrap_id (by omega) (by omega)
      have hwb : IntKind.i64.wrap (2 * ((j : Int) + 1) + 1) = 2 * ((j : Int) + 1) + 1 := wrap_id (by omega) (by omega)
      clear hdd hq GD
      go_cut [11] (fun s11 wx => PP w g p w4.heap.size (w4.heap.size + 1) w6.heap.size t' v.s sq q s11 wx)
      case first =>
        have VD := V3.drew
        have VA := (V3.below (alloc_bel w8 (.cells zs 29))).drew
        have KD := K7.below (Below.refl _ w8).drew
        have KA := (K7.below (alloc_bel w8 (.cells zs 29))).below (Below.refl _ (w8.alloc (.cells zs 29))).drew
        have YA := (KC.made 29 w8 zs).drew
        have l4 := V3.k7.lt
        have l5 := V3.k8.lt
        have l6 := V3.k9.lt
        have XS := HC.out _ KD
        have XA := HC.out _ KA
        clear V3 K7
        go_region_held3 (fun w' => w'.cell? ⟨w4.heap.size, 0, none⟩ = some (.bool t'.lo.neg) ∧ w'.cell? ⟨w4.heap.size, 1, none⟩ = some (.slice A10 n10 c10) ∧ w'.cell? ⟨w4.heap.size, 2, none⟩ = some (.int .i64 t'.lo.e) ∧ w'.cell? ⟨w4.heap.size, 3, none⟩ = some (.bool t'.hi.neg) ∧ w'.cell? ⟨w4.heap.size, 4, none⟩ = some (.slice B10 m10 d10) ∧ w'.cell? ⟨w4.heap.size, 5, none⟩ = some (.int .i64 t'.hi.e))
          (first | with_reducible exact HPT.out _ _ KY (by omega) _ _ _ _ _ _ | with_reducible exact HC.out _ KY | with_reducible exact HC.out _ KX | with_reducible exact XS | with_reducible exact XA | with_reducible exact HAL.out _ _ KY | with_reducible exact HAL.out _ _ KX)
          (first
            | (go_at_call 19; refine (Y1.out _ _ (by first | with_reducible rfl | omega) (by first | with_reducible exact VD | with_reducible exact VA)).mono ?_; rintro e' v3 ⟨A11, n11, c11, B11, m11, d11, rfl, N1, N2, W3, o3⟩; first | (have ox : Only w8.drew v3 g := (by with_reducible exact o3); have VX := VD.only ox W3; have KX := KD.only VD.S.W ox (show w4.heap.size ≠ g by omega)) | (have ox : Only (w8.alloc (.cells zs 29)).drew v3 g := (by with_reducible exact o3); have VX := VA.only ox W3; have KX := KA.only VA.S.W ox (show w4.heap.size ≠ g by omega); have ya := YA.only ox (by omega)))
            | (go_at_call 18; refine (Y2.out _ _ _ _ _ _ _ (by first | with_reducible exact VX | with_reducible exact VX.below (alloc_bel _ _)) (by first | with_reducible exact KX | with_reducible exact KX.below (alloc_bel _ _)) (by first | with_reducible exact N1 | with_reducible exact num_al N1 _) (by first | with_reducible exact N2 | with_reducible exact num_al N2 _)).mono ?_; rintro e' v4 ⟨A12, n12, c12, B12, m12, d12, rfl, N3, N4, W4, o4⟩; first | (have ox : Only v3 v4 g := (by with_reducible exact o4); have VY := VX.only ox W4; have KY := KX.only VX.S.W ox (show w4.heap.size ≠ g by omega); first | (have z1 := ya.only ox (by omega); have z1c0 := z1.at_ 0 _ rfl; have z1c1 := z1.at_ 1 _ rfl; have z1c2 := z1.at_ 2 _ rfl; have z1c3 := z1.at_ 3 _ rfl; have z1c4 := z1.at_ 4 _ rfl; have z1c5 := z1.at_ 5 _ rfl; have z1f0 := z1.fr 0; have z1f1 := z1.fr 1; have z1f2 := z1.fr 2; have z1f3 := z1.fr 3; have z1f4 := z1.fr 4; have z1f5 := z1.fr 5; have z1l := z1.2; have z1n := Nat.ne_of_lt z1.2; have z1n2 := Nat.ne_of_gt z1.2) | skip) | (have ox : Only (v3.alloc (.cells zs 29)) v4 g := (by with_reducible exact o4); have VY := (VX.below (alloc_bel v3 (.cells zs 29))).only ox W4; have KY := (KX.below (alloc_bel v3 (.cells zs 29))).only (VX.S.W.below (alloc_bel v3 (.cells zs 29))) ox (show w4.heap.size ≠ g by omega); have lx := VX.k7.lt; have ly := VX.k8.lt; have lz := VX.k9.lt; have z1 := (KC.made 29 v3 zs).only ox (by omega); have z1c0 := z1.at_ 0 _ rfl; have z1c1 := z1.at_ 1 _ rfl; have z1c2 := z1.at_ 2 _ rfl; have z1c3 := z1.at_ 3 _ rfl; have z1c4 := z1.at_ 4 _ rfl; have z1c5 := z1.at_ 5 _ rfl; have z1f0 := z1.fr 0; have z1f1 := z1.fr 1; have z1f2 := z1.fr 2; have z1f3 := z1.fr 3; have z1f4 := z1.fr 4; have z1f5 := z1.fr 5; have z1l := z1.2; have z1n := Nat.ne_of_lt z1.2; have z1n2 := Nat.ne_of_gt z1.2)))
        all_goals (
          go_wp2_with fail
          go_meet
          first
            | ((with_reducible refine end_vp VY N3 N4 z1 ?_ ?_ ?_ ?_) <;> omega)
            | with_reducible exact end_va VY N3 N4)
      case rest =>
        obtain ⟨g11, rfl, h11, n7, n8, n9, k11, V⟩ := hcut
        have hjK : j < K := by
          rcases Nat.lt_or_ge j K with h | h
          · exact h
          · have h1 := HGO.out.2 (by omega)
            rw [HGT.out] at h1
            cases h1
        clear V3 K7 Y1 Y2 HC HPT HAL hwa hwb HGO HGT HE
        obtain ⟨r, hr⟩ : ∃ r : Nat, r = (j + 1) % 2 := ⟨_, rfl⟩
        have ht1 : Int.tmod ((j : Int) + 1) 2 = (r : Int) := by rw [hr]; exact (Int.ofNat_tmod (j + 1) 2).symm
        have ht2 : ((j : Int) + 1) % 2 = (r : Int) := by omega
        have hr2 : r = 0 ∨ r = 1 := by omega
        have HTU : Hid (invTurn p sq minus (j + 1) v = if minus && decide (r = 1) then negS p q.bad q.lo q.hi else q) := Lib.hid (by unfold invTurn; rw [HQ.out, hr])
        clear hr
        have hcase : (minus = true ∧ r = 1 ∧ sign < 0) ∨ ((minus && decide (r = 1)) = false ∧ (¬ sign < 0 ∨ (sign < 0 ∧ r = 0))) := by
          rw [hsg]
          by_cases h : sign < 0
          · rcases hr2 with rfl | rfl <;> simp [h]
          · simp [h]
        clear hr2
        rcases hcase with ⟨hm1, rfl, hs3⟩ | ⟨hmf, hcase⟩
        · have hs4 : decide (sign < 0) = true := decide_eq_true hs3
          obtain ⟨tn, htn⟩ : ∃ r, r = invTurn p sq minus (j + 1) v := ⟨_, rfl⟩
          have htq : tn = negS p q.bad q.lo q.hi := by rw [htn, HTU.out, hm1]; rfl
          obtain ⟨A12, n12, c12, B12, m12, d12, K12⟩ := k11
          have X7 : Hid (Calls Tryz.prog 57 #[.pointer (some ⟨g, 0, none⟩), spv q.lo.neg A12 n12 c12 q.lo.e q.hi.neg B12 m12 d12 q.hi.e] wc (SPost 41 wc g p tn)) := Lib.hid (by
            rw [htq]
            exact RCC.out.neg wc q.bad q A12 n12 c12 B12 m12 d12 V.S.O V.S.W GQ' K12.2.1 K12.2.2)
          have HTN := Lib.hid htn
          have hgl := V.S.hg
          have z11c0 := K12.1.at_ 0 _ rfl; have z11c1 := K12.1.at_ 1 _ rfl; have z11c2 := K12.1.at_ 2 _ rfl; have z11c3 := K12.1.at_ 3 _ rfl; have z11c4 := K12.1.at_ 4 _ rfl; have z11c5 := K12.1.at_ 5 _ rfl; have z11l := K12.1.2
          clear htn htq hm1
          go_wp2_with fail
          refine X7.out.mono ?_
          rintro e' wx ⟨A13, n13, c13, B13, m13, d13, rfl, N1, N2, Wx, ox⟩
          have VX := V.only ox Wx
          have KB := K12.1.only ox (show g11 ≠ g by omega)
          clear X7 V K12 Wx ox z11c0 z11c1 z11c2 z11c3 z11c4 z11c5 z11l
          have z11c0 := KB.at_ 0 _ rfl; have z11c1 := KB.at_ 1 _ rfl; have z11c2 := KB.at_ 2 _ rfl; have z11c3 := KB.at_ 3 _ rfl; have z11c4 := KB.at_ 4 _ rfl; have z11c5 := KB.at_ 5 _ rfl; have z11f0 := KB.fr 0; have z11f1 := KB.fr 1; have z11f2 := KB.fr 2; have z11f3 := KB.fr 3; have z11f4 := KB.fr 4; have z11f5 := KB.fr 5; have z11l := KB.2
          go_upto_region 11 with fail
          have K11 : SpC ((((((wx.setCell ⟨g11, 0, none⟩ (.bool tn.lo.neg)).setCell ⟨g11, 1, none⟩ (.slice A13 n13 c13)).setCell ⟨g11, 2, none⟩ (.int .i64 tn.lo.e)).setCell ⟨g11, 3, none⟩ (.bool tn.hi.neg)).setCell ⟨g11, 4, none⟩ (.slice B13 m13 d13)).setCell ⟨g11, 5, none⟩ (.int .i64 tn.hi.e)) g11 tn A13 n13 c13 B13 m13 d13 := SpC.new KB N1 N2
          have V : IV w ((((((wx.setCell ⟨g11, 0, none⟩ (.bool tn.lo.neg)).setCell ⟨g11, 1, none⟩ (.slice A13 n13 c13)).setCell ⟨g11, 2, none⟩ (.int .i64 tn.lo.e)).setCell ⟨g11, 3, none⟩ (.bool tn.hi.neg)).setCell ⟨g11, 4, none⟩ (.slice B13 m13 d13)).setCell ⟨g11, 5, none⟩ (.int .i64 tn.hi.e)) g p tn.bad w4.heap.size (w4.heap.size + 1) w6.heap.size t' v.s sq := VX.put KB h11 n7 n8 n9 _ _ _ _ _ _
          clear VX KB N1 N2 z11c0 z11c1 z11c2 z11c3 z11c4 z11c5 z11f0 z11f1 z11f2 z11f3 z11f4 z11f5 z11l
          generalize ((((((wx.setCell ⟨g11, 0, none⟩ (.bool tn.lo.neg)).setCell ⟨g11, 1, none⟩ (.slice A13 n13 c13)).setCell ⟨g11, 2, none⟩ (.int .i64 tn.lo.e)).setCell ⟨g11, 3, none⟩ (.bool tn.hi.neg)).setCell ⟨g11, 4, none⟩ (.slice B13 m13 d13)).setCell ⟨g11, 5, none⟩ (.int .i64 tn.hi.e)) = wy at *
          have htn := HTN.out
          have GN : SGood tn := by rw [htn]; exact sgood_turn
          obtain ⟨s', hs'⟩ : ∃ r, r = addS p tn.bad v.s.lo v.s.hi tn.lo tn.hi := ⟨_, rfl⟩
          have GS' : SGood s' := by rw [hs']; exact sgood_add
          have EQ : Hid (invIt p sq minus ⟨t0, ⟨sq.bad, t0.lo, t0.hi⟩⟩ (j + 1) = ⟨t', s'⟩) := Lib.hid (by rw [HJ.out]; unfold invStep; rw [← htn, ← hs', ← HT'.out])
          obtain ⟨A14, n14, c14, B14, m14, d14, K14⟩ := V.k8
          have X6 : Hid (Calls Tryz.prog 27 #[.pointer (some ⟨g, 0, none⟩), spv v.s.lo.neg A14 n14 c14 v.s.lo.e v.s.hi.neg B14 m14 d14 v.s.hi.e, spv tn.lo.neg A13 n13 c13 tn.lo.e tn.hi.neg B13 m13 d13 tn.hi.e] wy (SPost 41 wy g p s')) := Lib.hid (by
            rw [hs']
            exact RCC.out.add wy tn.bad v.s tn A14 n14 c14 B14 m14 d14 A13 n13 c13 B13 m13 d13 V.S.O V.S.W GSj GN K14.2.1 K14.2.2 K11.2.1 K11.2.2)
          have z8c0 := K14.1.at_ 0 _ rfl; have z8c1 := K14.1.at_ 1 _ rfl; have z8c2 := K14.1.at_ 2 _ rfl; have z8c3 := K14.1.at_ 3 _ rfl; have z8c4 := K14.1.at_ 4 _ rfl; have z8c5 := K14.1.at_ 5 _ rfl; have z8l := K14.1.2
          have z11c0 := K11.1.at_ 0 _ rfl; have z11c1 := K11.1.at_ 1 _ rfl; have z11c2 := K11.1.at_ 2 _ rfl; have z11c3 := K11.1.at_ 3 _ rfl; have z11c4 := K11.1.at_ 4 _ rfl; have z11c5 := K11.1.at_ 5 _ rfl; have z11l := K11.1.2
          clear hs' htn K11
          go_wp2_with fail
          refine X6.out.mono ?_
          rintro e' wz ⟨A15, n15, c15, B15, m15, d15, rfl, N1, N2, Wz, oz⟩
          have VZ := V.only oz Wz
          have KB := K14.1.only oz (show w4.heap.size + 1 ≠ g by omega)
          clear X6 V K14 Wz oz z8c0 z8c1 z8c2 z8c3 z8c4 z8c5 z8l z11c0 z11c1 z11c2 z11c3 z11c4 z11c5 z11l
          have z8c0 := KB.at_ 0 _ rfl; have z8c1 := KB.at_ 1 _ rfl; have z8c2 := KB.at_ 2 _ rfl; have z8c3 := KB.at_ 3 _ rfl; have z8c4 := KB.at_ 4 _ rfl; have z8c5 := KB.at_ 5 _ rfl; have z8f0 := KB.fr 0; have z8f1 := KB.fr 1; have z8f2 := KB.fr 2; have z8f3 := KB.fr 3; have z8f4 := KB.fr 4; have z8f5 := KB.fr 5; have z8l := KB.2
          have hwc : IntKind.i64.wrap ((j : Int) + 1 + 1) = (j : Int) + 1 + 1 := wrap_id (by omega) (by omega)
          have VW := VZ.put8 (r := s') N1 N2
          clear VZ KB N1 N2
          go_wp2_with fail
          go_roundw
          case rel =>
            refine ⟨j + 1, by omega, by go_num, ?_, ?_, ?_⟩
            · rw [EQ.out]; exact GT'
            · rw [EQ.out]; exact GS'
            · rw [EQ.out]; exact VW
          case measure => simp [intOf]; omega
        · obtain ⟨A13, n13, c13, B13, m13, d13, K11⟩ := k11
          obtain ⟨tn, htn⟩ : ∃ r, r = invTurn p sq minus (j + 1) v := ⟨_, rfl⟩
          have htq : q = tn := by rw [htn, HTU.out, hmf]; rfl
          rw [htq] at V K11
          clear htq hmf
          generalize wc = wy at *
          have hgl := V.S.hg
          rcases hcase with hs3 | ⟨hs3, rfl⟩
          · have hs4 : decide (sign < 0) = false := decide_eq_false hs3
            have GN : SGood tn := by rw [htn]; exact sgood_turn
            obtain ⟨s', hs'⟩ : ∃ r, r = addS p tn.bad v.s.lo v.s.hi tn.lo tn.hi := ⟨_, rfl⟩
            have GS' : SGood s' := by rw [hs']; exact sgood_add
            have EQ : Hid (invIt p sq minus ⟨t0, ⟨sq.bad, t0.lo, t0.hi⟩⟩ (j + 1) = ⟨t', s'⟩) := Lib.hid (by rw [HJ.out]; unfold invStep; rw [← htn, ← hs', ← HT'.out])
            obtain ⟨A14, n14, c14, B14, m14, d14, K14⟩ := V.k8
            have X6 : Hid (Calls Tryz.prog 27 #[.pointer (some ⟨g, 0, none⟩), spv v.s.lo.neg A14 n14 c14 v.s.lo.e v.s.hi.neg B14 m14 d14 v.s.hi.e, spv tn.lo.neg A13 n13 c13 tn.lo.e tn.hi.neg B13 m13 d13 tn.hi.e] wy (SPost 41 wy g p s')) := Lib.hid (by
              rw [hs']
              exact RCC.out.add wy tn.bad v.s tn A14 n14 c14 B14 m14 d14 A13 n13 c13 B13 m13 d13 V.S.O V.S.W GSj GN K14.2.1 K14.2.2 K11.2.1 K11.2.2)
            have z8c0 := K14.1.at_ 0 _ rfl; have z8c1 := K14.1.at_ 1 _ rfl; have z8c2 := K14.1.at_ 2 _ rfl; have z8c3 := K14.1.at_ 3 _ rfl; have z8c4 := K14.1.at_ 4 _ rfl; have z8c5 := K14.1.at_ 5 _ rfl; have z8l := K14.1.2
            have z11c0 := K11.1.at_ 0 _ rfl; have z11c1 := K11.1.at_ 1 _ rfl; have z11c2 := K11.1.at_ 2 _ rfl; have z11c3 := K11.1.at_ 3 _ rfl; have z11c4 := K11.1.at_ 4 _ rfl; have z11c5 := K11.1.at_ 5 _ rfl; have z11l := K11.1.2
            clear hs' htn K11
            go_wp2_with fail
            refine X6.out.mono ?_
            rintro e' wz ⟨A15, n15, c15, B15, m15, d15, rfl, N1, N2, Wz, oz⟩
            have VZ := V.only oz Wz
            have KB := K14.1.only oz (show w4.heap.size + 1 ≠ g by omega)
            clear X6 V K14 Wz oz z8c0 z8c1 z8c2 z8c3 z8c4 z8c5 z8l z11c0 z11c1 z11c2 z11c3 z11c4 z11c5 z11l
            have z8c0 := KB.at_ 0 _ rfl; have z8c1 := KB.at_ 1 _ rfl; have z8c2 := KB.at_ 2 _ rfl; have z8c3 := KB.at_ 3 _ rfl; have z8c4 := KB.at_ 4 _ rfl; have z8c5 := KB.at_ 5 _ rfl; have z8f0 := KB.fr 0; have z8f1 := KB.fr 1; have z8f2 := KB.fr 2; have z8f3 := KB.fr 3; have z8f4 := KB.fr 4; have z8f5 := KB.fr 5; have z8l := KB.2
            have hwc : IntKind.i64.wrap ((j : Int) + 1 + 1) = (j : Int) + 1 + 1 := wrap_id (by omega) (by omega)
            have VW := VZ.put8 (r := s') N1 N2
            clear VZ KB N1 N2
            go_wp2_with fail
            go_roundw
            case rel =>
              refine ⟨j + 1, by omega, by go_num, ?_, ?_, ?_⟩
              · rw [EQ.out]; exact GT'
              · rw [EQ.out]; exact GS'
              · rw [EQ.out]; exact VW
            case measure => simp [intOf]; omega
          · have hs4 : decide (sign < 0) = true := decide_eq_true hs3
            have GN : SGood tn := by rw [htn]; exact sgood_turn
            obtain ⟨s', hs'⟩ : ∃ r, r = addS p tn.bad v.s.lo v.s.hi tn.lo tn.hi := ⟨_, rfl⟩
            have GS' : SGood s' := by rw [hs']; exact sgood_add
            have EQ : Hid (invIt p sq minus ⟨t0, ⟨sq.bad, t0.lo, t0.hi⟩⟩ (j + 1) = ⟨t', s'⟩) := Lib.hid (by rw [HJ.out]; unfold invStep; rw [← htn, ← hs', ← HT'.out])
            obtain ⟨A14, n14, c14, B14, m14, d14, K14⟩ := V.k8
            have X6 : Hid (Calls Tryz.prog 27 #[.pointer (some ⟨g, 0, none⟩), spv v.s.lo.neg A14 n14 c14 v.s.lo.e v.s.hi.neg B14 m14 d14 v.s.hi.e, spv tn.lo.neg A13 n13 c13 tn.lo.e tn.hi.neg B13 m13 d13 tn.hi.e] wy (SPost 41 wy g p s')) := Lib.hid (by
              rw [hs']
              exact RCC.out.add wy tn.bad v.s tn A14 n14 c14 B14 m14 d14 A13 n13 c13 B13 m13 d13 V.S.O V.S.W GSj GN K14.2.1 K14.2.2 K11.2.1 K11.2.2)
            have z8c0 := K14.1.at_ 0 _ rfl; have z8c1 := K14.1.at_ 1 _ rfl; have z8c2 := K14.1.at_ 2 _ rfl; have z8c3 := K14.1.at_ 3 _ rfl; have z8c4 := K14.1.at_ 4 _ rfl; have z8c5 := K14.1.at_ 5 _ rfl; have z8l := K14.1.2
            have z11c0 := K11.1.at_ 0 _ rfl; have z11c1 := K11.1.at_ 1 _ rfl; have z11c2 := K11.1.at_ 2 _ rfl; have z11c3 := K11.1.at_ 3 _ rfl; have z11c4 := K11.1.at_ 4 _ rfl; have z11c5 := K11.1.at_ 5 _ rfl; have z11l := K11.1.2
            clear hs' htn K11
            go_wp2_with fail
            refine X6.out.mono ?_
            rintro e' wz ⟨A15, n15, c15, B15, m15, d15, rfl, N1, N2, Wz, oz⟩
            have VZ := V.only oz Wz
            have KB := K14.1.only oz (show w4.heap.size + 1 ≠ g by omega)
            clear X6 V K14 Wz oz z8c0 z8c1 z8c2 z8c3 z8c4 z8c5 z8l z11c0 z11c1 z11c2 z11c3 z11c4 z11c5 z11l
            have z8c0 := KB.at_ 0 _ rfl; have z8c1 := KB.at_ 1 _ rfl; have z8c2 := KB.at_ 2 _ rfl; have z8c3 := KB.at_ 3 _ rfl; have z8c4 := KB.at_ 4 _ rfl; have z8c5 := KB.at_ 5 _ rfl; have z8f0 := KB.fr 0; have z8f1 := KB.fr 1; have z8f2 := KB.fr 2; have z8f3 := KB.fr 3; have z8f4 := KB.fr 4; have z8f5 := KB.fr 5; have z8l := KB.2
            have hwc : IntKind.i64.wrap ((j : Int) + 1 + 1) = (j : Int) + 1 + 1 := wrap_id (by omega) (by omega)
            have VW := VZ.put8 (r := s') N1 N2
            clear VZ KB N1 N2
            go_wp2_with fail
            go_roundw
            case rel =>
              refine ⟨j + 1, by omega, by go_num, ?_, ?_, ?_⟩
              · rw [EQ.out]; exact GT'
              · rw [EQ.out]; exact GS'
              · rw [EQ.out]; exact VW
            case measure => simp [intOf]; omega
    · have HGF : invGo p v = false := by
        rw [HGG.out, ← hb]
        by_cases h1 : -p - 4 < z
        · have h2 : b = true := by
            cases b
            · exact absurd ⟨h1, rfl⟩ hgo
            · rfl
          rw [h2]
          simp
        · rw [decide_eq_false h1]
          rfl
      have hjK : j = K := by
        rcases Nat.lt_or_ge j K with h | h
        · have h1 := HGO.out.1 h
          rw [HGF] at h1
          cases h1
        · omega
      obtain ⟨ar, har⟩ : ∃ r, r = aroundR p b (z + 1) := ⟨_, rfl⟩
      obtain ⟨rf, hrf⟩ : ∃ r, r = addS p ar.bad v.s.lo v.s.hi ar.lo ar.hi := ⟨_, rfl⟩
      have GA : SGood ar := by rw [har]; exact sgood_around
      have HF : Hid (inverseR p bad n minus K = rf) := Lib.hid (by rw [HE.out hjK, ← hb, ← har, ← hrf])
      have AR : Hid (∀ w' y, y = z + 1 → IV w w' g p b w4.heap.size (w4.heap.size + 1) w6.heap.size v.t v.s sq → Calls Tryz.prog 58 #[.pointer (some ⟨g, 0, none⟩), .int .i64 y] w' (SPost 41 w' g p ar)) := Lib.hid (fun w' y hy h => by rw [har, hy]; exact around_any (z + 1) g p b w' h.S.W (HTT.out.wk HWW.out h.S.O) hp1 hp2 (by omega) (by omega))
      have AD : Hid (∀ w' A n c B m d A' n' c' B' m' d', IV w w' g p ar.bad w4.heap.size (w4.heap.size + 1) w6.heap.size v.t v.s sq → SpC w' (w4.heap.size + 1) v.s A n c B m d → Num w' (.slice A' n' c') ar.lo.m → Num w' (.slice B' m' d') ar.hi.m → Calls Tryz.prog 27 #[.pointer (some ⟨g, 0, none⟩), spv v.s.lo.neg A n c v.s.lo.e v.s.hi.neg B m d v.s.hi.e, spv ar.lo.neg A' n' c' ar.lo.e ar.hi.neg B' m' d' ar.hi.e] w' (SPost 41 w' g p rf)) := Lib.hid (fun w' _ _ _ _ _ _ _ _ _ _ _ _ h k h1 h2 => by rw [hrf]; exact RCC.out.add w' ar.bad v.s ar _ _ _ _ _ _ _ _ _ _ _ _ h.S.O h.S.W GSj GA k.2.1 k.2.2 h1 h2)
      have hwz : IntKind.i64.wrap (z + 1) = z + 1 := wrap_id (by omega) (by omega)
      have hgl := HV.out.S.hg
      rw [← hb] at XS HC5 HV
      clear hb har hrf GA HGF HGG HGO HE HJ HTT HWW
      have hcase : ¬ (-p - 4 < z) ∨ ((-p - 4 < z) ∧ b = true) := by
        by_cases h1 : -p - 4 < z
        · refine .inr ⟨h1, ?_⟩
          cases b
          · exact absurd ⟨h1, rfl⟩ hgo
          · rfl
        · exact .inl h1
      clear hgo
      rcases hcase with hs | ⟨hs, rfl⟩
      · have hs' : decide (-p - 4 < z) = false := decide_eq_false hs
        go_upto_region 5 with fail
        refine wp_region_held_drew (S := fun w' => w'.cell? ⟨w4.heap.size, 0, none⟩ = some (.bool v.t.lo.neg) ∧ w'.cell? ⟨w4.heap.size, 1, none⟩ = some (.slice A7 n7 c7) ∧ w'.cell? ⟨w4.heap.size, 2, none⟩ = some (.int .i64 v.t.lo.e) ∧ w'.cell? ⟨w4.heap.size, 3, none⟩ = some (.bool v.t.hi.neg) ∧ w'.cell? ⟨w4.heap.size, 4, none⟩ = some (.slice B7 m7 d7) ∧ w'.cell? ⟨w4.heap.size, 5, none⟩ = some (.int .i64 v.t.hi.e) ∧ w'.cell? ⟨g, 0, none⟩ = some (.int .i64 p) ∧ w'.cell? ⟨g, 1, none⟩ = some (.bool b)) (by kernel_rfl) XS (fun hHeld => ?_)
        refine wpAnyH_take (i := 0) (oi := ⟨some 25, _, _, _, _, _⟩) (v := ?_) rfl (by kernel_rfl) (by kernel_rfl) (by kernel_rfl) (fun _ _ _ h => h) (Or.inl ⟨by rfl, ?_⟩) (by assumption) ?_
        rotate_left
        · intro w hSw
          try dsimp only at hSw
          first | (go_simp; done) | (go_simp; with_reducible rfl)
        try simp only [Act.put, List.setIfInBounds_toArray, List.set_cons_zero, List.set_cons_succ]
        refine wpAnyH_take (i := 2) (oi := ⟨some 27, _, _, _, _, _⟩) (v := ?_) rfl (by kernel_rfl) (by kernel_rfl) (by kernel_rfl) (fun _ _ _ h => h) (Or.inl ⟨by rfl, ?_⟩) (by assumption) ?_
        rotate_left
        · intro w hSw
          try dsimp only at hSw
          first | (go_simp; done) | (go_simp; with_reducible rfl)
        try simp only [Act.put, List.setIfInBounds_toArray, List.set_cons_zero, List.set_cons_succ]
        refine wpAnyH_take (i := 3) (oi := ⟨some 28, _, _, _, _, _⟩) (v := ?_) rfl (by kernel_rfl) (by kernel_rfl) (by kernel_rfl) (fun _ _ _ h => h) (Or.inl ⟨by rfl, ?_⟩) (by assumption) ?_
        rotate_left
        · intro w hSw
          try dsimp only at hSw
          first | (go_simp; done) | (go_simp; with_reducible rfl)
        try simp only [Act.put, List.setIfInBounds_toArray, List.set_cons_zero, List.set_cons_succ]
        refine wpAnyH_take (i := 4) (oi := ⟨some 29, _, _, _, _, _⟩) (v := ?_) rfl (by kernel_rfl) (by kernel_rfl) (by kernel_rfl) (fun _ _ _ h => h) (Or.inl ⟨by rfl, ?_⟩) (by assumption) ?_
        rotate_left
        · intro w hSw
          try dsimp only at hSw
          first | (go_simp; done) | (go_simp; with_reducible rfl)
        try simp only [Act.put, List.setIfInBounds_toArray, List.set_cons_zero, List.set_cons_succ]
        refine wpAnyH_take (i := 5) (oi := ⟨some 30, _, _, _, _, _⟩) (v := ?_) rfl (by kernel_rfl) (by kernel_rfl) (by kernel_rfl) (fun _ _ _ h => h) (Or.inl ⟨by rfl, ?_⟩) (by assumption) ?_
        rotate_left
        · intro w hSw
          try dsimp only at hSw
          first | (go_simp; done) | (go_simp; with_reducible rfl)
        try simp only [Act.put, List.setIfInBounds_toArray, List.set_cons_zero, List.set_cons_succ]
        refine wpAnyH_take (i := 6) (oi := ⟨some 31, _, _, _, _, _⟩) (v := ?_) rfl (by kernel_rfl) (by kernel_rfl) (by kernel_rfl) (fun _ _ _ h => h) (Or.inl ⟨by rfl, ?_⟩) (by assumption) ?_
        rotate_left
        · intro w hSw
          try dsimp only at hSw
          first | (go_simp; done) | (go_simp; with_reducible rfl)
        try simp only [Act.put, List.setIfInBounds_toArray, List.set_cons_zero, List.set_cons_succ]
        refine wpAnyH_take (i := 7) (oi := ⟨some 32, _, _, _, _, _⟩) (v := ?_) rfl (by kernel_rfl) (by kernel_rfl) (by kernel_rfl) (fun _ _ _ h => h) (Or.inl ⟨by rfl, ?_⟩) (by assumption) ?_
        rotate_left
        · intro w hSw
          try dsimp only at hSw
          first | (go_simp; done) | (go_simp; with_reducible rfl)
        try simp only [Act.put, List.setIfInBounds_toArray, List.set_cons_zero, List.set_cons_succ]
        refine wpAnyH_ready (rs := [1]) (by kernel_rfl) (by simp) ?_
        refine AllReadyH.cons (o := ⟨some 26, _, _, _, _, _⟩) rfl (fun KK hKK => ?_) AllReadyH.nil
        go_simp
        refine (SZ.out wr.drew (Below.refl _ wr).drew).mono ?_
        rintro e' v1 ⟨rfl, b1⟩
        have V1 := HV.out.below b1
        have K1 := HKD.out.adv b1
        have U1 := HUN.out.1.below b1
        have U2 := HUN.out.2.below b1
        go_wp2_with fail
        refine hKK.out _ _ (HC5.out _ _ _ V1 K1) (fun hHeld' => ?_)
        clear hKK KK hHeld
        have hHeld := hHeld'
        clear hHeld'
        try simp only [Act.put, List.setIfInBounds_toArray, List.set_cons_zero, List.set_cons_succ]
        refine wpAnyH_take (i := 8) (oi := ⟨some 33, _, _, _, _, _⟩) (v := ?_) rfl (by kernel_rfl) (by kernel_rfl) (by kernel_rfl) (fun _ _ _ h => h) (Or.inl ⟨by rfl, ?_⟩) (by assumption) ?_
        rotate_left
        · intro w hSw
          try dsimp only at hSw
          first | (go_simp; done) | (go_simp; with_reducible rfl)
        try simp only [Act.put, List.setIfInBounds_toArray, List.set_cons_zero, List.set_cons_succ]
        refine wpAnyH_take (i := 9) (oi := ⟨some 34, _, _, _, _, _⟩) (v := ?_) rfl (by kernel_rfl) (by kernel_rfl) (by kernel_rfl) (fun _ _ _ h => h) (Or.inl ⟨by rfl, ?_⟩) (by assumption) ?_
        rotate_left
        · intro w hSw
          try dsimp only at hSw
          first | (go_simp; done) | (go_simp; with_reducible rfl)
        try simp only [Act.put, List.setIfInBounds_toArray, List.set_cons_zero, List.set_cons_succ]
        refine wpAnyH_take (i := 10) (v := undef) rfl (by kernel_rfl) (by kernel_rfl) (by kernel_rfl) (fun _ _ _ h => h) (Or.inr ⟨by rfl, rfl⟩) (by assumption) ?_
        refine wpAnyH_take (i := 11) (v := undef) rfl (by kernel_rfl) (by kernel_rfl) (by kernel_rfl) (fun _ _ _ h => h) (Or.inr ⟨by rfl, rfl⟩) (by assumption) ?_
        refine wpAnyH_take (i := 12) (v := undef) rfl (by kernel_rfl) (by kernel_rfl) (by kernel_rfl) (fun _ _ _ h => h) (Or.inr ⟨by rfl, rfl⟩) (by assumption) ?_
        refine wpAnyH_take (i := 13) (v := undef) rfl (by kernel_rfl) (by kernel_rfl) (by kernel_rfl) (fun _ _ _ h => h) (Or.inr ⟨by rfl, rfl⟩) (by assumption) ?_
        refine wpAnyH_take (i := 14) (v := undef) rfl (by kernel_rfl) (by kernel_rfl) (by kernel_rfl) (fun _ _ _ h => h) (Or.inr ⟨by rfl, rfl⟩) (by assumption) ?_
        refine wpAnyH_take (i := 15) (oi := ⟨some 40, _, _, _, _, _⟩) (v := ?_) rfl (by kernel_rfl) (by kernel_rfl) (by kernel_rfl) (fun _ _ _ h => h) (Or.inl ⟨by rfl, ?_⟩) (by assumption) ?_
        rotate_left
        · intro w hSw
          try dsimp only at hSw
          first | (go_simp; done) | (go_simp; with_reducible rfl)
        try simp only [Act.put, List.setIfInBounds_toArray]
        refine wpAnyH_done (by kernel_rfl) ?_ _
        clear hHeld
        clear XS HC5 HUN HKD HV SZ
        obtain ⟨A14, n14, c14, B14, m14, d14, K14⟩ := V1.k8
        have K7 : SpC v1 w4.heap.size v.t A7 n7 c7 B7 m7 d7 := ⟨K1, U1, U2⟩
        clear K1 U1 U2 b1
        go_upto_region 12 with fail
        have VD := V1.drew
        have KD := K7.below (Below.refl _ v1).drew
        have K8D := K14.below (Below.refl _ v1).drew
        have HC : Hid (∀ w', SpC w' w4.heap.size v.t A7 n7 c7 B7 m7 d7 → SpC w' (w4.heap.size + 1) v.s A14 n14 c14 B14 m14 d14 → w'.cell? ⟨w4.heap.size, 0, none⟩ = some (.bool v.t.lo.neg) ∧ w'.cell? ⟨w4.heap.size, 1, none⟩ = some (.slice A7 n7 c7) ∧ w'.cell? ⟨w4.heap.size, 2, none⟩ = some (.int .i64 v.t.lo.e) ∧ w'.cell? ⟨w4.heap.size, 3, none⟩ = some (.bool v.t.hi.neg) ∧ w'.cell? ⟨w4.heap.size, 4, none⟩ = some (.slice B7 m7 d7) ∧ w'.cell? ⟨w4.heap.size, 5, none⟩ = some (.int .i64 v.t.hi.e) ∧ w'.cell? ⟨w4.heap.size + 1, 0, none⟩ = some (.bool v.s.lo.neg) ∧ w'.cell? ⟨w4.heap.size + 1, 1, none⟩ = some (.slice A14 n14 c14) ∧ w'.cell? ⟨w4.heap.size + 1, 2, none⟩ = some (.int .i64 v.s.lo.e) ∧ w'.cell? ⟨w4.heap.size + 1, 3, none⟩ = some (.bool v.s.hi.neg) ∧ w'.cell? ⟨w4.heap.size + 1, 4, none⟩ = some (.slice B14 m14 d14) ∧ w'.cell? ⟨w4.heap.size + 1, 5, none⟩ = some (.int .i64 v.s.hi.e)) := Lib.hid (fun w' h h' => ⟨h.1.at_ 0 _ rfl, h.1.at_ 1 _ rfl, h.1.at_ 2 _ rfl, h.1.at_ 3 _ rfl, h.1.at_ 4 _ rfl, h.1.at_ 5 _ rfl, h'.1.at_ 0 _ rfl, h'.1.at_ 1 _ rfl, h'.1.at_ 2 _ rfl, h'.1.at_ 3 _ rfl, h'.1.at_ 4 _ rfl, h'.1.at_ 5 _ rfl⟩)
        have HPT : Hid (∀ w', SpC w' w4.heap.size v.t A7 n7 c7 B7 m7 d7 → SpC w' (w4.heap.size + 1) v.s A14 n14 c14 B14 m14 d14 → ∀ x y z x' y' z', (put6 w' w.heap.size x y z x' y' z').cell? ⟨w4.heap.size, 0, none⟩ = some (.bool v.t.lo.neg) ∧ (put6 w' w.heap.size x y z x' y' z').cell? ⟨w4.heap.size, 1, none⟩ = some (.slice A7 n7 c7) ∧ (put6 w' w.heap.size x y z x' y' z').cell? ⟨w4.heap.size, 2, none⟩ = some (.int .i64 v.t.lo.e) ∧ (put6 w' w.heap.size x y z x' y' z').cell? ⟨w4.heap.size, 3, none⟩ = some (.bool v.t.hi.neg) ∧ (put6 w' w.heap.size x y z x' y' z').cell? ⟨w4.heap.size, 4, none⟩ = some (.slice B7 m7 d7) ∧ (put6 w' w.heap.size x y z x' y' z').cell? ⟨w4.heap.size, 5, none⟩ = some (.int .i64 v.t.hi.e) ∧ (put6 w' w.heap.size x y z x' y' z').cell? ⟨w4.heap.size + 1, 0, none⟩ = some (.bool v.s.lo.neg) ∧ (put6 w' w.heap.size x y z x' y' z').cell? ⟨w4.heap.size + 1, 1, none⟩ = some (.slice A14 n14 c14) ∧ (put6 w' w.heap.size x y z x' y' z').cell? ⟨w4.heap.size + 1, 2, none⟩ = some (.int .i64 v.s.lo.e) ∧ (put6 w' w.heap.size x y z x' y' z').cell? ⟨w4.heap.size + 1, 3, none⟩ = some (.bool v.s.hi.neg) ∧ (put6 w' w.heap.size x y z x' y' z').cell? ⟨w4.heap.size + 1, 4, none⟩ = some (.slice B14 m14 d14) ∧ (put6 w' w.heap.size x y z x' y' z').cell? ⟨w4.heap.size + 1, 5, none⟩ = some (.int .i64 v.s.hi.e)) := Lib.hid (fun w' h h' x y z x' y' z' => ⟨(h.1.only (only_put6 w' w.heap.size x y z x' y' z') (show w4.heap.size ≠ w.heap.size by omega)).at_ 0 _ rfl, (h.1.only (only_put6 w' w.heap.size x y z x' y' z') (show w4.heap.size ≠ w.heap.size by omega)).at_ 1 _ rfl, (h.1.only (only_put6 w' w.heap.size x y z x' y' z') (show w4.heap.size ≠ w.heap.size by omega)).at_ 2 _ rfl, (h.1.only (only_put6 w' w.heap.size x y z x' y' z') (show w4.heap.size ≠ w.heap.size by omega)).at_ 3 _ rfl, (h.1.only (only_put6 w' w.heap.size x y z x' y' z') (show w4.heap.size ≠ w.heap.size by omega)).at_ 4 _ rfl, (h.1.only (only_put6 w' w.heap.size x y z x' y' z') (show w4.heap.size ≠ w.heap.size by omega)).at_ 5 _ rfl, (h'.1.only (only_put6 w' w.heap.size x y z x' y' z') (show w4.heap.size + 1 ≠ w.heap.size by omega)).at_ 0 _ rfl, (h'.1.only (only_put6 w' w.heap.size x y z x' y' z') (show w4.heap.size + 1 ≠ w.heap.size by omega)).at_ 1 _ rfl, (h'.1.only (only_put6 w' w.heap.size x y z x' y' z') (show w4.heap.size + 1 ≠ w.heap.size by omega)).at_ 2 _ rfl, (h'.1.only (only_put6 w' w.heap.size x y z x' y' z') (show w4.heap.size + 1 ≠ w.heap.size by omega)).at_ 3 _ rfl, (h'.1.only (only_put6 w' w.heap.size x y z x' y' z') (show w4.heap.size + 1 ≠ w.heap.size by omega)).at_ 4 _ rfl, (h'.1.only (only_put6 w' w.heap.size x y z x' y' z') (show w4.heap.size + 1 ≠ w.heap.size by omega)).at_ 5 _ rfl⟩)
        have XS := HC.out _ KD K8D
        clear V1 K7 K14
        go_region_held3 (fun w' => w'.cell? ⟨w4.heap.size, 0, none⟩ = some (.bool v.t.lo.neg) ∧ w'.cell? ⟨w4.heap.size, 1, none⟩ = some (.slice A7 n7 c7) ∧ w'.cell? ⟨w4.heap.size, 2, none⟩ = some (.int .i64 v.t.lo.e) ∧ w'.cell? ⟨w4.heap.size, 3, none⟩ = some (.bool v.t.hi.neg) ∧ w'.cell? ⟨w4.heap.size, 4, none⟩ = some (.slice B7 m7 d7) ∧ w'.cell? ⟨w4.heap.size, 5, none⟩ = some (.int .i64 v.t.hi.e) ∧ w'.cell? ⟨w4.heap.size + 1, 0, none⟩ = some (.bool v.s.lo.neg) ∧ w'.cell? ⟨w4.heap.size + 1, 1, none⟩ = some (.slice A14 n14 c14) ∧ w'.cell? ⟨w4.heap.size + 1, 2, none⟩ = some (.int .i64 v.s.lo.e) ∧ w'.cell? ⟨w4.heap.size + 1, 3, none⟩ = some (.bool v.s.hi.neg) ∧ w'.cell? ⟨w4.heap.size + 1, 4, none⟩ = some (.slice B14 m14 d14) ∧ w'.cell? ⟨w4.heap.size + 1, 5, none⟩ = some (.int .i64 v.s.hi.e))
          (first | with_reducible exact HPT.out _ KZ K8Z _ _ _ _ _ _ | with_reducible exact HC.out _ KZ K8Z | with_reducible exact HC.out _ KY K8Y | with_reducible exact HC.out _ KX K8X | with_reducible exact XS)
          (first
            | (go_at_call 56; refine (SZ2.out _ KD).mono ?_; rintro e' v2 ⟨rfl, b2⟩; have VX := VD.below b2; have KX := KD.below b2; have K8X := K8D.below b2)
            | (go_at_call 58; refine (AR.out _ _ (by first | with_reducible rfl | omega) VX).mono ?_; rintro e' v3 ⟨A20, n20, c20, B20, m20, d20, rfl, N1, N2, W3, o3⟩; have VY := VX.only o3 W3; have KY := KX.only VX.S.W o3 (show w4.heap.size ≠ g by omega); have K8Y := K8X.only VX.S.W o3 (show w4.heap.size + 1 ≠ g by omega))
            | (go_at_call 27; refine (AD.out v3 _ _ _ _ _ _ _ _ _ _ _ _ VY K8Y N1 N2).mono ?_; rintro e' v4 ⟨A21, n21, c21, B21, m21, d21, rfl, N3, N4, W4, o4⟩; have VZ := VY.only o4 W4; have KZ := KY.only VY.S.W o4 (show w4.heap.size ≠ g by omega); have K8Z := K8Y.only VY.S.W o4 (show w4.heap.size + 1 ≠ g by omega); have z1 := VZ.S.ks.1.1; have z1c0 := z1.at_ 0 _ rfl; have z1c1 := z1.at_ 1 _ rfl; have z1c2 := z1.at_ 2 _ rfl; have z1c3 := z1.at_ 3 _ rfl; have z1c4 := z1.at_ 4 _ rfl; have z1c5 := z1.at_ 5 _ rfl; have z1f0 := z1.fr 0; have z1f1 := z1.fr 1; have z1f2 := z1.fr 2; have z1f3 := z1.fr 3; have z1f4 := z1.fr 4; have z1f5 := z1.fr 5; have z1l := z1.2; have z1n := Nat.ne_of_lt z1.2; have z1n2 := Nat.ne_of_gt z1.2))
        go_wp2_with fail
        rw [HF.out]
        obtain ⟨x1, x2, x3, x4⟩ := VZ.S.give (lo := rf.lo) (hi := rf.hi) N3 N4 z1 (by omega)
        exact bodyPost_ret (v := spv rf.lo.neg A21 n21 c21 rf.lo.e rf.hi.neg B21 m21 d21 rf.hi.e) (by simp [results, Tryz.results25, go_sem, z1c0, z1c1, z1c2, z1c3, z1c4, z1c5]) rfl ⟨A21, n21, c21, B21, m21, d21, rfl, x1, x2, x3, x4⟩
      · have hs' : decide (-p - 4 < z) = true := decide_eq_true hs
        go_upto_region 5 with fail
        go_region_held3 (fun w' => w'.cell? ⟨w4.heap.size, 0, none⟩ = some (.bool v.t.lo.neg) ∧ w'.cell? ⟨w4.heap.size, 1, none⟩ = some (.slice A7 n7 c7) ∧ w'.cell? ⟨w4.heap.size, 2, none⟩ = some (.int .i64 v.t.lo.e) ∧ w'.cell? ⟨w4.heap.size, 3, none⟩ = some (.bool v.t.hi.neg) ∧ w'.cell? ⟨w4.heap.size, 4, none⟩ = some (.slice B7 m7 d7) ∧ w'.cell? ⟨w4.heap.size, 5, none⟩ = some (.int .i64 v.t.hi.e) ∧ w'.cell? ⟨g, 0, none⟩ = some (.int .i64 p) ∧ w'.cell? ⟨g, 1, none⟩ = some (.bool true))
          (first | with_reducible exact HC5.out _ _ _ V1 K1 | with_reducible exact XS)
          (first | (go_at_call 56; refine (SZ.out wr.drew (Below.refl _ wr).drew).mono ?_; rintro e' v1 ⟨rfl, b1⟩; have V1 := HV.out.below b1; have K1 := HKD.out.adv b1; have U1 := HUN.out.1.below b1; have U2 := HUN.out.2.below b1) | fail)
        clear XS HC5 HUN HKD HV SZ
        obtain ⟨A14, n14, c14, B14, m14, d14, K14⟩ := V1.k8
        have K7 : SpC v1 w4.heap.size v.t A7 n7 c7 B7 m7 d7 := ⟨K1, U1, U2⟩
        clear K1 U1 U2 b1
        go_upto_region 12 with fail
        have VD := V1.drew
        have KD := K7.below (Below.refl _ v1).drew
        have K8D := K14.below (Below.refl _ v1).drew
        have HC : Hid (∀ w', SpC w' w4.heap.size v.t A7 n7 c7 B7 m7 d7 → SpC w' (w4.heap.size + 1) v.s A14 n14 c14 B14 m14 d14 → w'.cell? ⟨w4.heap.size, 0, none⟩ = some (.bool v.t.lo.neg) ∧ w'.cell? ⟨w4.heap.size, 1, none⟩ = some (.slice A7 n7 c7) ∧ w'.cell? ⟨w4.heap.size, 2, none⟩ = some (.int .i64 v.t.lo.e) ∧ w'.cell? ⟨w4.heap.size, 3, none⟩ = some (.bool v.t.hi.neg) ∧ w'.cell? ⟨w4.heap.size, 4, none⟩ = some (.slice B7 m7 d7) ∧ w'.cell? ⟨w4.heap.size, 5, none⟩ = some (.int .i64 v.t.hi.e) ∧ w'.cell? ⟨w4.heap.size + 1, 0, none⟩ = some (.bool v.s.lo.neg) ∧ w'.cell? ⟨w4.heap.size + 1, 1, none⟩ = some (.slice A14 n14 c14) ∧ w'.cell? ⟨w4.heap.size + 1, 2, none⟩ = some (.int .i64 v.s.lo.e) ∧ w'.cell? ⟨w4.heap.size + 1, 3, none⟩ = some (.bool v.s.hi.neg) ∧ w'.cell? ⟨w4.heap.size + 1, 4, none⟩ = some (.slice B14 m14 d14) ∧ w'.cell? ⟨w4.heap.size + 1, 5, none⟩ = some (.int .i64 v.s.hi.e)) := Lib.hid (fun w' h h' => ⟨h.1.at_ 0 _ rfl, h.1.at_ 1 _ rfl, h.1.at_ 2 _ rfl, h.1.at_ 3 _ rfl, h.1.at_ 4 _ rfl, h.1.at_ 5 _ rfl, h'.1.at_ 0 _ rfl, h'.1.at_ 1 _ rfl, h'.1.at_ 2 _ rfl, h'.1.at_ 3 _ rfl, h'.1.at_ 4 _ rfl, h'.1.at_ 5 _ rfl⟩)
        have HPT : Hid (∀ w', SpC w' w4.heap.size v.t A7 n7 c7 B7 m7 d7 → SpC w' (w4.heap.size + 1) v.s A14 n14 c14 B14 m14 d14 → ∀ x y z x' y' z', (put6 w' w.heap.size x y z x' y' z').cell? ⟨w4.heap.size, 0, none⟩ = some (.bool v.t.lo.neg) ∧ (put6 w' w.heap.size x y z x' y' z').cell? ⟨w4.heap.size, 1, none⟩ = some (.slice A7 n7 c7) ∧ (put6 w' w.heap.size x y z x' y' z').cell? ⟨w4.heap.size, 2, none⟩ = some (.int .i64 v.t.lo.e) ∧ (put6 w' w.heap.size x y z x' y' z').cell? ⟨w4.heap.size, 3, none⟩ = some (.bool v.t.hi.neg) ∧ (put6 w' w.heap.size x y z x' y' z').cell? ⟨w4.heap.size, 4, none⟩ = some (.slice B7 m7 d7) ∧ (put6 w' w.heap.size x y z x' y' z').cell? ⟨w4.heap.size, 5, none⟩ = some (.int .i64 v.t.hi.e) ∧ (put6 w' w.heap.size x y z x' y' z').cell? ⟨w4.heap.size + 1, 0, none⟩ = some (.bool v.s.lo.neg) ∧ (put6 w' w.heap.size x y z x' y' z').cell? ⟨w4.heap.size + 1, 1, none⟩ = some (.slice A14 n14 c14) ∧ (put6 w' w.heap.size x y z x' y' z').cell? ⟨w4.heap.size + 1, 2, none⟩ = some (.int .i64 v.s.lo.e) ∧ (put6 w' w.heap.size x y z x' y' z').cell? ⟨w4.heap.size + 1, 3, none⟩ = some (.bool v.s.hi.neg) ∧ (put6 w' w.heap.size x y z x' y' z').cell? ⟨w4.heap.size + 1, 4, none⟩ = some (.slice B14 m14 d14) ∧ (put6 w' w.heap.size x y z x' y' z').cell? ⟨w4.heap.size + 1, 5, none⟩ = some (.int .i64 v.s.hi.e)) := Lib.hid (fun w' h h' x y z x' y' z' => ⟨(h.1.only (only_put6 w' w.heap.size x y z x' y' z') (show w4.heap.size ≠ w.heap.size by omega)).at_ 0 _ rfl, (h.1.only (only_put6 w' w.heap.size x y z x' y' z') (show w4.heap.size ≠ w.heap.size by omega)).at_ 1 _ rfl, (h.1.only (only_put6 w' w.heap.size x y z x' y' z') (show w4.heap.size ≠ w.heap.size by omega)).at_ 2 _ rfl, (h.1.only (only_put6 w' w.heap.size x y z x' y' z') (show w4.heap.size ≠ w.heap.size by omega)).at_ 3 _ rfl, (h.1.only (only_put6 w' w.heap.size x y z x' y' z') (show w4.heap.size ≠ w.heap.size by omega)).at_ 4 _ rfl, (h.1.only (only_put6 w' w.heap.size x y z x' y' z') (show w4.heap.size ≠ w.heap.size by omega)).at_ 5 _ rfl, (h'.1.only (only_put6 w' w.heap.size x y z x' y' z') (show w4.heap.size + 1 ≠ w.heap.size by omega)).at_ 0 _ rfl, (h'.1.only (only_put6 w' w.heap.size x y z x' y' z') (show w4.heap.size + 1 ≠ w.heap.size by omega)).at_ 1 _ rfl, (h'.1.only (only_put6 w' w.heap.size x y z x' y' z') (show w4.heap.size + 1 ≠ w.heap.size by omega)).at_ 2 _ rfl, (h'.1.only (only_put6 w' w.heap.size x y z x' y' z') (show w4.heap.size + 1 ≠ w.heap.size by omega)).at_ 3 _ rfl, (h'.1.only (only_put6 w' w.heap.size x y z x' y' z') (show w4.heap.size + 1 ≠ w.heap.size by omega)).at_ 4 _ rfl, (h'.1.only (only_put6 w' w.heap.size x y z x' y' z') (show w4.heap.size + 1 ≠ w.heap.size by omega)).at_ 5 _ rfl⟩)
        have XS := HC.out _ KD K8D
        clear V1 K7 K14
        go_region_held3 (fun w' => w'.cell? ⟨w4.heap.size, 0, none⟩ = some (.bool v.t.lo.neg) ∧ w'.cell? ⟨w4.heap.size, 1, none⟩ = some (.slice A7 n7 c7) ∧ w'.cell? ⟨w4.heap.size, 2, none⟩ = some (.int .i64 v.t.lo.e) ∧ w'.cell? ⟨w4.heap.size, 3, none⟩ = some (.bool v.t.hi.neg) ∧ w'.cell? ⟨w4.heap.size, 4, none⟩ = some (.slice B7 m7 d7) ∧ w'.cell? ⟨w4.heap.size, 5, none⟩ = some (.int .i64 v.t.hi.e) ∧ w'.cell? ⟨w4.heap.size + 1, 0, none⟩ = some (.bool v.s.lo.neg) ∧ w'.cell? ⟨w4.heap.size + 1, 1, none⟩ = some (.slice A14 n14 c14) ∧ w'.cell? ⟨w4.heap.size + 1, 2, none⟩ = some (.int .i64 v.s.lo.e) ∧ w'.cell? ⟨w4.heap.size + 1, 3, none⟩ = some (.bool v.s.hi.neg) ∧ w'.cell? ⟨w4.heap.size + 1, 4, none⟩ = some (.slice B14 m14 d14) ∧ w'.cell? ⟨w4.heap.size + 1, 5, none⟩ = some (.int .i64 v.s.hi.e))
          (first | with_reducible exact HPT.out _ KZ K8Z _ _ _ _ _ _ | with_reducible exact HC.out _ KZ K8Z | with_reducible exact HC.out _ KY K8Y | with_reducible exact HC.out _ KX K8X | with_reducible exact XS)
          (first
            | (go_at_call 56; refine (SZ2.out _ KD).mono ?_; rintro e' v2 ⟨rfl, b2⟩; have VX := VD.below b2; have KX := KD.below b2; have K8X := K8D.below b2)
            | (go_at_call 58; refine (AR.out _ _ (by first | with_reducible rfl | omega) VX).mono ?_; rintro e' v3 ⟨A20, n20, c20, B20, m20, d20, rfl, N1, N2, W3, o3⟩; have VY := VX.only o3 W3; have KY := KX.only VX.S.W o3 (show w4.heap.size ≠ g by omega); have K8Y := K8X.only VX.S.W o3 (show w4.heap.size + 1 ≠ g by omega))
            | (go_at_call 27; refine (AD.out v3 _ _ _ _ _ _ _ _ _ _ _ _ VY K8Y N1 N2).mono ?_; rintro e' v4 ⟨A21, n21, c21, B21, m21, d21, rfl, N3, N4, W4, o4⟩; have VZ := VY.only o4 W4; have KZ := KY.only VY.S.W o4 (show w4.heap.size ≠ g by omega); have K8Z := K8Y.only VY.S.W o4 (show w4.heap.size + 1 ≠ g by omega); have z1 := VZ.S.ks.1.1; have z1c0 := z1.at_ 0 _ rfl; have z1c1 := z1.at_ 1 _ rfl; have z1c2 := z1.at_ 2 _ rfl; have z1c3 := z1.at_ 3 _ rfl; have z1c4 := z1.at_ 4 _ rfl; have z1c5 := z1.at_ 5 _ rfl; have z1f0 := z1.fr 0; have z1f1 := z1.fr 1; have z1f2 := z1.fr 2; have z1f3 := z1.fr 3; have z1f4 := z1.fr 4; have z1f5 := z1.fr 5; have z1l := z1.2; have z1n := Nat.ne_of_lt z1.2; have z1n2 := Nat.ne_of_gt z1.2))
        go_wp2_with fail
        rw [HF.out]
        obtain ⟨x1, x2, x3, x4⟩ := VZ.S.give (lo := rf.lo) (hi := rf.hi) N3 N4 z1 (by omega)
        exact bodyPost_ret (v := spv rf.lo.neg A21 n21 c21 rf.lo.e rf.hi.neg B21 m21 d21 rf.hi.e) (by simp [results, Tryz.results25, go_sem, z1c0, z1c1, z1c2, z1c3, z1c4, z1c5]) rfl ⟨A21, n21, c21, B21, m21, d21, rfl, x1, x2, x3, x4⟩
end Go.Proofs.YtodjldhppbbhdaaGreatDoor

namespace Go.Proofs.YtodjldhppbbhdaaGreatDoor
open Go.RowKit

/-- Inverse's loop ends behind K rounds. -/
def LoopEnds (p : Int) (bad : Bool) (n : Int) (minus : Bool) (K : Nat) : Prop := K ≤ 1000000 ∧ invGo p (invAt p bad n minus K) = false ∧ ∀ j, j < K → invGo p (invAt p bad n minus j) = true
/-- So many times an arctangent. -/
def partR (p : Int) (bad : Bool) (t n : Int) (minus : Bool) (K : Nat) : SRes := mulR p (inverseR p (numS p bad t).bad n minus K).bad (numS p bad t).lo (numS p bad t).hi (inverseR p (numS p bad t).bad n minus K).lo (inverseR p (numS p bad t).bad n minus K).hi
theorem sgood_mulR {p : Int} {bad : Bool} {lo hi lo' hi' : DR} : SGood (mulR p bad lo hi lo' hi') := by
  unfold mulR
  split
  · exact sgood_no
  · split
    · exact sgood_two (plIf_cutI _ _ _) (plIf_cutI _ _ _)
    · exact sgood_no
/-- What Pi answers, where its three loops end behind so many rounds. -/
def rpiR (p : Int) (bad : Bool) (M0 M1 M2 : Nat) : SRes :=
  let a := partR p bad 48 18 true M0
  let b := partR p a.bad 32 57 true M1
  let c := partR p b.bad 20 239 true M2
  let e := addS p c.bad a.lo a.hi b.lo b.hi
  subS p e.bad e.lo e.hi c.lo c.hi
set_option maxRecDepth 8000 in
set_option maxHeartbeats 4000000 in
theorem rpi_any (M0 M1 M2 : Nat) (g : Nat) (p : Int) (bad : Bool) (w : World) (hW : Wk 41 w g p bad) (hT : Tab w) (hp1 : -1000000 ≤ p) (hp2 : p ≤ 1000000)
    (h0 : LoopEnds p (numS p bad 48).bad 18 true M0) (h1 : LoopEnds p (numS p (partR p bad 48 18 true M0).bad 32).bad 57 true M1)
    (h2 : LoopEnds p (numS p (partR p (partR p bad 48 18 true M0).bad 32 57 true M1).bad 20).bad 239 true M2) :
    Calls Tryz.prog 12 #[.pointer (some ⟨g, 0, none⟩)] w (SPost 41 w g p (rpiR p bad M0 M1 M2)) := by
  have S := (St.start hW).alloc 29 zs
  have TB : Hid (∀ b' w' ks ns, St 41 w g p b' w' ks ns → Tab w') := Lib.hid (fun b' w' ks ns h => hT.wk hW h.O)
  obtain ⟨u0, hu0⟩ : ∃ r, r = numS p bad 48 := ⟨_, rfl⟩
  obtain ⟨v0, hv0⟩ : ∃ r, r = inverseR p u0.bad 18 true M0 := ⟨_, rfl⟩
  obtain ⟨a0, ha0⟩ : ∃ r, r = mulR p v0.bad u0.lo u0.hi v0.lo v0.hi := ⟨_, rfl⟩
  have ea0 : partR p bad 48 18 true M0 = a0 := by rw [ha0, hv0, hu0]; rfl
  rw [← hu0] at h0
  have Gu0 : SGood u0 := by rw [hu0]; exact sgood_num (by omega) (by omega)
  have Gv0 : SGood v0 := by rw [hv0]; exact sgood_add
  have Ga0 : SGood a0 := by rw [ha0]; exact sgood_mulR
  have Cu0 : Hid (∀ w' ks ns, St 41 w g p bad w' ks ns → Calls Tryz.prog 19 #[.pointer (some ⟨g, 0, none⟩), .int .i64 48] w' (SPost 41 w' g p u0)) := Lib.hid (fun w' ks ns h => by rw [hu0]; exact rnum_any 48 g p bad w' h.W (TB.out _ _ _ _ h) (by omega) (by omega))
  have Cv0 : Hid (∀ w' ks ns, St 41 w g p u0.bad w' ks ns → Calls Tryz.prog 25 #[.pointer (some ⟨g, 0, none⟩), .int .i64 18, .int .i64 (-1)] w' (SPost 41 w' g p v0)) := Lib.hid (fun w' ks ns h => by rw [hv0]; exact inverse_any 18 (-1) true M0 g p u0.bad w' h.W (TB.out _ _ _ _ h) hp1 hp2 (by omega) (by omega) (by decide) h0.1 h0.2.1 h0.2.2)
  have Ca0 : Hid (∀ w' ks ns A n c B m d A' n' c' B' m' d', St 41 w g p v0.bad w' ks ns → Num w' (.slice A n c) u0.lo.m → Num w' (.slice B m d) u0.hi.m → Num w' (.slice A' n' c') v0.lo.m → Num w' (.slice B' m' d') v0.hi.m → Calls Tryz.prog 24 #[.pointer (some ⟨g, 0, none⟩), spv u0.lo.neg A n c u0.lo.e u0.hi.neg B m d u0.hi.e, spv v0.lo.neg A' n' c' v0.lo.e v0.hi.neg B' m' d' v0.hi.e] w' (SPost 41 w' g p a0)) := Lib.hid (fun w' ks ns A n c B m d A' n' c' B' m' d' h h1 h2 h3 h4 => by rw [ha0]; exact rsmul_any g p v0.bad w' h.W (DIn.of_num h1 Gu0.l2 Gu0.l1) (DIn.of_num h2 Gu0.h2 Gu0.h1) (DIn.of_num h3 Gv0.l2 Gv0.l1) (DIn.of_num h4 Gv0.h2 Gv0.h1) (TB.out _ _ _ _ h))
  obtain ⟨u1, hu1⟩ : ∃ r, r = numS p a0.bad 32 := ⟨_, rfl⟩
  obtain ⟨v1, hv1⟩ : ∃ r, r = inverseR p u1.bad 57 true M1 := ⟨_, rfl⟩
  obtain ⟨a1, ha1⟩ : ∃ r, r = mulR p v1.bad u1.lo u1.hi v1.lo v1.hi := ⟨_, rfl⟩
  have ea1 : partR p a0.bad 32 57 true M1 = a1 := by rw [ha1, hv1, hu1]; rfl
  rw [ea0, ← hu1] at h1
  have Gu1 : SGood u1 := by rw [hu1]; exact sgood_num (by omega) (by omega)
  have Gv1 : SGood v1 := by rw [hv1]; exact sgood_add
  have Ga1 : SGood a1 := by rw [ha1]; exact sgood_mulR
  have Cu1 : Hid (∀ w' ks ns, St 41 w g p a0.bad w' ks ns → Calls Tryz.prog 19 #[.pointer (some ⟨g, 0, none⟩), .int .i64 32] w' (SPost 41 w' g p u1)) := Lib.hid (fun w' ks ns h => by rw [hu1]; exact rnum_any 32 g p a0.bad w' h.W (TB.out _ _ _ _ h) (by omega) (by omega))
  have Cv1 : Hid (∀ w' ks ns, St 41 w g p u1.bad w' ks ns → Calls Tryz.prog 25 #[.pointer (some ⟨g, 0, none⟩), .int .i64 57, .int .i64 (-1)] w' (SPost 41 w' g p v1)) := Lib.hid (fun w' ks ns h => by rw [hv1]; exact inverse_any 57 (-1) true M1 g p u1.bad w' h.W (TB.out _ _ _ _ h) hp1 hp2 (by omega) (by omega) (by decide) h1.1 h1.2.1 h1.2.2)
  have Ca1 : Hid (∀ w' ks ns A n c B m d A' n' c' B' m' d', St 41 w g p v1.bad w' ks ns → Num w' (.slice A n c) u1.lo.m → Num w' (.slice B m d) u1.hi.m → Num w' (.slice A' n' c') v1.lo.m → Num w' (.slice B' m' d') v1.hi.m → Calls Tryz.prog 24 #[.pointer (some ⟨g, 0, none⟩), spv u1.lo.neg A n c u1.lo.e u1.hi.neg B m d u1.hi.e, spv v1.lo.neg A' n' c' v1.lo.e v1.hi.neg B' m' d' v1.hi.e] w' (SPost 41 w' g p a1)) := Lib.hid (fun w' ks ns A n c B m d A' n' c' B' m' d' h h1 h2 h3 h4 => by rw [ha1]; exact rsmul_any g p v1.bad w' h.W (DIn.of_num h1 Gu1.l2 Gu1.l1) (DIn.of_num h2 Gu1.h2 Gu1.h1) (DIn.of_num h3 Gv1.l2 Gv1.l1) (DIn.of_num h4 Gv1.h2 Gv1.h1) (TB.out _ _ _ _ h))
  obtain ⟨u2, hu2⟩ : ∃ r, r = numS p a1.bad 20 := ⟨_, rfl⟩
  obtain ⟨v2, hv2⟩ : ∃ r, r = inverseR p u2.bad 239 true M2 := ⟨_, rfl⟩
  obtain ⟨a2, ha2⟩ : ∃ r, r = mulR p v2.bad u2.lo u2.hi v2.lo v2.hi := ⟨_, rfl⟩
  have ea2 : partR p a1.bad 20 239 true M2 = a2 := by rw [ha2, hv2, hu2]; rfl
  rw [ea0, ea1, ← hu2] at h2
  have Gu2 : SGood u2 := by rw [hu2]; exact sgood_num (by omega) (by omega)
  have Gv2 : SGood v2 := by rw [hv2]; exact sgood_add
  have Ga2 : SGood a2 := by rw [ha2]; exact sgood_mulR
  have Cu2 : Hid (∀ w' ks ns, St 41 w g p a1.bad w' ks ns → Calls Tryz.prog 19 #[.pointer (some ⟨g, 0, none⟩), .int .i64 20] w' (SPost 41 w' g p u2)) := Lib.hid (fun w' ks ns h => by rw [hu2]; exact rnum_any 20 g p a1.bad w' h.W (TB.out _ _ _ _ h) (by omega) (by omega))
  have Cv2 : Hid (∀ w' ks ns, St 41 w g p u2.bad w' ks ns → Calls Tryz.prog 25 #[.pointer (some ⟨g, 0, none⟩), .int .i64 239, .int .i64 (-1)] w' (SPost 41 w' g p v2)) := Lib.hid (fun w' ks ns h => by rw [hv2]; exact inverse_any 239 (-1) true M2 g p u2.bad w' h.W (TB.out _ _ _ _ h) hp1 hp2 (by omega) (by omega) (by decide) h2.1 h2.2.1 h2.2.2)
  have Ca2 : Hid (∀ w' ks ns A n c B m d A' n' c' B' m' d', St 41 w g p v2.bad w' ks ns → Num w' (.slice A n c) u2.lo.m → Num w' (.slice B m d) u2.hi.m → Num w' (.slice A' n' c') v2.lo.m → Num w' (.slice B' m' d') v2.hi.m → Calls Tryz.prog 24 #[.pointer (some ⟨g, 0, none⟩), spv u2.lo.neg A n c u2.lo.e u2.hi.neg B m d u2.hi.e, spv v2.lo.neg A' n' c' v2.lo.e v2.hi.neg B' m' d' v2.hi.e] w' (SPost 41 w' g p a2)) := Lib.hid (fun w' ks ns A n c B m d A' n' c' B' m' d' h h1 h2 h3 h4 => by rw [ha2]; exact rsmul_any g p v2.bad w' h.W (DIn.of_num h1 Gu2.l2 Gu2.l1) (DIn.of_num h2 Gu2.h2 Gu2.h1) (DIn.of_num h3 Gv2.l2 Gv2.l1) (DIn.of_num h4 Gv2.h2 Gv2.h1) (TB.out _ _ _ _ h))
  obtain ⟨e_, he_⟩ : ∃ r, r = addS p a2.bad a0.lo a0.hi a1.lo a1.hi := ⟨_, rfl⟩
  obtain ⟨f_, hf_⟩ : ∃ r, r = subS p e_.bad e_.lo e_.hi a2.lo a2.hi := ⟨_, rfl⟩
  have HF : Hid (rpiR p bad M0 M1 M2 = f_) := Lib.hid (by unfold rpiR; simp only [ea0, ea1, ea2]; rw [hf_, he_])
  have Ge : SGood e_ := by rw [he_]; exact sgood_add
  have Ce : Hid (∀ w' ks ns A n c B m d A' n' c' B' m' d', St 41 w g p a2.bad w' ks ns → Num w' (.slice A n c) a0.lo.m → Num w' (.slice B m d) a0.hi.m → Num w' (.slice A' n' c') a1.lo.m → Num w' (.slice B' m' d') a1.hi.m → Calls Tryz.prog 27 #[.pointer (some ⟨g, 0, none⟩), spv a0.lo.neg A n c a0.lo.e a0.hi.neg B m d a0.hi.e, spv a1.lo.neg A' n' c' a1.lo.e a1.hi.neg B' m' d' a1.hi.e] w' (SPost 41 w' g p e_)) := Lib.hid (fun w' ks ns A n c B m d A' n' c' B' m' d' h h1 h2 h3 h4 => by rw [he_]; exact rsadd_any g p a2.bad w' h.W (DIn.of_num h1 Ga0.l2 Ga0.l1) (DIn.of_num h2 Ga0.h2 Ga0.h1) (DIn.of_num h3 Ga1.l2 Ga1.l1) (DIn.of_num h4 Ga1.h2 Ga1.h1) (TB.out _ _ _ _ h))
  have Cf : Hid (∀ w' ks ns A n c B m d A' n' c' B' m' d', St 41 w g p e_.bad w' ks ns → Num w' (.slice A n c) e_.lo.m → Num w' (.slice B m d) e_.hi.m → Num w' (.slice A' n' c') a2.lo.m → Num w' (.slice B' m' d') a2.hi.m → Calls Tryz.prog 26 #[.pointer (some ⟨g, 0, none⟩), spv e_.lo.neg A n c e_.lo.e e_.hi.neg B m d e_.hi.e, spv a2.lo.neg A' n' c' a2.lo.e a2.hi.neg B' m' d' a2.hi.e] w' (SPost 41 w' g p f_)) := Lib.hid (fun w' ks ns A n c B m d A' n' c' B' m' d' h h1 h2 h3 h4 => by rw [hf_]; exact rssub_any g p e_.bad w' h.W (DIn.of_num h1 Ge.l2 Ge.l1) (DIn.of_num h2 Ge.h2 Ge.h1) (DIn.of_num h3 Ga2.l2 Ga2.l1) (DIn.of_num h4 Ga2.h2 Ga2.h1) (TB.out _ _ _ _ h))
  clear he_ hf_ Ge ea0 ea1 ea2 Ga0 Ga1 Ga2 TB hT hW
  clear h0 h1 h2 hu0 hv0 ha0 Gu0 Gv0 hu1 hv1 ha1 Gu1 Gv1 hu2 hv2 ha2 Gu2 Gv2
  go_enter Tryz.func12, Tryz.ntmps12
  go_wp2_with fail
  refine (Cu0.out _ _ _ S).mono ?_
  generalize w.alloc (.cells zs 29) = w0 at *
  rintro e' x0 ⟨A1, n1, c1, B1, m1, d1, rfl, Na, Nb, Wx, ox⟩
  replace S := ((S.only ox Wx).num Nb).num Na
  clear Na Nb Wx ox Cu0
  go_wp2_with fail
  refine (Cv0.out _ _ _ S).mono ?_
  rintro e' y0 ⟨A2, n2, c2, B2, m2, d2, rfl, Na, Nb, Wx, ox⟩
  replace S := ((S.only ox Wx).num Nb).num Na
  clear Na Nb Wx ox Cv0
  go_wp2_with fail
  refine (Ca0.out _ _ _ _ _ _ _ _ _ _ _ _ _ _ _ S S.ns.2.2.1 S.ns.2.2.2.1 S.ns.1 S.ns.2.1).mono ?_
  rintro e' z0 ⟨A3, n3, c3, B3, m3, d3, rfl, Na, Nb, Wx, ox⟩
  replace S := ((S.only ox Wx).num Nb).num Na
  have hz0 := Lib.hid (show w.heap.size < z0.heap.size from S.ks.1.1.2)
  replace S := S.alloc 29 #[.bool a0.lo.neg, .slice A3 n3 c3, .int .i64 a0.lo.e, .bool a0.hi.neg, .slice B3 m3 d3, .int .i64 a0.hi.e]
  clear Na Nb Wx ox Ca0
  go_wp2_with fail
  refine (Cu1.out _ _ _ S).mono ?_
  generalize z0.alloc (.cells #[.bool a0.lo.neg, .slice A3 n3 c3, .int .i64 a0.lo.e, .bool a0.hi.neg, .slice B3 m3 d3, .int .i64 a0.hi.e] 29) = q1 at *
  rintro e' x1 ⟨A11, n11, c11, B11, m11, d11, rfl, Na, Nb, Wx, ox⟩
  replace S := ((S.only ox Wx).num Nb).num Na
  clear Na Nb Wx ox Cu1
  go_wp2_with fail
  refine (Cv1.out _ _ _ S).mono ?_
  rintro e' y1 ⟨A12, n12, c12, B12, m12, d12, rfl, Na, Nb, Wx, ox⟩
  replace S := ((S.only ox Wx).num Nb).num Na
  clear Na Nb Wx ox Cv1
  go_wp2_with fail
  refine (Ca1.out _ _ _ _ _ _ _ _ _ _ _ _ _ _ _ S S.ns.2.2.1 S.ns.2.2.2.1 S.ns.1 S.ns.2.1).mono ?_
  rintro e' z1 ⟨A13, n13, c13, B13, m13, d13, rfl, Na, Nb, Wx, ox⟩
  replace S := ((S.only ox Wx).num Nb).num Na
  have hz1 := Lib.hid (show w.heap.size < z1.heap.size from S.ks.2.1.1.2)
  replace S := S.alloc 29 #[.bool a1.lo.neg, .slice A13 n13 c13, .int .i64 a1.lo.e, .bool a1.hi.neg, .slice B13 m13 d13, .int .i64 a1.hi.e]
  clear Na Nb Wx ox Ca1
  go_wp2_with fail
  refine (Cu2.out _ _ _ S).mono ?_
  generalize z1.alloc (.cells #[.bool a1.lo.neg, .slice A13 n13 c13, .int .i64 a1.lo.e, .bool a1.hi.neg, .slice B13 m13 d13, .int .i64 a1.hi.e] 29) = q2 at *
  rintro e' x2 ⟨A21, n21, c21, B21, m21, d21, rfl, Na, Nb, Wx, ox⟩
  replace S := ((S.only ox Wx).num Nb).num Na
  clear Na Nb Wx ox Cu2
  go_wp2_with fail
  refine (Cv2.out _ _ _ S).mono ?_
  rintro e' y2 ⟨A22, n22, c22, B22, m22, d22, rfl, Na, Nb, Wx, ox⟩
  replace S := ((S.only ox Wx).num Nb).num Na
  clear Na Nb Wx ox Cv2
  go_wp2_with fail
  refine (Ca2.out _ _ _ _ _ _ _ _ _ _ _ _ _ _ _ S S.ns.2.2.1 S.ns.2.2.2.1 S.ns.1 S.ns.2.1).mono ?_
  rintro e' z2 ⟨A23, n23, c23, B23, m23, d23, rfl, Na, Nb, Wx, ox⟩
  replace S := ((S.only ox Wx).num Nb).num Na
  have hz2 := Lib.hid (show w.heap.size < z2.heap.size from S.ks.2.2.1.1.2)
  replace S := S.alloc 29 #[.bool a2.lo.neg, .slice A23 n23 c23, .int .i64 a2.lo.e, .bool a2.hi.neg, .slice B23 m23 d23, .int .i64 a2.hi.e]
  clear Na Nb Wx ox Ca2
  go_upto_region 4 with fail
  generalize z2.alloc (.cells #[.bool a2.lo.neg, .slice A23 n23 c23, .int .i64 a2.lo.e, .bool a2.hi.neg, .slice B23 m23 d23, .int .i64 a2.hi.e] 29) = q3 at *
  have n0 : z0.heap.size ≠ w.heap.size := Nat.ne_of_gt hz0.out
  have n1 : z1.heap.size ≠ w.heap.size := Nat.ne_of_gt hz1.out
  have n2 : z2.heap.size ≠ w.heap.size := Nat.ne_of_gt hz2.out
  have HC : Hid (∀ b' w' ns, St 41 w g p b' w' [(29, z2.heap.size, #[.bool a2.lo.neg, .slice A23 n23 c23, .int .i64 a2.lo.e, .bool a2.hi.neg, .slice B23 m23 d23, .int .i64 a2.hi.e]), (29, z1.heap.size, #[.bool a1.lo.neg, .slice A13 n13 c13, .int .i64 a1.lo.e, .bool a1.hi.neg, .slice B13 m13 d13, .int .i64 a1.hi.e]), (29, z0.heap.size, #[.bool a0.lo.neg, .slice A3 n3 c3, .int .i64 a0.lo.e, .bool a0.hi.neg, .slice B3 m3 d3, .int .i64 a0.hi.e]), (29, w.heap.size, zs)] ns → w'.cell? ⟨z0.heap.size, 0, none⟩ = some (.bool a0.lo.neg) ∧ w'.cell? ⟨z0.heap.size, 1, none⟩ = some (.slice A3 n3 c3) ∧ w'.cell? ⟨z0.heap.size, 2, none⟩ = some (.int .i64 a0.lo.e) ∧ w'.cell? ⟨z0.heap.size, 3, none⟩ = some (.bool a0.hi.neg) ∧ w'.cell? ⟨z0.heap.size, 4, none⟩ = some (.slice B3 m3 d3) ∧ w'.cell? ⟨z0.heap.size, 5, none⟩ = some (.int .i64 a0.hi.e) ∧ w'.cell? ⟨z1.heap.size, 0, none⟩ = some (.bool a1.lo.neg) ∧ w'.cell? ⟨z1.heap.size, 1, none⟩ = some (.slice A13 n13 c13) ∧ w'.cell? ⟨z1.heap.size, 2, none⟩ = some (.int .i64 a1.lo.e) ∧ w'.cell? ⟨z1.heap.size, 3, none⟩ = some (.bool a1.hi.neg) ∧ w'.cell? ⟨z1.heap.size, 4, none⟩ = some (.slice B13 m13 d13) ∧ w'.cell? ⟨z1.heap.size, 5, none⟩ = some (.int .i64 a1.hi.e) ∧ w'.cell? ⟨z2.heap.size, 0, none⟩ = some (.bool a2.lo.neg) ∧ w'.cell? ⟨z2.heap.size, 1, none⟩ = some (.slice A23 n23 c23) ∧ w'.cell? ⟨z2.heap.size, 2, none⟩ = some (.int .i64 a2.lo.e) ∧ w'.cell? ⟨z2.heap.size, 3, none⟩ = some (.bool a2.hi.neg) ∧ w'.cell? ⟨z2.heap.size, 4, none⟩ = some (.slice B23 m23 d23) ∧ w'.cell? ⟨z2.heap.size, 5, none⟩ = some (.int .i64 a2.hi.e)) := Lib.hid (fun b' w' ns h => ⟨h.ks.2.2.1.1.at_ 0 _ rfl, h.ks.2.2.1.1.at_ 1 _ rfl, h.ks.2.2.1.1.at_ 2 _ rfl, h.ks.2.2.1.1.at_ 3 _ rfl, h.ks.2.2.1.1.at_ 4 _ rfl, h.ks.2.2.1.1.at_ 5 _ rfl, h.ks.2.1.1.at_ 0 _ rfl, h.ks.2.1.1.at_ 1 _ rfl, h.ks.2.1.1.at_ 2 _ rfl, h.ks.2.1.1.at_ 3 _ rfl, h.ks.2.1.1.at_ 4 _ rfl, h.ks.2.1.1.at_ 5 _ rfl, h.ks.1.1.at_ 0 _ rfl, h.ks.1.1.at_ 1 _ rfl, h.ks.1.1.at_ 2 _ rfl, h.ks.1.1.at_ 3 _ rfl, h.ks.1.1.at_ 4 _ rfl, h.ks.1.1.at_ 5 _ rfl⟩)
  have HPT : Hid (∀ b' w' ns, St 41 w g p b' w' [(29, z2.heap.size, #[.bool a2.lo.neg, .slice A23 n23 c23, .int .i64 a2.lo.e, .bool a2.hi.neg, .slice B23 m23 d23, .int .i64 a2.hi.e]), (29, z1.heap.size, #[.bool a1.lo.neg, .slice A13 n13 c13, .int .i64 a1.lo.e, .bool a1.hi.neg, .slice B13 m13 d13, .int .i64 a1.hi.e]), (29, z0.heap.size, #[.bool a0.lo.neg, .slice A3 n3 c3, .int .i64 a0.lo.e, .bool a0.hi.neg, .slice B3 m3 d3, .int .i64 a0.hi.e]), (29, w.heap.size, zs)] ns → ∀ x y z x' y' z', (put6 w' w.heap.size x y z x' y' z').cell? ⟨z0.heap.size, 0, none⟩ = some (.bool a0.lo.neg) ∧ (put6 w' w.heap.size x y z x' y' z').cell? ⟨z0.heap.size, 1, none⟩ = some (.slice A3 n3 c3) ∧ (put6 w' w.heap.size x y z x' y' z').cell? ⟨z0.heap.size, 2, none⟩ = some (.int .i64 a0.lo.e) ∧ (put6 w' w.heap.size x y z x' y' z').cell? ⟨z0.heap.size, 3, none⟩ = some (.bool a0.hi.neg) ∧ (put6 w' w.heap.size x y z x' y' z').cell? ⟨z0.heap.size, 4, none⟩ = some (.slice B3 m3 d3) ∧ (put6 w' w.heap.size x y z x' y' z').cell? ⟨z0.heap.size, 5, none⟩ = some (.int .i64 a0.hi.e) ∧ (put6 w' w.heap.size x y z x' y' z').cell? ⟨z1.heap.size, 0, none⟩ = some (.bool a1.lo.neg) ∧ (put6 w' w.heap.size x y z x' y' z').cell? ⟨z1.heap.size, 1, none⟩ = some (.slice A13 n13 c13) ∧ (put6 w' w.heap.size x y z x' y' z').cell? ⟨z1.heap.size, 2, none⟩ = some (.int .i64 a1.lo.e) ∧ (put6 w' w.heap.size x y z x' y' z').cell? ⟨z1.heap.size, 3, none⟩ = some (.bool a1.hi.neg) ∧ (put6 w' w.heap.size x y z x' y' z').cell? ⟨z1.heap.size, 4, none⟩ = some (.slice B13 m13 d13) ∧ (put6 w' w.heap.size x y z x' y' z').cell? ⟨z1.heap.size, 5, none⟩ = some (.int .i64 a1.hi.e) ∧ (put6 w' w.heap.size x y z x' y' z').cell? ⟨z2.heap.size, 0, none⟩ = some (.bool a2.lo.neg) ∧ (put6 w' w.heap.size x y z x' y' z').cell? ⟨z2.heap.size, 1, none⟩ = some (.slice A23 n23 c23) ∧ (put6 w' w.heap.size x y z x' y' z').cell? ⟨z2.heap.size, 2, none⟩ = some (.int .i64 a2.lo.e) ∧ (put6 w' w.heap.size x y z x' y' z').cell? ⟨z2.heap.size, 3, none⟩ = some (.bool a2.hi.neg) ∧ (put6 w' w.heap.size x y z x' y' z').cell? ⟨z2.heap.size, 4, none⟩ = some (.slice B23 m23 d23) ∧ (put6 w' w.heap.size x y z x' y' z').cell? ⟨z2.heap.size, 5, none⟩ = some (.int .i64 a2.hi.e)) := Lib.hid (fun b' w' ns h x y z x' y' z' => ⟨(h.ks.2.2.1.1.only (only_put6 w' w.heap.size x y z x' y' z') n0).at_ 0 _ rfl, (h.ks.2.2.1.1.only (only_put6 w' w.heap.size x y z x' y' z') n0).at_ 1 _ rfl, (h.ks.2.2.1.1.only (only_put6 w' w.heap.size x y z x' y' z') n0).at_ 2 _ rfl, (h.ks.2.2.1.1.only (only_put6 w' w.heap.size x y z x' y' z') n0).at_ 3 _ rfl, (h.ks.2.2.1.1.only (only_put6 w' w.heap.size x y z x' y' z') n0).at_ 4 _ rfl, (h.ks.2.2.1.1.only (only_put6 w' w.heap.size x y z x' y' z') n0).at_ 5 _ rfl, (h.ks.2.1.1.only (only_put6 w' w.heap.size x y z x' y' z') n1).at_ 0 _ rfl, (h.ks.2.1.1.only (only_put6 w' w.heap.size x y z x' y' z') n1).at_ 1 _ rfl, (h.ks.2.1.1.only (only_put6 w' w.heap.size x y z x' y' z') n1).at_ 2 _ rfl, (h.ks.2.1.1.only (only_put6 w' w.heap.size x y z x' y' z') n1).at_ 3 _ rfl, (h.ks.2.1.1.only (only_put6 w' w.heap.size x y z x' y' z') n1).at_ 4 _ rfl, (h.ks.2.1.1.only (only_put6 w' w.heap.size x y z x' y' z') n1).at_ 5 _ rfl, (h.ks.1.1.only (only_put6 w' w.heap.size x y z x' y' z') n2).at_ 0 _ rfl, (h.ks.1.1.only (only_put6 w' w.heap.size x y z x' y' z') n2).at_ 1 _ rfl, (h.ks.1.1.only (only_put6 w' w.heap.size x y z x' y' z') n2).at_ 2 _ rfl, (h.ks.1.1.only (only_put6 w' w.heap.size x y z x' y' z') n2).at_ 3 _ rfl, (h.ks.1.1.only (only_put6 w' w.heap.size x y z x' y' z') n2).at_ 4 _ rfl, (h.ks.1.1.only (only_put6 w' w.heap.size x y z x' y' z') n2).at_ 5 _ rfl⟩)
  have VD := S.drew
  clear S
  have XS := HC.out _ _ _ VD
  have p0 := VD.ns.2.2.2.2.2.2.2.2.2.2.2.2.1
  have p1 := VD.ns.2.2.2.2.2.2.2.2.2.2.2.2.2.1
  have p2 := VD.ns.2.2.2.2.2.2.1
  have p3 := VD.ns.2.2.2.2.2.2.2.1
  clear n0 n1 n2
  go_region_held3 (fun w' => w'.cell? ⟨z0.heap.size, 0, none⟩ = some (.bool a0.lo.neg) ∧ w'.cell? ⟨z0.heap.size, 1, none⟩ = some (.slice A3 n3 c3) ∧ w'.cell? ⟨z0.heap.size, 2, none⟩ = some (.int .i64 a0.lo.e) ∧ w'.cell? ⟨z0.heap.size, 3, none⟩ = some (.bool a0.hi.neg) ∧ w'.cell? ⟨z0.heap.size, 4, none⟩ = some (.slice B3 m3 d3) ∧ w'.cell? ⟨z0.heap.size, 5, none⟩ = some (.int .i64 a0.hi.e) ∧ w'.cell? ⟨z1.heap.size, 0, none⟩ = some (.bool a1.lo.neg) ∧ w'.cell? ⟨z1.heap.size, 1, none⟩ = some (.slice A13 n13 c13) ∧ w'.cell? ⟨z1.heap.size, 2, none⟩ = some (.int .i64 a1.lo.e) ∧ w'.cell? ⟨z1.heap.size, 3, none⟩ = some (.bool a1.hi.neg) ∧ w'.cell? ⟨z1.heap.size, 4, none⟩ = some (.slice B13 m13 d13) ∧ w'.cell? ⟨z1.heap.size, 5, none⟩ = some (.int .i64 a1.hi.e) ∧ w'.cell? ⟨z2.heap.size, 0, none⟩ = some (.bool a2.lo.neg) ∧ w'.cell? ⟨z2.heap.size, 1, none⟩ = some (.slice A23 n23 c23) ∧ w'.cell? ⟨z2.heap.size, 2, none⟩ = some (.int .i64 a2.lo.e) ∧ w'.cell? ⟨z2.heap.size, 3, none⟩ = some (.bool a2.hi.neg) ∧ w'.cell? ⟨z2.heap.size, 4, none⟩ = some (.slice B23 m23 d23) ∧ w'.cell? ⟨z2.heap.size, 5, none⟩ = some (.int .i64 a2.hi.e))
    (first | with_reducible exact HPT.out _ _ _ V6 _ _ _ _ _ _ | with_reducible exact HC.out _ _ _ V6 | with_reducible exact HC.out _ _ _ V5 | with_reducible exact XS)
    (first
      | (go_at_call 27; refine (Ce.out q3.drew _ _ _ _ _ _ _ _ _ _ _ _ _ _ VD p0 p1 p2 p3).mono ?_; rintro e' v5 ⟨A31, n31, c31, B31, m31, d31, rfl, N1, N2, W5, o5⟩; have V5 := ((VD.only o5 W5).num N2).num N1; have r1 := V5.ns.1; have r2 := V5.ns.2.1; have r3 := V5.ns.2.2.1; have r4 := V5.ns.2.2.2.1)
      | (go_at_call 26; refine (Cf.out v5 _ _ _ _ _ _ _ _ _ _ _ _ _ _ V5 r1 r2 r3 r4).mono ?_; rintro e' v6 ⟨A32, n32, c32, B32, m32, d32, rfl, N1, N2, W6, o6⟩; have V6 := ((V5.only o6 W6).num N2).num N1; have z1 := V6.ks.2.2.2.1.1; have z1c0 := z1.at_ 0 _ rfl; have z1c1 := z1.at_ 1 _ rfl; have z1c2 := z1.at_ 2 _ rfl; have z1c3 := z1.at_ 3 _ rfl; have z1c4 := z1.at_ 4 _ rfl; have z1c5 := z1.at_ 5 _ rfl; have z1f0 := z1.fr 0; have z1f1 := z1.fr 1; have z1f2 := z1.fr 2; have z1f3 := z1.fr 3; have z1f4 := z1.fr 4; have z1f5 := z1.fr 5; have z1l := z1.2; have z1n := Nat.ne_of_lt z1.2; have z1n2 := Nat.ne_of_gt z1.2))
  go_wp2_with fail
  rw [HF.out]
  have y1 := V6.ns.1
  have y2 := V6.ns.2.1
  obtain ⟨x1, x2, x3, x4⟩ := V6.give (lo := f_.lo) (hi := f_.hi) y1 y2 z1 (by omega)
  exact bodyPost_ret (v := spv f_.lo.neg A32 n32 c32 f_.lo.e f_.hi.neg B32 m32 d32 f_.hi.e) (by simp [results, Tryz.results12, go_sem, z1c0, z1c1, z1c2, z1c3, z1c4, z1c5]) rfl ⟨A32, n32, c32, B32, m32, d32, rfl, x1, x2, x3, x4⟩
/-- What Ln2 answers, where its three loops end behind so many rounds. -/
def rlnR (p : Int) (bad : Bool) (M0 M1 M2 : Nat) : SRes :=
  let a := partR p bad 18 26 false M0
  let b := partR p a.bad 2 4801 false M1
  let c := partR p b.bad 8 8749 false M2
  let e := subS p c.bad a.lo a.hi b.lo b.hi
  addS p e.bad e.lo e.hi c.lo c.hi
set_option maxRecDepth 8000 in
set_option maxHeartbeats 4000000 in
theorem rln_any (M0 M1 M2 : Nat) (g : Nat) (p : Int) (bad : Bool) (w : World) (hW : Wk 41 w g p bad) (hT : Tab w) (hp1 : -1000000 ≤ p) (hp2 : p ≤ 1000000)
    (h0 : LoopEnds p (numS p bad 18).bad 26 false M0) (h1 : LoopEnds p (numS p (partR p bad 18 26 false M0).bad 2).bad 4801 false M1)
    (h2 : LoopEnds p (numS p (partR p (partR p bad 18 26 false M0).bad 2 4801 false M1).bad 8).bad 8749 false M2) :
    Calls Tryz.prog 14 #[.pointer (some ⟨g, 0, none⟩)] w (SPost 41 w g p (rlnR p bad M0 M1 M2)) := by
  have S := (St.start hW).alloc 29 zs
  have TB : Hid (∀ b' w' ks ns, St 41 w g p b' w' ks ns → Tab w') := Lib.hid (fun b' w' ks ns h => hT.wk hW h.O)
  obtain ⟨u0, hu0⟩ : ∃ r, r = numS p bad 18 := ⟨_, rfl⟩
  obtain ⟨v0, hv0⟩ : ∃ r, r = inverseR p u0.bad 26 false M0 := ⟨_, rfl⟩
  obtain ⟨a0, ha0⟩ : ∃ r, r = mulR p v0.bad u0.lo u0.hi v0.lo v0.hi := ⟨_, rfl⟩
  have ea0 : partR p bad 18 26 false M0 = a0 := by rw [ha0, hv0, hu0]; rfl
  rw [← hu0] at h0
  have Gu0 : SGood u0 := by rw [hu0]; exact sgood_num (by omega) (by omega)
  have Gv0 : SGood v0 := by rw [hv0]; exact sgood_add
  have Ga0 : SGood a0 := by rw [ha0]; exact sgood_mulR
  have Cu0 : Hid (∀ w' ks ns, St 41 w g p bad w' ks ns → Calls Tryz.prog 19 #[.pointer (some ⟨g, 0, none⟩), .int .i64 18] w' (SPost 41 w' g p u0)) := Lib.hid (fun w' ks ns h => by rw [hu0]; exact rnum_any 18 g p bad w' h.W (TB.out _ _ _ _ h) (by omega) (by omega))
  have Cv0 : Hid (∀ w' ks ns, St 41 w g p u0.bad w' ks ns → Calls Tryz.prog 25 #[.pointer (some ⟨g, 0, none⟩), .int .i64 26, .int .i64 1] w' (SPost 41 w' g p v0)) := Lib.hid (fun w' ks ns h => by rw [hv0]; exact inverse_any 26 1 false M0 g p u0.bad w' h.W (TB.out _ _ _ _ h) hp1 hp2 (by omega) (by omega) (by decide) h0.1 h0.2.1 h0.2.2)
  have Ca0 : Hid (∀ w' ks ns A n c B m d A' n' c' B' m' d', St 41 w g p v0.bad w' ks ns → Num w' (.slice A n c) u0.lo.m → Num w' (.slice B m d) u0.hi.m → Num w' (.slice A' n' c') v0.lo.m → Num w' (.slice B' m' d') v0.hi.m → Calls Tryz.prog 24 #[.pointer (some ⟨g, 0, none⟩), spv u0.lo.neg A n c u0.lo.e u0.hi.neg B m d u0.hi.e, spv v0.lo.neg A' n' c' v0.lo.e v0.hi.neg B' m' d' v0.hi.e] w' (SPost 41 w' g p a0)) := Lib.hid (fun w' ks ns A n c B m d A' n' c' B' m' d' h h1 h2 h3 h4 => by rw [ha0]; exact rsmul_any g p v0.bad w' h.W (DIn.of_num h1 Gu0.l2 Gu0.l1) (DIn.of_num h2 Gu0.h2 Gu0.h1) (DIn.of_num h3 Gv0.l2 Gv0.l1) (DIn.of_num h4 Gv0.h2 Gv0.h1) (TB.out _ _ _ _ h))
  obtain ⟨u1, hu1⟩ : ∃ r, r = numS p a0.bad 2 := ⟨_, rfl⟩
  obtain ⟨v1, hv1⟩ : ∃ r, r = inverseR p u1.bad 4801 false M1 := ⟨_, rfl⟩
  obtain ⟨a1, ha1⟩ : ∃ r, r = mulR p v1.bad u1.lo u1.hi v1.lo v1.hi := ⟨_, rfl⟩
  have ea1 : partR p a0.bad 2 4801 false M1 = a1 := by rw [ha1, hv1, hu1]; rfl
  rw [ea0, ← hu1] at h1
  have Gu1 : SGood u1 := by rw [hu1]; exact sgood_num (by omega) (by omega)
  have Gv1 : SGood v1 := by rw [hv1]; exact sgood_add
  have Ga1 : SGood a1 := by rw [ha1]; exact sgood_mulR
  have Cu1 : Hid (∀ w' ks ns, St 41 w g p a0.bad w' ks ns → Calls Tryz.prog 19 #[.pointer (some ⟨g, 0, none⟩), .int .i64 2] w' (SPost 41 w' g p u1)) := Lib.hid (fun w' ks ns h => by rw [hu1]; exact rnum_any 2 g p a0.bad w' h.W (TB.out _ _ _ _ h) (by omega) (by omega))
  have Cv1 : Hid (∀ w' ks ns, St 41 w g p u1.bad w' ks ns → Calls Tryz.prog 25 #[.pointer (some ⟨g, 0, none⟩), .int .i64 4801, .int .i64 1] w' (SPost 41 w' g p v1)) := Lib.hid (fun w' ks ns h => by rw [hv1]; exact inverse_any 4801 1 false M1 g p u1.bad w' h.W (TB.out _ _ _ _ h) hp1 hp2 (by omega) (by omega) (by decide) h1.1 h1.2.1 h1.2.2)
  have Ca1 : Hid (∀ w' ks ns A n c B m d A' n' c' B' m' d', St 41 w g p v1.bad w' ks ns → Num w' (.slice A n c) u1.lo.m → Num w' (.slice B m d) u1.hi.m → Num w' (.slice A' n' c') v1.lo.m → Num w' (.slice B' m' d') v1.hi.m → Calls Tryz.prog 24 #[.pointer (some ⟨g, 0, none⟩), spv u1.lo.neg A n c u1.lo.e u1.hi.neg B m d u1.hi.e, spv v1.lo.neg A' n' c' v1.lo.e v1.hi.neg B' m' d' v1.hi.e] w' (SPost 41 w' g p a1)) := Lib.hid (fun w' ks ns A n c B m d A' n' c' B' m' d' h h1 h2 h3 h4 => by rw [ha1]; exact rsmul_any g p v1.bad w' h.W (DIn.of_num h1 Gu1.l2 Gu1.l1) (DIn.of_num h2 Gu1.h2 Gu1.h1) (DIn.of_num h3 Gv1.l2 Gv1.l1) (DIn.of_num h4 Gv1.h2 Gv1.h1) (TB.out _ _ _ _ h))
  obtain ⟨u2, hu2⟩ : ∃ r, r = numS p a1.bad 8 := ⟨_, rfl⟩
  obtain ⟨v2, hv2⟩ : ∃ r, r = inverseR p u2.bad 8749 false M2 := ⟨_, rfl⟩
  obtain ⟨a2, ha2⟩ : ∃ r, r = mulR p v2.bad u2.lo u2.hi v2.lo v2.hi := ⟨_, rfl⟩
  have ea2 : partR p a1.bad 8 8749 false M2 = a2 := by rw [ha2, hv2, hu2]; rfl
  rw [ea0, ea1, ← hu2] at h2
  have Gu2 : SGood u2 := by rw [hu2]; exact sgood_num (by omega) (by omega)
  have Gv2 : SGood v2 := by rw [hv2]; exact sgood_add
  have Ga2 : SGood a2 := by rw [ha2]; exact sgood_mulR
  have Cu2 : Hid (∀ w' ks ns, St 41 w g p a1.bad w' ks ns → Calls Tryz.prog 19 #[.pointer (some ⟨g, 0, none⟩), .int .i64 8] w' (SPost 41 w' g p u2)) := Lib.hid (fun w' ks ns h => by rw [hu2]; exact rnum_any 8 g p a1.bad w' h.W (TB.out _ _ _ _ h) (by omega) (by omega))
  have Cv2 : Hid (∀ w' ks ns, St 41 w g p u2.bad w' ks ns → Calls Tryz.prog 25 #[.pointer (some ⟨g, 0, none⟩), .int .i64 8749, .int .i64 1] w' (SPost 41 w' g p v2)) := Lib.hid (fun w' ks ns h => by rw [hv2]; exact inverse_any 8749 1 false M2 g p u2.bad w' h.W (TB.out _ _ _ _ h) hp1 hp2 (by omega) (by omega) (by decide) h2.1 h2.2.1 h2.2.2)
  have Ca2 : Hid (∀ w' ks ns A n c B m d A' n' c' B' m' d', St 41 w g p v2.bad w' ks ns → Num w' (.slice A n c) u2.lo.m → Num w' (.slice B m d) u2.hi.m → Num w' (.slice A' n' c') v2.lo.m → Num w' (.slice B' m' d') v2.hi.m → Calls Tryz.prog 24 #[.pointer (some ⟨g, 0, none⟩), spv u2.lo.neg A n c u2.lo.e u2.hi.neg B m d u2.hi.e, spv v2.lo.neg A' n' c' v2.lo.e v2.hi.neg B' m' d' v2.hi.e] w' (SPost 41 w' g p a2)) := Lib.hid (fun w' ks ns A n c B m d A' n' c' B' m' d' h h1 h2 h3 h4 => by rw [ha2]; exact rsmul_any g p v2.bad w' h.W (DIn.of_num h1 Gu2.l2 Gu2.l1) (DIn.of_num h2 Gu2.h2 Gu2.h1) (DIn.of_num h3 Gv2.l2 Gv2.l1) (DIn.of_num h4 Gv2.h2 Gv2.h1) (TB.out _ _ _ _ h))
  obtain ⟨e_, he_⟩ : ∃ r, r = subS p a2.bad a0.lo a0.hi a1.lo a1.hi := ⟨_, rfl⟩
  obtain ⟨f_, hf_⟩ : ∃ r, r = addS p e_.bad e_.lo e_.hi a2.lo a2.hi := ⟨_, rfl⟩
  have HF : Hid (rlnR p bad M0 M1 M2 = f_) := Lib.hid (by unfold rlnR; simp only [ea0, ea1, ea2]; rw [hf_, he_])
  have Ge : SGood e_ := by rw [he_]; exact sgood_sub
  have Ce : Hid (∀ w' ks ns A n c B m d A' n' c' B' m' d', St 41 w g p a2.bad w' ks ns → Num w' (.slice A n c) a0.lo.m → Num w' (.slice B m d) a0.hi.m → Num w' (.slice A' n' c') a1.lo.m → Num w' (.slice B' m' d') a1.hi.m → Calls Tryz.prog 26 #[.pointer (some ⟨g, 0, none⟩), spv a0.lo.neg A n c a0.lo.e a0.hi.neg B m d a0.hi.e, spv a1.lo.neg A' n' c' a1.lo.e a1.hi.neg B' m' d' a1.hi.e] w' (SPost 41 w' g p e_)) := Lib.hid (fun w' ks ns A n c B m d A' n' c' B' m' d' h h1 h2 h3 h4 => by rw [he_]; exact rssub_any g p a2.bad w' h.W (DIn.of_num h1 Ga0.l2 Ga0.l1) (DIn.of_num h2 Ga0.h2 Ga0.h1) (DIn.of_num h3 Ga1.l2 Ga1.l1) (DIn.of_num h4 Ga1.h2 Ga1.h1) (TB.out _ _ _ _ h))
  have Cf : Hid (∀ w' ks ns A n c B m d A' n' c' B' m' d', St 41 w g p e_.bad w' ks ns → Num w' (.slice A n c) e_.lo.m → Num w' (.slice B m d) e_.hi.m → Num w' (.slice A' n' c') a2.lo.m → Num w' (.slice B' m' d') a2.hi.m → Calls Tryz.prog 27 #[.pointer (some ⟨g, 0, none⟩), spv e_.lo.neg A n c e_.lo.e e_.hi.neg B m d e_.hi.e, spv a2.lo.neg A' n' c' a2.lo.e a2.hi.neg B' m' d' a2.hi.e] w' (SPost 41 w' g p f_)) := Lib.hid (fun w' ks ns A n c B m d A' n' c' B' m' d' h h1 h2 h3 h4 => by rw [hf_]; exact rsadd_any g p e_.bad w' h.W (DIn.of_num h1 Ge.l2 Ge.l1) (DIn.of_num h2 Ge.h2 Ge.h1) (DIn.of_num h3 Ga2.l2 Ga2.l1) (DIn.of_num h4 Ga2.h2 Ga2.h1) (TB.out _ _ _ _ h))
  clear he_ hf_ Ge ea0 ea1 ea2 Ga0 Ga1 Ga2 TB hT hW
  clear h0 h1 h2 hu0 hv0 ha0 Gu0 Gv0 hu1 hv1 ha1 Gu1 Gv1 hu2 hv2 ha2 Gu2 Gv2
  go_enter Tryz.func14, Tryz.ntmps14
  go_wp2_with fail
  refine (Cu0.out _ _ _ S).mono ?_
  generalize w.alloc (.cells zs 29) = w0 at *
  rintro e' x0 ⟨A1, n1, c1, B1, m1, d1, rfl, Na, Nb, Wx, ox⟩
  replace S := ((S.only ox Wx).num Nb).num Na
  clear Na Nb Wx ox Cu0
  go_wp2_with fail
  refine (Cv0.out _ _ _ S).mono ?_
  rintro e' y0 ⟨A2, n2, c2, B2, m2, d2, rfl, Na, Nb, Wx, ox⟩
  replace S := ((S.only ox Wx).num Nb).num Na
  clear Na Nb Wx ox Cv0
  go_wp2_with fail
  refine (Ca0.out _ _ _ _ _ _ _ _ _ _ _ _ _ _ _ S S.ns.2.2.1 S.ns.2.2.2.1 S.ns.1 S.ns.2.1).mono ?_
  rintro e' z0 ⟨A3, n3, c3, B3, m3, d3, rfl, Na, Nb, Wx, ox⟩
  replace S := ((S.only ox Wx).num Nb).num Na
  have hz0 := Lib.hid (show w.heap.size < z0.heap.size from S.ks.1.1.2)
  replace S := S.alloc 29 #[.bool a0.lo.neg, .slice A3 n3 c3, .int .i64 a0.lo.e, .bool a0.hi.neg, .slice B3 m3 d3, .int .i64 a0.hi.e]
  clear Na Nb Wx ox Ca0
  go_wp2_with fail
  refine (Cu1.out _ _ _ S).mono ?_
  generalize z0.alloc (.cells #[.bool a0.lo.neg, .slice A3 n3 c3, .int .i64 a0.lo.e, .bool a0.hi.neg, .slice B3 m3 d3, .int .i64 a0.hi.e] 29) = q1 at *
  rintro e' x1 ⟨A11, n11, c11, B11, m11, d11, rfl, Na, Nb, Wx, ox⟩
  replace S := ((S.only ox Wx).num Nb).num Na
  clear Na Nb Wx ox Cu1
  go_wp2_with fail
  refine (Cv1.out _ _ _ S).mono ?_
  rintro e' y1 ⟨A12, n12, c12, B12, m12, d12, rfl, Na, Nb, Wx, ox⟩
  replace S := ((S.only ox Wx).num Nb).num Na
  clear Na Nb Wx ox Cv1
  go_wp2_with fail
  refine (Ca1.out _ _ _ _ _ _ _ _ _ _ _ _ _ _ _ S S.ns.2.2.1 S.ns.2.2.2.1 S.ns.1 S.ns.2.1).mono ?_
  rintro e' z1 ⟨A13, n13, c13, B13, m13, d13, rfl, Na, Nb, Wx, ox⟩
  replace S := ((S.only ox Wx).num Nb).num Na
  have hz1 := Lib.hid (show w.heap.size < z1.heap.size from S.ks.2.1.1.2)
  replace S := S.alloc 29 #[.bool a1.lo.neg, .slice A13 n13 c13, .int .i64 a1.lo.e, .bool a1.hi.neg, .slice B13 m13 d13, .int .i64 a1.hi.e]
  clear Na Nb Wx ox Ca1
  go_wp2_with fail
  refine (Cu2.out _ _ _ S).mono ?_
  generalize z1.alloc (.cells #[.bool a1.lo.neg, .slice A13 n13 c13, .int .i64 a1.lo.e, .bool a1.hi.neg, .slice B13 m13 d13, .int .i64 a1.hi.e] 29) = q2 at *
  rintro e' x2 ⟨A21, n21, c21, B21, m21, d21, rfl, Na, Nb, Wx, ox⟩
  replace S := ((S.only ox Wx).num Nb).num Na
  clear Na Nb Wx ox Cu2
  go_wp2_with fail
  refine (Cv2.out _ _ _ S).mono ?_
  rintro e' y2 ⟨A22, n22, c22, B22, m22, d22, rfl, Na, Nb, Wx, ox⟩
  replace S := ((S.only ox Wx).num Nb).num Na
  clear Na Nb Wx ox Cv2
  go_wp2_with fail
  refine (Ca2.out _ _ _ _ _ _ _ _ _ _ _ _ _ _ _ S S.ns.2.2.1 S.ns.2.2.2.1 S.ns.1 S.ns.2.1).mono ?_
  rintro e' z2 ⟨A23, n23, c23, B23, m23, d23, rfl, Na, Nb, Wx, ox⟩
  replace S := ((S.only ox Wx).num Nb).num Na
  have hz2 := Lib.hid (show w.heap.size < z2.heap.size from S.ks.2.2.1.1.2)
  replace S := S.alloc 29 #[.bool a2.lo.neg, .slice A23 n23 c23, .int .i64 a2.lo.e, .bool a2.hi.neg, .slice B23 m23 d23, .int .i64 a2.hi.e]
  clear Na Nb Wx ox Ca2
  go_upto_region 4 with fail
  generalize z2.alloc (.cells #[.bool a2.lo.neg, .slice A23 n23 c23, .int .i64 a2.lo.e, .bool a2.hi.neg, .slice B23 m23 d23, .int .i64 a2.hi.e] 29) = q3 at *
  have n0 : z0.heap.size ≠ w.heap.size := Nat.ne_of_gt hz0.out
  have n1 : z1.heap.size ≠ w.heap.size := Nat.ne_of_gt hz1.out
  have n2 : z2.heap.size ≠ w.heap.size := Nat.ne_of_gt hz2.out
  have HC : Hid (∀ b' w' ns, St 41 w g p b' w' [(29, z2.heap.size, #[.bool a2.lo.neg, .slice A23 n23 c23, .int .i64 a2.lo.e, .bool a2.hi.neg, .slice B23 m23 d23, .int .i64 a2.hi.e]), (29, z1.heap.size, #[.bool a1.lo.neg, .slice A13 n13 c13, .int .i64 a1.lo.e, .bool a1.hi.neg, .slice B13 m13 d13, .int .i64 a1.hi.e]), (29, z0.heap.size, #[.bool a0.lo.neg, .slice A3 n3 c3, .int .i64 a0.lo.e, .bool a0.hi.neg, .slice B3 m3 d3, .int .i64 a0.hi.e]), (29, w.heap.size, zs)] ns → w'.cell? ⟨z0.heap.size, 0, none⟩ = some (.bool a0.lo.neg) ∧ w'.cell? ⟨z0.heap.size, 1, none⟩ = some (.slice A3 n3 c3) ∧ w'.cell? ⟨z0.heap.size, 2, none⟩ = some (.int .i64 a0.lo.e) ∧ w'.cell? ⟨z0.heap.size, 3, none⟩ = some (.bool a0.hi.neg) ∧ w'.cell? ⟨z0.heap.size, 4, none⟩ = some (.slice B3 m3 d3) ∧ w'.cell? ⟨z0.heap.size, 5, none⟩ = some (.int .i64 a0.hi.e) ∧ w'.cell? ⟨z1.heap.size, 0, none⟩ = some (.bool a1.lo.neg) ∧ w'.cell? ⟨z1.heap.size, 1, none⟩ = some (.slice A13 n13 c13) ∧ w'.cell? ⟨z1.heap.size, 2, none⟩ = some (.int .i64 a1.lo.e) ∧ w'.cell? ⟨z1.heap.size, 3, none⟩ = some (.bool a1.hi.neg) ∧ w'.cell? ⟨z1.heap.size, 4, none⟩ = some (.slice B13 m13 d13) ∧ w'.cell? ⟨z1.heap.size, 5, none⟩ = some (.int .i64 a1.hi.e) ∧ w'.cell? ⟨z2.heap.size, 0, none⟩ = some (.bool a2.lo.neg) ∧ w'.cell? ⟨z2.heap.size, 1, none⟩ = some (.slice A23 n23 c23) ∧ w'.cell? ⟨z2.heap.size, 2, none⟩ = some (.int .i64 a2.lo.e) ∧ w'.cell? ⟨z2.heap.size, 3, none⟩ = some (.bool a2.hi.neg) ∧ w'.cell? ⟨z2.heap.size, 4, none⟩ = some (.slice B23 m23 d23) ∧ w'.cell? ⟨z2.heap.size, 5, none⟩ = some (.int .i64 a2.hi.e)) := Lib.hid (fun b' w' ns h => ⟨h.ks.2.2.1.1.at_ 0 _ rfl, h.ks.2.2.1.1.at_ 1 _ rfl, h.ks.2.2.1.1.at_ 2 _ rfl, h.ks.2.2.1.1.at_ 3 _ rfl, h.ks.2.2.1.1.at_ 4 _ rfl, h.ks.2.2.1.1.at_ 5 _ rfl, h.ks.2.1.1.at_ 0 _ rfl, h.ks.2.1.1.at_ 1 _ rfl, h.ks.2.1.1.at_ 2 _ rfl, h.ks.2.1.1.at_ 3 _ rfl, h.ks.2.1.1.at_ 4 _ rfl, h.ks.2.1.1.at_ 5 _ rfl, h.ks.1.1.at_ 0 _ rfl, h.ks.1.1.at_ 1 _ rfl, h.ks.1.1.at_ 2 _ rfl, h.ks.1.1.at_ 3 _ rfl, h.ks.1.1.at_ 4 _ rfl, h.ks.1.1.at_ 5 _ rfl⟩)
  have HPT : Hid (∀ b' w' ns, St 41 w g p b' w' [(29, z2.heap.size, #[.bool a2.lo.neg, .slice A23 n23 c23, .int .i64 a2.lo.e, .bool a2.hi.neg, .slice B23 m23 d23, .int .i64 a2.hi.e]), (29, z1.heap.size, #[.bool a1.lo.neg, .slice A13 n13 c13, .int .i64 a1.lo.e, .bool a1.hi.neg, .slice B13 m13 d13, .int .i64 a1.hi.e]), (29, z0.heap.size, #[.bool a0.lo.neg, .slice A3 n3 c3, .int .i64 a0.lo.e, .bool a0.hi.neg, .slice B3 m3 d3, .int .i64 a0.hi.e]), (29, w.heap.size, zs)] ns → ∀ x y z x' y' z', (put6 w' w.heap.size x y z x' y' z').cell? ⟨z0.heap.size, 0, none⟩ = some (.bool a0.lo.neg) ∧ (put6 w' w.heap.size x y z x' y' z').cell? ⟨z0.heap.size, 1, none⟩ = some (.slice A3 n3 c3) ∧ (put6 w' w.heap.size x y z x' y' z').cell? ⟨z0.heap.size, 2, none⟩ = some (.int .i64 a0.lo.e) ∧ (put6 w' w.heap.size x y z x' y' z').cell? ⟨z0.heap.size, 3, none⟩ = some (.bool a0.hi.neg) ∧ (put6 w' w.heap.size x y z x' y' z').cell? ⟨z0.heap.size, 4, none⟩ = some (.slice B3 m3 d3) ∧ (put6 w' w.heap.size x y z x' y' z').cell? ⟨z0.heap.size, 5, none⟩ = some (.int .i64 a0.hi.e) ∧ (put6 w' w.heap.size x y z x' y' z').cell? ⟨z1.heap.size, 0, none⟩ = some (.bool a1.lo.neg) ∧ (put6 w' w.heap.size x y z x' y' z').cell? ⟨z1.heap.size, 1, none⟩ = some (.slice A13 n13 c13) ∧ (put6 w' w.heap.size x y z x' y' z').cell? ⟨z1.heap.size, 2, none⟩ = some (.int .i64 a1.lo.e) ∧ (put6 w' w.heap.size x y z x' y' z').cell? ⟨z1.heap.size, 3, none⟩ = some (.bool a1.hi.neg) ∧ (put6 w' w.heap.size x y z x' y' z').cell? ⟨z1.heap.size, 4, none⟩ = some (.slice B13 m13 d13) ∧ (put6 w' w.heap.size x y z x' y' z').cell? ⟨z1.heap.size, 5, none⟩ = some (.int .i64 a1.hi.e) ∧ (put6 w' w.heap.size x y z x' y' z').cell? ⟨z2.heap.size, 0, none⟩ = some (.bool a2.lo.neg) ∧ (put6 w' w.heap.size x y z x' y' z').cell? ⟨z2.heap.size, 1, none⟩ = some (.slice A23 n23 c23) ∧ (put6 w' w.heap.size x y z x' y' z').cell? ⟨z2.heap.size, 2, none⟩ = some (.int .i64 a2.lo.e) ∧ (put6 w' w.heap.size x y z x' y' z').cell? ⟨z2.heap.size, 3, none⟩ = some (.bool a2.hi.neg) ∧ (put6 w' w.heap.size x y z x' y' z').cell? ⟨z2.heap.size, 4, none⟩ = some (.slice B23 m23 d23) ∧ (put6 w' w.heap.size x y z x' y' z').cell? ⟨z2.heap.size, 5, none⟩ = some (.int .i64 a2.hi.e)) := Lib.hid (fun b' w' ns h x y z x' y' z' => ⟨(h.ks.2.2.1.1.only (only_put6 w' w.heap.size x y z x' y' z') n0).at_ 0 _ rfl, (h.ks.2.2.1.1.only (only_put6 w' w.heap.size x y z x' y' z') n0).at_ 1 _ rfl, (h.ks.2.2.1.1.only (only_put6 w' w.heap.size x y z x' y' z') n0).at_ 2 _ rfl, (h.ks.2.2.1.1.only (only_put6 w' w.heap.size x y z x' y' z') n0).at_ 3 _ rfl, (h.ks.2.2.1.1.only (only_put6 w' w.heap.size x y z x' y' z') n0).at_ 4 _ rfl, (h.ks.2.2.1.1.only (only_put6 w' w.heap.size x y z x' y' z') n0).at_ 5 _ rfl, (h.ks.2.1.1.only (only_put6 w' w.heap.size x y z x' y' z') n1).at_ 0 _ rfl, (h.ks.2.1.1.only (only_put6 w' w.heap.size x y z x' y' z') n1).at_ 1 _ rfl, (h.ks.2.1.1.only (only_put6 w' w.heap.size x y z x' y' z') n1).at_ 2 _ rfl, (h.ks.2.1.1.only (only_put6 w' w.heap.size x y z x' y' z') n1).at_ 3 _ rfl, (h.ks.2.1.1.only (only_put6 w' w.heap.size x y z x' y' z') n1).at_ 4 _ rfl, (h.ks.2.1.1.only (only_put6 w' w.heap.size x y z x' y' z') n1).at_ 5 _ rfl, (h.ks.1.1.only (only_put6 w' w.heap.size x y z x' y' z') n2).at_ 0 _ rfl, (h.ks.1.1.only (only_put6 w' w.heap.size x y z x' y' z') n2).at_ 1 _ rfl, (h.ks.1.1.only (only_put6 w' w.heap.size x y z x' y' z') n2).at_ 2 _ rfl, (h.ks.1.1.only (only_put6 w' w.heap.size x y z x' y' z') n2).at_ 3 _ rfl, (h.ks.1.1.only (only_put6 w' w.heap.size x y z x' y' z') n2).at_ 4 _ rfl, (h.ks.1.1.only (only_put6 w' w.heap.size x y z x' y' z') n2).at_ 5 _ rfl⟩)
  have VD := S.drew
  clear S
  have XS := HC.out _ _ _ VD
  have p0 := VD.ns.2.2.2.2.2.2.2.2.2.2.2.2.1
  have p1 := VD.ns.2.2.2.2.2.2.2.2.2.2.2.2.2.1
  have p2 := VD.ns.2.2.2.2.2.2.1
  have p3 := VD.ns.2.2.2.2.2.2.2.1
  clear n0 n1 n2
  go_region_held3 (fun w' => w'.cell? ⟨z0.heap.size, 0, none⟩ = some (.bool a0.lo.neg) ∧ w'.cell? ⟨z0.heap.size, 1, none⟩ = some (.slice A3 n3 c3) ∧ w'.cell? ⟨z0.heap.size, 2, none⟩ = some (.int .i64 a0.lo.e) ∧ w'.cell? ⟨z0.heap.size, 3, none⟩ = some (.bool a0.hi.neg) ∧ w'.cell? ⟨z0.heap.size, 4, none⟩ = some (.slice B3 m3 d3) ∧ w'.cell? ⟨z0.heap.size, 5, none⟩ = some (.int .i64 a0.hi.e) ∧ w'.cell? ⟨z1.heap.size, 0, none⟩ = some (.bool a1.lo.neg) ∧ w'.cell? ⟨z1.heap.size, 1, none⟩ = some (.slice A13 n13 c13) ∧ w'.cell? ⟨z1.heap.size, 2, none⟩ = some (.int .i64 a1.lo.e) ∧ w'.cell? ⟨z1.heap.size, 3, none⟩ = some (.bool a1.hi.neg) ∧ w'.cell? ⟨z1.heap.size, 4, none⟩ = some (.slice B13 m13 d13) ∧ w'.cell? ⟨z1.heap.size, 5, none⟩ = some (.int .i64 a1.hi.e) ∧ w'.cell? ⟨z2.heap.size, 0, none⟩ = some (.bool a2.lo.neg) ∧ w'.cell? ⟨z2.heap.size, 1, none⟩ = some (.slice A23 n23 c23) ∧ w'.cell? ⟨z2.heap.size, 2, none⟩ = some (.int .i64 a2.lo.e) ∧ w'.cell? ⟨z2.heap.size, 3, none⟩ = some (.bool a2.hi.neg) ∧ w'.cell? ⟨z2.heap.size, 4, none⟩ = some (.slice B23 m23 d23) ∧ w'.cell? ⟨z2.heap.size, 5, none⟩ = some (.int .i64 a2.hi.e))
    (first | with_reducible exact HPT.out _ _ _ V6 _ _ _ _ _ _ | with_reducible exact HC.out _ _ _ V6 | with_reducible exact HC.out _ _ _ V5 | with_reducible exact XS)
    (first
      | (go_at_call 26; refine (Ce.out q3.drew _ _ _ _ _ _ _ _ _ _ _ _ _ _ VD p0 p1 p2 p3).mono ?_; rintro e' v5 ⟨A31, n31, c31, B31, m31, d31, rfl, N1, N2, W5, o5⟩; have V5 := ((VD.only o5 W5).num N2).num N1; have r1 := V5.ns.1; have r2 := V5.ns.2.1; have r3 := V5.ns.2.2.1; have r4 := V5.ns.2.2.2.1)
      | (go_at_call 27; refine (Cf.out v5 _ _ _ _ _ _ _ _ _ _ _ _ _ _ V5 r1 r2 r3 r4).mono ?_; rintro e' v6 ⟨A32, n32, c32, B32, m32, d32, rfl, N1, N2, W6, o6⟩; have V6 := ((V5.only o6 W6).num N2).num N1; have z1 := V6.ks.2.2.2.1.1; have z1c0 := z1.at_ 0 _ rfl; have z1c1 := z1.at_ 1 _ rfl; have z1c2 := z1.at_ 2 _ rfl; have z1c3 := z1.at_ 3 _ rfl; have z1c4 := z1.at_ 4 _ rfl; have z1c5 := z1.at_ 5 _ rfl; have z1f0 := z1.fr 0; have z1f1 := z1.fr 1; have z1f2 := z1.fr 2; have z1f3 := z1.fr 3; have z1f4 := z1.fr 4; have z1f5 := z1.fr 5; have z1l := z1.2; have z1n := Nat.ne_of_lt z1.2; have z1n2 := Nat.ne_of_gt z1.2))
  go_wp2_with fail
  rw [HF.out]
  have y1 := V6.ns.1
  have y2 := V6.ns.2.1
  obtain ⟨x1, x2, x3, x4⟩ := V6.give (lo := f_.lo) (hi := f_.hi) y1 y2 z1 (by omega)
  exact bodyPost_ret (v := spv f_.lo.neg A32 n32 c32 f_.lo.e f_.hi.neg B32 m32 d32 f_.hi.e) (by simp [results, Tryz.results14, go_sem, z1c0, z1c1, z1c2, z1c3, z1c4, z1c5]) rfl ⟨A32, n32, c32, B32, m32, d32, rfl, x1, x2, x3, x4⟩
end Go.Proofs.YtodjldhppbbhdaaGreatDoor
