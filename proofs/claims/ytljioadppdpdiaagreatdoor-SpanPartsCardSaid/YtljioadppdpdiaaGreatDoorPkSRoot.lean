/-
  Root of both.
-/
import Derived.Test.YtljioadppdpdiaaGreatDoorPkDy8
import Derived.Test.YtljioadppdpdiaaGreatDoorPkDy10
import Derived.Test.YtljioadppdpdiaaGreatDoorPkSp3
namespace Go.Proofs.YtljioadppdpdiaaGreatDoor
open Go.RowKit

def rootI (r : DR) (p : Int) (up : Bool) : DR := rootD (r.ok && !r.neg && bitsFitB p) r.m r.e p up
theorem plIf_rootI (r : DR) (p : Int) (up : Bool) : PlIf (rootI r p up) := by
  unfold rootI rootD
  cases r.ok && !r.neg && bitsFitB p
  · exact plIf_no
  · exact plIf_cut _ _ _ _ _ _
def rootS (p : Int) (bad : Bool) (lo hi : DR) : SRes := twoS (bad1 p bad lo hi) (rootI lo p false) (rootI hi p true)
theorem rrootI {r : DR} {A : Option Addr} {n c : Nat} (p : Int) (up : Bool) (w : World) (h : DIn w A n c r) (hT : Tab w) :
    Calls Tryz.prog 42 #[dyv r.neg A n c r.e, .int .i64 p, .bool up] w (DP w (rootI r p up)) := by
  obtain ⟨x, a1, a2, a3, a4⟩ := h
  have := rroot_any r.neg A n c x r.e p up w a1 a2 hT
  unfold rootI
  rw [a3, a4]
  exact this.mono fun _ _ h => h.dp
theorem drootI {r : DR} {A : Option Addr} {n c : Nat} (p : Int) (up : Bool) (w : World) (h : DIn w A n c r) (hT : Tab w) :
    Calls Tryz.prog 41 #[dyv r.neg A n c r.e, .int .i64 p, .bool up] w (DP w (rootI r p up)) := by
  obtain ⟨x, a1, a2, a3, a4⟩ := h
  have := droot_any r.neg A n c x r.e p up w a1 a2 hT
  unfold rootI
  rw [a3, a4]
  exact this.mono fun _ _ h => h.dp
set_option maxRecDepth 8000 in
set_option maxHeartbeats 4000000 in
theorem rsroot_any {lo hi : DR} {A B : Option Addr} {n c m d : Nat} (g : Nat) (p : Int) (bad : Bool) (w : World) (hW : Wk 38 w g p bad) (ha : DIn w A n c lo) (hb : DIn w B m d hi) (hT : Tab w) :
    Calls Tryz.prog 19 #[.pointer (some ⟨g, 0, none⟩), spv lo.neg A n c lo.e hi.neg B m d hi.e] w (SPost 38 w g p (rootS p bad lo hi)) := by
  have S := st1 hW (.bool lo.neg) (.slice A n c) (.int .i64 lo.e) (.bool hi.neg) (.slice B m d) (.int .i64 hi.e)
  have TK := rtake1 g p bad _ S.W (ha.wk hW S.O) (hb.wk hW S.O)
  rw [show ((w.alloc (co6 (.bool lo.neg) (.slice A n c) (.int .i64 lo.e) (.bool hi.neg) (.slice B m d) (.int .i64 hi.e))).alloc z6).heap.size = w.heap.size + 1 + 1 by simp] at TK
  have TKH := Lib.hid TK
  clear TK
  have RC : Hid (∀ up w', Only w w' g → Calls Tryz.prog 42 #[dyv lo.neg A n c lo.e, .int .i64 p, .bool up] w' (DP w' (rootI lo p up))) := Lib.hid (fun up w' o => rrootI p up w' (ha.wk hW o) (hT.wk hW o))
  have RC2 : Hid (∀ up w', Only w w' g → Calls Tryz.prog 42 #[dyv hi.neg B m d hi.e, .int .i64 p, .bool up] w' (DP w' (rootI hi p up))) := Lib.hid (fun up w' o => rrootI p up w' (hb.wk hW o) (hT.wk hW o))
  have k0 := S.ks.2.1.1
  have k0_0 := k0.at_ 0 _ rfl
  have k0_1 := k0.at_ 1 _ rfl
  have k0_2 := k0.at_ 2 _ rfl
  have k0_3 := k0.at_ 3 _ rfl
  have k0_4 := k0.at_ 4 _ rfl
  have k0_5 := k0.at_ 5 _ rfl
  have k0l := k0.2
  clear k0
  go_enter Tryz.func19, Tryz.ntmps19
  go_wp2_with fail
  refine TKH.out.mono ?_
  clear TKH
  clear k0_0 k0_1 k0_2 k0_3 k0_4 k0_5 k0l
  generalize (w.alloc (co6 (.bool lo.neg) (.slice A n c) (.int .i64 lo.e) (.bool hi.neg) (.slice B m d) (.int .i64 hi.e))).alloc z6 = w1 at *
  rintro e' w2 ⟨rfl, hW2, o2⟩
  replace S := S.only o2 hW2
  clear o2 hW2
  obtain ⟨bo, hbo⟩ : ∃ b : Bool, Hid (bad1 p bad lo hi = b) := ⟨_, Lib.hid rfl⟩
  rw [hbo.out] at S
  rw [hbo.out]
  cases bo
  rotate_left
  · have HT : Hid (rootS p bad lo hi = SRes.no) := Lib.hid (by unfold rootS; rw [hbo.out]; rfl)
    have kR := S.ks.1.1
    have s0 := kR.at_ 0 _ rfl
    have s1 := kR.at_ 1 _ rfl
    have s2 := kR.at_ 2 _ rfl
    have s3 := kR.at_ 3 _ rfl
    have s4 := kR.at_ 4 _ rfl
    have s5 := kR.at_ 5 _ rfl
    have rf0 := kR.fr 0
    have rf1 := kR.fr 1
    have rf2 := kR.fr 2
    have rf3 := kR.fr 3
    have rf4 := kR.fr 4
    have rf5 := kR.fr 5
    go_wp2_with fail
    rw [HT.out]
    obtain ⟨q1, q2, q3, q4⟩ := S.give (lo := DR.zero) (hi := DR.zero) (num_nil _) (num_nil _) kR (by omega)
    exact bodyPost_ret (v := spv false none 0 0 0 false none 0 0 0) (by simp [results, Tryz.results19, go_sem, s0, s1, s2, s3, s4, s5]) rfl ⟨none, 0, 0, none, 0, 0, rfl, q1, q2, q3, q4⟩
  · skip
    have HT : Hid (rootS p bad lo hi = keepS false (rootI lo p false) (rootI hi p true) ((rootI lo p false).ok && (rootI hi p true).ok)) := Lib.hid (by unfold rootS; rw [hbo.out]; rfl)
    have D1 := Lib.hid (RC.out false)
    have D2 := Lib.hid (RC2.out true)
    clear RC RC2 hbo
    generalize rootI lo p false = r1 at *
    generalize rootI hi p true = r2 at *
    go_upto_region 3 with fail
    go_cut [5, 6] (fun sd so wx => ∃ g1 A1 n1 c1, sd = .pointer (some ⟨g1, 0, none⟩) ∧ so = .bool r1.ok ∧ w.heap.size ≤ g1 ∧ St 38 w g p false wx [(26, g1, #[.bool r1.neg, .slice A1 n1 c1, .int .i64 r1.e]), (28, w.heap.size + 1, zs), (28, w.heap.size, #[.bool lo.neg, .slice A n c, .int .i64 lo.e, .bool hi.neg, .slice B m d, .int .i64 hi.e])] [(.slice A1 n1 c1, r1.m)])
    case first =>
      have HC : Hid (∀ w', St 38 w g p false w' [(28, w.heap.size + 1, zs), (28, w.heap.size, #[.bool lo.neg, .slice A n c, .int .i64 lo.e, .bool hi.neg, .slice B m d, .int .i64 hi.e])] [] → w'.cell? ⟨w.heap.size, 0, none⟩ = some (.bool lo.neg) ∧ w'.cell? ⟨w.heap.size, 1, none⟩ = some (.slice A n c) ∧ w'.cell? ⟨w.heap.size, 2, none⟩ = some (.int .i64 lo.e) ∧ w'.cell? ⟨g, 0, none⟩ = some (.int .i64 p)) := Lib.hid (fun w' h => ⟨h.ks.2.1.1.at_ 0 _ rfl, h.ks.2.1.1.at_ 1 _ rfl, h.ks.2.1.1.at_ 2 _ rfl, h.wc.1⟩)
      have hz0 := S.ks.1.1.2
      have hz1 := S.ks.2.1.1.2
      have hz : w.heap.size ≤ w2.heap.size := S.size
      have SD := S.drew
      have SA := SD.below (alloc_bel w2.drew (cd3 (.bool false) (.slice none 0 0) (.int .i64 0)))
      have XS1 := HC.out _ SD
      clear S
      go_region_held3 (fun w' => w'.cell? ⟨w.heap.size, 0, none⟩ = some (.bool lo.neg) ∧ w'.cell? ⟨w.heap.size, 1, none⟩ = some (.slice A n c) ∧ w'.cell? ⟨w.heap.size, 2, none⟩ = some (.int .i64 lo.e) ∧ w'.cell? ⟨g, 0, none⟩ = some (.int .i64 p))
        (first | exact XS1 | exact HC.out _ (SD.below b1) | exact HC.out _ SA | exact HC.out _ (SA.below b1) | exact HC.out _ ((SD.below b1).below (alloc_bel _ _)) | exact HC.out _ ((SA.below b1).put KZ1.kc hz ⟨by omega, by omega, trivial⟩ _ _ _))
        (first | (go_at_call 42; refine (D1.out _ (by first | exact SD.O | exact SA.O)).mono ?_; rintro e' v1 ⟨A1, p1, c1, rfl, n1, b1⟩; first | (have KZ1 : K3 v1 w2.heap.size (.bool false) (.slice none 0 0) (.int .i64 0) := (K3.made w2.drew (.bool false) (.slice none 0 0) (.int .i64 0)).adv b1; obtain ⟨kf0, kf1, kf2⟩ := KZ1.frozen; obtain ⟨kc0, kc1, kc2, kc3⟩ := KZ1.cell) | skip))
      all_goals (go_wp2_with fail; go_meet; first | exact ⟨_, _, _, _, rfl, rfl, Nat.le_trans hz b1.size, ((SD.below b1).num n1).alloc _ _⟩ | exact ⟨_, _, _, _, rfl, rfl, hz, ((SA.below b1).num n1).putK KZ1.kc hz ⟨by omega, by omega, trivial⟩ _ _ _⟩)
    case rest =>
      clear S
      obtain ⟨g1, A1, n1, c1, rfl, rfl, hg1, S⟩ := hcut
      go_upto_region 4 with fail
      go_cut [7, 8] (fun sd so wx => ∃ g2 A2 n2 c2, sd = .pointer (some ⟨g2, 0, none⟩) ∧ so = .bool r2.ok ∧ w.heap.size ≤ g2 ∧ St 38 w g p false wx [(26, g2, #[.bool r2.neg, .slice A2 n2 c2, .int .i64 r2.e]), (26, g1, #[.bool r1.neg, .slice A1 n1 c1, .int .i64 r1.e]), (28, w.heap.size + 1, zs), (28, w.heap.size, #[.bool lo.neg, .slice A n c, .int .i64 lo.e, .bool hi.neg, .slice B m d, .int .i64 hi.e])] [(.slice A2 n2 c2, r2.m), (.slice A1 n1 c1, r1.m)])
      case first =>
        have HC : Hid (∀ w', St 38 w g p false w' [(26, g1, #[.bool r1.neg, .slice A1 n1 c1, .int .i64 r1.e]), (28, w.heap.size + 1, zs), (28, w.heap.size, #[.bool lo.neg, .slice A n c, .int .i64 lo.e, .bool hi.neg, .slice B m d, .int .i64 hi.e])] [(.slice A1 n1 c1, r1.m)] → w'.cell? ⟨w.heap.size, 3, none⟩ = some (.bool hi.neg) ∧ w'.cell? ⟨w.heap.size, 4, none⟩ = some (.slice B m d) ∧ w'.cell? ⟨w.heap.size, 5, none⟩ = some (.int .i64 hi.e) ∧ w'.cell? ⟨g, 0, none⟩ = some (.int .i64 p)) := Lib.hid (fun w' h => ⟨h.ks.2.2.1.1.at_ 3 _ rfl, h.ks.2.2.1.1.at_ 4 _ rfl, h.ks.2.2.1.1.at_ 5 _ rfl, h.wc.1⟩)
        have hz0 := S.ks.1.1.2
        have hz1 := S.ks.2.1.1.2
        have hz2 := S.ks.2.2.1.1.2
        have hz : w.heap.size ≤ wc.heap.size := S.size
        have SD := S.drew
        have SA := SD.below (alloc_bel wc.drew (cd3 (.bool false) (.slice none 0 0) (.int .i64 0)))
        have XS1 := HC.out _ SD
        clear S
        go_region_held3 (fun w' => w'.cell? ⟨w.heap.size, 3, none⟩ = some (.bool hi.neg) ∧ w'.cell? ⟨w.heap.size, 4, none⟩ = some (.slice B m d) ∧ w'.cell? ⟨w.heap.size, 5, none⟩ = some (.int .i64 hi.e) ∧ w'.cell? ⟨g, 0, none⟩ = some (.int .i64 p))
          (first | exact XS1 | exact HC.out _ (SD.below b1) | exact HC.out _ SA | exact HC.out _ (SA.below b1) | exact HC.out _ ((SD.below b1).below (alloc_bel _ _)) | exact HC.out _ ((SA.below b1).put KZ1.kc hz ⟨by omega, by omega, by omega, trivial⟩ _ _ _))
          (first | (go_at_call 42; refine (D2.out _ (by first | exact SD.O | exact SA.O)).mono ?_; rintro e' v1 ⟨A1, p1, c1, rfl, n1, b1⟩; first | (have KZ1 : K3 v1 wc.heap.size (.bool false) (.slice none 0 0) (.int .i64 0) := (K3.made wc.drew (.bool false) (.slice none 0 0) (.int .i64 0)).adv b1; obtain ⟨kf0, kf1, kf2⟩ := KZ1.frozen; obtain ⟨kc0, kc1, kc2, kc3⟩ := KZ1.cell) | skip))
        all_goals (go_wp2_with fail; go_meet; first | exact ⟨_, _, _, _, rfl, rfl, Nat.le_trans hz b1.size, ((SD.below b1).num n1).alloc _ _⟩ | exact ⟨_, _, _, _, rfl, rfl, hz, ((SA.below b1).num n1).putK KZ1.kc hz ⟨by omega, by omega, by omega, trivial⟩ _ _ _⟩)
      case rest =>
        clear S
        obtain ⟨g2, A2, n2, c2, rfl, rfl, hg2, S⟩ := hcut
        have k3 := S.ks.2.1.1
        have k3_0 := k3.at_ 0 _ rfl
        have k3_1 := k3.at_ 1 _ rfl
        have k3_2 := k3.at_ 2 _ rfl
        have k3l := k3.2
        clear k3
        have k4 := S.ks.1.1
        have k4_0 := k4.at_ 0 _ rfl
        have k4_1 := k4.at_ 1 _ rfl
        have k4_2 := k4.at_ 2 _ rfl
        have k4l := k4.2
        clear k4
        go_wp2_with fail
        refine (give_any g p false r1 r2 A1 A2 n1 c1 n2 c2 r1.ok r2.ok _ S.W S.ns.2.1 S.ns.1).mono ?_
        rintro e' w6 ⟨A9, p9, c9, B9, q9, d9, rfl, m1, m2, hW9, o9⟩
        replace S := S.only o9 hW9
        clear o9 hW9
        clear k3_0 k3_1 k3_2 k3l k4_0 k4_1 k4_2 k4l
        generalize keepS false r1 r2 (r1.ok && r2.ok) = r at *
        have kR := S.ks.2.2.1.1
        have s0 := kR.at_ 0 _ rfl
        have s1 := kR.at_ 1 _ rfl
        have s2 := kR.at_ 2 _ rfl
        have s3 := kR.at_ 3 _ rfl
        have s4 := kR.at_ 4 _ rfl
        have s5 := kR.at_ 5 _ rfl
        have rf0 := kR.fr 0
        have rf1 := kR.fr 1
        have rf2 := kR.fr 2
        have rf3 := kR.fr 3
        have rf4 := kR.fr 4
        have rf5 := kR.fr 5
        go_wp2_with fail
        rw [HT.out]
        obtain ⟨q1, q2, q3, q4⟩ := S.give (lo := r.lo) (hi := r.hi) m1 m2 kR (by omega)
        exact bodyPost_ret (v := spv r.lo.neg A9 p9 c9 r.lo.e r.hi.neg B9 q9 d9 r.hi.e) (by simp [results, Tryz.results19, go_sem, s0, s1, s2, s3, s4, s5]) rfl ⟨A9, p9, c9, B9, q9, d9, rfl, q1, q2, q3, q4⟩
set_option maxRecDepth 8000 in
set_option maxHeartbeats 4000000 in
theorem sroot_any {lo hi : DR} {A B : Option Addr} {n c m d : Nat} (g : Nat) (p : Int) (bad : Bool) (w : World) (hW : Wk 37 w g p bad) (ha : DIn w A n c lo) (hb : DIn w B m d hi) (hT : Tab w) :
    Calls Tryz.prog 18 #[.pointer (some ⟨g, 0, none⟩), spv lo.neg A n c lo.e hi.neg B m d hi.e] w (SPost 37 w g p (rootS p bad lo hi)) := by
  have S := st1 hW (.bool lo.neg) (.slice A n c) (.int .i64 lo.e) (.bool hi.neg) (.slice B m d) (.int .i64 hi.e)
  have TK := take1 g p bad _ S.W (ha.wk hW S.O) (hb.wk hW S.O)
  rw [show ((w.alloc (co6 (.bool lo.neg) (.slice A n c) (.int .i64 lo.e) (.bool hi.neg) (.slice B m d) (.int .i64 hi.e))).alloc z6).heap.size = w.heap.size + 1 + 1 by simp] at TK
  have TKH := Lib.hid TK
  clear TK
  have RC : Hid (∀ up w', Only w w' g → Calls Tryz.prog 41 #[dyv lo.neg A n c lo.e, .int .i64 p, .bool up] w' (DP w' (rootI lo p up))) := Lib.hid (fun up w' o => drootI p up w' (ha.wk hW o) (hT.wk hW o))
  have RC2 : Hid (∀ up w', Only w w' g → Calls Tryz.prog 41 #[dyv hi.neg B m d hi.e, .int .i64 p, .bool up] w' (DP w' (rootI hi p up))) := Lib.hid (fun up w' o => drootI p up w' (hb.wk hW o) (hT.wk hW o))
  have k0 := S.ks.2.1.1
  have k0_0 := k0.at_ 0 _ rfl
  have k0_1 := k0.at_ 1 _ rfl
  have k0_2 := k0.at_ 2 _ rfl
  have k0_3 := k0.at_ 3 _ rfl
  have k0_4 := k0.at_ 4 _ rfl
  have k0_5 := k0.at_ 5 _ rfl
  have k0l := k0.2
  clear k0
  go_enter Tryz.func18, Tryz.ntmps18
  go_wp2_with fail
  refine TKH.out.mono ?_
  clear TKH
  clear k0_0 k0_1 k0_2 k0_3 k0_4 k0_5 k0l
  generalize (w.alloc (co6 (.bool lo.neg) (.slice A n c) (.int .i64 lo.e) (.bool hi.neg) (.slice B m d) (.int .i64 hi.e))).alloc z6 = w1 at *
  rintro e' w2 ⟨rfl, hW2, o2⟩
  replace S := S.only o2 hW2
  clear o2 hW2
  obtain ⟨bo, hbo⟩ : ∃ b : Bool, Hid (bad1 p bad lo hi = b) := ⟨_, Lib.hid rfl⟩
  rw [hbo.out] at S
  rw [hbo.out]
  cases bo
  rotate_left
  · have HT : Hid (rootS p bad lo hi = SRes.no) := Lib.hid (by unfold rootS; rw [hbo.out]; rfl)
    have kR := S.ks.1.1
    have s0 := kR.at_ 0 _ rfl
    have s1 := kR.at_ 1 _ rfl
    have s2 := kR.at_ 2 _ rfl
    have s3 := kR.at_ 3 _ rfl
    have s4 := kR.at_ 4 _ rfl
    have s5 := kR.at_ 5 _ rfl
    have rf0 := kR.fr 0
    have rf1 := kR.fr 1
    have rf2 := kR.fr 2
    have rf3 := kR.fr 3
    have rf4 := kR.fr 4
    have rf5 := kR.fr 5
    go_wp2_with fail
    rw [HT.out]
    obtain ⟨q1, q2, q3, q4⟩ := S.give (lo := DR.zero) (hi := DR.zero) (num_nil _) (num_nil _) kR (by omega)
    exact bodyPost_ret (v := spv false none 0 0 0 false none 0 0 0) (by simp [results, Tryz.results18, go_sem, s0, s1, s2, s3, s4, s5]) rfl ⟨none, 0, 0, none, 0, 0, rfl, q1, q2, q3, q4⟩
  · skip
    have HT : Hid (rootS p bad lo hi = keepS false (rootI lo p false) (rootI hi p true) ((rootI lo p false).ok && (rootI hi p true).ok)) := Lib.hid (by unfold rootS; rw [hbo.out]; rfl)
    have D1 := Lib.hid (RC.out false)
    have D2 := Lib.hid (RC2.out true)
    clear RC RC2 hbo
    generalize rootI lo p false = r1 at *
    generalize rootI hi p true = r2 at *
    go_upto_region 3 with fail
    go_cut [5, 6] (fun sd so wx => ∃ g1 A1 n1 c1, sd = .pointer (some ⟨g1, 0, none⟩) ∧ so = .bool r1.ok ∧ w.heap.size ≤ g1 ∧ St 37 w g p false wx [(26, g1, #[.bool r1.neg, .slice A1 n1 c1, .int .i64 r1.e]), (28, w.heap.size + 1, zs), (28, w.heap.size, #[.bool lo.neg, .slice A n c, .int .i64 lo.e, .bool hi.neg, .slice B m d, .int .i64 hi.e])] [(.slice A1 n1 c1, r1.m)])
    case first =>
      have HC : Hid (∀ w', St 37 w g p false w' [(28, w.heap.size + 1, zs), (28, w.heap.size, #[.bool lo.neg, .slice A n c, .int .i64 lo.e, .bool hi.neg, .slice B m d, .int .i64 hi.e])] [] → w'.cell? ⟨w.heap.size, 0, none⟩ = some (.bool lo.neg) ∧ w'.cell? ⟨w.heap.size, 1, none⟩ = some (.slice A n c) ∧ w'.cell? ⟨w.heap.size, 2, none⟩ = some (.int .i64 lo.e) ∧ w'.cell? ⟨g, 0, none⟩ = some (.int .i64 p)) := Lib.hid (fun w' h => ⟨h.ks.2.1.1.at_ 0 _ rfl, h.ks.2.1.1.at_ 1 _ rfl, h.ks.2.1.1.at_ 2 _ rfl, h.wc.1⟩)
      have hz0 := S.ks.1.1.2
      have hz1 := S.ks.2.1.1.2
      have hz : w.heap.size ≤ w2.heap.size := S.size
      have SD := S.drew
      have SA := SD.below (alloc_bel w2.drew (cd3 (.bool false) (.slice none 0 0) (.int .i64 0)))
      have XS1 := HC.out _ SD
      clear S
      go_region_held3 (fun w' => w'.cell? ⟨w.heap.size, 0, none⟩ = some (.bool lo.neg) ∧ w'.cell? ⟨w.heap.size, 1, none⟩ = some (.slice A n c) ∧ w'.cell? ⟨w.heap.size, 2, none⟩ = some (.int .i64 lo.e) ∧ w'.cell? ⟨g, 0, none⟩ = some (.int .i64 p))
        (first | exact XS1 | exact HC.out _ (SD.below b1) | exact HC.out _ SA | exact HC.out _ (SA.below b1) | exact HC.out _ ((SD.below b1).below (alloc_bel _ _)) | exact HC.out _ ((SA.below b1).put KZ1.kc hz ⟨by omega, by omega, trivial⟩ _ _ _))
        (first | (go_at_call 41; refine (D1.out _ (by first | exact SD.O | exact SA.O)).mono ?_; rintro e' v1 ⟨A1, p1, c1, rfl, n1, b1⟩; first | (have KZ1 : K3 v1 w2.heap.size (.bool false) (.slice none 0 0) (.int .i64 0) := (K3.made w2.drew (.bool false) (.slice none 0 0) (.int .i64 0)).adv b1; obtain ⟨kf0, kf1, kf2⟩ := KZ1.frozen; obtain ⟨kc0, kc1, kc2, kc3⟩ := KZ1.cell) | skip))
      all_goals (go_wp2_with fail; go_meet; first | exact ⟨_, _, _, _, rfl, rfl, Nat.le_trans hz b1.size, ((SD.below b1).num n1).alloc _ _⟩ | exact ⟨_, _, _, _, rfl, rfl, hz, ((SA.below b1).num n1).putK KZ1.kc hz ⟨by omega, by omega, trivial⟩ _ _ _⟩)
    case rest =>
      clear S
      obtain ⟨g1, A1, n1, c1, rfl, rfl, hg1, S⟩ := hcut
      go_upto_region 4 with fail
      go_cut [7, 8] (fun sd so wx => ∃ g2 A2 n2 c2, sd = .pointer (some ⟨g2, 0, none⟩) ∧ so = .bool r2.ok ∧ w.heap.size ≤ g2 ∧ St 37 w g p false wx [(26, g2, #[.bool r2.neg, .slice A2 n2 c2, .int .i64 r2.e]), (26, g1, #[.bool r1.neg, .slice A1 n1 c1, .int .i64 r1.e]), (28, w.heap.size + 1, zs), (28, w.heap.size, #[.bool lo.neg, .slice A n c, .int .i64 lo.e, .bool hi.neg, .slice B m d, .int .i64 hi.e])] [(.slice A2 n2 c2, r2.m), (.slice A1 n1 c1, r1.m)])
      case first =>
        have HC : Hid (∀ w', St 37 w g p false w' [(26, g1, #[.bool r1.neg, .slice A1 n1 c1, .int .i64 r1.e]), (28, w.heap.size + 1, zs), (28, w.heap.size, #[.bool lo.neg, .slice A n c, .int .i64 lo.e, .bool hi.neg, .slice B m d, .int .i64 hi.e])] [(.slice A1 n1 c1, r1.m)] → w'.cell? ⟨w.heap.size, 3, none⟩ = some (.bool hi.neg) ∧ w'.cell? ⟨w.heap.size, 4, none⟩ = some (.slice B m d) ∧ w'.cell? ⟨w.heap.size, 5, none⟩ = some (.int .i64 hi.e) ∧ w'.cell? ⟨g, 0, none⟩ = some (.int .i64 p)) := Lib.hid (fun w' h => ⟨h.ks.2.2.1.1.at_ 3 _ rfl, h.ks.2.2.1.1.at_ 4 _ rfl, h.ks.2.2.1.1.at_ 5 _ rfl, h.wc.1⟩)
        have hz0 := S.ks.1.1.2
        have hz1 := S.ks.2.1.1.2
        have hz2 := S.ks.2.2.1.1.2
        have hz : w.heap.size ≤ wc.heap.size := S.size
        have SD := S.drew
        have SA := SD.below (alloc_bel wc.drew (cd3 (.bool false) (.slice none 0 0) (.int .i64 0)))
        have XS1 := HC.out _ SD
        clear S
        go_region_held3 (fun w' => w'.cell? ⟨w.heap.size, 3, none⟩ = some (.bool hi.neg) ∧ w'.cell? ⟨w.heap.size, 4, none⟩ = some (.slice B m d) ∧ w'.cell? ⟨w.heap.size, 5, none⟩ = some (.int .i64 hi.e) ∧ w'.cell? ⟨g, 0, none⟩ = some (.int .i64 p))
          (first | exact XS1 | exact HC.out _ (SD.below b1) | exact HC.out _ SA | exact HC.out _ (SA.below b1) | exact HC.out _ ((SD.below b1).below (alloc_bel _ _)) | exact HC.out _ ((SA.below b1).put KZ1.kc hz ⟨by omega, by omega, by omega, trivial⟩ _ _ _))
          (first | (go_at_call 41; refine (D2.out _ (by first | exact SD.O | exact SA.O)).mono ?_; rintro e' v1 ⟨A1, p1, c1, rfl, n1, b1⟩; first | (have KZ1 : K3 v1 wc.heap.size (.bool false) (.slice none 0 0) (.int .i64 0) := (K3.made wc.drew (.bool false) (.slice none 0 0) (.int .i64 0)).adv b1; obtain ⟨kf0, kf1, kf2⟩ := KZ1.frozen; obtain ⟨kc0, kc1, kc2, kc3⟩ := KZ1.cell) | skip))
        all_goals (go_wp2_with fail; go_meet; first | exact ⟨_, _, _, _, rfl, rfl, Nat.le_trans hz b1.size, ((SD.below b1).num n1).alloc _ _⟩ | exact ⟨_, _, _, _, rfl, rfl, hz, ((SA.below b1).num n1).putK KZ1.kc hz ⟨by omega, by omega, by omega, trivial⟩ _ _ _⟩)
      case rest =>
        clear S
        obtain ⟨g2, A2, n2, c2, rfl, rfl, hg2, S⟩ := hcut
        have k3 := S.ks.2.1.1
        have k3_0 := k3.at_ 0 _ rfl
        have k3_1 := k3.at_ 1 _ rfl
        have k3_2 := k3.at_ 2 _ rfl
        have k3l := k3.2
        clear k3
        have k4 := S.ks.1.1
        have k4_0 := k4.at_ 0 _ rfl
        have k4_1 := k4.at_ 1 _ rfl
        have k4_2 := k4.at_ 2 _ rfl
        have k4l := k4.2
        clear k4
        cases hr1 : r1.ok
        · skip
          rw [hr1] at HT
          first | rw [Bool.false_and] at HT | rw [Bool.true_and] at HT
          go_wp2_with fail
          refine (keep_any g p false r1 r2 A1 A2 n1 c1 n2 c2 (false) _ S.W S.ns.2.1 S.ns.1).mono ?_
          rintro e' w6 ⟨A9, p9, c9, B9, q9, d9, rfl, m1, m2, hW9, o9⟩
          replace S := S.only o9 hW9
          clear o9 hW9
          clear k3_0 k3_1 k3_2 k3l k4_0 k4_1 k4_2 k4l
          generalize keepS false r1 r2 (false) = r at *
          have kR := S.ks.2.2.1.1
          have s0 := kR.at_ 0 _ rfl
          have s1 := kR.at_ 1 _ rfl
          have s2 := kR.at_ 2 _ rfl
          have s3 := kR.at_ 3 _ rfl
          have s4 := kR.at_ 4 _ rfl
          have s5 := kR.at_ 5 _ rfl
          have rf0 := kR.fr 0
          have rf1 := kR.fr 1
          have rf2 := kR.fr 2
          have rf3 := kR.fr 3
          have rf4 := kR.fr 4
          have rf5 := kR.fr 5
          go_wp2_with fail
          rw [HT.out]
          obtain ⟨q1, q2, q3, q4⟩ := S.give (lo := r.lo) (hi := r.hi) m1 m2 kR (by omega)
          exact bodyPost_ret (v := spv r.lo.neg A9 p9 c9 r.lo.e r.hi.neg B9 q9 d9 r.hi.e) (by simp [results, Tryz.results18, go_sem, s0, s1, s2, s3, s4, s5]) rfl ⟨A9, p9, c9, B9, q9, d9, rfl, q1, q2, q3, q4⟩
        · skip
          rw [hr1] at HT
          first | rw [Bool.false_and] at HT | rw [Bool.true_and] at HT
          go_wp2_with fail
          refine (keep_any g p false r1 r2 A1 A2 n1 c1 n2 c2 (r2.ok) _ S.W S.ns.2.1 S.ns.1).mono ?_
          rintro e' w7 ⟨A9, p9, c9, B9, q9, d9, rfl, m1, m2, hW9, o9⟩
          replace S := S.only o9 hW9
          clear o9 hW9
          clear k3_0 k3_1 k3_2 k3l k4_0 k4_1 k4_2 k4l
          generalize keepS false r1 r2 (r2.ok) = r at *
          have kR := S.ks.2.2.1.1
          have s0 := kR.at_ 0 _ rfl
          have s1 := kR.at_ 1 _ rfl
          have s2 := kR.at_ 2 _ rfl
          have s3 := kR.at_ 3 _ rfl
          have s4 := kR.at_ 4 _ rfl
          have s5 := kR.at_ 5 _ rfl
          have rf0 := kR.fr 0
          have rf1 := kR.fr 1
          have rf2 := kR.fr 2
          have rf3 := kR.fr 3
          have rf4 := kR.fr 4
          have rf5 := kR.fr 5
          go_wp2_with fail
          rw [HT.out]
          obtain ⟨q1, q2, q3, q4⟩ := S.give (lo := r.lo) (hi := r.hi) m1 m2 kR (by omega)
          exact bodyPost_ret (v := spv r.lo.neg A9 p9 c9 r.lo.e r.hi.neg B9 q9 d9 r.hi.e) (by simp [results, Tryz.results18, go_sem, s0, s1, s2, s3, s4, s5]) rfl ⟨A9, p9, c9, B9, q9, d9, rfl, q1, q2, q3, q4⟩
end Go.Proofs.YtljioadppdpdiaaGreatDoor
