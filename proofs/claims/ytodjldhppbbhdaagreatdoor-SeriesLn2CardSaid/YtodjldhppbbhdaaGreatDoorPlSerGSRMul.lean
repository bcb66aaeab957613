/-
  volvelleref03's Mul.
-/
import Derived.Test.YtodjldhppbbhdaaGreatDoorPlSerGDy13
import Derived.Test.YtodjldhppbbhdaaGreatDoorPlSerGSp11
import Derived.Test.YtodjldhppbbhdaaGreatDoorPlSerGSp12
namespace Go.Proofs.YtodjldhppbbhdaaGreatDoor
open Go.RowKit

theorem rmulI {r s : DR} {A B : Option Addr} {n c m d : Nat} (w : World) (ha : DIn w A n c r) (hb : DIn w B m d s) (hT : Tab w) :
    Calls Tryz.prog 54 #[dyv r.neg A n c r.e, dyv s.neg B m d s.e] w (DP w (mulI r s)) := by
  obtain ⟨x, a1, a2, a3, a4⟩ := ha
  obtain ⟨y, b1, b2, b3, b4⟩ := hb
  have := rmul2_any r.neg s.neg A B n c m d x y r.e s.e w a1 b1 a2 b2 hT
  unfold mulI
  rw [a4, b4, a3, b3]
  exact this.mono fun _ _ h => h.dp
set_option maxRecDepth 8000 in
set_option maxHeartbeats 4000000 in
theorem rsmul_any {lo hi lo' hi' : DR} {A B A' B' : Option Addr} {n c m d n' c' m' d' : Nat} (g : Nat) (p : Int) (bad : Bool) (w : World) (hW : Wk 41 w g p bad) (ha : DIn w A n c lo) (hb : DIn w B m d hi) (ha' : DIn w A' n' c' lo') (hb' : DIn w B' m' d' hi') (hT : Tab w) :
    Calls Tryz.prog 24 #[.pointer (some ⟨g, 0, none⟩), spv lo.neg A n c lo.e hi.neg B m d hi.e, spv lo'.neg A' n' c' lo'.e hi'.neg B' m' d' hi'.e] w (SPost 41 w g p (mulR p bad lo hi lo' hi')) := by
  have S := st2 hW (.bool lo.neg) (.slice A n c) (.int .i64 lo.e) (.bool hi.neg) (.slice B m d) (.int .i64 hi.e) (.bool lo'.neg) (.slice A' n' c') (.int .i64 lo'.e) (.bool hi'.neg) (.slice B' m' d') (.int .i64 hi'.e)
  have TK := rtake2 g p bad _ S.W (ha.wk hW S.O) (hb.wk hW S.O) (ha'.wk hW S.O) (hb'.wk hW S.O)
  rw [show (((w.alloc (co6 (.bool lo.neg) (.slice A n c) (.int .i64 lo.e) (.bool hi.neg) (.slice B m d) (.int .i64 hi.e))).alloc (co6 (.bool lo'.neg) (.slice A' n' c') (.int .i64 lo'.e) (.bool hi'.neg) (.slice B' m' d') (.int .i64 hi'.e))).alloc z6).heap.size = w.heap.size + 1 + 1 + 1 by simp] at TK
  have TKH := Lib.hid TK
  clear TK
  have k0 := S.ks.2.2.1.1
  have k0_0 := k0.at_ 0 _ rfl
  have k0_1 := k0.at_ 1 _ rfl
  have k0_2 := k0.at_ 2 _ rfl
  have k0_3 := k0.at_ 3 _ rfl
  have k0_4 := k0.at_ 4 _ rfl
  have k0_5 := k0.at_ 5 _ rfl
  have k0l := k0.2
  clear k0
  have k1 := S.ks.2.1.1
  have k1_0 := k1.at_ 0 _ rfl
  have k1_1 := k1.at_ 1 _ rfl
  have k1_2 := k1.at_ 2 _ rfl
  have k1_3 := k1.at_ 3 _ rfl
  have k1_4 := k1.at_ 4 _ rfl
  have k1_5 := k1.at_ 5 _ rfl
  have k1l := k1.2
  clear k1
  go_enter Tryz.func24, Tryz.ntmps24
  go_wp2_with fail
  refine TKH.out.mono ?_
  clear TKH
  clear k0_0 k0_1 k0_2 k0_3 k0_4 k0_5 k0l k1_0 k1_1 k1_2 k1_3 k1_4 k1_5 k1l
  generalize ((w.alloc (co6 (.bool lo.neg) (.slice A n c) (.int .i64 lo.e) (.bool hi.neg) (.slice B m d) (.int .i64 hi.e))).alloc (co6 (.bool lo'.neg) (.slice A' n' c') (.int .i64 lo'.e) (.bool hi'.neg) (.slice B' m' d') (.int .i64 hi'.e))).alloc z6 = w1 at *
  rintro e' w2 ⟨rfl, hW2, o2⟩
  replace S := S.only o2 hW2
  clear o2 hW2
  obtain ⟨bo, hbo⟩ : ∃ b : Bool, Hid (bad2 p bad lo hi lo' hi' = b) := ⟨_, Lib.hid rfl⟩
  rw [hbo.out] at S
  rw [hbo.out]
  cases bo
  rotate_left
  · have HT : Hid (mulR p bad lo hi lo' hi' = SRes.no) := Lib.hid (by unfold mulR; rw [hbo.out]; rfl)
    have kR := S.ks.1.1
    have s0 := kR.at_ 0 _ rfl
    have s1 := kR.at_ 1 _ rfl
    have s2 := kR.at_ 2 _ rfl
    have s3 := kR.at_ 3 _ rfl
    have s4 := kR.at_ 4 _ rfl
    have s5 := kR.at_ 5 _ rfl
    have rf0 := kR.fr 0
    have rf1 := kR.fr 1
    have rf2 := kR.fr 2
    have rf3 := kR.fr 3
    have rf4 := kR.fr 4
    have rf5 := kR.fr 5
    go_wp2_with fail
    rw [HT.out]
    obtain ⟨q1, q2, q3, q4⟩ := S.give (lo := DR.zero) (hi := DR.zero) (num_nil _) (num_nil _) kR (by omega)
    exact bodyPost_ret (v := spv false none 0 0 0 false none 0 0 0) (by simp [results, Tryz.results24, go_sem, s0, s1, s2, s3, s4, s5]) rfl ⟨none, 0, 0, none, 0, 0, rfl, q1, q2, q3, q4⟩
  · skip
    obtain ⟨-, hp, hR, hR'⟩ := bad2_false hbo.out
    have HT : Hid (mulR p bad lo hi lo' hi' = if ok4 (prod4 lo hi lo' hi') then outS p false (pick4 (prod4 lo hi lo' hi') false) (pick4 (prod4 lo hi lo' hi') true) else SRes.no) := Lib.hid (by unfold mulR; rw [hbo.out]; rfl)
    have HPL : Hid (∀ j, PlIf (prod4 lo hi lo' hi' j)) := Lib.hid (fun j => plIf_mulI _ _)
    clear hbo hp hR hR'
    have k2 := S.ks.2.2.1.1
    have k2_0 := k2.at_ 0 _ rfl
    have k2_1 := k2.at_ 1 _ rfl
    have k2_2 := k2.at_ 2 _ rfl
    have k2_3 := k2.at_ 3 _ rfl
    have k2_4 := k2.at_ 4 _ rfl
    have k2_5 := k2.at_ 5 _ rfl
    have k2l := k2.2
    clear k2
    have k3 := S.ks.2.1.1
    have k3_0 := k3.at_ 0 _ rfl
    have k3_1 := k3.at_ 1 _ rfl
    have k3_2 := k3.at_ 2 _ rfl
    have k3_3 := k3.at_ 3 _ rfl
    have k3_4 := k3.at_ 4 _ rfl
    have k3_5 := k3.at_ 5 _ rfl
    have k3l := k3.2
    clear k3
    go_upto_region 6 with fail
    clear k2_0 k2_1 k2_2 k2_3 k2_4 k2_5 k2l k3_0 k3_1 k3_2 k3_3 k3_4 k3_5 k3l
    have S1 := (S.alloc 27 #[.bool lo.neg, .slice A n c, .int .i64 lo.e, .bool hi.neg, .slice B m d, .int .i64 hi.e]).alloc 27 #[.bool lo'.neg, .slice A' n' c', .int .i64 lo'.e, .bool hi'.neg, .slice B' m' d', .int .i64 hi'.e]
    rw [show (w2.alloc (.cells #[.bool lo.neg, .slice A n c, .int .i64 lo.e, .bool hi.neg, .slice B m d, .int .i64 hi.e] 27)).heap.size = w2.heap.size + 1 by simp] at S1
    have hz2 := S.ks.1.1.2
    have hw2 : w.heap.size ≤ w2.heap.size := S.size
    have hwW : ((w2.alloc (.cells #[.bool lo.neg, .slice A n c, .int .i64 lo.e, .bool hi.neg, .slice B m d, .int .i64 hi.e] 27)).alloc (.cells #[.bool lo'.neg, .slice A' n' c', .int .i64 lo'.e, .bool hi'.neg, .slice B' m' d', .int .i64 hi'.e] 27)).heap.size = w2.heap.size + 1 + 1 := by simp
    have L0 : LDs ((w2.alloc (.cells #[.bool lo.neg, .slice A n c, .int .i64 lo.e, .bool hi.neg, .slice B m d, .int .i64 hi.e] 27)).alloc (.cells #[.bool lo'.neg, .slice A' n' c', .int .i64 lo'.e, .bool hi'.neg, .slice B' m' d', .int .i64 hi'.e] 27)) (w2.heap.size + 1 + 1) (.slice none 0 0) 0 (prod4 lo hi lo' hi') := LDs.nil _ _ _
    clear S
    generalize (w2.alloc (.cells #[.bool lo.neg, .slice A n c, .int .i64 lo.e, .bool hi.neg, .slice B m d, .int .i64 hi.e] 27)).alloc (.cells #[.bool lo'.neg, .slice A' n' c', .int .i64 lo'.e, .bool hi'.neg, .slice B' m' d', .int .i64 hi'.e] 27) = w3 at *
    generalize w2.heap.size = Z at *
    clear w2
    obtain ⟨ax, hax⟩ : ∃ ax : Addr, Hid (ax = ⟨Z, 0, none⟩) := ⟨_, Lib.hid rfl⟩
    obtain ⟨ay, hay⟩ : ∃ ay : Addr, Hid (ay = ⟨Z + 1, 0, none⟩) := ⟨_, Lib.hid rfl⟩
    rw [← hax.out, ← hay.out]
    have HA : Hid (∀ w', Only w w' g → DIn w' A n c lo) := Lib.hid (fun w' o => ha.wk hW o)
    have HB : Hid (∀ w', Only w w' g → DIn w' B m d hi) := Lib.hid (fun w' o => hb.wk hW o)
    have HA' : Hid (∀ w', Only w w' g → DIn w' A' n' c' lo') := Lib.hid (fun w' o => ha'.wk hW o)
    have HB' : Hid (∀ w', Only w w' g → DIn w' B' m' d' hi') := Lib.hid (fun w' o => hb'.wk hW o)
    have HTab : Hid (∀ w', Only w w' g → Tab w') := Lib.hid (fun w' o => hT.wk hW o)
    clear ha hb ha' hb' hT hW
    go_wp2_with fail
    go_loopw [7, 10] (fun s7 s10 wr => ∃ i : Nat, i ≤ 4 ∧ s10 = .int .i64 (i : Int) ∧ Hid (∀ j, j < i → (prod4 lo hi lo' hi' j).ok = true) ∧ St 41 w g p false wr [(27, Z + 1, #[.bool lo'.neg, .slice A' n' c', .int .i64 lo'.e, .bool hi'.neg, .slice B' m' d', .int .i64 hi'.e]), (27, Z, #[.bool lo.neg, .slice A n c, .int .i64 lo.e, .bool hi.neg, .slice B m d, .int .i64 hi.e]), (29, w.heap.size + 1 + 1, zs), (29, w.heap.size + 1, #[.bool lo'.neg, .slice A' n' c', .int .i64 lo'.e, .bool hi'.neg, .slice B' m' d', .int .i64 hi'.e]), (29, w.heap.size, #[.bool lo.neg, .slice A n c, .int .i64 lo.e, .bool hi.neg, .slice B m d, .int .i64 hi.e])] [] ∧ LDs wr (Z + 1 + 1) s7 i (prod4 lo hi lo' hi') ∧ Z + 1 + 1 ≤ wr.heap.size) (fun _ s10 _ => 4 - (intOf s10).toNat)
    case atStart => exact ⟨0, by omega, rfl, Lib.hid (fun j hj => by omega), S1, L0, by omega⟩
    case round =>
      clear S1 L0 hwW
      obtain ⟨i, hi4, rfl, hok, S, LL, hzr⟩ := hrel
      generalize u7 = V7 at *
      by_cases hlt : i < 4
      · skip
        have hlt' : (i : Int) < 4 := by omega
        obtain ⟨I2, hI2⟩ : ∃ k : Nat, k = i / 2 := ⟨_, rfl⟩
        obtain ⟨J2, hJ2⟩ : ∃ k : Nat, k = i % 2 := ⟨_, rfl⟩
        have hq : Int.tdiv (i : Int) 2 = (I2 : Int) := by rw [hI2]; exact (Int.ofNat_tdiv i 2).symm
        have hr : Int.tmod (i : Int) 2 = (J2 : Int) := by rw [hJ2]; exact (Int.ofNat_tmod i 2).symm
        have hwq : IntKind.i64.wrap (I2 : Int) = (I2 : Int) := wrap_id (by omega) (by omega)
        have hqd : (i : Int) / 2 = (I2 : Int) := by omega
        have hrd' : (i : Int) % 2 = (J2 : Int) := by omega
        have hq0 : (0 : Int) ≤ (I2 : Int) := by omega
        have hr0 : (0 : Int) ≤ (J2 : Int) := by omega
        have hq2 : (I2 : Int) < 2 := by omega
        have hr2 : (J2 : Int) < 2 := by omega
        obtain ⟨X, x1, x2, EX, DX⟩ := end_at lo hi A B n c m d I2 (by omega)
        obtain ⟨Y, y1, y2, EY, DY'⟩ := end_at lo' hi' A' B' n' c' m' d' J2 (by omega)
        have HPi : Hid (prod4 lo hi lo' hi' i = mulI (if I2 = 0 then lo else hi) (if J2 = 0 then lo' else hi')) := Lib.hid (by subst hI2 hJ2; rfl)
        clear hI2 hJ2
        have HDX : Hid (∀ w', Only w w' g → DIn w' X x1 x2 (if I2 = 0 then lo else hi)) := Lib.hid (fun w' o => DX w' (HA.out w' o) (HB.out w' o))
        have HDY : Hid (∀ w', Only w w' g → DIn w' Y y1 y2 (if J2 = 0 then lo' else hi')) := Lib.hid (fun w' o => DY' w' (HA'.out w' o) (HB'.out w' o))
        have HEX : Hid (∀ w', KC 27 w' Z #[.bool lo.neg, .slice A n c, .int .i64 lo.e, .bool hi.neg, .slice B m d, .int .i64 hi.e] → w'.cell? (ax.add (I2 * 3)) = some (.bool (if I2 = 0 then lo else hi).neg) ∧ w'.cell? ⟨(ax.add (I2 * 3)).block, (ax.add (I2 * 3)).off + 1, none⟩ = some (.slice X x1 x2) ∧ w'.cell? ⟨(ax.add (I2 * 3)).block, (ax.add (I2 * 3)).off + 2, none⟩ = some (.int .i64 (if I2 = 0 then lo else hi).e)) := Lib.hid (fun w' h => EX w' Z ax hax.out h)
        have HEY : Hid (∀ w', KC 27 w' (Z + 1) #[.bool lo'.neg, .slice A' n' c', .int .i64 lo'.e, .bool hi'.neg, .slice B' m' d', .int .i64 hi'.e] → w'.cell? (ay.add (J2 * 3)) = some (.bool (if J2 = 0 then lo' else hi').neg) ∧ w'.cell? ⟨(ay.add (J2 * 3)).block, (ay.add (J2 * 3)).off + 1, none⟩ = some (.slice Y y1 y2) ∧ w'.cell? ⟨(ay.add (J2 * 3)).block, (ay.add (J2 * 3)).off + 2, none⟩ = some (.int .i64 (if J2 = 0 then lo' else hi').e)) := Lib.hid (fun w' h => EY w' (Z + 1) ay hay.out h)
        clear EX EY DX DY'
        generalize (if I2 = 0 then lo else hi) = rx at *
        generalize (if J2 = 0 then lo' else hi') = ry at *
        have MU : Hid (∀ w', Only w w' g → Calls Tryz.prog 54 #[dyv rx.neg X x1 x2 rx.e, dyv ry.neg Y y1 y2 ry.e] w' (DP w' (mulI rx ry))) := Lib.hid (fun w' o => rmulI w' (HDX.out w' o) (HDY.out w' o) (HTab.out w' o))
        obtain ⟨rz, hrz⟩ : ∃ rz, Hid (rz = mulI rx ry) := ⟨_, Lib.hid rfl⟩
        rw [← hrz.out] at MU
        rw [← hrz.out] at HPi
        clear HDX HDY hrz
        go_wp2_with fail
        go_cut [11, 12] (fun sd so wx => ∃ g1 A1 n1 c1, sd = .pointer (some ⟨g1, 0, none⟩) ∧ so = .bool rz.ok ∧ w.heap.size ≤ g1 ∧ St 41 w g p false wx ((27, g1, #[.bool rz.neg, .slice A1 n1 c1, .int .i64 rz.e]) :: [(27, Z + 1, #[.bool lo'.neg, .slice A' n' c', .int .i64 lo'.e, .bool hi'.neg, .slice B' m' d', .int .i64 hi'.e]), (27, Z, #[.bool lo.neg, .slice A n c, .int .i64 lo.e, .bool hi.neg, .slice B m d, .int .i64 hi.e]), (29, w.heap.size + 1 + 1, zs), (29, w.heap.size + 1, #[.bool lo'.neg, .slice A' n' c', .int .i64 lo'.e, .bool hi'.neg, .slice B' m' d', .int .i64 hi'.e]), (29, w.heap.size, #[.bool lo.neg, .slice A n c, .int .i64 lo.e, .bool hi.neg, .slice B m d, .int .i64 hi.e])]) [(.slice A1 n1 c1, rz.m)] ∧ LDs wx (Z + 1 + 1) V7 i (prod4 lo hi lo' hi') ∧ Z + 1 + 1 ≤ wx.heap.size)
        case first =>
          have HC : Hid (∀ w', St 41 w g p false w' [(27, Z + 1, #[.bool lo'.neg, .slice A' n' c', .int .i64 lo'.e, .bool hi'.neg, .slice B' m' d', .int .i64 hi'.e]), (27, Z, #[.bool lo.neg, .slice A n c, .int .i64 lo.e, .bool hi.neg, .slice B m d, .int .i64 hi.e]), (29, w.heap.size + 1 + 1, zs), (29, w.heap.size + 1, #[.bool lo'.neg, .slice A' n' c', .int .i64 lo'.e, .bool hi'.neg, .slice B' m' d', .int .i64 hi'.e]), (29, w.heap.size, #[.bool lo.neg, .slice A n c, .int .i64 lo.e, .bool hi.neg, .slice B m d, .int .i64 hi.e])] [] → w'.cell? (ax.add (I2 * 3)) = some (.bool rx.neg) ∧ w'.cell? ⟨(ax.add (I2 * 3)).block, (ax.add (I2 * 3)).off + 1, none⟩ = some (.slice X x1 x2) ∧ w'.cell? ⟨(ax.add (I2 * 3)).block, (ax.add (I2 * 3)).off + 2, none⟩ = some (.int .i64 rx.e) ∧ w'.cell? (ay.add (J2 * 3)) = some (.bool ry.neg) ∧ w'.cell? ⟨(ay.add (J2 * 3)).block, (ay.add (J2 * 3)).off + 1, none⟩ = some (.slice Y y1 y2) ∧ w'.cell? ⟨(ay.add (J2 * 3)).block, (ay.add (J2 * 3)).off + 2, none⟩ = some (.int .i64 ry.e)) := Lib.hid (fun w' h => by
            obtain ⟨a1, a2, a3⟩ := HEX.out w' h.ks.2.1.1
            obtain ⟨b1, b2, b3⟩ := HEY.out w' h.ks.1.1
            exact ⟨a1, a2, a3, b1, b2, b3⟩)
          clear HEX HEY HPi hok
          have SD := S.drew
          have LD := LL.below (Below.refl _ wr).drew
          have SA := SD.below (alloc_bel wr.drew (cd3 (.bool false) (.slice none 0 0) (.int .i64 0)))
          have LA := LD.below (alloc_bel wr.drew (cd3 (.bool false) (.slice none 0 0) (.int .i64 0)))
          have hwz : w.heap.size ≤ wr.heap.size := S.size
          have hne7 : V7.ownBlock ≠ some wr.heap.size := fun e => by have := (LL.lt _ e).2; omega
          have XS1 := HC.out _ SD
          clear S LL
          go_region_held3 (fun w' => w'.cell? (ax.add (I2 * 3)) = some (.bool rx.neg) ∧ w'.cell? ⟨(ax.add (I2 * 3)).block, (ax.add (I2 * 3)).off + 1, none⟩ = some (.slice X x1 x2) ∧ w'.cell? ⟨(ax.add (I2 * 3)).block, (ax.add (I2 * 3)).off + 2, none⟩ = some (.int .i64 rx.e) ∧ w'.cell? (ay.add (J2 * 3)) = some (.bool ry.neg) ∧ w'.cell? ⟨(ay.add (J2 * 3)).block, (ay.add (J2 * 3)).off + 1, none⟩ = some (.slice Y y1 y2) ∧ w'.cell? ⟨(ay.add (J2 * 3)).block, (ay.add (J2 * 3)).off + 2, none⟩ = some (.int .i64 ry.e))
            (first | exact XS1 | exact HC.out _ (SD.below b1) | exact HC.out _ SA | exact HC.out _ (SA.below b1) | exact HC.out _ ((SD.below b1).below (alloc_bel _ _)) | exact HC.out _ ((SA.below b1).put KZ1.kc hwz ⟨by omega, by omega, by omega, by omega, by omega, trivial⟩ _ _ _))
            (first | (go_at_call 54; refine (MU.out _ (by first | exact SD.O | exact SA.O)).mono ?_; rintro e' v1 ⟨A1, p1, c1, rfl, n1, b1⟩; first | (have KZ1 : K3 v1 wr.heap.size (.bool false) (.slice none 0 0) (.int .i64 0) := (K3.made wr.drew (.bool false) (.slice none 0 0) (.int .i64 0)).adv b1; obtain ⟨kf0, kf1, kf2⟩ := KZ1.frozen; obtain ⟨kc0, kc1, kc2, kc3⟩ := KZ1.cell) | skip))
          all_goals (
            go_wp2_with fail
            go_meet
            first
              | exact ⟨_, _, _, _, rfl, rfl, Nat.le_trans hwz b1.size, ((SD.below b1).num n1).alloc _ _, (LD.below b1).below (alloc_bel _ _), by simp; have := b1.size; simp at this; omega⟩
              | exact ⟨_, _, _, _, rfl, rfl, hwz, ((SA.below b1).num n1).putK KZ1.kc hwz ⟨by omega, by omega, by omega, by omega, by omega, trivial⟩ _ _ _, lds_put KZ1.kc (LA.below b1) hne7 _ _ _, by have := b1.size; simp [World.setCell] at this ⊢; omega⟩)
        case rest =>
          clear S LL hzr HEX HEY MU
          obtain ⟨g1, A1, n1, c1, rfl, rfl, hg1, S, LL, hzr⟩ := hcut
          cases hrk : rz.ok
          · have HT2 : Hid (mulR p bad lo hi lo' hi' = SRes.no) := Lib.hid (by
              rw [HT.out, ok4_false (j := i) hlt (by rw [HPi.out]; exact hrk)]
              rfl)
            obtain ⟨kw0, kw1⟩ := S.wc
            have kwl := S.lt
            have kwf := S.W.frozen 1
            clear HT HPi HPL LL
            go_upto_region 12 with fail
            have o1 := only_set1 wc g (.bool true)
            have S7 := S.only o1 (S.W.set1 true)
            clear S o1 kw0 kw1 kwl kwf
            generalize wc.setCell ⟨g, 1, none⟩ (.bool true) = w7 at *
            have S := S7
            clear S7
            have kR := S.ks.2.2.2.1.1
            have s0 := kR.at_ 0 _ rfl
            have s1 := kR.at_ 1 _ rfl
            have s2 := kR.at_ 2 _ rfl
            have s3 := kR.at_ 3 _ rfl
            have s4 := kR.at_ 4 _ rfl
            have s5 := kR.at_ 5 _ rfl
            have rf0 := kR.fr 0
            have rf1 := kR.fr 1
            have rf2 := kR.fr 2
            have rf3 := kR.fr 3
            have rf4 := kR.fr 4
            have rf5 := kR.fr 5
            go_wp2_with fail
            rw [HT2.out]
            obtain ⟨q1, q2, q3, q4⟩ := S.give (lo := DR.zero) (hi := DR.zero) (num_nil _) (num_nil _) kR (by omega)
            exact bodyPost_ret (v := spv false none 0 0 0 false none 0 0 0) (by simp [results, Tryz.results24, go_sem, s0, s1, s2, s3, s4, s5]) rfl ⟨none, 0, 0, none, 0, 0, rfl, q1, q2, q3, q4⟩
          · have kd0 := S.ks.1.1.at_ 0 _ rfl
            have kd1 := S.ks.1.1.at_ 1 _ rfl
            have kd2 := S.ks.1.1.at_ 2 _ rfl
            have kdl := S.ks.1.1.2
            have LB := LL.below (alloc_bel wc (cd3 (.bool rz.neg) (.slice A1 n1 c1) (.int .i64 rz.e)))
            have NB := S.ns.1.below (alloc_bel wc (cd3 (.bool rz.neg) (.slice A1 n1 c1) (.int .i64 rz.e)))
            obtain ⟨q0, q1, q2⟩ := new3_at wc (.bool rz.neg) (.slice A1 n1 c1) (.int .i64 rz.e)
            go_wp2_with (at_builtin; refine wpList_append_dyad (base := Z + 1 + 1) (k := i) (r := prod4 lo hi lo' hi') rfl (.tmp 54) (.tmp 56) 66 rfl (by kernel_rfl) rfl LB (by omega) ⟨wc.heap.size, 0, none⟩ rfl A1 n1 c1 (by rw [HPi.out]; exact q0) q1 (by rw [HPi.out]; exact q2) (by rw [HPi.out]; exact NB) (by simp; omega) ?_; intro v' w' hL' hG' _ hB' _)
            have SG := (S.drop.forget.below (alloc_bel wc (cd3 (.bool rz.neg) (.slice A1 n1 c1) (.int .i64 rz.e)))).grown hG' (B := Z + 1 + 1) (by omega) hB' ⟨by omega, by omega, by omega, by omega, by omega, trivial⟩
            have hz9 : Z + 1 + 1 ≤ w'.heap.size := by have := hG'.size; simp at this; omega
            have hok9 : Hid (∀ j, j < i + 1 → (prod4 lo hi lo' hi' j).ok = true) := Lib.hid (fun j hj => by
              by_cases e : j = i
              · subst e; rw [HPi.out]; exact hrk
              · exact hok.out j (by omega))
            clear S LL LB NB q0 q1 q2 kd0 kd1 kd2 kdl hG' hB' hok hzr
            go_wp2_with fail
            go_roundw
            case rel => exact ⟨i + 1, by omega, by go_num, hok9, SG, hL', hz9⟩
            case measure => simp [intOf]; omega
      · skip
        obtain rfl : i = 4 := by omega
        have HT2 : Hid (mulR p bad lo hi lo' hi' = outS p false (pick4 (prod4 lo hi lo' hi') false) (pick4 (prod4 lo hi lo' hi') true)) := Lib.hid (by rw [HT.out, if_pos (ok4_of hok.out)])
        have HP4 : ∀ j, j < 4 → (prod4 lo hi lo' hi' j).ok = true ∧ plainV (prod4 lo hi lo' hi' j).neg (prod4 lo hi lo' hi' j).m (prod4 lo hi lo' hi' j).e = true := fun j hj => ⟨hok.out j hj, HPL.out j (hok.out j hj)⟩
        have HQ1 : Hid (Pl (pick4 (prod4 lo hi lo' hi') false)) := Lib.hid (pl_pick4 HP4 false)
        have HQ2 : Hid (Pl (pick4 (prod4 lo hi lo' hi') true)) := Lib.hid (pl_pick4 HP4 true)
        have D1 : Hid (∀ w', LDs w' (Z + 1 + 1) V7 4 (prod4 lo hi lo' hi') → Calls Tryz.prog 40 #[V7, .bool false] w' (DOne w' (pick4 (prod4 lo hi lo' hi') false))) := Lib.hid (fun w' h => least4 false w' h HP4)
        have D2 : Hid (∀ w', LDs w' (Z + 1 + 1) V7 4 (prod4 lo hi lo' hi') → Calls Tryz.prog 40 #[V7, .bool true] w' (DOne w' (pick4 (prod4 lo hi lo' hi') true))) := Lib.hid (fun w' h => least4 true w' h HP4)
        clear HT HPL hok hlt hi4 HP4
        generalize pick4 (prod4 lo hi lo' hi') false = r1 at *
        generalize pick4 (prod4 lo hi lo' hi') true = r2 at *
        go_wp2_with fail
        refine (D1.out _ LL).mono ?_
        rintro e' w5 ⟨A5, n5, c5, rfl, N5, b5⟩
        have S5 := S.below b5
        have L5 := LL.below b5
        clear S LL D1 b5
        go_wp2_with fail
        refine (D2.out _ L5).mono ?_
        rintro e' w6 ⟨A6, n6, c6, rfl, N6, b6⟩
        have N5 := N5.below b6
        have S := S5.below b6
        clear S5 L5 D2 b6
        go_wp2_with fail
        refine (rout_any g p false _ S.W (HQ1.out.din N5) (HQ2.out.din N6) (HTab.out _ S.O)).mono ?_
        rintro e' w5 ⟨A9, p9, c9, B9, q9, d9, rfl, m1, m2, hW9, o9⟩
        replace S := S.only o9 hW9
        clear o9 hW9
        generalize outS p false r1 r2 = r at *
        have kR := S.ks.2.2.1.1
        have s0 := kR.at_ 0 _ rfl
        have s1 := kR.at_ 1 _ rfl
        have s2 := kR.at_ 2 _ rfl
        have s3 := kR.at_ 3 _ rfl
        have s4 := kR.at_ 4 _ rfl
        have s5 := kR.at_ 5 _ rfl
        have rf0 := kR.fr 0
        have rf1 := kR.fr 1
        have rf2 := kR.fr 2
        have rf3 := kR.fr 3
        have rf4 := kR.fr 4
        have rf5 := kR.fr 5
        go_wp2_with fail
        rw [HT2.out]
        obtain ⟨q1, q2, q3, q4⟩ := S.give (lo := r.lo) (hi := r.hi) m1 m2 kR (by omega)
        exact bodyPost_ret (v := spv r.lo.neg A9 p9 c9 r.lo.e r.hi.neg B9 q9 d9 r.hi.e) (by simp [results, Tryz.results24, go_sem, s0, s1, s2, s3, s4, s5]) rfl ⟨A9, p9, c9, B9, q9, d9, rfl, q1, q2, q3, q4⟩
end Go.Proofs.YtodjldhppbbhdaaGreatDoor
