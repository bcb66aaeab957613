/-
  volvelleref03's Div.
-/
import Derived.Test.YtodjldhppbbhdaaGreatDoorPlSerGDy10
import Derived.Test.YtodjldhppbbhdaaGreatDoorPlSerGSp11
import Derived.Test.YtodjldhppbbhdaaGreatDoorPlSerGSp12
namespace Go.Proofs.YtodjldhppbbhdaaGreatDoor
open Go.RowKit

theorem roverI {r s : DR} {A B : Option Addr} {n c m d : Nat} (p : Int) (up : Bool) (w : World) (ha : DIn w A n c r) (hb : DIn w B m d s) (hT : Tab w) (hs : s.ok = true) :
    Calls Tryz.prog 39 #[dyv r.neg A n c r.e, dyv s.neg B m d s.e, .int .i64 p, .bool up] w (DP w (overI r s p up)) := by
  have h0 := hb.len0 hs
  obtain ⟨x, a1, a2, a3, a4⟩ := ha
  obtain ⟨y, b1, b2, b3, b4⟩ := hb
  have := rover_any r.neg s.neg A B n c m d x y r.e s.e p up w a1 b1 a2 b2 hT
  unfold overI
  rw [a4, b4, show decide (s.m = 0) = decide (m = 0) by simp only [h0], a3, b3]
  exact this.mono fun _ _ h => h.dp
set_option maxRecDepth 8000 in
set_option maxHeartbeats 4000000 in
theorem rsdiv_any {lo hi lo' hi' : DR} {A B A' B' : Option Addr} {n c m d n' c' m' d' : Nat} (g : Nat) (p : Int) (bad : Bool) (w : World) (hW : Wk 41 w g p bad) (ha : DIn w A n c lo) (hb : DIn w B m d hi) (ha' : DIn w A' n' c' lo') (hb' : DIn w B' m' d' hi') (hT : Tab w) :
    Calls Tryz.prog 18 #[.pointer (some ⟨g, 0, none⟩), spv lo.neg A n c lo.e hi.neg B m d hi.e, spv lo'.neg A' n' c' lo'.e hi'.neg B' m' d' hi'.e] w (SPost 41 w g p (divR p bad lo hi lo' hi')) := by
  have S := st2 hW (.bool lo.neg) (.slice A n c) (.int .i64 lo.e) (.bool hi.neg) (.slice B m d) (.int .i64 hi.e) (.bool lo'.neg) (.slice A' n' c') (.int .i64 lo'.e) (.bool hi'.neg) (.slice B' m' d') (.int .i64 hi'.e)
  have TK := rtake2 g p bad _ S.W (ha.wk hW S.O) (hb.wk hW S.O) (ha'.wk hW S.O) (hb'.wk hW S.O)
  rw [show (((w.alloc (co6 (.bool lo.neg) (.slice A n c) (.int .i64 lo.e) (.bool hi.neg) (.slice B m d) (.int .i64 hi.e))).alloc (co6 (.bool lo'.neg) (.slice A' n' c') (.int .i64 lo'.e) (.bool hi'.neg) (.slice B' m' d') (.int .i64 hi'.e))).alloc z6).heap.size = w.heap.size + 1 + 1 + 1 by simp] at TK
  have TKH := Lib.hid TK
  clear TK
  have k0 := S.ks.2.2.1.1
  have k0_0 := k0.at_ 0 _ rfl
  have k0_1 := k0.at_ 1 _ rfl
  have k0_2 := k0.at_ 2 _ rfl
  have k0_3 := k0.at_ 3 _ rfl
  have k0_4 := k0.at_ 4 _ rfl
  have k0_5 := k0.at_ 5 _ rfl
  have k0l := k0.2
  clear k0
  have k1 := S.ks.2.1.1
  have k1_0 := k1.at_ 0 _ rfl
  have k1_1 := k1.at_ 1 _ rfl
  have k1_2 := k1.at_ 2 _ rfl
  have k1_3 := k1.at_ 3 _ rfl
  have k1_4 := k1.at_ 4 _ rfl
  have k1_5 := k1.at_ 5 _ rfl
  have k1l := k1.2
  clear k1
  go_enter Tryz.func18, Tryz.ntmps18
  go_wp2_with fail
  refine TKH.out.mono ?_
  clear TKH
  clear k0_0 k0_1 k0_2 k0_3 k0_4 k0_5 k0l k1_0 k1_1 k1_2 k1_3 k1_4 k1_5 k1l
  generalize ((w.alloc (co6 (.bool lo.neg) (.slice A n c) (.int .i64 lo.e) (.bool hi.neg) (.slice B m d) (.int .i64 hi.e))).alloc (co6 (.bool lo'.neg) (.slice A' n' c') (.int .i64 lo'.e) (.bool hi'.neg) (.slice B' m' d') (.int .i64 hi'.e))).alloc z6 = w1 at *
  rintro e' w2 ⟨rfl, hW2, o2⟩
  replace S := S.only o2 hW2
  clear o2 hW2
  obtain ⟨bo, hbo⟩ : ∃ b : Bool, Hid (bad2 p bad lo hi lo' hi' = b) := ⟨_, Lib.hid rfl⟩
  rw [hbo.out] at S
  rw [hbo.out]
  cases bo
  rotate_left
  · have HT : Hid (divR p bad lo hi lo' hi' = SRes.no) := Lib.hid (by unfold divR; rw [hbo.out]; rfl)
    have kR := S.ks.1.1
    have s0 := kR.at_ 0 _ rfl
    have s1 := kR.at_ 1 _ rfl
    have s2 := kR.at_ 2 _ rfl
    have s3 := kR.at_ 3 _ rfl
    have s4 := kR.at_ 4 _ rfl
    have s5 := kR.at_ 5 _ rfl
    have rf0 := kR.fr 0
    have rf1 := kR.fr 1
    have rf2 := kR.fr 2
    have rf3 := kR.fr 3
    have rf4 := kR.fr 4
    have rf5 := kR.fr 5
    go_wp2_with fail
    rw [HT.out]
    obtain ⟨q1, q2, q3, q4⟩ := S.give (lo := DR.zero) (hi := DR.zero) (num_nil _) (num_nil _) kR (by omega)
    exact bodyPost_ret (v := spv false none 0 0 0 false none 0 0 0) (by simp [results, Tryz.results18, go_sem, s0, s1, s2, s3, s4, s5]) rfl ⟨none, 0, 0, none, 0, 0, rfl, q1, q2, q3, q4⟩
  · skip
    obtain ⟨-, hp, hR, hR'⟩ := bad2_false hbo.out
    have HT0 : Hid (divR p bad lo hi lo' hi' = if signI lo' hi' = 0 then SRes.no else if ok4 (quo4 p false lo hi lo' hi') && ok4 (quo4 p true lo hi lo' hi') then (⟨false, pick4 (quo4 p false lo hi lo' hi') false, pick4 (quo4 p true lo hi lo' hi') true⟩ : SRes) else SRes.no) := Lib.hid (by unfold divR; rw [hbo.out]; rfl)
    have SG : Hid (∀ w', Only w w' g → Calls Tryz.prog 38 #[spv lo'.neg A' n' c' lo'.e hi'.neg B' m' d' hi'.e] w' fun o w2 => o = .returned (.int .i64 (signI lo' hi')) ∧ Below w'.heap.size w' w2) := Lib.hid (fun w' o => rsign_I w' (ha'.wk hW o) (hb'.wk hW o))
    have HOK : Hid (lo'.ok = true ∧ hi'.ok = true) := Lib.hid ⟨hR'.l, hR'.h⟩
    clear hbo hp hR hR'
    generalize signI lo' hi' = z at *
    by_cases hz0 : z = 0
    · subst hz0
      have HT : Hid (divR p bad lo hi lo' hi' = SRes.no) := Lib.hid (by rw [HT0.out, if_pos rfl])
      clear HT0 HOK
      have k2 := S.ks.2.1.1
      have k2_0 := k2.at_ 0 _ rfl
      have k2_1 := k2.at_ 1 _ rfl
      have k2_2 := k2.at_ 2 _ rfl
      have k2_3 := k2.at_ 3 _ rfl
      have k2_4 := k2.at_ 4 _ rfl
      have k2_5 := k2.at_ 5 _ rfl
      have k2l := k2.2
      clear k2
      go_wp2_with fail
      refine (SG.out _ S.O).mono ?_
      rintro e' w4 ⟨rfl, b4⟩
      replace S := S.below b4
      clear b4 SG
      clear k2_0 k2_1 k2_2 k2_3 k2_4 k2_5 k2l
      obtain ⟨kw0, kw1⟩ := S.wc
      have kwl := S.lt
      have kwf := S.W.frozen 1
      go_upto_region 5 with fail
      have o1 := only_set1 w4 g (.bool true)
      have S7 := S.only o1 (S.W.set1 true)
      clear S o1 kw0 kw1 kwl kwf
      generalize w4.setCell ⟨g, 1, none⟩ (.bool true) = w7 at *
      have S := S7
      clear S7
      have kR := S.ks.1.1
      have s0 := kR.at_ 0 _ rfl
      have s1 := kR.at_ 1 _ rfl
      have s2 := kR.at_ 2 _ rfl
      have s3 := kR.at_ 3 _ rfl
      have s4 := kR.at_ 4 _ rfl
      have s5 := kR.at_ 5 _ rfl
      have rf0 := kR.fr 0
      have rf1 := kR.fr 1
      have rf2 := kR.fr 2
      have rf3 := kR.fr 3
      have rf4 := kR.fr 4
      have rf5 := kR.fr 5
      go_wp2_with fail
      rw [HT.out]
      obtain ⟨q1, q2, q3, q4⟩ := S.give (lo := DR.zero) (hi := DR.zero) (num_nil _) (num_nil _) kR (by omega)
      exact bodyPost_ret (v := spv false none 0 0 0 false none 0 0 0) (by simp [results, Tryz.results18, go_sem, s0, s1, s2, s3, s4, s5]) rfl ⟨none, 0, 0, none, 0, 0, rfl, q1, q2, q3, q4⟩
    · skip
      have HT : Hid (divR p bad lo hi lo' hi' = if ok4 (quo4 p false lo hi lo' hi') && ok4 (quo4 p true lo hi lo' hi') then (⟨false, pick4 (quo4 p false lo hi lo' hi') false, pick4 (quo4 p true lo hi lo' hi') true⟩ : SRes) else SRes.no) := Lib.hid (by rw [HT0.out, if_neg hz0])
      have HPD : Hid (∀ j, PlIf (quo4 p false lo hi lo' hi' j)) := Lib.hid (fun j => plIf_overI _ _ _ _)
      have HPU : Hid (∀ j, PlIf (quo4 p true lo hi lo' hi' j)) := Lib.hid (fun j => plIf_overI _ _ _ _)
      have hzd : (z == 0) = false := by simpa using hz0
      clear HT0
      have k2 := S.ks.2.1.1
      have k2_0 := k2.at_ 0 _ rfl
      have k2_1 := k2.at_ 1 _ rfl
      have k2_2 := k2.at_ 2 _ rfl
      have k2_3 := k2.at_ 3 _ rfl
      have k2_4 := k2.at_ 4 _ rfl
      have k2_5 := k2.at_ 5 _ rfl
      have k2l := k2.2
      clear k2
      go_wp2_with fail
      refine (SG.out _ S.O).mono ?_
      rintro e' w4 ⟨rfl, b4⟩
      replace S := S.below b4
      clear b4 SG
      clear k2_0 k2_1 k2_2 k2_3 k2_4 k2_5 k2l
      have k3 := S.ks.2.2.1.1
      have k3_0 := k3.at_ 0 _ rfl
      have k3_1 := k3.at_ 1 _ rfl
      have k3_2 := k3.at_ 2 _ rfl
      have k3_3 := k3.at_ 3 _ rfl
      have k3_4 := k3.at_ 4 _ rfl
      have k3_5 := k3.at_ 5 _ rfl
      have k3l := k3.2
      clear k3
      have k4 := S.ks.2.1.1
      have k4_0 := k4.at_ 0 _ rfl
      have k4_1 := k4.at_ 1 _ rfl
      have k4_2 := k4.at_ 2 _ rfl
      have k4_3 := k4.at_ 3 _ rfl
      have k4_4 := k4.at_ 4 _ rfl
      have k4_5 := k4.at_ 5 _ rfl
      have k4l := k4.2
      clear k4
      go_upto_region 10 with fail
      try rw [hzd]
      clear k3_0 k3_1 k3_2 k3_3 k3_4 k3_5 k3l k4_0 k4_1 k4_2 k4_3 k4_4 k4_5 k4l
      have S1 := (S.alloc 27 #[.bool lo.neg, .slice A n c, .int .i64 lo.e, .bool hi.neg, .slice B m d, .int .i64 hi.e]).alloc 27 #[.bool lo'.neg, .slice A' n' c', .int .i64 lo'.e, .bool hi'.neg, .slice B' m' d', .int .i64 hi'.e]
      rw [show (w4.alloc (.cells #[.bool lo.neg, .slice A n c, .int .i64 lo.e, .bool hi.neg, .slice B m d, .int .i64 hi.e] 27)).heap.size = w4.heap.size + 1 by simp] at S1
      have hz2 := S.ks.1.1.2
      have hw2 : w.heap.size ≤ w4.heap.size := S.size
      have hwW : ((w4.alloc (.cells #[.bool lo.neg, .slice A n c, .int .i64 lo.e, .bool hi.neg, .slice B m d, .int .i64 hi.e] 27)).alloc (.cells #[.bool lo'.neg, .slice A' n' c', .int .i64 lo'.e, .bool hi'.neg, .slice B' m' d', .int .i64 hi'.e] 27)).heap.size = w4.heap.size + 1 + 1 := by simp
      have L0 : LDs ((w4.alloc (.cells #[.bool lo.neg, .slice A n c, .int .i64 lo.e, .bool hi.neg, .slice B m d, .int .i64 hi.e] 27)).alloc (.cells #[.bool lo'.neg, .slice A' n' c', .int .i64 lo'.e, .bool hi'.neg, .slice B' m' d', .int .i64 hi'.e] 27)) (w4.heap.size + 1 + 1) (.slice none 0 0) 0 (quo4 p false lo hi lo' hi') := LDs.nil _ _ _
      have M0 : LDs ((w4.alloc (.cells #[.bool lo.neg, .slice A n c, .int .i64 lo.e, .bool hi.neg, .slice B m d, .int .i64 hi.e] 27)).alloc (.cells #[.bool lo'.neg, .slice A' n' c', .int .i64 lo'.e, .bool hi'.neg, .slice B' m' d', .int .i64 hi'.e] 27)) (w4.heap.size + 1 + 1) (.slice none 0 0) 0 (quo4 p true lo hi lo' hi') := LDs.nil _ _ _
      clear S hz0 hzd
      generalize (w4.alloc (.cells #[.bool lo.neg, .slice A n c, .int .i64 lo.e, .bool hi.neg, .slice B m d, .int .i64 hi.e] 27)).alloc (.cells #[.bool lo'.neg, .slice A' n' c', .int .i64 lo'.e, .bool hi'.neg, .slice B' m' d', .int .i64 hi'.e] 27) = w3 at *
      generalize w4.heap.size = Z at *
      clear w4
      obtain ⟨ax, hax⟩ : ∃ ax : Addr, Hid (ax = ⟨Z, 0, none⟩) := ⟨_, Lib.hid rfl⟩
      obtain ⟨ay, hay⟩ : ∃ ay : Addr, Hid (ay = ⟨Z + 1, 0, none⟩) := ⟨_, Lib.hid rfl⟩
      rw [← hax.out, ← hay.out]
      have HA : Hid (∀ w', Only w w' g → DIn w' A n c lo) := Lib.hid (fun w' o => ha.wk hW o)
      have HB : Hid (∀ w', Only w w' g → DIn w' B m d hi) := Lib.hid (fun w' o => hb.wk hW o)
      have HA' : Hid (∀ w', Only w w' g → DIn w' A' n' c' lo') := Lib.hid (fun w' o => ha'.wk hW o)
      have HB' : Hid (∀ w', Only w w' g → DIn w' B' m' d' hi') := Lib.hid (fun w' o => hb'.wk hW o)
      have HTab : Hid (∀ w', Only w w' g → Tab w') := Lib.hid (fun w' o => hT.wk hW o)
      clear ha hb ha' hb' hT hW
      go_wp2_with fail
      go_loopw [7, 8, 11] (fun s7 s8 s11 wr => ∃ i : Nat, i ≤ 4 ∧ s11 = .int .i64 (i : Int) ∧ Hid (∀ j, j < i → (quo4 p false lo hi lo' hi' j).ok = true ∧ (quo4 p true lo hi lo' hi' j).ok = true) ∧ St 41 w g p false wr [(27, Z + 1, #[.bool lo'.neg, .slice A' n' c', .int .i64 lo'.e, .bool hi'.neg, .slice B' m' d', .int .i64 hi'.e]), (27, Z, #[.bool lo.neg, .slice A n c, .int .i64 lo.e, .bool hi.neg, .slice B m d, .int .i64 hi.e]), (29, w.heap.size + 1 + 1, zs), (29, w.heap.size + 1, #[.bool lo'.neg, .slice A' n' c', .int .i64 lo'.e, .bool hi'.neg, .slice B' m' d', .int .i64 hi'.e]), (29, w.heap.size, #[.bool lo.neg, .slice A n c, .int .i64 lo.e, .bool hi.neg, .slice B m d, .int .i64 hi.e])] [] ∧ LDs wr (Z + 1 + 1) s7 i (quo4 p false lo hi lo' hi') ∧ LDs wr (Z + 1 + 1) s8 i (quo4 p true lo hi lo' hi') ∧ (s7.ownBlock = none ∨ s7.ownBlock ≠ s8.ownBlock) ∧ Z + 1 + 1 ≤ wr.heap.size) (fun _ _ s11 _ => 4 - (intOf s11).toNat)
      case atStart => exact ⟨0, by omega, rfl, Lib.hid (fun j hj => by omega), S1, L0, M0, .inl rfl, by omega⟩
      case round =>
        clear S1 L0 M0 hwW
        obtain ⟨i, hi4, rfl, hok, S, LL, MM, hap, hzr⟩ := hrel
        generalize u7 = V7 at *
        generalize u8 = V8 at *
        by_cases hlt : i < 4
        · skip
          have hlt' : (i : Int) < 4 := by omega
          obtain ⟨I2, hI2⟩ : ∃ k : Nat, k = i / 2 := ⟨_, rfl⟩
          obtain ⟨J2, hJ2⟩ : ∃ k : Nat, k = i % 2 := ⟨_, rfl⟩
          have hq : Int.tdiv (i : Int) 2 = (I2 : Int) := by rw [hI2]; exact (Int.ofNat_tdiv i 2).symm
          have hr : Int.tmod (i : Int) 2 = (J2 : Int) := by rw [hJ2]; exact (Int.ofNat_tmod i 2).symm
          have hwq : IntKind.i64.wrap (I2 : Int) = (I2 : Int) := wrap_id (by omega) (by omega)
          have hqd : (i : Int) / 2 = (I2 : Int) := by omega
          have hrd' : (i : Int) % 2 = (J2 : Int) := by omega
          have hq0 : (0 : Int) ≤ (I2 : Int) := by omega
          have hr0 : (0 : Int) ≤ (J2 : Int) := by omega
          have hq2 : (I2 : Int) < 2 := by omega
          have hr2 : (J2 : Int) < 2 := by omega
          obtain ⟨X, x1, x2, EX, DX⟩ := end_at lo hi A B n c m d I2 (by omega)
          obtain ⟨Y, y1, y2, EY, DY'⟩ := end_at lo' hi' A' B' n' c' m' d' J2 (by omega)
          have HPi : Hid (quo4 p false lo hi lo' hi' i = overI (if I2 = 0 then lo else hi) (if J2 = 0 then lo' else hi') p false ∧ quo4 p true lo hi lo' hi' i = overI (if I2 = 0 then lo else hi) (if J2 = 0 then lo' else hi') p true) := Lib.hid (by subst hI2 hJ2; exact ⟨rfl, rfl⟩)
          clear hI2 hJ2
          have HDX : Hid (∀ w', Only w w' g → DIn w' X x1 x2 (if I2 = 0 then lo else hi)) := Lib.hid (fun w' o => DX w' (HA.out w' o) (HB.out w' o))
          have HDY : Hid (∀ w', Only w w' g → DIn w' Y y1 y2 (if J2 = 0 then lo' else hi')) := Lib.hid (fun w' o => DY' w' (HA'.out w' o) (HB'.out w' o))
          have HEX : Hid (∀ w', KC 27 w' Z #[.bool lo.neg, .slice A n c, .int .i64 lo.e, .bool hi.neg, .slice B m d, .int .i64 hi.e] → w'.cell? (ax.add (I2 * 3)) = some (.bool (if I2 = 0 then lo else hi).neg) ∧ w'.cell? ⟨(ax.add (I2 * 3)).block, (ax.add (I2 * 3)).off + 1, none⟩ = some (.slice X x1 x2) ∧ w'.cell? ⟨(ax.add (I2 * 3)).block, (ax.add (I2 * 3)).off + 2, none⟩ = some (.int .i64 (if I2 = 0 then lo else hi).e)) := Lib.hid (fun w' h => EX w' Z ax hax.out h)
          have HEY : Hid (∀ w', KC 27 w' (Z + 1) #[.bool lo'.neg, .slice A' n' c', .int .i64 lo'.e, .bool hi'.neg, .slice B' m' d', .int .i64 hi'.e] → w'.cell? (ay.add (J2 * 3)) = some (.bool (if J2 = 0 then lo' else hi').neg) ∧ w'.cell? ⟨(ay.add (J2 * 3)).block, (ay.add (J2 * 3)).off + 1, none⟩ = some (.slice Y y1 y2) ∧ w'.cell? ⟨(ay.add (J2 * 3)).block, (ay.add (J2 * 3)).off + 2, none⟩ = some (.int .i64 (if J2 = 0 then lo' else hi').e)) := Lib.hid (fun w' h => EY w' (Z + 1) ay hay.out h)
          have HYO : Hid ((if J2 = 0 then lo' else hi').ok = true) := Lib.hid (by
            split
            · exact HOK.out.1
            · exact HOK.out.2)
          clear EX EY DX DY'
          generalize (if I2 = 0 then lo else hi) = rx at *
          generalize (if J2 = 0 then lo' else hi') = ry at *
          have OV : Hid (∀ up w', Only w w' g → Calls Tryz.prog 39 #[dyv rx.neg X x1 x2 rx.e, dyv ry.neg Y y1 y2 ry.e, .int .i64 p, .bool up] w' (DP w' (overI rx ry p up))) := Lib.hid (fun up w' o => roverI p up w' (HDX.out w' o) (HDY.out w' o) (HTab.out w' o) HYO.out)
          have OD := Lib.hid (OV.out false)
          have OU := Lib.hid (OV.out true)
          clear HDX HDY HYO OV
          obtain ⟨rd, hrd⟩ : ∃ r, Hid (r = overI rx ry p false) := ⟨_, Lib.hid rfl⟩
          obtain ⟨ru, hru⟩ : ∃ r, Hid (r = overI rx ry p true) := ⟨_, Lib.hid rfl⟩
          rw [← hrd.out, ← hru.out] at HPi
          rw [← hrd.out] at OD
          rw [← hru.out] at OU
          clear hrd hru
          go_wp2_with fail
          go_cut [12, 13] (fun sd so wx => ∃ g1 X1 n1 c1, sd = .pointer (some ⟨g1, 0, none⟩) ∧ so = .bool rd.ok ∧ Z + 1 + 1 ≤ g1 ∧ V7.ownBlock ≠ some g1 ∧ V8.ownBlock ≠ some g1 ∧ St 41 w g p false wx [(27, g1, #[.bool rd.neg, .slice X1 n1 c1, .int .i64 rd.e]), (27, Z + 1, #[.bool lo'.neg, .slice A' n' c', .int .i64 lo'.e, .bool hi'.neg, .slice B' m' d', .int .i64 hi'.e]), (27, Z, #[.bool lo.neg, .slice A n c, .int .i64 lo.e, .bool hi.neg, .slice B m d, .int .i64 hi.e]), (29, w.heap.size + 1 + 1, zs), (29, w.heap.size + 1, #[.bool lo'.neg, .slice A' n' c', .int .i64 lo'.e, .bool hi'.neg, .slice B' m' d', .int .i64 hi'.e]), (29, w.heap.size, #[.bool lo.neg, .slice A n c, .int .i64 lo.e, .bool hi.neg, .slice B m d, .int .i64 hi.e])] [(.slice X1 n1 c1, rd.m)] ∧ LDs wx (Z + 1 + 1) V7 i (quo4 p false lo hi lo' hi') ∧ LDs wx (Z + 1 + 1) V8 i (quo4 p true lo hi lo' hi') ∧ Z + 1 + 1 ≤ wx.heap.size)
          case first =>
            have HC : Hid (∀ w', St 41 w g p false w' [(27, Z + 1, #[.bool lo'.neg, .slice A' n' c', .int .i64 lo'.e, .bool hi'.neg, .slice B' m' d', .int .i64 hi'.e]), (27, Z, #[.bool lo.neg, .slice A n c, .int .i64 lo.e, .bool hi.neg, .slice B m d, .int .i64 hi.e]), (29, w.heap.size + 1 + 1, zs), (29, w.heap.size + 1, #[.bool lo'.neg, .slice A' n' c', .int .i64 lo'.e, .bool hi'.neg, .slice B' m' d', .int .i64 hi'.e]), (29, w.heap.size, #[.bool lo.neg, .slice A n c, .int .i64 lo.e, .bool hi.neg, .slice B m d, .int .i64 hi.e])] [] → w'.cell? (ax.add (I2 * 3)) = some (.bool rx.neg) ∧ w'.cell? ⟨(ax.add (I2 * 3)).block, (ax.add (I2 * 3)).off + 1, none⟩ = some (.slice X x1 x2) ∧ w'.cell? ⟨(ax.add (I2 * 3)).block, (ax.add (I2 * 3)).off + 2, none⟩ = some (.int .i64 rx.e) ∧ w'.cell? (ay.add (J2 * 3)) = some (.bool ry.neg) ∧ w'.cell? ⟨(ay.add (J2 * 3)).block, (ay.add (J2 * 3)).off + 1, none⟩ = some (.slice Y y1 y2) ∧ w'.cell? ⟨(ay.add (J2 * 3)).block, (ay.add (J2 * 3)).off + 2, none⟩ = some (.int .i64 ry.e) ∧ w'.cell? ⟨g, 0, none⟩ = some (.int .i64 p)) := Lib.hid (fun w' h => by
              obtain ⟨a1, a2, a3⟩ := HEX.out w' h.ks.2.1.1
              obtain ⟨b1, b2, b3⟩ := HEY.out w' h.ks.1.1
              exact ⟨a1, a2, a3, b1, b2, b3, h.wc.1⟩)
            clear HEX HEY HPi hok
            have hne7 : Hid (∀ k, wr.heap.size ≤ k → V7.ownBlock ≠ some k) := Lib.hid (fun k hk e => by have := (LL.lt _ e).2; omega)
            have hne8 : Hid (∀ k, wr.heap.size ≤ k → V8.ownBlock ≠ some k) := Lib.hid (fun k hk e => by have := (MM.lt _ e).2; omega)
            have SD := S.drew
            have LD := LL.below (Below.refl _ wr).drew
            have MD := MM.below (Below.refl _ wr).drew
            have SA := SD.below (alloc_bel wr.drew (cd3 (.bool false) (.slice none 0 0) (.int .i64 0)))
            have LA := LD.below (alloc_bel wr.drew (cd3 (.bool false) (.slice none 0 0) (.int .i64 0)))
            have MA := MD.below (alloc_bel wr.drew (cd3 (.bool false) (.slice none 0 0) (.int .i64 0)))
            have hwz : w.heap.size ≤ wr.heap.size := S.size
            have XS1 := HC.out _ SD
            clear S LL MM
            go_region_held3 (fun w' => w'.cell? (ax.add (I2 * 3)) = some (.bool rx.neg) ∧ w'.cell? ⟨(ax.add (I2 * 3)).block, (ax.add (I2 * 3)).off + 1, none⟩ = some (.slice X x1 x2) ∧ w'.cell? ⟨(ax.add (I2 * 3)).block, (ax.add (I2 * 3)).off + 2, none⟩ = some (.int .i64 rx.e) ∧ w'.cell? (ay.add (J2 * 3)) = some (.bool ry.neg) ∧ w'.cell? ⟨(ay.add (J2 * 3)).block, (ay.add (J2 * 3)).off + 1, none⟩ = some (.slice Y y1 y2) ∧ w'.cell? ⟨(ay.add (J2 * 3)).block, (ay.add (J2 * 3)).off + 2, none⟩ = some (.int .i64 ry.e) ∧ w'.cell? ⟨g, 0, none⟩ = some (.int .i64 p))
              (first | exact XS1 | exact HC.out _ (SD.below b1) | exact HC.out _ SA | exact HC.out _ (SA.below b1) | exact HC.out _ ((SD.below b1).below (alloc_bel _ _)) | exact HC.out _ ((SA.below b1).put KZ1.kc hwz ⟨by omega, by omega, by omega, by omega, by omega, trivial⟩ _ _ _))
              (first | (go_at_call 39; refine (OD.out _ (by first | exact SD.O | exact SA.O)).mono ?_; rintro e' v1 ⟨A1, p1, c1, rfl, n1, b1⟩; first | (have KZ1 : K3 v1 wr.heap.size (.bool false) (.slice none 0 0) (.int .i64 0) := (K3.made wr.drew (.bool false) (.slice none 0 0) (.int .i64 0)).adv b1; obtain ⟨kf0, kf1, kf2⟩ := KZ1.frozen; obtain ⟨kc0, kc1, kc2, kc3⟩ := KZ1.cell) | skip))
            all_goals (
              go_wp2_with fail
              go_meet
              first
                | exact ⟨_, _, _, _, rfl, rfl, Nat.le_trans hzr b1.size, hne7.out _ b1.size, hne8.out _ b1.size, ((SD.below b1).num n1).alloc _ _, (LD.below b1).below (alloc_bel _ _), (MD.below b1).below (alloc_bel _ _), by simp; have := b1.size; simp at this; omega⟩
                | exact ⟨_, _, _, _, rfl, rfl, hzr, hne7.out _ (Nat.le_refl _), hne8.out _ (Nat.le_refl _), ((SA.below b1).num n1).putK KZ1.kc hwz ⟨by omega, by omega, by omega, by omega, by omega, trivial⟩ _ _ _, lds_put KZ1.kc (LA.below b1) (hne7.out _ (Nat.le_refl _)) _ _ _, lds_put KZ1.kc (MA.below b1) (hne8.out _ (Nat.le_refl _)) _ _ _, by have := b1.size; simp [World.setCell] at this ⊢; omega⟩)
          case rest =>
            clear S LL MM hzr OD
            obtain ⟨g1, X1, n1, c1, rfl, rfl, hg1, e7g1, e8g1, S, LL, MM, hzr⟩ := hcut
            go_wp2_with fail
            go_cut [14, 15] (fun sd so wx => ∃ g2 X2 n2 c2, sd = .pointer (some ⟨g2, 0, none⟩) ∧ so = .bool ru.ok ∧ Z + 1 + 1 ≤ g2 ∧ V7.ownBlock ≠ some g2 ∧ V8.ownBlock ≠ some g2 ∧ St 41 w g p false wx [(27, g2, #[.bool ru.neg, .slice X2 n2 c2, .int .i64 ru.e]), (27, g1, #[.bool rd.neg, .slice X1 n1 c1, .int .i64 rd.e]), (27, Z + 1, #[.bool lo'.neg, .slice A' n' c', .int .i64 lo'.e, .bool hi'.neg, .slice B' m' d', .int .i64 hi'.e]), (27, Z, #[.bool lo.neg, .slice A n c, .int .i64 lo.e, .bool hi.neg, .slice B m d, .int .i64 hi.e]), (29, w.heap.size + 1 + 1, zs), (29, w.heap.size + 1, #[.bool lo'.neg, .slice A' n' c', .int .i64 lo'.e, .bool hi'.neg, .slice B' m' d', .int .i64 hi'.e]), (29, w.heap.size, #[.bool lo.neg, .slice A n c, .int .i64 lo.e, .bool hi.neg, .slice B m d, .int .i64 hi.e])] [(.slice X2 n2 c2, ru.m), (.slice X1 n1 c1, rd.m)] ∧ LDs wx (Z + 1 + 1) V7 i (quo4 p false lo hi lo' hi') ∧ LDs wx (Z + 1 + 1) V8 i (quo4 p true lo hi lo' hi') ∧ Z + 1 + 1 ≤ wx.heap.size)
            case first =>
              have HC : Hid (∀ w', St 41 w g p false w' [(27, g1, #[.bool rd.neg, .slice X1 n1 c1, .int .i64 rd.e]), (27, Z + 1, #[.bool lo'.neg, .slice A' n' c', .int .i64 lo'.e, .bool hi'.neg, .slice B' m' d', .int .i64 hi'.e]), (27, Z, #[.bool lo.neg, .slice A n c, .int .i64 lo.e, .bool hi.neg, .slice B m d, .int .i64 hi.e]), (29, w.heap.size + 1 + 1, zs), (29, w.heap.size + 1, #[.bool lo'.neg, .slice A' n' c', .int .i64 lo'.e, .bool hi'.neg, .slice B' m' d', .int .i64 hi'.e]), (29, w.heap.size, #[.bool lo.neg, .slice A n c, .int .i64 lo.e, .bool hi.neg, .slice B m d, .int .i64 hi.e])] [(.slice X1 n1 c1, rd.m)] → w'.cell? (ax.add (I2 * 3)) = some (.bool rx.neg) ∧ w'.cell? ⟨(ax.add (I2 * 3)).block, (ax.add (I2 * 3)).off + 1, none⟩ = some (.slice X x1 x2) ∧ w'.cell? ⟨(ax.add (I2 * 3)).block, (ax.add (I2 * 3)).off + 2, none⟩ = some (.int .i64 rx.e) ∧ w'.cell? (ay.add (J2 * 3)) = some (.bool ry.neg) ∧ w'.cell? ⟨(ay.add (J2 * 3)).block, (ay.add (J2 * 3)).off + 1, none⟩ = some (.slice Y y1 y2) ∧ w'.cell? ⟨(ay.add (J2 * 3)).block, (ay.add (J2 * 3)).off + 2, none⟩ = some (.int .i64 ry.e) ∧ w'.cell? ⟨g, 0, none⟩ = some (.int .i64 p)) := Lib.hid (fun w' h => by
                obtain ⟨a1, a2, a3⟩ := HEX.out w' h.ks.2.2.1.1
                obtain ⟨b1, b2, b3⟩ := HEY.out w' h.ks.2.1.1
                exact ⟨a1, a2, a3, b1, b2, b3, h.wc.1⟩)
              clear HEX HEY HPi hok
              have hne7 : Hid (∀ k, wc.heap.size ≤ k → V7.ownBlock ≠ some k) := Lib.hid (fun k hk e => by have := (LL.lt _ e).2; omega)
              have hne8 : Hid (∀ k, wc.heap.size ≤ k → V8.ownBlock ≠ some k) := Lib.hid (fun k hk e => by have := (MM.lt _ e).2; omega)
              have hs0 := S.ks.1.1.2
              have SD := S.drew
              have LD := LL.below (Below.refl _ wc).drew
              have MD := MM.below (Below.refl _ wc).drew
              have SA := SD.below (alloc_bel wc.drew (cd3 (.bool false) (.slice none 0 0) (.int .i64 0)))
              have LA := LD.below (alloc_bel wc.drew (cd3 (.bool false) (.slice none 0 0) (.int .i64 0)))
              have MA := MD.below (alloc_bel wc.drew (cd3 (.bool false) (.slice none 0 0) (.int .i64 0)))
              have hwz : w.heap.size ≤ wc.heap.size := S.size
              have XS1 := HC.out _ SD
              clear S LL MM
              go_region_held3 (fun w' => w'.cell? (ax.add (I2 * 3)) = some (.bool rx.neg) ∧ w'.cell? ⟨(ax.add (I2 * 3)).block, (ax.add (I2 * 3)).off + 1, none⟩ = some (.slice X x1 x2) ∧ w'.cell? ⟨(ax.add (I2 * 3)).block, (ax.add (I2 * 3)).off + 2, none⟩ = some (.int .i64 rx.e) ∧ w'.cell? (ay.add (J2 * 3)) = some (.bool ry.neg) ∧ w'.cell? ⟨(ay.add (J2 * 3)).block, (ay.add (J2 * 3)).off + 1, none⟩ = some (.slice Y y1 y2) ∧ w'.cell? ⟨(ay.add (J2 * 3)).block, (ay.add (J2 * 3)).off + 2, none⟩ = some (.int .i64 ry.e) ∧ w'.cell? ⟨g, 0, none⟩ = some (.int .i64 p))
                (first | exact XS1 | exact HC.out _ (SD.below b1) | exact HC.out _ SA | exact HC.out _ (SA.below b1) | exact HC.out _ ((SD.below b1).below (alloc_bel _ _)) | exact HC.out _ ((SA.below b1).put KZ1.kc hwz ⟨by omega, by omega, by omega, by omega, by omega, by omega, trivial⟩ _ _ _))
                (first | (go_at_call 39; refine (OU.out _ (by first | exact SD.O | exact SA.O)).mono ?_; rintro e' v1 ⟨A1, p1, c1, rfl, n1, b1⟩; first | (have KZ1 : K3 v1 wc.heap.size (.bool false) (.slice none 0 0) (.int .i64 0) := (K3.made wc.drew (.bool false) (.slice none 0 0) (.int .i64 0)).adv b1; obtain ⟨kf0, kf1, kf2⟩ := KZ1.frozen; obtain ⟨kc0, kc1, kc2, kc3⟩ := KZ1.cell) | skip))
              all_goals (
                go_wp2_with fail
                go_meet
                first
                  | exact ⟨_, _, _, _, rfl, rfl, Nat.le_trans hzr b1.size, hne7.out _ b1.size, hne8.out _ b1.size, ((SD.below b1).num n1).alloc _ _, (LD.below b1).below (alloc_bel _ _), (MD.below b1).below (alloc_bel _ _), by simp; have := b1.size; simp at this; omega⟩
                  | exact ⟨_, _, _, _, rfl, rfl, hzr, hne7.out _ (Nat.le_refl _), hne8.out _ (Nat.le_refl _), ((SA.below b1).num n1).putK KZ1.kc hwz ⟨by omega, by omega, by omega, by omega, by omega, by omega, trivial⟩ _ _ _, lds_put KZ1.kc (LA.below b1) (hne7.out _ (Nat.le_refl _)) _ _ _, lds_put KZ1.kc (MA.below b1) (hne8.out _ (Nat.le_refl _)) _ _ _, by have := b1.size; simp [World.setCell] at this ⊢; omega⟩)
            case rest =>
              clear S LL MM hzr OU HEX HEY
              obtain ⟨g2, X2, n2, c2, rfl, rfl, hg2, e7g2, e8g2, S, LL, MM, hzr⟩ := hcut
              cases hrd : rd.ok
              · have HT2 : Hid (divR p bad lo hi lo' hi' = SRes.no) := Lib.hid (by
                  rw [HT.out, ok4_false (r := quo4 p false lo hi lo' hi') (j := i) hlt (by rw [HPi.out.1]; exact hrd)]
                  rfl)
                obtain ⟨kw0, kw1⟩ := S.wc
                have kwl := S.lt
                have kwf := S.W.frozen 1
                clear HT HPi HPD HPU LL MM hok
                go_upto_region 17 with fail
                have o1 := only_set1 wc g (.bool true)
                have S7 := S.only o1 (S.W.set1 true)
                clear S o1 kw0 kw1 kwl kwf
                generalize wc.setCell ⟨g, 1, none⟩ (.bool true) = w7 at *
                have S := S7
                clear S7
                have kR := S.ks.2.2.2.2.1.1
                have s0 := kR.at_ 0 _ rfl
                have s1 := kR.at_ 1 _ rfl
                have s2 := kR.at_ 2 _ rfl
                have s3 := kR.at_ 3 _ rfl
                have s4 := kR.at_ 4 _ rfl
                have s5 := kR.at_ 5 _ rfl
                have rf0 := kR.fr 0
                have rf1 := kR.fr 1
                have rf2 := kR.fr 2
                have rf3 := kR.fr 3
                have rf4 := kR.fr 4
                have rf5 := kR.fr 5
                go_wp2_with fail
                rw [HT2.out]
                obtain ⟨q1, q2, q3, q4⟩ := S.give (lo := DR.zero) (hi := DR.zero) (num_nil _) (num_nil _) kR (by omega)
                exact bodyPost_ret (v := spv false none 0 0 0 false none 0 0 0) (by simp [results, Tryz.results18, go_sem, s0, s1, s2, s3, s4, s5]) rfl ⟨none, 0, 0, none, 0, 0, rfl, q1, q2, q3, q4⟩
              cases hru : ru.ok
              · have HT2 : Hid (divR p bad lo hi lo' hi' = SRes.no) := Lib.hid (by
                  rw [HT.out, ok4_false (r := quo4 p true lo hi lo' hi') (j := i) hlt (by rw [HPi.out.2]; exact hru), Bool.and_false]
                  rfl)
                obtain ⟨kw0, kw1⟩ := S.wc
                have kwl := S.lt
                have kwf := S.W.frozen 1
                clear HT HPi HPD HPU LL MM hok
                go_upto_region 17 with fail
                have o1 := only_set1 wc g (.bool true)
                have S7 := S.only o1 (S.W.set1 true)
                clear S o1 kw0 kw1 kwl kwf
                generalize wc.setCell ⟨g, 1, none⟩ (.bool true) = w7 at *
                have S := S7
                clear S7
                have kR := S.ks.2.2.2.2.1.1
                have s0 := kR.at_ 0 _ rfl
                have s1 := kR.at_ 1 _ rfl
                have s2 := kR.at_ 2 _ rfl
                have s3 := kR.at_ 3 _ rfl
                have s4 := kR.at_ 4 _ rfl
                have s5 := kR.at_ 5 _ rfl
                have rf0 := kR.fr 0
                have rf1 := kR.fr 1
                have rf2 := kR.fr 2
                have rf3 := kR.fr 3
                have rf4 := kR.fr 4
                have rf5 := kR.fr 5
                go_wp2_with fail
                rw [HT2.out]
                obtain ⟨q1, q2, q3, q4⟩ := S.give (lo := DR.zero) (hi := DR.zero) (num_nil _) (num_nil _) kR (by omega)
                exact bodyPost_ret (v := spv false none 0 0 0 false none 0 0 0) (by simp [results, Tryz.results18, go_sem, s0, s1, s2, s3, s4, s5]) rfl ⟨none, 0, 0, none, 0, 0, rfl, q1, q2, q3, q4⟩
              have ku0 := S.ks.1.1.at_ 0 _ rfl
              have ku1 := S.ks.1.1.at_ 1 _ rfl
              have ku2 := S.ks.1.1.at_ 2 _ rfl
              have kul := S.ks.1.1.2
              have kd0 := S.ks.2.1.1.at_ 0 _ rfl
              have kd1 := S.ks.2.1.1.at_ 1 _ rfl
              have kd2 := S.ks.2.1.1.at_ 2 _ rfl
              have kdl := S.ks.2.1.1.2
              have KQ2 := S.ks.1.1
              have N1 := S.ns.2.1
              have N2 := S.ns.1
              have LB := LL.below (alloc_bel wc (cd3 (.bool rd.neg) (.slice X1 n1 c1) (.int .i64 rd.e)))
              have MB' := MM.below (alloc_bel wc (cd3 (.bool rd.neg) (.slice X1 n1 c1) (.int .i64 rd.e)))
              have NB := N1.below (alloc_bel wc (cd3 (.bool rd.neg) (.slice X1 n1 c1) (.int .i64 rd.e)))
              have NB2 := N2.below (alloc_bel wc (cd3 (.bool rd.neg) (.slice X1 n1 c1) (.int .i64 rd.e)))
              have KB2 := KQ2.adv (alloc_bel wc (cd3 (.bool rd.neg) (.slice X1 n1 c1) (.int .i64 rd.e)))
              have SB := S.drop.drop.forget.below (alloc_bel wc (cd3 (.bool rd.neg) (.slice X1 n1 c1) (.int .i64 rd.e)))
              obtain ⟨q0, q1, q2⟩ := new3_at wc (.bool rd.neg) (.slice X1 n1 c1) (.int .i64 rd.e)
              have Q0 : Hid ((wc.alloc (cd3 (.bool rd.neg) (.slice X1 n1 c1) (.int .i64 rd.e))).cell? ((⟨wc.heap.size, 0, none⟩ : Addr).add 0) = some (.bool (quo4 p false lo hi lo' hi' i).neg)) := Lib.hid (by rw [HPi.out.1]; exact q0)
              have Q2 : Hid ((wc.alloc (cd3 (.bool rd.neg) (.slice X1 n1 c1) (.int .i64 rd.e))).cell? ((⟨wc.heap.size, 0, none⟩ : Addr).add 2) = some (.int .i64 (quo4 p false lo hi lo' hi' i).e)) := Lib.hid (by rw [HPi.out.1]; exact q2)
              have NBi : Hid (Num (wc.alloc (cd3 (.bool rd.neg) (.slice X1 n1 c1) (.int .i64 rd.e))) (.slice X1 n1 c1) (quo4 p false lo hi lo' hi' i).m) := Lib.hid (by rw [HPi.out.1]; exact NB)
              have hzb : Z + 1 + 1 ≤ (wc.alloc (cd3 (.bool rd.neg) (.slice X1 n1 c1) (.int .i64 rd.e))).heap.size := by simp; omega
              have HAP := Lib.hid (ap_symm hap)
              clear KQ2 N1 N2 LL MM S NB q0 q2 hap
              go_wp2_with (first
                | (at_builtin
                   refine wpList_append_dyad (base := Z + 1 + 1) (k := i) (r := quo4 p false lo hi lo' hi') rfl (.tmp 90) (.tmp 92) 66 rfl (by kernel_rfl) rfl LB (by omega) ⟨wc.heap.size, 0, none⟩ rfl X1 n1 c1 Q0.out q1 Q2.out NBi.out hzb ?_
                   intro v7 w7 hL7 hG7 hN7 hB7 hF7
                   obtain ⟨M7, a7⟩ := MB'.other hG7 hN7 HAP.out hF7
                   have K7 := KB2.grownR hG7 e7g2
                   have N7 := hN7 _ _ NB2
                   have S7 := SB.grown hG7 (B := Z + 1 + 1) (by omega) hB7 ⟨by omega, by omega, by omega, by omega, by omega, trivial⟩
                   have hz7 : Z + 1 + 1 ≤ w7.heap.size := Nat.le_trans hzb hG7.size
                   clear LB MB' KB2 SB NB2 q1 Q0 Q2 NBi hG7 hN7 hB7 hF7 hzb HAP ku0 ku1 ku2 kul kd0 kd1 kd2 kdl
                   have z0 := K7.at_ 0 _ rfl
                   have z1 := K7.at_ 1 _ rfl
                   have z2 := K7.at_ 2 _ rfl
                   have zl := K7.2
                   have LB := hL7.below (alloc_bel w7 (cd3 (.bool ru.neg) (.slice X2 n2 c2) (.int .i64 ru.e)))
                   have MB' := M7.below (alloc_bel w7 (cd3 (.bool ru.neg) (.slice X2 n2 c2) (.int .i64 ru.e)))
                   have NB := N7.below (alloc_bel w7 (cd3 (.bool ru.neg) (.slice X2 n2 c2) (.int .i64 ru.e)))
                   have SB := S7.below (alloc_bel w7 (cd3 (.bool ru.neg) (.slice X2 n2 c2) (.int .i64 ru.e)))
                   obtain ⟨q0, q1, q2⟩ := new3_at w7 (.bool ru.neg) (.slice X2 n2 c2) (.int .i64 ru.e)
                   have Q0 : Hid ((w7.alloc (cd3 (.bool ru.neg) (.slice X2 n2 c2) (.int .i64 ru.e))).cell? ((⟨w7.heap.size, 0, none⟩ : Addr).add 0) = some (.bool (quo4 p true lo hi lo' hi' i).neg)) := Lib.hid (by rw [HPi.out.2]; exact q0)
                   have Q2 : Hid ((w7.alloc (cd3 (.bool ru.neg) (.slice X2 n2 c2) (.int .i64 ru.e))).cell? ((⟨w7.heap.size, 0, none⟩ : Addr).add 2) = some (.int .i64 (quo4 p true lo hi lo' hi' i).e)) := Lib.hid (by rw [HPi.out.2]; exact q2)
                   have NBi : Hid (Num (w7.alloc (cd3 (.bool ru.neg) (.slice X2 n2 c2) (.int .i64 ru.e))) (.slice X2 n2 c2) (quo4 p true lo hi lo' hi' i).m) := Lib.hid (by rw [HPi.out.2]; exact NB)
                   have hzb : Z + 1 + 1 ≤ (w7.alloc (cd3 (.bool ru.neg) (.slice X2 n2 c2) (.int .i64 ru.e))).heap.size := by simp; omega
                   have HAP := Lib.hid (ap_symm a7)
                   clear q0 q2 K7 N7 S7 NB hL7 M7 a7)
                | (at_builtin
                   refine wpList_append_dyad (base := Z + 1 + 1) (k := i) (r := quo4 p true lo hi lo' hi') rfl (.tmp 94) (.tmp 96) 66 rfl (by kernel_rfl) rfl MB' (by omega) ⟨w7.heap.size, 0, none⟩ rfl X2 n2 c2 Q0.out q1 Q2.out NBi.out hzb ?_
                   intro v8 w8 hL8 hG8 hN8 hB8 hF8
                   obtain ⟨L8, a8⟩ := LB.other hG8 hN8 HAP.out hF8
                   have S8 := SB.grown hG8 (B := Z + 1 + 1) (by omega) hB8 ⟨by omega, by omega, by omega, by omega, by omega, trivial⟩
                   have hz8 : Z + 1 + 1 ≤ w8.heap.size := Nat.le_trans hzb hG8.size
                   have hok9 : Hid (∀ j, j < i + 1 → (quo4 p false lo hi lo' hi' j).ok = true ∧ (quo4 p true lo hi lo' hi' j).ok = true) := Lib.hid (fun j hj => by
                     by_cases e : j = i
                     · subst e; rw [HPi.out.1, HPi.out.2]; exact ⟨hrd, hru⟩
                     · exact hok.out j (by omega))
                   clear LB MB' SB q1 Q0 Q2 NBi hG8 hN8 hB8 hF8 hzb HAP z0 z1 z2 zl hz7 hok HPi))
              go_roundw
              case rel => exact ⟨i + 1, by omega, by go_num, hok9, S8, L8, hL8, a8, hz8⟩
              case measure => simp [intOf]; omega
        · skip
          obtain rfl : i = 4 := by omega
          have HT2 : Hid (divR p bad lo hi lo' hi' = ⟨false, pick4 (quo4 p false lo hi lo' hi') false, pick4 (quo4 p true lo hi lo' hi') true⟩) := Lib.hid (by
            rw [HT.out, ok4_of (fun j hj => (hok.out j hj).1), ok4_of (fun j hj => (hok.out j hj).2)]
            rfl)
          have D1 : Hid (∀ w', LDs w' (Z + 1 + 1) V7 4 (quo4 p false lo hi lo' hi') → Calls Tryz.prog 40 #[V7, .bool false] w' (DOne w' (pick4 (quo4 p false lo hi lo' hi') false))) := Lib.hid (fun w' h => least4 false w' h (fun j hj => ⟨(hok.out j hj).1, HPD.out j (hok.out j hj).1⟩))
          have D2 : Hid (∀ w', LDs w' (Z + 1 + 1) V8 4 (quo4 p true lo hi lo' hi') → Calls Tryz.prog 40 #[V8, .bool true] w' (DOne w' (pick4 (quo4 p true lo hi lo' hi') true))) := Lib.hid (fun w' h => least4 true w' h (fun j hj => ⟨(hok.out j hj).2, HPU.out j (hok.out j hj).2⟩))
          clear HT HPD HPU hok hlt hi4 hap
          generalize pick4 (quo4 p false lo hi lo' hi') false = r1 at *
          generalize pick4 (quo4 p true lo hi lo' hi') true = r2 at *
          go_wp2_with fail
          refine (D1.out _ LL).mono ?_
          rintro e' w5 ⟨A5, n5, c5, rfl, N5, b5⟩
          have S5 := S.below b5
          have M5 := MM.below b5
          clear S LL MM D1 b5
          go_wp2_with fail
          refine (D2.out _ M5).mono ?_
          rintro e' w6 ⟨A6, n6, c6, rfl, N6, b6⟩
          have N5 := N5.below b6
          have S := S5.below b6
          clear S5 M5 D2 b6
          have kR := S.ks.2.2.1.1
          have s0 := kR.at_ 0 _ rfl
          have s1 := kR.at_ 1 _ rfl
          have s2 := kR.at_ 2 _ rfl
          have s3 := kR.at_ 3 _ rfl
          have s4 := kR.at_ 4 _ rfl
          have s5 := kR.at_ 5 _ rfl
          have rf0 := kR.fr 0
          have rf1 := kR.fr 1
          have rf2 := kR.fr 2
          have rf3 := kR.fr 3
          have rf4 := kR.fr 4
          have rf5 := kR.fr 5
          go_wp2_with fail
          rw [HT2.out]
          obtain ⟨q1, q2, q3, q4⟩ := S.give (lo := r1) (hi := r2) N5 N6 kR (by omega)
          exact bodyPost_ret (v := spv r1.neg A5 n5 c5 r1.e r2.neg A6 n6 c6 r2.e) (by simp [results, Tryz.results18, go_sem, s0, s1, s2, s3, s4, s5]) rfl ⟨A5, n5, c5, A6, n6, c6, rfl, q1, q2, q3, q4⟩
end Go.Proofs.YtodjldhppbbhdaaGreatDoor
