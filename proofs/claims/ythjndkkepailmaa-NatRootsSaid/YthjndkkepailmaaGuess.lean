/-
  nat.guess: the word that a quotient seems to be.
-/
import Derived.Test.YthjndkkepailmaaDivMath
import Derived.Test.YthjndkkepailmaaDiv64G
import Derived.Test.YthjndkkepailmaaMul
namespace Go.Proofs.Ythjndkkepailmaa
open Go.RowKit

def GuessPost (w : World) (l0 l1 l2 d0 d1 : Nat) (e : Ending) (w' : World) : Prop := ∃ q : Nat, e = .returned (.int .u64 (q : Int)) ∧ GuessIs l0 l1 l2 d0 d1 q ∧ ∃ k, w' = w.drewN k

/-- The cells that guess reads. -/
def Five (w : World) (a b : Addr) (l0 l1 l2 d0 d1 : Nat) : Prop :=
  w.cell? a = some (.int .u64 (l0 : Int)) ∧ w.cell? ⟨a.block, a.off + 1, none⟩ = some (.int .u64 (l1 : Int)) ∧ w.cell? ⟨a.block, a.off + 2, none⟩ = some (.int .u64 (l2 : Int)) ∧
    w.cell? b = some (.int .u64 (d0 : Int)) ∧ w.cell? ⟨b.block, b.off + 1, none⟩ = some (.int .u64 (d1 : Int))

/-- The guess is on its way, in four slots. -/
def GuessRel (U d1 d0 l0 : Nat) (s7 s8 s9 s10 : Value) : Prop :=
  ∃ q r o v : Nat, s7 = .int .u64 (q : Int) ∧ s8 = .int .u64 (r : Int) ∧ s9 = .int .u64 (o : Int) ∧ s10 = .int .u64 (v : Int) ∧ HalfD B64 U d1 d0 l0 q r ∧ q < B64 ∧ r < B64 ∧ o * B64 + v = q * d0 ∧ o < B64 ∧ v < B64
theorem GuessIs.mk {l0 l1 l2 d0 d1 q : Nat} (h1 : l2 < d1) (h2 : q < B64) (h3 : q = ((l2 * B64 + l1) * B64 + l0) / (d1 * B64 + d0)) : GuessIs l0 l1 l2 d0 d1 q := ⟨h2, .inr ⟨h1, h3⟩⟩
theorem u64_wrap_lt (z : Nat) (h : z < B64) : IntKind.u64.wrap (z : Int) = (z : Int) := IntWalk.u64_in _ (by unfold B64 at h; omega)
theorem u64_wrap_over (r d : Nat) (hr : r < B64) (hd : d < B64) (h : B64 ≤ r + d) : IntKind.u64.wrap ((r : Int) + (d : Int)) = ((r + d - B64 : Nat) : Int) := by
  rw [IntKind.wrap_u64]; unfold B64 at *; omega

set_option maxHeartbeats 1000000 in
theorem guess_any (a b : Addr) (n m c d : Nat) (l0 l1 l2 d0 d1 : Nat) (w : World) (h5 : Five w a b l0 l1 l2 d0 d1) (hn : 3 ≤ n) (hm : 2 ≤ m) (hn' : n ≤ 1000000) (hm' : m ≤ 1000000) (hl0 : l0 < B64) (hl1 : l1 < B64) (hd0 : d0 < B64) (hd1 : d1 < B64) (hd : 0 < d1) :
    Calls Try.prog 53 #[.slice (some a) n c, .slice (some b) m d] w (GuessPost w l0 l1 l2 d0 d1) := by
  obtain ⟨c0, c1, c2, k0, k1⟩ := h5
  by_cases hge : d1 ≤ l2
  · go_enter Try.func53, Try.ntmps53
    go_wp2_with fail
    go_quiet (fail)
    go_wp2_with fail
    go_ret
    exact ⟨18446744073709551615, rfl, ⟨by unfold B64; omega, .inl ⟨hge, by unfold B64; omega⟩⟩, _, rfl⟩
  · have hlt : l2 < d1 := by omega
    go_enter Try.func53, Try.ntmps53
    go_wp2_with fail
    go_quiet (fail)
    go_wp2_with fail
    have c0' : (w.drewN nq).cell? a = some (.int .u64 (l0 : Int)) := c0
    have c1' : (w.drewN nq).cell? ⟨a.block, a.off + 1, none⟩ = some (.int .u64 (l1 : Int)) := c1
    have c2' : (w.drewN nq).cell? ⟨a.block, a.off + 2, none⟩ = some (.int .u64 (l2 : Int)) := c2
    have hw1 : Hid (∃ k, w.drewN nq = w.drewN k) := Lib.hid ⟨nq, rfl⟩
    clear c0 c1 c2 k0 k1
    generalize w.drewN nq = w1 at *
    have D64 : Hid (∀ u : World, Calls Try.prog 48 #[.int .u64 (l2 : Int), .int .u64 (l1 : Int), .int .u64 (d1 : Int)] u fun e w' => e = .returned (.tuple #[.int .u64 (((l2 * B64 + l1) / d1 : Nat) : Int), .int .u64 (((l2 * B64 + l1) % d1 : Nat) : Int)]) ∧ ∃ k, w' = u.drewN k) :=
      Lib.hid fun u => div64_any l2 l1 d1 u hlt hd1 hl1
    have hst := HalfD.start (U := l2 * B64 + l1) (a0 := d0) hd hl0
    have hq0 : (l2 * B64 + l1) / d1 < B64 := by
      apply Nat.div_lt_of_lt_mul
      have : (l2 + 1) * B64 ≤ d1 * B64 := Nat.mul_le_mul_right _ hlt
      rw [Nat.add_mul, Nat.one_mul] at this
      omega
    have hr0 : (l2 * B64 + l1) % d1 < B64 := Nat.lt_trans (Nat.mod_lt _ hd) hd1
    have hpp : Hid (0 < d1 * B64 + d0) := Lib.hid (by have : 1 * B64 ≤ d1 * B64 := Nat.mul_le_mul_right _ hd; have := B64_pos; omega)
    obtain ⟨U, hU⟩ : ∃ U, U = l2 * B64 + l1 := ⟨_, rfl⟩
    rw [← hU] at D64 hst hq0 hr0
    have HU := Lib.hid hU
    clear hU
    generalize U / d1 = q0 at *
    generalize U % d1 = r0 at *
    go_quiet ((go_at_call 48; exact Calls.quiet_of (D64.out _)))
    have FIN : Hid (∃ k, w1.drewN nq = w.drewN k) := Lib.hid (by obtain ⟨k, hk⟩ := hw1.out; exact ⟨k + nq, by rw [hk, World.drewN_drewN]⟩)
    have c0'' : (w1.drewN nq).cell? a = some (.int .u64 (l0 : Int)) := c0'
    clear c0' c1' c2' D64 hw1
    generalize w1.drewN nq = w2 at *
    obtain ⟨H0, L0, hp0, hH0, hL0, hmul0⟩ := mul64_run q0 d0 hq0 hd0 w2
    have HM0 := Lib.hid hmul0
    have HP0 := Lib.hid hp0
    clear hmul0 hp0
    go_wp2_with fail
    refine HM0.out.mono ?_
    rintro e w3 ⟨rfl, rfl⟩
    go_wp2_with fail
    go_loop [7, 8, 9, 10] (fun s7 s8 s9 s10 => GuessRel U d1 d0 l0 s7 s8 s9 s10) (fun s7 _ _ _ => (intOf s7).toNat)
    case atStart => exact ⟨q0, r0, H0, L0, rfl, rfl, rfl, rfl, hst, hq0, hr0, HP0.out, hH0, hL0⟩
    case round =>
      clear hst hq0 hr0 HM0 HP0
      obtain ⟨q, r, o, v, rfl, rfl, rfl, rfl, hH, hq64, hr64, hov, ho64, hv64⟩ := hrel
      rw [HU.out] at hH
      have HOV := Lib.hid hov
      by_cases h1 : r < o
      · have h1B : decide (r < o) = true := by simpa using h1
        have hov := HOV.out
        obtain ⟨hpos, hdn⟩ := hH.down (over_gt hov hl0 hv64 |>.2 (.inl h1))
        obtain ⟨q', hq'⟩ : ∃ q', q' = q - 1 := ⟨_, rfl⟩
        rw [← hq'] at hdn
        have eq' : IntKind.u64.wrap ((q : Int) - 1) = (q' : Int) := by rw [IntWalk.u64_in _ (by unfold B64 at hq64; omega)]; omega
        have eq2 : IntKind.u64.wrap (q' : Int) = (q' : Int) := u64_wrap_lt _ (by omega)
        have hq'64 : q' < B64 := by omega
        have hb4 : Hid (q' < q) := Lib.hid (by omega)
        clear hq'
        by_cases hovf : r + d1 < B64
        · obtain ⟨r', hr'⟩ : ∃ r', r' = r + d1 := ⟨_, rfl⟩
          rw [← hr'] at hdn hovf
          have er' : IntKind.u64.wrap ((r : Int) + (d1 : Int)) = (r' : Int) := by rw [show (r : Int) + (d1 : Int) = ((r' : Nat) : Int) by omega]; exact u64_wrap_lt _ hovf
          have hnl : ¬ r' < d1 := by omega
          have hnlB : decide (r' < d1) = false := by simp; omega
          obtain ⟨H, L, hp, hH', hL', hmul⟩ := mul64_run q' d0 hq'64 hd0 w3
          have HM := Lib.hid hmul
          have HP := Lib.hid hp
          have HD := Lib.hid hdn
          clear hmul hp hdn hr' hH hov HOV
          go_wp2_with fail
          refine HM.out.mono ?_
          rintro e w4 ⟨rfl, rfl⟩
          go_wp2_with fail
          go_round
          case rel => exact ⟨q', r', H, L, rfl, rfl, rfl, rfl, by rw [HU.out]; exact HD.out, hq'64, hovf, HP.out, hH', hL'⟩
          case measure => simp [intOf]; exact hb4.out
        · have hfin := Lib.hid (hdn.far hpp.out hq'64 hd0 (by omega))
          have er' := u64_wrap_over r d1 hr64 hd1 (by omega)
          obtain ⟨r', hr'⟩ : ∃ r', r' = r + d1 - B64 := ⟨_, rfl⟩
          rw [← hr'] at er'
          have hnl : r' < d1 := by omega
          have hnlB : decide (r' < d1) = true := by simp; omega
          clear hdn hr' hH hov HOV
          go_wp2_with fail
          go_ret
          exact ⟨q', rfl, GuessIs.mk hlt hq'64 hfin.out, FIN.out⟩
      · have h1B : decide (r < o) = false := by simpa using h1
        by_cases h2 : o = r
        · subst h2
          have h2B : ((o : Int) == (o : Int)) = true := by simp
          by_cases h3 : l0 < v
          · have h3B : decide (l0 < v) = true := by simpa using h3
            have hov := HOV.out
            obtain ⟨hpos, hdn⟩ := hH.down (over_gt hov hl0 hv64 |>.2 (.inr ⟨rfl, h3⟩))
            obtain ⟨q', hq'⟩ : ∃ q', q' = q - 1 := ⟨_, rfl⟩
            rw [← hq'] at hdn
            have eq' : IntKind.u64.wrap ((q : Int) - 1) = (q' : Int) := by rw [IntWalk.u64_in _ (by unfold B64 at hq64; omega)]; omega
            have eq2 : IntKind.u64.wrap (q' : Int) = (q' : Int) := u64_wrap_lt _ (by omega)
            have hq'64 : q' < B64 := by omega
            have hb4 : Hid (q' < q) := Lib.hid (by omega)
            clear hq'
            by_cases hovf : o + d1 < B64
            · obtain ⟨r', hr'⟩ : ∃ r', r' = o + d1 := ⟨_, rfl⟩
              rw [← hr'] at hdn hovf
              have er' : IntKind.u64.wrap ((o : Int) + (d1 : Int)) = (r' : Int) := by rw [show (o : Int) + (d1 : Int) = ((r' : Nat) : Int) by omega]; exact u64_wrap_lt _ hovf
              have hnl : ¬ r' < d1 := by omega
              have hnlB : decide (r' < d1) = false := by simp; omega
              obtain ⟨H, L, hp, hH', hL', hmul⟩ := mul64_run q' d0 hq'64 hd0 w3
              have HM := Lib.hid hmul
              have HP := Lib.hid hp
              have HD := Lib.hid hdn
              clear hmul hp hdn hr' hH hov HOV
              go_wp2_with fail
              refine HM.out.mono ?_
              rintro e w4 ⟨rfl, rfl⟩
              go_wp2_with fail
              go_round
              case rel => exact ⟨q', r', H, L, rfl, rfl, rfl, rfl, by rw [HU.out]; exact HD.out, hq'64, hovf, HP.out, hH', hL'⟩
              case measure => simp [intOf]; exact hb4.out
            · have hfin := Lib.hid (hdn.far hpp.out hq'64 hd0 (by omega))
              have er' := u64_wrap_over o d1 hr64 hd1 (by omega)
              obtain ⟨r', hr'⟩ : ∃ r', r' = o + d1 - B64 := ⟨_, rfl⟩
              rw [← hr'] at er'
              have hnl : r' < d1 := by omega
              have hnlB : decide (r' < d1) = true := by simp; omega
              clear hdn hr' hH hov HOV
              go_wp2_with fail
              go_ret
              exact ⟨q', rfl, GuessIs.mk hlt hq'64 hfin.out, FIN.out⟩
          · have h3B : decide (l0 < v) = false := by simpa using h3
            have hfin := Lib.hid (hH.done hpp.out (Nat.le_of_not_lt fun h => (over_gt HOV.out hl0 hv64 |>.1 h).elim (fun h => by omega) (fun h => h3 h.2)))
            clear hov hH HOV
            go_wp2_with fail
            go_ret
            exact ⟨q, rfl, GuessIs.mk hlt hq64 hfin.out, FIN.out⟩
        · have h2B : ((o : Int) == (r : Int)) = false := by simp; omega
          have hfin := Lib.hid (hH.done hpp.out (Nat.le_of_not_lt fun h => (over_gt HOV.out hl0 hv64 |>.1 h).elim (fun h => h1 h) (fun h => h2 h.1)))
          clear hov hH HOV
          go_wp2_with fail
          go_ret
          exact ⟨q, rfl, GuessIs.mk hlt hq64 hfin.out, FIN.out⟩
end Go.Proofs.Ythjndkkepailmaa
