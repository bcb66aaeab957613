/-
  volvelleref01: Bits.
-/
import Derived.Test.YthjndkkepailmaaBits
import Derived.Test.YthjndkkepailmaaRef1
namespace Go.Proofs.Ythjndkkepailmaa
open Go.RowKit

set_option maxHeartbeats 400000 in
theorem rbits_any (A : Option Addr) (n c : Nat) (x : Nat → Nat) (w : World) (ha : Sl w A n c x) (hn : n ≤ 400000) :
    Calls Try.prog 16 #[.slice A n c] w (BitsPost w (vs B64 x n)) := by
  have hVb : Hid (vs B64 x n < B64 ^ n) := Lib.hid (vs_lt ha.small)
  have T := Lib.hid (rtrim_any A n c x w ha (by omega))
  generalize vs B64 x n = V at *
  go_enter Try.func16, Try.ntmps16
  go_wp2_with fail
  refine T.out.mono ?_
  rintro e w1 ⟨v, rfl, ⟨A1, p, c1, f, rfl, s1, cn, hv⟩, b1⟩
  have hp : p ≤ n := cn_le B64_gt cn (by rw [hv]; exact hVb.out)
  have HV := Lib.hid hv
  clear hv hVb T
  rcases p with _ | p
  · go_wp2_with fail
    go_ret
    refine ⟨0, rfl, ?_, b1⟩
    rw [← HV.out]; exact IsBits.zero
  · obtain ⟨ad, rfl, hb, hx64, hcell⟩ := s1.at_ (k := p) (by omega)
    have h0 : 0 < f p := by
      rcases cn with h | h
      · omega
      · simp only [Nat.add_sub_cancel] at h; omega
    obtain ⟨l1, l2, l3, l4⟩ := len_bounds (f p) h0 hx64
    have hfin := Lib.hid (bits_top s1.small l1 l3 l4)
    clear l3 l4
    have hL : Hid (Lib.bitLen (f p) = Lib.bitLen (f p)) := Lib.hid rfl
    generalize hLL : Lib.bitLen (f p) = L at *
    have HL := Lib.hid hLL
    clear hLL hL
    have hf6 : f p ≤ 18446744073709551615 := by unfold B64 at hx64; omega
    generalize f p = top at *
    go_wp2_with fail
    go_loop [4, 5] (fun s4 s5 => ∃ k z : Nat, k ≤ 64 ∧ z ≤ 18446744073709551615 ∧ s4 = .int .i64 (64 * (p : Int) + (k : Int)) ∧ s5 = .int .u64 (z : Int) ∧ Hid (k + Lib.bitLen z = L)) (fun _ s5 => (intOf s5).toNat)
    case atStart => exact ⟨0, top, by omega, hf6, by go_num, rfl, Lib.hid (by rw [HL.out]; omega)⟩
    case round =>
      obtain ⟨k, z, hk, hz, rfl, rfl, hkl⟩ := hrel
      rcases Nat.eq_zero_or_pos z with hz0 | hz0
      · subst hz0
        go_wp2_with fail
        go_ret
        have e : k = L := by have := hkl.out; rw [show Lib.bitLen 0 = 0 from rfl] at this; omega
        refine ⟨64 * p + L, by rw [← e]; go_num, ?_, b1⟩
        rw [← HV.out]; exact hfin.out
      · have hhalf := Lib.hid (Lib.bitLen_half z (by omega) (by omega))
        have hk' : k + 1 ≤ L := by have h1 := hkl.out; have h2 := hhalf.out; omega
        go_wp2_with fail
        go_round
        case rel => exact ⟨k + 1, z / 2, by omega, by omega, by go_num, by go_num, Lib.hid (by have h1 := hkl.out; have h2 := hhalf.out; omega)⟩
        case measure => simp [intOf]; omega
end Go.Proofs.Ythjndkkepailmaa
