/-
  volvellelaw01.NatRoots answers true, whatever slice of words it is given.
-/
import Derived.Test.YthjndkkepailmaaSqrtTen
import Derived.Test.YthjndkkepailmaaRefSqrt
namespace Go.Proofs.Ythjndkkepailmaa
open Go.RowKit

set_option maxHeartbeats 400000 in
theorem roots_big (A : Option Addr) (n c : Nat) (w : World) (hn : n ≤ 9223372036854775807) (hbig : 12 < n) :
    Calls Try.prog 3 #[.slice A n c] w (TruePost w) := by
  go_enter Try.func3, Try.ntmps3
  go_wp2_with fail
  refine (sqrt_ten w).mono ?_
  rintro e w0 ⟨A0, c0, u0, rfl, s0, b0⟩
  go_wp2_with fail
  refine (awake_any w0).mono ?_
  rintro e w1 ⟨rfl, b⟩
  obtain ⟨a0, rfl, _, _, k0⟩ := (s0.below b).at_ (k := 0) (by omega)
  rw [show a0.add 0 = a0 from by simp [Addr.add]] at k0
  have b1 := b0.trans (b.mono b0.size)
  have F := few_no w1.heap.size 1 12 1 (fun _ => A) (fun _ => n) (fun _ => c) (w1.alloc (.cells #[.slice A n c] 22)) (by omega) (only_cells w1 _ A n c) (fun _ _ => hn) 0 (by omega) hbig
  have HF := Lib.hid F
  clear F b s0
  go_wp2_with fail
  refine HF.out.mono ?_
  rintro e w2 ⟨rfl, rfl⟩
  go_wp2_with fail
  go_ret
  exact ⟨rfl, b1.alloc b1.size _⟩

theorem root_le {V s r : Nat} (h : IsRoot V s r) : s ≤ V ∧ r ≤ V := by
  have h1 := h.1
  rcases Nat.eq_zero_or_pos s with h0 | h0
  · subst h0; omega
  · have : s * 1 ≤ s * s := Nat.mul_le_mul_left _ h0
    omega

set_option maxHeartbeats 2000000 in
theorem roots_small (A : Option Addr) (n c : Nat) (x : Nat → Nat) (w : World) (ha : Sl w A n c x) (hn : n ≤ 12) :
    Calls Try.prog 3 #[.slice A n c] w (TruePost w) := by
  have KX := Lib.hid (Nat.lt_of_lt_of_le (vs_lt ha.small) (Nat.pow_le_pow_right B64_pos hn))
  go_enter Try.func3, Try.ntmps3
  go_wp2_with fail
  refine (sqrt_ten w).mono ?_
  rintro e w0 ⟨A0, c0, u0, rfl, s0, b0⟩
  go_wp2_with fail
  refine (awake_any w0).mono ?_
  rintro e w1 ⟨rfl, b⟩
  obtain ⟨a0, rfl, _, _, k0⟩ := (s0.below b).at_ (k := 0) (by omega)
  rw [show a0.add 0 = a0 from by simp [Addr.add]] at k0
  have b1 := b0.trans (b.mono b0.size)
  have F := few_yes w1.heap.size 1 12 1 (fun _ => A) (fun _ => n) (fun _ => c) (w1.alloc (.cells #[.slice A n c] 22)) (by omega) (only_cells w1 _ A n c) (fun _ _ => hn)
  have HF := Lib.hid F
  clear F b s0
  go_wp2_with fail
  refine HF.out.mono ?_
  rintro e w2 ⟨rfl, rfl⟩
  have b2 := b1.alloc b1.size (.cells #[.slice A n c] 22)
  clear HF k0
  generalize w1.alloc (.cells #[.slice A n c] 22) = w2 at *
  go_wp2_with fail
  refine (sqrt_any A n c x w2 (ha.below b2) (by omega)).mono ?_
  rintro e w3 ⟨v3, u3, s, r, rfl, nv, nu, hr, b⟩
  have b3 := b2.trans (b.mono b2.size)
  clear b
  have HR := Lib.hid hr
  have HL := Lib.hid (root_le hr)
  clear hr
  go_wp2_with fail
  refine (rsqrt_any A n c x w3 (ha.below b3) (by omega)).mono ?_
  rintro e w4 ⟨v4, u4, s4, r4, rfl, nv4, nu4, hr, b⟩
  have b4 := b3.trans (b.mono b3.size)
  obtain ⟨rfl, rfl⟩ := hr.unique HR.out
  have nv' := nv.below b
  have nu' := nu.below b
  clear b hr nv nu
  go_wp2_with fail
  refine (same_num w4 nv' nv4 12 (by omega) (Nat.lt_of_le_of_lt HL.out.1 KX.out)).mono ?_
  rintro e w5 ⟨rfl, b⟩
  have b5 := b4.trans (b.mono b4.size)
  have nu'' := nu'.below b
  have nu4' := nu4.below b
  clear b nv' nv4 nu' nu4
  go_wp2_with fail
  refine (same_num w5 nu'' nu4' 12 (by omega) (Nat.lt_of_le_of_lt HL.out.2 KX.out)).mono ?_
  rintro e w6 ⟨rfl, b⟩
  have b6 := b5.trans (b.mono b5.size)
  go_wp2_with fail
  go_ret
  exact ⟨rfl, b6⟩

theorem roots_any (A : Option Addr) (n c : Nat) (x : Nat → Nat) (w : World) (ha : Sl w A n c x) (hn : n ≤ 9223372036854775807) :
    Calls Try.prog 3 #[.slice A n c] w (TruePost w) := by
  rcases Nat.lt_or_ge 12 n with h | h
  · exact roots_big A n c w hn h
  · exact roots_small A n c x w ha h
end Go.Proofs.Ythjndkkepailmaa
