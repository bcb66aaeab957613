/-
  nat.Bits.
-/
import Derived.Test.YthjndkkepailmaaLower
import Derived.Test.YthjndkkepailmaaShelf
namespace Go.Proofs.Ythjndkkepailmaa
open Go.RowKit

def BitsPost (w : World) (V : Nat) (e : Ending) (w' : World) : Prop := ∃ B : Nat, e = .returned (.int .i64 (B : Int)) ∧ IsBits V B ∧ Below w.heap.size w w'

theorem bits_any (A : Option Addr) (n c : Nat) (x : Nat → Nat) (w : World) (ha : Sl w A n c x) (hn : n ≤ 400000) :
    Calls Try.prog 27 #[.slice A n c] w (BitsPost w (vs B64 x n)) := by
  obtain ⟨A1, c1, e1, s1⟩ := viewV_sl ha
  have l1 := tl_le x n
  have cn := tl_cn x n
  have V1 := view_raw A n c x w ha (by omega)
  rw [e1] at V1
  rw [← vs_tl B64 x n]
  have H1 := Lib.hid V1
  clear V1 e1
  generalize tl x n = p at *
  rcases p with _ | p
  · go_enter Try.func27, Try.ntmps27
    go_wp2_with fail
    refine H1.out.mono ?_
    rintro e w' ⟨rfl, rfl⟩
    go_wp2_with fail
    go_ret
    exact ⟨0, rfl, IsBits.zero, Below.refl _ _⟩
  · obtain ⟨ad, rfl, hb, hx64, hcell⟩ := s1.at_ (k := p) (by omega)
    have h0 : 0 < x p := by
      rcases cn with h | h
      · omega
      · simp only [Nat.add_sub_cancel] at h; omega
    obtain ⟨b1, b2, b3, b4⟩ := len_bounds (x p) h0 hx64
    have hfin := Lib.hid (bits_top s1.small b1 b3 b4)
    have L64 := Try.bits_Len64 (x p : Int) w (by omega) (by unfold B64 at hx64; omega)
    rw [Int.toNat_natCast] at L64
    have HL := Lib.hid L64
    clear L64 b3 b4
    generalize Lib.bitLen (x p) = L at *
    go_enter Try.func27, Try.ntmps27
    go_wp2_with fail
    refine H1.out.mono ?_
    rintro e w' ⟨rfl, rfl⟩
    go_wp2_with fail
    refine HL.out.mono ?_
    rintro e w' ⟨rfl, rfl⟩
    go_wp2_with fail
    go_ret
    exact ⟨64 * p + L, by go_num, hfin.out, Below.refl _ _⟩
end Go.Proofs.Ythjndkkepailmaa
