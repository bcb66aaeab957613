/-
  nat.view: the trimmed part of a list.
-/
import Derived.Test.YthjndkkepailmaaRows
import Derived.Test.YthjndkkepailmaaWords
import Derived.WalkKit
import Derived.ProofKit
import Derived.Outline
import Derived.Lib.Hide
namespace Go.Proofs.Ythjndkkepailmaa
open Go.RowKit

set_option maxHeartbeats 400000 in
theorem view_raw (A : Option Addr) (n c : Nat) (f : Nat → Nat) (w : World) (h : Sl w A n c f) (hn : n ≤ 1000000) :
    Calls Try.prog 14 #[.slice A n c] w fun e w' => e = .returned (viewV A c (tl f n)) ∧ w = w' := by
  have hcap := h.cap
  go_enter Try.func14, Try.ntmps14
  go_wp2
  go_loop [3] (fun i => ∃ k : Nat, k ≤ n ∧ i = .int .i64 k ∧ Hid (tl f k = tl f n)) (fun i => (intOf i).toNat)
  case atStart => exact ⟨n, Nat.le_refl _, rfl, rfl⟩
  case round =>
    obtain ⟨k, hk, rfl, ht⟩ := hrel
    rcases k with _ | m
    · go_wp2
      go_ret
      exact ⟨by rw [← ht.out]; rfl, rfl⟩
    · obtain ⟨ad, rfl, hb, hx64, hcell⟩ := h.at_ (k := m) (by omega)
      have hxd : Hid (tl f (m + 1) = if f m = 0 then tl f m else m + 1) := rfl
      generalize f m = x at *
      by_cases h0 : x = 0
      · subst h0
        go_wp2
        go_round
        case rel => exact ⟨m, by omega, by go_num, Lib.hid (by rw [← ht.out, hxd.out, if_pos rfl])⟩
        case measure => simp [intOf]
      · have hne : ((x : Int) != 0) = true := by simp; omega
        go_wp2
        go_ret
        refine ⟨?_, rfl⟩
        rw [← ht.out, hxd.out, if_neg h0]
        rfl
end Go.Proofs.Ythjndkkepailmaa
