/-
  volvellelaw01: Few, kept.
-/
import Derived.Test.YthjndkkepailmaaAwake
namespace Go.Proofs.Ythjndkkepailmaa
open Go.RowKit

set_option maxHeartbeats 400000 in
theorem few_yes (g k N cp : Nat) (A : Nat → Option Addr) (n c : Nat → Nat) (w : World) (hk : k ≤ 1000) (hc : ∀ j, j < k → w.cell? ⟨g, j, none⟩ = some (.slice (A j) (n j) (c j))) (hn : ∀ j, j < k → n j ≤ N) :
    Calls Try.prog 7 #[.int .i64 (N : Int), .slice (some ⟨g, 0, none⟩) k cp] w fun e w' => e = .returned (.bool true) ∧ w = w' := by
  have HC := Lib.hid hc
  have HN := Lib.hid hn
  clear hc hn
  go_enter Try.func7, Try.ntmps7
  go_wp2_with fail
  go_loop [9] (fun s9 => ∃ i : Nat, i ≤ k ∧ s9 = .int .i64 (i : Int)) (fun s9 => k - (intOf s9).toNat)
  case atStart => exact ⟨0, Nat.zero_le _, rfl⟩
  case round =>
    obtain ⟨i, hi, rfl⟩ := hrel
    by_cases hlt : i < k
    · have hcell := HC.out i hlt
      have hle := HN.out i hlt
      go_wp2
      go_round
      case rel => exact ⟨i + 1, by omega, by go_num⟩
      case measure => simp [intOf]; omega
    · go_wp2
      go_ret
      exact ⟨rfl, rfl⟩

set_option maxHeartbeats 400000 in
theorem few_no (g k N cp : Nat) (A : Nat → Option Addr) (n c : Nat → Nat) (w : World) (hk : k ≤ 1000) (hc : ∀ j, j < k → w.cell? ⟨g, j, none⟩ = some (.slice (A j) (n j) (c j))) (hm : ∀ j, j < k → n j ≤ 9223372036854775807)
    (q : Nat) (hq : q < k) (hn : N < n q) :
    Calls Try.prog 7 #[.int .i64 (N : Int), .slice (some ⟨g, 0, none⟩) k cp] w fun e w' => e = .returned (.bool false) ∧ w = w' := by
  have HC := Lib.hid hc
  have HM := Lib.hid hm
  clear hc hm
  have HQ := Lib.hid hn
  clear hn
  go_enter Try.func7, Try.ntmps7
  go_wp2_with fail
  go_loop [9] (fun s9 => ∃ i : Nat, i ≤ q ∧ s9 = .int .i64 (i : Int)) (fun s9 => k - (intOf s9).toNat)
  case atStart => exact ⟨0, Nat.zero_le _, rfl⟩
  case round =>
    obtain ⟨i, hi, rfl⟩ := hrel
    have hcell := HC.out i (by omega)
    have hmi := HM.out i (by omega)
    have hor : Hid (i = q → N < n i) := Lib.hid fun e => by rw [e]; exact HQ.out
    generalize n i = z at *
    by_cases hle : z ≤ N
    · have hiq : i ≠ q := fun e => by have := hor.out e; omega
      go_wp2
      go_round
      case rel => exact ⟨i + 1, by omega, by go_num⟩
      case measure => simp [intOf]; omega
    · go_wp2
      go_ret
      exact ⟨rfl, rfl⟩
end Go.Proofs.Ythjndkkepailmaa
