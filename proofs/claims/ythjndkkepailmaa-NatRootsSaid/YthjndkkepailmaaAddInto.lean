/-
  nat.addInto: b is added into the words of sum, and what is carried out of them is answered.
-/
import Derived.Test.YthjndkkepailmaaRows
import Derived.Test.YthjndkkepailmaaRowWords
import Derived.WalkKit
import Derived.ProofKit
import Derived.Outline
import Derived.Lib.Hide
import Derived.Laws.Externs
import Derived.Shelf.Spec.BitsCarry
namespace Go.Proofs.Ythjndkkepailmaa
open Go.RowKit

theorem add64_run (x y c : Nat) (hc : c ≤ 1) (w : World) :
    ∃ r d : Nat, r + d * B64 = x + y + c ∧ r < B64 ∧ (x < B64 → y < B64 → d ≤ 1) ∧
      (callFunc 41 #[.int .u64 x, .int .u64 y, .int .u64 c]).run Try.prog w = .ok (.value (.tuple #[.int .u64 (r : Int), .int .u64 (d : Int)])) w := by
  refine ⟨(x + y + c) % 18446744073709551616, (x + y + c) / 18446744073709551616, ?_, ?_, ?_, ?_⟩
  · unfold B64; omega
  · unfold B64; omega
  · unfold B64; omega
  · rw [run_callFunc_extern Try.func41 (by kernel_rfl) (by kernel_rfl) (by kernel_rfl) (e := add64Entry) (by kernel_rfl), run_add64 x y c (by omega) (by omega) (by omega) (by omega)]
    simp only [Result.andThen]
    congr 5 <;> omega

def AddPost (t : TypeId) (w : World) (g N off n : Nat) (F y : Nat → Nat) (m : Nat) (e : Ending) (w' : World) : Prop :=
  ∃ F' d, e = .returned (.int .u64 ((d : Nat) : Int)) ∧ AddInv t 1 w w' g N off F F' y m n d

set_option maxHeartbeats 400000 in
theorem addInto_any (g off n c N : Nat) (F : Nat → Nat) (A : Option Addr) (m cb : Nat) (y : Nat → Nat) (w : World) (hr : Row 25 w g N F) (hoff : off + n ≤ N) (hN : N ≤ 1000000)
    (hy : Sl w A m cb y) (hmn : m ≤ n) (hne : 0 < m → ∀ ad, A = some ad → ad.block ≠ g) :
    Calls Try.prog 22 #[.slice (some ⟨g, off, none⟩) n c, .slice A m cb] w (AddPost 25 w g N off n F y m) := by
  go_enter Try.func22, Try.ntmps22
  go_wp2
  go_loopw [5, 11] (fun cy i wr => ∃ k d F', k ≤ m ∧ i = .int .i64 ((k : Nat) : Int) ∧ cy = .int .u64 ((d : Nat) : Int) ∧ AddInv 25 1 w wr g N off F F' y m k d) (fun _ i _ => m - (intOf i).toNat)
  case atStart => exact ⟨0, 0, F, Nat.zero_le _, rfl, rfl, AddInv.start hr⟩
  case round =>
    obtain ⟨k, d, F', hk, rfl, rfl, hinv⟩ := hrel
    by_cases hlt : k < m
    · obtain ⟨ad, rfl, hb, hx64, hcell⟩ := (hy.only hinv.2.2.1 hne).at_ hlt
      have hrc := hinv.2.1.cell (i := off + k) (by omega)
      have hrf := hinv.2.1.frozen (off + k)
      have hF : Hid (F' (off + k) = F (off + k)) := hinv.2.2.2.1 _ (by omega)
      have hFs := hinv.2.1.2 (off + k) (by omega)
      obtain ⟨r, d', h1, h2, h3, h4⟩ := add64_run (F' (off + k)) (y k) d hinv.1 wr
      have H1 := Lib.hid h1
      clear h1
      go_wp2
      go_roundw
      case rel => exact ⟨k + 1, d', upd F' (off + k) r, by omega, by go_num, rfl, hinv.step (by rw [← hF.out, if_pos hlt]; exact H1.out) h2 (h3 hFs hx64)⟩
      case measure => simp [intOf]; omega
    · obtain rfl : k = m := by omega
      clear hlt hk
      go_wp2
      go_loopw [5, 8] (fun cy i wr => ∃ q d F', k ≤ q ∧ q ≤ n ∧ i = .int .i64 ((q : Nat) : Int) ∧ cy = .int .u64 ((d : Nat) : Int) ∧ AddInv 25 1 w wr g N off F F' y k q d) (fun _ i _ => n - (intOf i).toNat)
      case atStart => exact ⟨k, d, F', Nat.le_refl _, hmn, rfl, rfl, hinv⟩
      case round =>
        clear hinv
        obtain ⟨q, d, F', hq, hqn, rfl, rfl, hinv⟩ := hrel
        by_cases hlt : q < n
        · by_cases hd : d = 0
          · subst hd
            go_wp2
            go_ret
            exact ⟨F', 0, rfl, by have := hinv.rest hq (n - q); rwa [Nat.add_sub_cancel' hqn] at this⟩
          · have hdn : ((d : Int) != 0) = true := by simp; omega
            have hrc := hinv.2.1.cell (i := off + q) (by omega)
            have hrf := hinv.2.1.frozen (off + q)
            have hF : Hid (F' (off + q) = F (off + q)) := hinv.2.2.2.1 _ (by omega)
            have hFs := hinv.2.1.2 (off + q) (by omega)
            obtain ⟨r, d', h1, h2, h3, h4⟩ := add64_run (F' (off + q)) 0 d hinv.1 wr
            rw [show ((0 : Nat) : Int) = 0 from rfl] at h4
            have H1 := Lib.hid h1
            clear h1
            go_wp2
            go_roundw
            case rel => exact ⟨q + 1, d', upd F' (off + q) r, by omega, by omega, by go_num, rfl, hinv.step (by rw [← hF.out, if_neg (by omega)]; exact H1.out) h2 (h3 hFs B64_pos)⟩
            case measure => simp [intOf]; omega
        · obtain rfl : q = n := by omega
          go_wp2
          go_ret
          exact ⟨F', d, rfl, hinv⟩
end Go.Proofs.Ythjndkkepailmaa
