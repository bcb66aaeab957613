/-
  How long a list of words of a dyad can be that comes in through a row.
-/
import Derived.SizedLaws
import Derived.Test.YtilmbdbcgbndmaaDoorPlOGBRowKit
namespace Go.Proofs.YtilmbdbcgbndmaaDoor
open Go.ChangeShapes Go.WideShapes Go.ChangeAt Go.RowKit Go.Joins

theorem bytes64 : Tryd.prog.bytesOf 27 = 8 := by kernel_rfl
theorem open_words_reach {H : Type} {enc : TypeId × Value → H} {W : World} {fuel : Nat} {A : Option Addr} {n c : Nat} {y : DataW H × List MemPlace} (hf : DataW.trod enc Tryd.prog W 0 (fun _ => true) true fuel 22 [.slice A n c] = some y)
    (hr : ∀ k ∈ DataW.weights Tryd.prog 22 y.1, k ≤ reachBytes) : n ≤ 17592186044416 := by
  rcases open_ints Tryd.underlying22 Tryd.underlying27 cells64 hf with ⟨hcs, _⟩ | ⟨a, len, cap, zs, hcs, _, hl, hm, hz, hy, _, _⟩
  · simp at hcs
    omega
  · simp at hcs
    obtain ⟨_, rfl, rfl⟩ := hcs
    simp only [if_true] at hz
    have hx : y.1 = .slice (lits .u64 (zs.take n)) (lits .u64 (zs.drop n)) := by rw [hy]
    rw [hx] at hr
    have hk := hr (((lits .u64 (zs.take n) : List (DataW H)).length + (lits .u64 (zs.drop n) : List (DataW H)).length) * Tryd.prog.bytesOf 27) (by simp [DataW.weights, Tryd.underlying22])
    rw [bytes64] at hk
    have h1 : (lits .u64 (zs.take n) : List (DataW H)).length = n := by simp [lits]; omega
    rw [h1] at hk
    unfold reachBytes at hk
    omega
/-- A dyad's weights hold its list's. -/
theorem weights_words {H : Type} {a b c : DataW H} {k : Nat} (h : k ∈ DataW.weights Tryd.prog 22 b) : k ∈ DataW.weights Tryd.prog 24 (.agg [a, b, c]) := by
  simp only [DataW.weights, Tryd.underlying24]
  simp [DataW.weightsEach, h]
end Go.Proofs.YtilmbdbcgbndmaaDoor
