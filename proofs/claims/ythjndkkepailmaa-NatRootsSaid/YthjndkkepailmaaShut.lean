/-
  From a walk to a row: arguments that are slices of uint64 (and one int), opened and shut.
-/
import Derived.Test.YthjndkkepailmaaRef1
import Derived.OpenShut
import Derived.JoinedCond
import Derived.SizedLaws
import Derived.Carry
namespace Go.Proofs.Ythjndkkepailmaa
open Go.ChangeShapes Go.WideShapes Go.ChangeAt Go.RowKit

theorem own : ownKnob Try.prog.godebug = none := by kernel_rfl
theorem laidOut : laidOutB Try.prog = true := by kernel_rfl
theorem cells64 : Try.prog.cellsOf 25 = 1 := by kernel_rfl

/-- An argument that is a slice of words. -/
theorem open_words {H : Type} {enc : TypeId × Value → H} {W : World} {base : Nat} {v : Value} {d : DataW H} {p : List MemPlace} (hok : Value.okWide Try.prog W .any base 22 v)
    (h : DataW.Trod enc Try.prog W 0 (fun _ => true) true 22 v d p) : ∃ A n c x, v = .slice A n c ∧ Sl W A n c x ∧ n ≤ 9223372036854775807 := by
  obtain ⟨a0, len, cap, rfl⟩ := okWide_slice Try.underlying22 hok
  obtain ⟨fuel, hf⟩ := h
  rcases open_ints Try.underlying22 Try.underlying25 cells64 hf with ⟨hcs, _⟩ | ⟨a, len', cap', zs, hcs, _, hl, hm, hz, _, hcell, hwz⟩
  · simp [Value.cells] at hcs
    obtain ⟨rfl, rfl, rfl⟩ := hcs
    exact ⟨none, 0, 0, fun _ => 0, rfl, Sl.none_ W 0 none _, by omega⟩
  · simp [Value.cells] at hcs
    obtain ⟨rfl, rfl, rfl⟩ := hcs
    simp only [if_true] at hz
    unfold maxLen at hm
    have hw : ∀ j, j < len → ∃ y : Nat, zs.getD j 0 = (y : Int) ∧ y < B64 := fun j hj => by
      have hj' : j < zs.length := by omega
      have hmem : zs.getD j 0 ∈ zs := by rw [List.getD_eq_getElem?_getD, List.getElem?_eq_getElem hj']; exact List.getElem_mem hj'
      have h1 := hwz _ hmem
      have h2 : 0 ≤ zs.getD j 0 ∧ zs.getD j 0 ≤ 18446744073709551615 := by simpa [Lit.wf, IntKind.min, IntKind.max, IntKind.signed, IntKind.bits] using h1
      exact ⟨(zs.getD j 0).toNat, by omega, by unfold B64; omega⟩
    refine ⟨some a, len, cap, fun j => (zs.getD j 0).toNat, rfl, ⟨hl, fun j hj => ?_, fun hn => ⟨a, rfl, ?_, fun j hj => ?_⟩⟩, by omega⟩
    · obtain ⟨y, h1, h2⟩ := hw j hj
      show (zs.getD j 0).toNat < B64
      rw [h1, Int.toNat_natCast]; exact h2
    · have h0 := hcell 0 (by omega)
      have h1 := World.block_lt_of_cell? _ _ h0
      rw [block_of_add] at h1
      exact h1
    · obtain ⟨y, h1, h2⟩ := hw j hj
      show _ = some (Value.int .u64 (((zs.getD j 0).toNat : Nat) : Int))
      rw [hcell j (by omega), h1, Int.toNat_natCast]

/-- Behind the call a slice of words that came in reads as it did. -/
theorem shut_words {H : Type} {enc : TypeId × Value → H} {W W' : World} {v : Value} {d : DataW H} {p : List MemPlace} (h : DataW.Trod enc Try.prog W 0 (fun _ => true) true 22 v d p) (hb : Below W.heap.size W W')
    (hlt : ∀ x ∈ p, x.block < W.heap.size) : DataW.Trod enc Try.prog W' 0 (fun b => decide (b < W.heap.size)) true 22 v d p :=
  Below.trod laidOut (by kernel_rfl) (of_decide_eq_true (by kernel_rfl)) h hb hlt
end Go.Proofs.Ythjndkkepailmaa
