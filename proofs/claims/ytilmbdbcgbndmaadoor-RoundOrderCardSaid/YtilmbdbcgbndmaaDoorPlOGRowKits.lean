/-
  From a walk to a row over dyads: the table that the program's text lays; structs opened.
  An argument that is a list of dyads, opened.
  An argument that is a span, opened.
-/
import Derived.Lib.LaidTab
import Derived.Lib.SmallJoins
import Derived.LaidMore
import Derived.Stop.Joined
import Derived.ProofKit
import Derived.Deep.Slices
import Derived.Test.YtilmbdbcgbndmaaDoorPlOGNat1
import Derived.Test.YtilmbdbcgbndmaaDoorPlOGNat2
import Derived.Test.YtilmbdbcgbndmaaDoorPlOGDy3
import Derived.Test.YtilmbdbcgbndmaaDoorPlOGSp1
namespace Go.Proofs.YtilmbdbcgbndmaaDoor
open Go.ChangeShapes Go.WideShapes Go.ChangeAt Go.RowKit Go.Joins

theorem gTab : Tryd.prog.globalNamed "math/bits.deBruijn64tab" = some 0 := by kernel_rfl
theorem tTab : (Tryd.prog.globals[0]?).map (·.type) = some 73 := by kernel_rfl
theorem cell8 : Tryd.prog.cellsOf 5 = 1 := by kernel_rfl
theorem cellTab : Tryd.prog.cellsOf 73 = 64 := by kernel_rfl
abbrev laid1 : List (String × DataW Unit) := [("math/bits.deBruijn64tab", Rows.laid_math_bits_deBruijn64tab)]
theorem laid_tab : (Rows.laid_math_bits_deBruijn64tab : DataW Unit) = Lib.tabData .u8 (Lib.deBruijn64tab.map fun (n : Nat) => (n : Int)) := rfl
theorem tab_of_laid {W : World} (h : laidMetH Tryd.prog laid1 W) : Tab W := by
  rw [MakeChecks.laidMetH_plain _ _ _ (by kernel_rfl)] at h
  unfold laid1 at h
  rw [laid_tab] at h
  have hT := Lib.tabIs_of_head gTab tTab Tryd.underlying73 Tryd.underlying5 cell8 cellTab h
  have hc : ∀ j, j < Lib.deBruijn64tab.length → W.cell? ⟨0, j, none⟩ = some (.int .u8 (Lib.deBruijn64tab.getD j 0)) := fun j hj => by
    have := hT.cell gTab j (by simpa using hj)
    rw [this]
    simp [List.getD_eq_getElem?_getD, hj]
  refine ⟨?_, hc⟩
  exact World.block_lt_of_cell? W _ (hc 0 (by decide))
theorem door_met (os : Os) (args : Array Value) : laidMetH Tryd.prog laid1 ((World.doorLaid Tryd.prog 400 os).forCall (fun _ _ => 0) ⟨#[], args, []⟩).memory :=
  laidMetH_of_parts3 (fuel := 8) (laidMet_of_run' 8 (by kernel_rfl) (by kernel_rfl)) (by kernel_rfl) (by kernel_rfl)

set_option maxRecDepth 20000 in
/-- A list of words out of a struct's cell. -/
theorem open_words_raw {H : Type} {enc : TypeId × Value → H} {W : World} {fuel : Nat} {v : Value} {y : DataW H × List MemPlace} (hf : DataW.trod enc Tryd.prog W 0 (fun _ => true) true fuel 22 [v] = some y) :
    ∃ A n c x, v = .slice A n c ∧ Sl W A n c x ∧ n ≤ 9223372036854775807 := by
  rcases open_ints Tryd.underlying22 Tryd.underlying27 cells64 hf with ⟨hcs, _⟩ | ⟨a, len, cap, zs, hcs, _, hl, hm, hz, _, hcell, hwz⟩
  · simp at hcs
    subst hcs
    exact ⟨none, 0, 0, fun _ => 0, rfl, Sl.none_ W 0 none _, by omega⟩
  · simp at hcs
    subst hcs
    simp only [if_true] at hz
    unfold maxLen at hm
    have hw : ∀ j, j < len → ∃ y : Nat, zs.getD j 0 = (y : Int) ∧ y < B64 := fun j hj => by
      have hj' : j < zs.length := by omega
      have hmem : zs.getD j 0 ∈ zs := by rw [List.getD_eq_getElem?_getD, List.getElem?_eq_getElem hj']; exact List.getElem_mem hj'
      have h1 := hwz _ hmem
      have h2 : 0 ≤ zs.getD j 0 ∧ zs.getD j 0 ≤ 18446744073709551615 := by simpa [Lit.wf, IntKind.min, IntKind.max, IntKind.signed, IntKind.bits] using h1
      exact ⟨(zs.getD j 0).toNat, by omega, by unfold B64; omega⟩
    refine ⟨some a, len, cap, fun j => (zs.getD j 0).toNat, rfl, ⟨hl, fun j hj => ?_, fun hn => ⟨a, rfl, ?_, fun j hj => ?_⟩⟩, by omega⟩
    · obtain ⟨y, h1, h2⟩ := hw j hj
      show (zs.getD j 0).toNat < B64
      rw [h1, Int.toNat_natCast]; exact h2
    · have h0 := hcell 0 (by omega)
      have h1 := World.block_lt_of_cell? _ _ h0
      rw [block_of_add] at h1
      exact h1
    · obtain ⟨y, h1, h2⟩ := hw j hj
      show _ = some (Value.int .u64 (((zs.getD j 0).toNat : Nat) : Int))
      rw [hcell j (by omega), h1, Int.toNat_natCast]
end Go.Proofs.YtilmbdbcgbndmaaDoor

namespace Go.Proofs.YtilmbdbcgbndmaaDoor
open Go.ChangeShapes Go.WideShapes Go.ChangeAt Go.RowKit Go.Joins Go.Deep

theorem open_cells3 {H : Type} {enc : TypeId × Value → H} {P : Program} {w : World} {base : Nat} {spare : Nat → Bool} {held : Bool} {t : TypeId} {f0 f1 f2 : Field} {cs : List Value} {x : DataW H × List MemPlace} {fuel : Nat}
    (hs : P.underlying t = some (.struct #[f0, f1, f2])) (hone : oneCellFields P #[f0, f1, f2] = true) (hl : cs.length = 3) (h : DataW.trod enc P w base spare held fuel t cs = some x) :
    ∃ (v0 v1 v2 : Value) (y0 y1 y2 : DataW H × List MemPlace) (n : Nat), cs = [v0, v1, v2] ∧
      DataW.trod enc P w base spare held n f0.type [v0] = some y0 ∧ DataW.trod enc P w base spare held n f1.type [v1] = some y1 ∧ DataW.trod enc P w base spare held n f2.type [v2] = some y2 := by
  obtain ⟨y0, y1, y2, n, hx, _, h0, h1, h2⟩ := trod_struct3 hs h
  obtain ⟨o0, k0⟩ := hone_of hone 0 f0 rfl
  obtain ⟨o1, k1⟩ := hone_of hone 1 f1 rfl
  obtain ⟨o2, k2⟩ := hone_of hone 2 f2 rfl
  match cs, hl with
  | [c0, c1, c2], _ => exact ⟨c0, c1, c2, y0, y1, y2, n, rfl, by simpa [o0, k0] using h0, by simpa [o1, k1] using h1, by simpa [o2, k2] using h2⟩

theorem cells_dyad : Tryd.prog.cellsOf 24 = 3 := by kernel_rfl
end Go.Proofs.YtilmbdbcgbndmaaDoor

namespace Go.Proofs.YtilmbdbcgbndmaaDoor
open Go.ChangeShapes Go.WideShapes Go.ChangeAt Go.RowKit Go.Joins

theorem cells_span : Tryd.prog.cellsOf 32 = 6 := by kernel_rfl
/-- Three cells that read as a dyad. -/
theorem open_dyad3 {H : Type} {enc : TypeId × Value → H} {W : World} {cs : List Value} {x : DataW H × List MemPlace} {fuel : Nat} (hl : cs.length = 3)
    (h : DataW.trod enc Tryd.prog W 0 (fun _ => true) true fuel 24 cs = some x) : ∃ neg A n c f e, cs = [.bool neg, .slice A n c, .int .i64 e] ∧ Sl W A n c f ∧ n ≤ 9223372036854775807 := by
  obtain ⟨v0, v1, v2, y0, y1, y2, n', rfl, t0, t1, t2⟩ := open_cells3 Tryd.underlying24 (by kernel_rfl) hl h
  obtain ⟨neg, hb0, _⟩ := DataW.trod_bool Tryd.underlying4 t0
  obtain ⟨e, hb2, _, hwf⟩ := DataW.trod_int Tryd.underlying3 t2
  obtain ⟨A, k, c, f, rfl, s0, l0⟩ := open_words_raw t1
  simp at hb0 hb2
  subst hb0
  subst hb2
  exact ⟨neg, A, k, c, f, e, rfl, s0, l0⟩
set_option maxRecDepth 20000 in
theorem open_span {H : Type} {enc : TypeId × Value → H} {W : World} {base : Nat} {v : Value} {d : DataW H} {p : List MemPlace} (hok : Value.okWide Tryd.prog W .any base 32 v)
    (h : DataW.Trod enc Tryd.prog W 0 (fun _ => true) true 32 v d p) : ∃ na A n c x ea nb' B m k y eb, v = spv na A n c ea nb' B m k eb ∧ Sl W A n c x ∧ Sl W B m k y ∧ n ≤ 9223372036854775807 ∧ m ≤ 9223372036854775807 := by
  obtain ⟨cs, rfl, hsz⟩ := okWide_struct Tryd.underlying32 hok
  obtain ⟨fuel, hf⟩ := h
  obtain ⟨y0, y1, n, hx, _, h0, h1⟩ := trod_struct2 Tryd.underlying32 hf
  rw [cells_span] at hsz
  obtain ⟨l, rfl⟩ : ∃ l : List Value, cs = l.toArray := ⟨cs.toList, by simp⟩
  simp at hsz
  match l, hsz with
  | [c0, c1, c2, c3, c4, c5], _ =>
    rw [cells_dyad] at h0 h1
    simp [Value.cells] at h0 h1
    obtain ⟨na, A, n0, k0, x, ea, e0, s0, l0⟩ := open_dyad3 rfl h0
    obtain ⟨nb', B, n1, k1, y, eb, e1, s1, l1⟩ := open_dyad3 rfl h1
    simp at e0 e1
    obtain ⟨rfl, rfl, rfl⟩ := e0
    obtain ⟨rfl, rfl, rfl⟩ := e1
    exact ⟨na, A, n0, k0, x, ea, nb', B, n1, k1, y, eb, rfl, s0, s1, l0, l1⟩
end Go.Proofs.YtilmbdbcgbndmaaDoor
