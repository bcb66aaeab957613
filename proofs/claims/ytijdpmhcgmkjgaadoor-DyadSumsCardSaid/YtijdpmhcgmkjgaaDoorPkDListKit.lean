/-
  An argument that is a list of dyads, opened.
-/
import Derived.Deep.Slices
import Derived.Test.YtijdpmhcgmkjgaaDoorPkDy3
import Derived.Test.YtijdpmhcgmkjgaaDoorPkDRowKit
namespace Go.Proofs.YtijdpmhcgmkjgaaDoor
open Go.ChangeShapes Go.WideShapes Go.ChangeAt Go.RowKit Go.Joins Go.Deep

theorem open_cells3 {H : Type} {enc : TypeId × Value → H} {P : Program} {w : World} {base : Nat} {spare : Nat → Bool} {held : Bool} {t : TypeId} {f0 f1 f2 : Field} {cs : List Value} {x : DataW H × List MemPlace} {fuel : Nat}
    (hs : P.underlying t = some (.struct #[f0, f1, f2])) (hone : oneCellFields P #[f0, f1, f2] = true) (hl : cs.length = 3) (h : DataW.trod enc P w base spare held fuel t cs = some x) :
    ∃ (v0 v1 v2 : Value) (y0 y1 y2 : DataW H × List MemPlace) (n : Nat), cs = [v0, v1, v2] ∧
      DataW.trod enc P w base spare held n f0.type [v0] = some y0 ∧ DataW.trod enc P w base spare held n f1.type [v1] = some y1 ∧ DataW.trod enc P w base spare held n f2.type [v2] = some y2 := by
  obtain ⟨y0, y1, y2, n, hx, _, h0, h1, h2⟩ := trod_struct3 hs h
  obtain ⟨o0, k0⟩ := hone_of hone 0 f0 rfl
  obtain ⟨o1, k1⟩ := hone_of hone 1 f1 rfl
  obtain ⟨o2, k2⟩ := hone_of hone 2 f2 rfl
  match cs, hl with
  | [c0, c1, c2], _ => exact ⟨c0, c1, c2, y0, y1, y2, n, rfl, by simpa [o0, k0] using h0, by simpa [o1, k1] using h1, by simpa [o2, k2] using h2⟩

theorem cells_dyad : Tryd.prog.cellsOf 24 = 3 := by kernel_rfl
set_option maxRecDepth 20000 in
theorem open_dyads {H : Type} {enc : TypeId × Value → H} {W : World} {base : Nat} {v : Value} {d : DataW H} {p : List MemPlace} (hok : Value.okWide Tryd.prog W .any base 35 v)
    (h : DataW.Trod enc Tryd.prog W 0 (fun _ => true) true 35 v d p) : ∃ L k cp l, v = .slice L k cp ∧ Ls W L k cp l ∧ k ≤ 9223372036854775807 ∧ ∀ j, j < k → l.n j ≤ 9223372036854775807 := by
  obtain ⟨a0, len, cap, rfl⟩ := okWide_slice Tryd.underlying35 hok
  obtain ⟨fuel, hf⟩ := h
  rcases Go.Deep.open_slice Tryd.underlying35 hf with ⟨hcs, _⟩ | ⟨a, len', cap', m, n, D, Pl, hcs, _, hl, hm, hmm, _, hx⟩
  · simp [Value.cells] at hcs
    obtain ⟨rfl, rfl, rfl⟩ := hcs
    exact ⟨none, 0, 0, ⟨fun _ => false, fun _ => none, fun _ => 0, fun _ => 0, fun _ _ => 0, fun _ => 0⟩, rfl, ⟨Nat.le_refl _, fun h => absurd h (by omega), fun j hj => absurd hj (by omega)⟩, by omega, fun j hj => absurd hj (by omega)⟩
  · simp [Value.cells] at hcs
    obtain ⟨rfl, rfl, rfl⟩ := hcs
    unfold maxLen at hm
    have hlm : len ≤ m := by rw [hmm]; split <;> omega
    have each : ∀ i, i < len → ∃ q : Bool × Option Addr × Nat × Nat × (Nat → Nat) × Int, W.cell? (a.add (i * 3)) = some (.bool q.1) ∧ W.cell? ⟨(a.add (i * 3)).block, (a.add (i * 3)).off + 1, none⟩ = some (.slice q.2.1 q.2.2.1 q.2.2.2.1) ∧
        W.cell? ⟨(a.add (i * 3)).block, (a.add (i * 3)).off + 2, none⟩ = some (.int .i64 q.2.2.2.2.2) ∧ Sl W q.2.1 q.2.2.1 q.2.2.2.1 q.2.2.2.2.1 ∧ q.2.2.1 ≤ 9223372036854775807 := by
      intro i hi
      obtain ⟨cs', h1, h2⟩ := hx i (by omega)
      rw [cells_dyad] at h1
      obtain ⟨_, hlen, hcell⟩ := World.cells?_some h1
      obtain ⟨v0, v1, v2, y0, y1, y2, n', rfl, t0, t1, t2⟩ := open_cells3 Tryd.underlying24 (by kernel_rfl) hlen h2
      obtain ⟨neg, hb0, _⟩ := DataW.trod_bool Tryd.underlying4 t0
      obtain ⟨e, hb2, _, hwf⟩ := DataW.trod_int Tryd.underlying3 t2
      obtain ⟨A, k, c, x, rfl, s0, l0⟩ := open_words_raw t1
      simp at hb0 hb2
      subst hb0
      subst hb2
      have e0 := hcell 0 (by omega)
      have e1 := hcell 1 (by omega)
      have e2 := hcell 2 (by omega)
      refine ⟨(neg, A, k, c, x, e), ?_, ?_, ?_, s0, l0⟩
      · simpa [Addr.add] using e0
      · simpa [Addr.add] using e1
      · simpa [Addr.add] using e2
    obtain ⟨q, hq⟩ := Go.Deep.choose_lt each
    refine ⟨some a, len, cap, ⟨fun i => (q i).1, fun i => (q i).2.1, fun i => (q i).2.2.1, fun i => (q i).2.2.2.1, fun i => (q i).2.2.2.2.1, fun i => (q i).2.2.2.2.2⟩, rfl, ⟨hl, fun hk => ⟨a, rfl, ?_, fun j hj => ⟨(hq j hj).1, (hq j hj).2.1, (hq j hj).2.2.1⟩⟩, fun j hj => (hq j hj).2.2.2.1⟩, by omega, fun j hj => (hq j hj).2.2.2.2⟩
    have h1 := World.block_lt_of_cell? _ _ (hq 0 hk).1
    rw [block_of_add] at h1
    exact h1
end Go.Proofs.YtijdpmhcgmkjgaaDoor
