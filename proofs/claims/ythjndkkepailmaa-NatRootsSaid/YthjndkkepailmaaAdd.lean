/-
  nat.Add answers the sum, trimmed.
-/
import Derived.Test.YthjndkkepailmaaKit
import Derived.Test.YthjndkkepailmaaView
import Derived.Test.YthjndkkepailmaaAddInto
namespace Go.Proofs.Ythjndkkepailmaa
open Go.RowKit

/-- What a call answers that stands for V; nothing that was there has turned. -/
def NumPost (w : World) (V : Nat) (e : Ending) (w' : World) : Prop := ∃ v, e = .returned v ∧ Num w' v V ∧ Below w.heap.size w w'

set_option maxHeartbeats 400000 in
theorem add_any (A B : Option Addr) (n m c d : Nat) (x y : Nat → Nat) (w : World) (ha : Sl w A n c x) (hb : Sl w B m d y) (hn : n ≤ 900000) (hm : m ≤ 900000) :
    Calls Try.prog 10 #[.slice A n c, .slice B m d] w (NumPost w (vs B64 x n + vs B64 y m)) := by
  obtain ⟨A1, c1, e1, s1⟩ := viewV_sl ha
  obtain ⟨B1, d1, e2, s2⟩ := viewV_sl hb
  have l1 := tl_le x n
  have l2 := tl_le y m
  have va := vs_tl B64 x n
  have vb := vs_tl B64 y m
  have V1 := view_raw A n c x w ha (by omega)
  have V2 := view_raw B m d y w hb (by omega)
  rw [e1] at V1
  rw [e2] at V2
  rw [← va, ← vb]
  clear va vb e1 e2
  generalize tl x n = p at *
  generalize tl y m = q at *
  have H1 := Lib.hid V1
  have H2 := Lib.hid V2
  clear V1 V2
  by_cases hlt : p < q
  · have hmk : ∀ u : World, (Instr.makeSlice 22 (.int .i64 ((q : Int) + 1)) (.int .i64 ((q : Int) + 1))).run Try.prog u =
      .ok (.slice (some ⟨u.heap.size, 0, none⟩) (q + 1) (q + 1)) (u.alloc (.cells (madeCells #[.int .u64 0] (q + 1)) 25)) := fun u => make_run (q + 1) (by omega) u
    have hrow := Row.made 25 w (q + 1)
    go_enter Try.func10, Try.ntmps10
    go_wp2_with fail
    refine H1.out.mono ?_
    rintro e w' ⟨rfl, rfl⟩
    go_wp2_with fail
    refine H2.out.mono ?_
    rintro e w' ⟨rfl, rfl⟩
    go_wp2_with (with_reducible refine wpList_copy_words rfl (.tmp 21) (.tmp 22) 22 rfl 25 Try.underlying22 size64 25 w.heap.size (q + 1) (q + 1) (q + 1) _ B1 q d1 y rfl rfl hrow (Nat.le_refl _) (s2.alloc _) (by omega) ?_; intro w2 hrow2 hon2)
    have hb2 : Below w.heap.size w w2 := Only.below ((Below.refl _ w).alloc (Nat.le_refl _) _) hon2 (by simp) (Nat.le_refl _)
    have s1' := s1.below hb2
    refine (addInto_any w.heap.size 0 q (q + 1) (q + 1) _ A1 p c1 x w2 hrow2 (by omega) (by omega) s1' (by omega) (s1.far (Nat.le_refl _))).mono ?_
    rintro e w3 ⟨F', cy, rfl, hinv⟩
    have hrc := hinv.2.1.cell (i := q) (by omega)
    have hrf := hinv.2.1.frozen q
    have hcy : cy < B64 := Nat.lt_of_le_of_lt hinv.1 (by unfold B64; omega)
    have hrow4 := hinv.2.1.set_ q cy hcy
    have hb3 : Below w.heap.size w w3 := Only.below hb2 hinv.2.2.1 hb2.size (Nat.le_refl _)
    have hb4 : Below w.heap.size w (w3.setCell ⟨w.heap.size, q, none⟩ (.int .u64 (cy : Int))) := hb3.setCell (Nat.le_refl _) _
    have hsum := Lib.hid hinv.2.2.2.2
    go_wp2_with fail
    generalize w3.setCell ⟨w.heap.size, q, none⟩ (.int .u64 (cy : Int)) = w4 at *
    refine (view_raw _ (q + 1) (q + 1) _ w4 (hrow4.sl0 (q + 1) (q + 1) (Nat.le_refl _) (Nat.le_refl _)) (by omega)).mono ?_
    rintro e w5 ⟨rfl, rfl⟩
    go_wp2_with fail
    go_ret
    refine ⟨_, rfl, ?_, hb4⟩
    have hv := viewV_num (hrow4.sl0 (q + 1) (q + 1) (Nat.le_refl _) (Nat.le_refl _))
    rw [vs_succ, upd_same, vs_upd_ge _ _ _ _ _ (Nat.le_refl _)] at hv
    have hs := hsum.out
    simp only [Nat.zero_add] at hs
    rw [hs, vs_pad _ _ _ _ (Nat.le_refl _), vs_pad _ _ _ _ (by omega)] at hv
    rw [Nat.add_comm (vs B64 y q)] at hv; exact hv
  · have hmk : ∀ u : World, (Instr.makeSlice 22 (.int .i64 ((p : Int) + 1)) (.int .i64 ((p : Int) + 1))).run Try.prog u =
      .ok (.slice (some ⟨u.heap.size, 0, none⟩) (p + 1) (p + 1)) (u.alloc (.cells (madeCells #[.int .u64 0] (p + 1)) 25)) := fun u => make_run (p + 1) (by omega) u
    have hrow := Row.made 25 w (p + 1)
    go_enter Try.func10, Try.ntmps10
    go_wp2_with fail
    refine H1.out.mono ?_
    rintro e w' ⟨rfl, rfl⟩
    go_wp2_with fail
    refine H2.out.mono ?_
    rintro e w' ⟨rfl, rfl⟩
    go_wp2_with (with_reducible refine wpList_copy_words rfl (.tmp 21) (.tmp 22) 22 rfl 25 Try.underlying22 size64 25 w.heap.size (p + 1) (p + 1) (p + 1) _ A1 p c1 x rfl rfl hrow (Nat.le_refl _) (s1.alloc _) (by omega) ?_; intro w2 hrow2 hon2)
    have hb2 : Below w.heap.size w w2 := Only.below ((Below.refl _ w).alloc (Nat.le_refl _) _) hon2 (by simp) (Nat.le_refl _)
    have s1' := s2.below hb2
    refine (addInto_any w.heap.size 0 p (p + 1) (p + 1) _ B1 q d1 y w2 hrow2 (by omega) (by omega) s1' (by omega) (s2.far (Nat.le_refl _))).mono ?_
    rintro e w3 ⟨F', cy, rfl, hinv⟩
    have hrc := hinv.2.1.cell (i := p) (by omega)
    have hrf := hinv.2.1.frozen p
    have hcy : cy < B64 := Nat.lt_of_le_of_lt hinv.1 (by unfold B64; omega)
    have hrow4 := hinv.2.1.set_ p cy hcy
    have hb3 : Below w.heap.size w w3 := Only.below hb2 hinv.2.2.1 hb2.size (Nat.le_refl _)
    have hb4 : Below w.heap.size w (w3.setCell ⟨w.heap.size, p, none⟩ (.int .u64 (cy : Int))) := hb3.setCell (Nat.le_refl _) _
    have hsum := Lib.hid hinv.2.2.2.2
    go_wp2_with fail
    generalize w3.setCell ⟨w.heap.size, p, none⟩ (.int .u64 (cy : Int)) = w4 at *
    refine (view_raw _ (p + 1) (p + 1) _ w4 (hrow4.sl0 (p + 1) (p + 1) (Nat.le_refl _) (Nat.le_refl _)) (by omega)).mono ?_
    rintro e w5 ⟨rfl, rfl⟩
    go_wp2_with fail
    go_ret
    refine ⟨_, rfl, ?_, hb4⟩
    have hv := viewV_num (hrow4.sl0 (p + 1) (p + 1) (Nat.le_refl _) (Nat.le_refl _))
    rw [vs_succ, upd_same, vs_upd_ge _ _ _ _ _ (Nat.le_refl _)] at hv
    have hs := hsum.out
    simp only [Nat.zero_add] at hs
    rw [hs, vs_pad _ _ _ _ (Nat.le_refl _), vs_pad _ _ _ _ (by omega)] at hv
    exact hv
end Go.Proofs.Ythjndkkepailmaa
