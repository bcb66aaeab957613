/-
  nat.Sub: a difference, or that there is none. nat.Trim.
-/
import Derived.Test.YthjndkkepailmaaSub
namespace Go.Proofs.Ythjndkkepailmaa
open Go.RowKit

theorem sub_end {n m d : Nat} {F F' y : Nat → Nat} (h : vs B64 F' n + vs B64 y m = vs B64 F n + d * B64 ^ n) (hF : ∀ j, j < n → F' j < B64) (hle : vs B64 y m ≤ vs B64 F n) : vs B64 F' n = vs B64 F n - vs B64 y m := by
  have h1 := vs_lt hF
  rcases Nat.eq_zero_or_pos d with h0 | h0
  · subst h0; omega
  · have h2 : 1 * B64 ^ n ≤ d * B64 ^ n := Nat.mul_le_mul_right _ h0
    omega

/-- What a call answers that has a number and true. -/
def NumOkPost (w : World) (V : Nat) (e : Ending) (w' : World) : Prop := ∃ v, e = .returned (.tuple #[v, .bool true]) ∧ Num w' v V ∧ Below w.heap.size w w'
def NoPost (w : World) (e : Ending) (w' : World) : Prop := e = .returned (.tuple #[.slice none 0 0, .bool false]) ∧ Below w.heap.size w w'

set_option maxHeartbeats 400000 in
theorem sub_no (A B : Option Addr) (n m c d : Nat) (x y : Nat → Nat) (w : World) (ha : Sl w A n c x) (hb : Sl w B m d y) (hn : n ≤ 1000000) (hm : m ≤ 1000000) (hlt : vs B64 x n < vs B64 y m) :
    Calls Try.prog 32 #[.slice A n c, .slice B m d] w (NoPost w) := by
  obtain ⟨A1, c1, e1, s1⟩ := viewV_sl ha
  obtain ⟨B1, d1, e2, s2⟩ := viewV_sl hb
  have l1 := tl_le x n
  have l2 := tl_le y m
  have V1 := view_raw A n c x w ha (by omega)
  have V2 := view_raw B m d y w hb (by omega)
  rw [e1] at V1
  rw [e2] at V2
  rw [← vs_tl B64 x n, ← vs_tl B64 y m] at hlt
  clear e1 e2
  generalize tl x n = p at *
  generalize tl y m = q at *
  have V3 := cmp_any A1 B1 p q c1 d1 x y w s1 s2 (by omega) (by omega)
  rw [cmpN_lt hlt] at V3
  have H1 := Lib.hid V1
  have H2 := Lib.hid V2
  have H3 := Lib.hid V3
  clear V1 V2 V3
  go_enter Try.func32, Try.ntmps32
  go_wp2_with fail
  refine H1.out.mono ?_
  rintro e w' ⟨rfl, rfl⟩
  go_wp2_with fail
  refine H2.out.mono ?_
  rintro e w' ⟨rfl, rfl⟩
  go_wp2_with fail
  refine H3.out.mono ?_
  rintro e w1 ⟨rfl, hb1⟩
  go_wp2_with fail
  go_ret2
  exact ⟨rfl, hb1⟩

set_option maxHeartbeats 400000 in
theorem sub_yes (A B : Option Addr) (n m c d : Nat) (x y : Nat → Nat) (w : World) (ha : Sl w A n c x) (hb : Sl w B m d y) (hn : n ≤ 1000000) (hm : m ≤ 1000000) (hle : vs B64 y m ≤ vs B64 x n) :
    Calls Try.prog 32 #[.slice A n c, .slice B m d] w (NumOkPost w (vs B64 x n - vs B64 y m)) := by
  obtain ⟨A1, c1, e1, s1⟩ := viewV_sl ha
  obtain ⟨B1, d1, e2, s2⟩ := viewV_sl hb
  have l1 := tl_le x n
  have l2 := tl_le y m
  have V1 := view_raw A n c x w ha (by omega)
  have V2 := view_raw B m d y w hb (by omega)
  have cy := tl_cn y m
  rw [e1] at V1
  rw [e2] at V2
  rw [← vs_tl B64 x n, ← vs_tl B64 y m] at hle ⊢
  clear e1 e2
  generalize tl x n = p at *
  generalize tl y m = q at *
  have hqp : q ≤ p := cn_le B64_gt cy (Nat.lt_of_le_of_lt hle (vs_lt s1.small))
  have V3 := cmp_any A1 B1 p q c1 d1 x y w s1 s2 (by omega) (by omega)
  obtain ⟨r, hr0, hr1⟩ : ∃ r : Nat, cmpN (vs B64 x p) (vs B64 y q) = (r : Int) ∧ r ≤ 1 := by
    rcases Nat.lt_or_ge (vs B64 y q) (vs B64 x p) with h | h
    · exact ⟨1, by rw [cmpN_gt h]; rfl, by omega⟩
    · exact ⟨0, by rw [Nat.le_antisymm h hle, cmpN_eq]; rfl, by omega⟩
  rw [hr0] at V3
  clear hr0
  have H1 := Lib.hid V1
  have H2 := Lib.hid V2
  have H3 := Lib.hid V3
  clear V1 V2 V3
  have hmk : ∀ u : World, (Instr.makeSlice 22 (.int .i64 (p : Int)) (.int .i64 (p : Int))).run Try.prog u =
      .ok (.slice (some ⟨u.heap.size, 0, none⟩) p p) (u.alloc (.cells (madeCells #[.int .u64 0] p) 25)) := fun u => make_run p (by omega) u
  go_enter Try.func32, Try.ntmps32
  go_wp2_with fail
  refine H1.out.mono ?_
  rintro e w' ⟨rfl, rfl⟩
  go_wp2_with fail
  refine H2.out.mono ?_
  rintro e w' ⟨rfl, rfl⟩
  go_wp2_with fail
  refine H3.out.mono ?_
  rintro e w1 ⟨rfl, hb1⟩
  have hrow := Row.made 25 w1 p
  have s1' := s1.below hb1
  have s2' := s2.below hb1
  go_wp2_with (with_reducible refine wpList_copy_words rfl (.tmp 18) (.tmp 19) 22 rfl 25 Try.underlying22 size64 25 w1.heap.size p p p _ A1 p c1 x rfl rfl hrow (Nat.le_refl _) (s1'.alloc _) (Nat.le_refl _) ?_; intro w2 hrow2 hon2)
  have hb2 : Below w1.heap.size w1 w2 := Only.below ((Below.refl _ w1).alloc (Nat.le_refl _) _) hon2 (by simp) (Nat.le_refl _)
  refine (subFrom_any w1.heap.size 0 p p p _ B1 q d1 y w2 hrow2 (by omega) (by omega) (s2'.below hb2) hqp (s2'.far (Nat.le_refl _))).mono ?_
  rintro e w3 ⟨rfl, F', dd, hinv⟩
  have hb3 : Below w1.heap.size w1 w3 := Only.below hb2 hinv.2.2.1 hb2.size (Nat.le_refl _)
  go_wp2_with fail
  refine (view_raw _ p p _ w3 (hinv.2.1.sl0 p p (Nat.le_refl _) (Nat.le_refl _)) (by omega)).mono ?_
  rintro e w5 ⟨rfl, rfl⟩
  go_wp2_with fail
  go_ret2
  refine ⟨_, rfl, ?_, hb1.trans (hb3.mono hb1.size)⟩
  have hv := viewV_num (hinv.2.1.sl0 p p (Nat.le_refl _) (Nat.le_refl _))
  have hs := hinv.2.2.2.2
  simp only [Nat.zero_add] at hs
  rw [vs_pad _ _ _ _ hqp] at hs
  have e0 : vs B64 (fun j => if j < p then x j else 0) p = vs B64 x p := vs_pad _ _ _ _ (Nat.le_refl _)
  rw [sub_end hs hinv.2.1.2 (by rw [e0]; exact hle), e0] at hv
  exact hv

set_option maxHeartbeats 400000 in
theorem trim_any (A : Option Addr) (n c : Nat) (x : Nat → Nat) (w : World) (ha : Sl w A n c x) (hn : n ≤ 1000000) :
    Calls Try.prog 33 #[.slice A n c] w (NumPost w (vs B64 x n)) := by
  obtain ⟨A1, c1, e1, s1⟩ := viewV_sl ha
  have l1 := tl_le x n
  have cx := tl_cn x n
  have V1 := view_raw A n c x w ha (by omega)
  rw [e1] at V1
  rw [← vs_tl B64 x n]
  clear e1
  generalize tl x n = p at *
  have H1 := Lib.hid V1
  clear V1
  go_enter Try.func33, Try.ntmps33
  go_wp2_with fail
  refine H1.out.mono ?_
  rintro e w' ⟨rfl, rfl⟩
  go_wp2_with (at_builtin; refine wpList_append_words rfl (.const (.slice none 0 0)) (.tmp 4) 22 rfl w.heap.size 25 Try.underlying22 info64 _ 0 x rfl (Own.nil _ _ _ _) A1 p c1 x rfl s1 (by omega) (Nat.le_refl _) ?_; intro v1 w1 hown hbel)
  obtain ⟨A2, c2, rfl, s2, _⟩ := hown.sl
  go_wp2_with fail
  go_ret
  have e0 : ∀ j, cat x 0 x j = x j := fun j => by simp [cat]
  refine ⟨_, rfl, ⟨A2, 0 + p, c2, x, rfl, s2.congr fun j _ => e0 j, ?_, by rw [Nat.zero_add]⟩, hbel _ _ (Nat.le_refl _) (Below.refl _ _)⟩
  rw [Nat.zero_add]; exact cx
end Go.Proofs.Ythjndkkepailmaa
