/-
  volvellelaw01.NatSums answers true, whatever two slices of words it is given.
-/
import Derived.Test.YtigobkjbckgniaaFew
import Derived.Test.YtigobkjbckgniaaRef4
namespace Go.Proofs.Ytigobkjbckgniaa
open Go.RowKit

/-- The two slices that Few is handed. -/
def pairA (A B : Option Addr) : Nat → Option Addr := fun j => if j = 0 then A else B
def pairN (n m : Nat) : Nat → Nat := fun j => if j = 0 then n else m
theorem pair_cells (w : World) (t : TypeId) (A B : Option Addr) (n m c d : Nat) : ∀ j, j < 2 → (w.alloc (.cells #[.slice A n c, .slice B m d] t)).cell? ⟨w.heap.size, j, none⟩ = some (.slice (pairA A B j) (pairN n m j) (pairN c d j)) := fun j hj => by
  rw [World.cell?_alloc_at _ _ _ _ rfl]
  have : j = 0 ∨ j = 1 := by omega
  rcases this with rfl | rfl <;> rfl

set_option maxHeartbeats 400000 in
theorem sums_big (A B : Option Addr) (n m c d : Nat) (w : World) (hn : n ≤ 9223372036854775807) (hm : m ≤ 9223372036854775807) (hbig : 200 < n ∨ 200 < m) :
    Calls Try.prog 3 #[.slice A n c, .slice B m d] w (TruePost w) := by
  go_enter Try.func3, Try.ntmps3
  go_wp2_with fail
  refine (awake_any w).mono ?_
  rintro e w1 ⟨rfl, b1⟩
  have F := few_no w1.heap.size 2 200 2 (pairA A B) (pairN n m) (pairN c d) (w1.alloc (.cells #[.slice A n c, .slice B m d] 22)) (by omega) (pair_cells w1 _ A B n m c d)
    (fun j hj => by unfold pairN; split <;> assumption) (if 200 < n then 0 else 1) (by split <;> omega) (by unfold pairN; split <;> (simp; omega))
  have HF := Lib.hid F
  clear F
  go_wp2_with fail
  refine HF.out.mono ?_
  rintro e w2 ⟨rfl, rfl⟩
  go_wp2_with fail
  go_ret
  exact ⟨rfl, b1.alloc b1.size _⟩

/-- A copy that append has made of a slice. -/
theorem copied {t : TypeId} {w : World} {base : Nat} {v : Value} {n : Nat} {x : Nat → Nat} (h : Own t w base v (0 + n) (cat x 0 x)) : ∃ A c, v = .slice A n c ∧ Sl w A n c x := by
  rw [Nat.zero_add] at h
  obtain ⟨A, c, hv, hs, _⟩ := h.sl
  exact ⟨A, c, hv, hs.congr fun j _ => by simp [cat]⟩

theorem sum_bound {X Y K : Nat} (hX : X < B64 ^ K) (hY : Y < B64 ^ K) : X + Y < B64 ^ (K + 1) := by
  rw [Nat.pow_succ]
  have h1 : B64 ^ K * 2 ≤ B64 ^ K * B64 := Nat.mul_le_mul_left _ B64_gt
  omega

set_option maxHeartbeats 2000000 in
theorem sums_small (A B : Option Addr) (n m c d : Nat) (x y : Nat → Nat) (w : World) (ha : Sl w A n c x) (hb : Sl w B m d y) (hn : n ≤ 200) (hm : m ≤ 200) :
    Calls Try.prog 3 #[.slice A n c, .slice B m d] w (TruePost w) := by
  have kX : vs B64 x n < B64 ^ 200 := Nat.lt_of_lt_of_le (vs_lt ha.small) (Nat.pow_le_pow_right B64_pos hn)
  have kY : vs B64 y m < B64 ^ 200 := Nat.lt_of_lt_of_le (vs_lt hb.small) (Nat.pow_le_pow_right B64_pos hm)
  have KX := Lib.hid kX
  have KY := Lib.hid kY
  clear kX kY
  go_enter Try.func3, Try.ntmps3
  go_wp2_with fail
  refine (awake_any w).mono ?_
  rintro e w1 ⟨rfl, b1⟩
  have F := few_yes w1.heap.size 2 200 2 (pairA A B) (pairN n m) (pairN c d) (w1.alloc (.cells #[.slice A n c, .slice B m d] 22)) (by omega) (pair_cells w1 _ A B n m c d)
    (fun j hj => by unfold pairN; split <;> assumption)
  have HF := Lib.hid F
  clear F
  go_wp2_with fail
  refine HF.out.mono ?_
  rintro e w2 ⟨rfl, rfl⟩
  have ha2 := (ha.below b1).alloc (.cells #[.slice A n c, .slice B m d] 22)
  have hb2 := (hb.below b1).alloc (.cells #[.slice A n c, .slice B m d] 22)
  have b2 : Below w.heap.size w (w1.alloc (.cells #[.slice A n c, .slice B m d] 22)) := b1.alloc b1.size _
  clear HF b1
  generalize w1.alloc (.cells #[.slice A n c, .slice B m d] 22) = W at *
  go_wp2_with (first
    | (at_builtin
       refine wpList_append_words rfl (.tmp 18) (.tmp 19) 22 rfl W.heap.size 38 Try.underlying22 info64 _ 0 x rfl (Own.empty _ W _ _ (Nat.le_refl _)) A n c x rfl (ha2.alloc _) (by omega) (by simp) ?_
       intro v1 w3 hown1 hbel1
       obtain ⟨A1, c1, rfl, sx⟩ := copied hown1
       have b3 : Below W.heap.size W w3 := hbel1 _ _ (Nat.le_refl _) ((Below.refl _ _).alloc (Nat.le_refl _) _)
       have hb3 := hb2.below b3
       clear hown1 hbel1)
    | (at_builtin
       refine wpList_append_words rfl (.tmp 21) (.tmp 22) 22 rfl w3.heap.size 38 Try.underlying22 info64 _ 0 y rfl (Own.empty _ w3 _ _ (Nat.le_refl _)) B m d y rfl (hb3.alloc _) (by omega) (by simp) ?_
       intro v2 w4 hown2 hbel2
       obtain ⟨B1, d1, rfl, sy⟩ := copied hown2
       have b4 : Below w3.heap.size w3 w4 := hbel2 _ _ (Nat.le_refl _) ((Below.refl _ _).alloc (Nat.le_refl _) _)
       clear hown2 hbel2))
  have a4 := (ha2.below b3).below b4
  have y4 := hb3.below b4
  have x4 := sx.below b4
  have bb : Below w.heap.size w w4 := (b2.trans (b3.mono b2.size)).trans (b4.mono (Nat.le_trans b2.size b3.size))
  clear ha hb ha2 hb2 b2 b3 b4 hb3 sx
  by_cases hle : vs B64 y m ≤ vs B64 x n
  · have hsub : vs B64 x n - vs B64 y m < B64 ^ 200 := Nat.lt_of_le_of_lt (Nat.sub_le _ _) KX.out
    have KS := Lib.hid hsub
    clear hsub
    refine (sub_yes A B n m c d x y w4 a4 y4 (by omega) (by omega) hle).mono ?_
    rintro e w5 ⟨v5, rfl, n5, b5⟩
    go_wp2_with fail
    refine (rsub_yes A1 B1 n m c1 d1 x y w5 (x4.below b5) (sy.below b5) (by omega) (by omega) hle).mono ?_
    rintro e w6 ⟨v6, rfl, n6, b⟩
    have b6 := b5.trans (b.mono b5.size)
    have n5' := n5.below b
    clear b n5
    generalize vs B64 x n - vs B64 y m = D at *
    have KD : Hid (∀ w', Below w6.heap.size w6 w' → Num w' v5 D ∧ Num w' v6 D) := Lib.hid fun w' h => ⟨n5'.below h, n6.below h⟩
    clear n5' n6 b5
    go_wp2_with fail
    refine (cmp_any A B n m c d x y w6 (a4.below b6) (y4.below b6) (by omega) (by omega)).mono ?_
    rintro e w7 ⟨rfl, b⟩
    have b7 := b6.trans (b.mono b6.size)
    have k7 := b
    clear b
    go_wp2_with fail
    refine (rcmp_any A1 B1 n m c1 d1 x y w7 (x4.below b7) (sy.below b7) (by omega) (by omega)).mono ?_
    rintro e w8 ⟨rfl, b⟩
    have b8 := b7.trans (b.mono b7.size)
    have k8 := k7.trans (b.mono k7.size)
    clear b
    generalize cmpN (vs B64 x n) (vs B64 y m) = r at *
    have hrr : (r == r) = true := by simp
    go_wp2_with fail
    refine (add_any A B n m c d x y w8 (a4.below b8) (y4.below b8) (by omega) (by omega)).mono ?_
    rintro e w9 ⟨v9, rfl, n9, b⟩
    have b9 := b8.trans (b.mono b8.size)
    have k9 := k8.trans (b.mono k8.size)
    clear b
    go_wp2_with fail
    refine (radd_any A1 B1 n m c1 d1 x y w9 (x4.below b9) (sy.below b9) (by omega) (by omega)).mono ?_
    rintro e w10 ⟨v10, rfl, n10, b⟩
    have b10 := b9.trans (b.mono b9.size)
    have k10 := k9.trans (b.mono k9.size)
    have n9' := n9.below b
    clear b n9
    go_wp2_with fail
    refine (same_num w10 n9' n10 201 (by omega) (sum_bound KX.out KY.out)).mono ?_
    rintro e w11 ⟨rfl, b⟩
    have b11 := b10.trans (b.mono b10.size)
    have b611 := Lib.hid (k10.trans (b.mono k10.size))
    clear k7 k8 k9 k10
    clear b n9' n10
    go_wp2_with fail
    obtain ⟨q5, q6⟩ := KD.out w11 b611.out
    refine (same_num w11 q5 q6 200 (by omega) KS.out).mono ?_
    rintro e w12 ⟨rfl, b⟩
    have b12 := b11.trans (b.mono b11.size)
    clear b
    go_wp2_with fail
    refine (trim_any A n c x w12 (a4.below b12) (by omega)).mono ?_
    rintro e w13 ⟨v13, rfl, n13, b⟩
    have b13 := b12.trans (b.mono b12.size)
    clear b
    go_wp2_with fail
    refine (rtrim_any A1 n c1 x w13 (x4.below b13) (by omega)).mono ?_
    rintro e w14 ⟨v14, rfl, n14, b⟩
    have b14 := b13.trans (b.mono b13.size)
    have n13' := n13.below b
    clear b n13
    go_wp2_with fail
    refine (same_num w14 n13' n14 200 (by omega) KX.out).mono ?_
    rintro e w15 ⟨rfl, b⟩
    have b15 := b14.trans (b.mono b14.size)
    clear b n13' n14
    go_wp2_with fail
    refine (kept_any A A1 n c c1 x x w15 (a4.below b15) (x4.below b15) (by omega) (fun _ _ => rfl)).mono ?_
    rintro e w16 ⟨rfl, b⟩
    have b16 := b15.trans (b.mono b15.size)
    clear b
    go_wp2_with fail
    refine (kept_any B B1 m d d1 y y w16 (y4.below b16) (sy.below b16) (by omega) (fun _ _ => rfl)).mono ?_
    rintro e w17 ⟨rfl, b⟩
    have b17 := b16.trans (b.mono b16.size)
    clear b
    go_wp2_with fail
    go_ret
    exact ⟨rfl, bb.trans (b17.mono bb.size)⟩
  · have hlt : vs B64 x n < vs B64 y m := by omega
    refine (sub_no A B n m c d x y w4 a4 y4 (by omega) (by omega) hlt).mono ?_
    rintro e w5 ⟨rfl, b5⟩
    go_wp2_with fail
    refine (rsub_no A1 B1 n m c1 d1 x y w5 (x4.below b5) (sy.below b5) (by omega) (by omega) hlt).mono ?_
    rintro e w6 ⟨rfl, b⟩
    have b6 := b5.trans (b.mono b5.size)
    clear b hlt b5
    go_wp2_with fail
    refine (cmp_any A B n m c d x y w6 (a4.below b6) (y4.below b6) (by omega) (by omega)).mono ?_
    rintro e w7 ⟨rfl, b⟩
    have b7 := b6.trans (b.mono b6.size)
    clear b
    go_wp2_with fail
    refine (rcmp_any A1 B1 n m c1 d1 x y w7 (x4.below b7) (sy.below b7) (by omega) (by omega)).mono ?_
    rintro e w8 ⟨rfl, b⟩
    have b8 := b7.trans (b.mono b7.size)
    clear b
    generalize cmpN (vs B64 x n) (vs B64 y m) = r at *
    have hrr : (r == r) = true := by simp
    go_wp2_with fail
    refine (add_any A B n m c d x y w8 (a4.below b8) (y4.below b8) (by omega) (by omega)).mono ?_
    rintro e w9 ⟨v9, rfl, n9, b⟩
    have b9 := b8.trans (b.mono b8.size)
    clear b
    go_wp2_with fail
    refine (radd_any A1 B1 n m c1 d1 x y w9 (x4.below b9) (sy.below b9) (by omega) (by omega)).mono ?_
    rintro e w10 ⟨v10, rfl, n10, b⟩
    have b10 := b9.trans (b.mono b9.size)
    have n9' := n9.below b
    clear b n9
    go_wp2_with fail
    refine (same_num w10 n9' n10 201 (by omega) (sum_bound KX.out KY.out)).mono ?_
    rintro e w11 ⟨rfl, b⟩
    have b11 := b10.trans (b.mono b10.size)
    clear b n9' n10
    go_wp2_with fail
    refine (same_any none none 0 0 0 x x w11 (Sl.none_ _ _ _ _) (Sl.none_ _ _ _ _) (by omega) (fun _ _ => rfl)).mono ?_
    rintro e w12 ⟨rfl, b⟩
    have b12 := b11.trans (b.mono b11.size)
    clear b
    go_wp2_with fail
    refine (trim_any A n c x w12 (a4.below b12) (by omega)).mono ?_
    rintro e w13 ⟨v13, rfl, n13, b⟩
    have b13 := b12.trans (b.mono b12.size)
    clear b
    go_wp2_with fail
    refine (rtrim_any A1 n c1 x w13 (x4.below b13) (by omega)).mono ?_
    rintro e w14 ⟨v14, rfl, n14, b⟩
    have b14 := b13.trans (b.mono b13.size)
    have n13' := n13.below b
    clear b n13
    go_wp2_with fail
    refine (same_num w14 n13' n14 200 (by omega) KX.out).mono ?_
    rintro e w15 ⟨rfl, b⟩
    have b15 := b14.trans (b.mono b14.size)
    clear b n13' n14
    go_wp2_with fail
    refine (kept_any A A1 n c c1 x x w15 (a4.below b15) (x4.below b15) (by omega) (fun _ _ => rfl)).mono ?_
    rintro e w16 ⟨rfl, b⟩
    have b16 := b15.trans (b.mono b15.size)
    clear b
    go_wp2_with fail
    refine (kept_any B B1 m d d1 y y w16 (y4.below b16) (sy.below b16) (by omega) (fun _ _ => rfl)).mono ?_
    rintro e w17 ⟨rfl, b⟩
    have b17 := b16.trans (b.mono b16.size)
    clear b
    go_wp2_with fail
    go_ret
    exact ⟨rfl, bb.trans (b17.mono bb.size)⟩

theorem sums_any (A B : Option Addr) (n m c d : Nat) (x y : Nat → Nat) (w : World) (ha : Sl w A n c x) (hb : Sl w B m d y) (hn : n ≤ 9223372036854775807) (hm : m ≤ 9223372036854775807) :
    Calls Try.prog 3 #[.slice A n c, .slice B m d] w (TruePost w) := by
  by_cases h : n ≤ 200 ∧ m ≤ 200
  · exact sums_small A B n m c d x y w ha hb h.1 h.2
  · exact sums_big A B n m c d w hn hm (by omega)
end Go.Proofs.Ytigobkjbckgniaa
