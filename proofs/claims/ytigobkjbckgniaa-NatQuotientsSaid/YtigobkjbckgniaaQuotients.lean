/-
  volvellelaw01.NatQuotients answers true, whatever two slices of words it is given.
-/
import Derived.Test.YtigobkjbckgniaaSums
import Derived.Test.YtigobkjbckgniaaRefDiv
namespace Go.Proofs.Ytigobkjbckgniaa
open Go.RowKit

set_option maxHeartbeats 400000 in
theorem quotients_big (A B : Option Addr) (n m c d : Nat) (w : World) (hn : n ≤ 9223372036854775807) (hm : m ≤ 9223372036854775807) (hbig : 60 < n ∨ 60 < m) :
    Calls Try.prog 5 #[.slice A n c, .slice B m d] w (TruePost w) := by
  go_enter Try.func5, Try.ntmps5
  go_wp2_with fail
  refine (awake_any w).mono ?_
  rintro e w1 ⟨rfl, b1⟩
  have F := few_no w1.heap.size 2 60 2 (pairA A B) (pairN n m) (pairN c d) (w1.alloc (.cells #[.slice A n c, .slice B m d] 22)) (by omega) (pair_cells w1 _ A B n m c d)
    (fun j hj => by unfold pairN; split <;> assumption) (if 60 < n then 0 else 1) (by split <;> omega) (by unfold pairN; split <;> (simp; omega))
  have HF := Lib.hid F
  clear F
  go_wp2_with fail
  refine HF.out.mono ?_
  rintro e w2 ⟨rfl, rfl⟩
  go_wp2_with fail
  go_ret
  exact ⟨rfl, b1.alloc b1.size _⟩

set_option maxHeartbeats 600000 in
theorem quotients_small (A B : Option Addr) (n m c d : Nat) (x y : Nat → Nat) (w : World) (ha : Sl w A n c x) (hb : Sl w B m d y) (hn : n ≤ 60) (hm : m ≤ 60) :
    Calls Try.prog 5 #[.slice A n c, .slice B m d] w (TruePost w) := by
  have kX : vs B64 x n < B64 ^ 60 := Nat.lt_of_lt_of_le (vs_lt ha.small) (Nat.pow_le_pow_right B64_pos hn)
  have kY : vs B64 y m < B64 ^ 60 := Nat.lt_of_lt_of_le (vs_lt hb.small) (Nat.pow_le_pow_right B64_pos hm)
  have KX := Lib.hid kX
  have KY := Lib.hid kY
  clear kX kY
  go_enter Try.func5, Try.ntmps5
  go_wp2_with fail
  refine (awake_any w).mono ?_
  rintro e w1 ⟨rfl, b1⟩
  have F := few_yes w1.heap.size 2 60 2 (pairA A B) (pairN n m) (pairN c d) (w1.alloc (.cells #[.slice A n c, .slice B m d] 22)) (by omega) (pair_cells w1 _ A B n m c d)
    (fun j hj => by unfold pairN; split <;> assumption)
  have HF := Lib.hid F
  clear F
  go_wp2_with fail
  refine HF.out.mono ?_
  rintro e w2 ⟨rfl, rfl⟩
  have ha2 := (ha.below b1).alloc (.cells #[.slice A n c, .slice B m d] 22)
  have hb2 := (hb.below b1).alloc (.cells #[.slice A n c, .slice B m d] 22)
  have b2 : Below w.heap.size w (w1.alloc (.cells #[.slice A n c, .slice B m d] 22)) := b1.alloc b1.size _
  clear HF b1
  generalize w1.alloc (.cells #[.slice A n c, .slice B m d] 22) = W at *
  go_wp2_with (first
    | (at_builtin
       refine wpList_append_words rfl (.tmp 20) (.tmp 21) 22 rfl W.heap.size 38 Try.underlying22 info64 _ 0 x rfl (Own.empty _ W _ _ (Nat.le_refl _)) A n c x rfl (ha2.alloc _) (by omega) (by simp) ?_
       intro v1 w3 hown1 hbel1
       obtain ⟨A1, c1, rfl, sx⟩ := copied hown1
       have b3 : Below W.heap.size W w3 := hbel1 _ _ (Nat.le_refl _) ((Below.refl _ _).alloc (Nat.le_refl _) _)
       have hb3 := hb2.below b3
       clear hown1 hbel1)
    | (at_builtin
       refine wpList_append_words rfl (.tmp 23) (.tmp 24) 22 rfl w3.heap.size 38 Try.underlying22 info64 _ 0 y rfl (Own.empty _ w3 _ _ (Nat.le_refl _)) B m d y rfl (hb3.alloc _) (by omega) (by simp) ?_
       intro v2 w4 hown2 hbel2
       obtain ⟨B1, d1, rfl, sy⟩ := copied hown2
       have b4 : Below w3.heap.size w3 w4 := hbel2 _ _ (Nat.le_refl _) ((Below.refl _ _).alloc (Nat.le_refl _) _)
       clear hown2 hbel2))
  have a4 := (ha2.below b3).below b4
  have y4 := hb3.below b4
  have x4 := sx.below b4
  have bb : Below w.heap.size w w4 := (b2.trans (b3.mono b2.size)).trans (b4.mono (Nat.le_trans b2.size b3.size))
  clear ha hb ha2 hb2 b2 b3 b4 hb3 sx
  rcases Nat.eq_zero_or_pos (vs B64 y m) with h0 | h0
  · refine (divmod_no A B n m c d x y w4 a4 y4 (by omega) (by omega) h0).mono ?_
    rintro e w5 ⟨rfl, rfl⟩
    go_wp2_with fail
    refine (rdiv_no A1 B1 n m c1 d1 x y w4 x4 sy (by omega) (by omega) h0).mono ?_
    rintro e w6 ⟨rfl, b6⟩
    clear h0
    go_wp2_with fail
    refine (same_any none none 0 0 0 x x w6 (Sl.none_ _ _ _ _) (Sl.none_ _ _ _ _) (by omega) (fun _ _ => rfl)).mono ?_
    rintro e w7 ⟨rfl, b⟩
    have b7 := b6.trans (b.mono b6.size)
    clear b
    go_wp2_with fail
    refine (same_any none none 0 0 0 x x w7 (Sl.none_ _ _ _ _) (Sl.none_ _ _ _ _) (by omega) (fun _ _ => rfl)).mono ?_
    rintro e w8 ⟨rfl, b⟩
    have b8 := b7.trans (b.mono b7.size)
    clear b
    go_wp2_with fail
    refine (kept_any A A1 n c c1 x x w8 (a4.below b8) (x4.below b8) (by omega) (fun _ _ => rfl)).mono ?_
    rintro e w9 ⟨rfl, b⟩
    have b9 := b8.trans (b.mono b8.size)
    clear b
    go_wp2_with fail
    refine (kept_any B B1 m d d1 y y w9 (y4.below b9) (sy.below b9) (by omega) (fun _ _ => rfl)).mono ?_
    rintro e w10 ⟨rfl, b⟩
    have b10 := b9.trans (b.mono b9.size)
    clear b
    go_wp2_with fail
    go_ret
    exact ⟨rfl, bb.trans (b10.mono bb.size)⟩
  · have KQ : Hid (vs B64 x n / vs B64 y m < B64 ^ 60) := Lib.hid (Nat.lt_of_le_of_lt (Nat.div_le_self _ _) KX.out)
    have KR : Hid (vs B64 x n % vs B64 y m < B64 ^ 60) := Lib.hid (Nat.lt_of_le_of_lt (Nat.mod_le _ _) KX.out)
    refine (divmod_any A B n m c d x y w4 a4 y4 (by omega) (by omega) h0).mono ?_
    rintro e w5 ⟨v5, u5, rfl, n5, m5, b5⟩
    go_wp2_with fail
    refine (rdiv_yes A1 B1 n m c1 d1 x y w5 (x4.below b5) (sy.below b5) (by omega) (by omega) h0).mono ?_
    rintro e w6 ⟨v6, u6, rfl, n6, m6, b⟩
    have b6 := b5.trans (b.mono b5.size)
    have n5' := n5.below b
    have m5' := m5.below b
    clear b n5 m5 h0
    generalize vs B64 x n / vs B64 y m = Q at *
    generalize vs B64 x n % vs B64 y m = R at *
    have KM : Hid (∀ w', Below w6.heap.size w6 w' → Num w' u5 R ∧ Num w' u6 R) := Lib.hid fun w' h => ⟨m5'.below h, m6.below h⟩
    clear m5' m6 b5
    go_wp2_with fail
    refine (same_num w6 n5' n6 60 (by omega) KQ.out).mono ?_
    rintro e w7 ⟨rfl, b⟩
    have b7 := b6.trans (b.mono b6.size)
    have b67 := Lib.hid b
    clear b n5' n6
    go_wp2_with fail
    obtain ⟨q5, q6⟩ := KM.out w7 b67.out
    refine (same_num w7 q5 q6 60 (by omega) KR.out).mono ?_
    rintro e w8 ⟨rfl, b⟩
    have b8 := b7.trans (b.mono b7.size)
    clear b q5 q6
    go_wp2_with fail
    refine (kept_any A A1 n c c1 x x w8 (a4.below b8) (x4.below b8) (by omega) (fun _ _ => rfl)).mono ?_
    rintro e w9 ⟨rfl, b⟩
    have b9 := b8.trans (b.mono b8.size)
    clear b
    go_wp2_with fail
    refine (kept_any B B1 m d d1 y y w9 (y4.below b9) (sy.below b9) (by omega) (fun _ _ => rfl)).mono ?_
    rintro e w10 ⟨rfl, b⟩
    have b10 := b9.trans (b.mono b9.size)
    clear b
    go_wp2_with fail
    go_ret
    exact ⟨rfl, bb.trans (b10.mono bb.size)⟩

theorem quotients_any (A B : Option Addr) (n m c d : Nat) (x y : Nat → Nat) (w : World) (ha : Sl w A n c x) (hb : Sl w B m d y) (hn : n ≤ 9223372036854775807) (hm : m ≤ 9223372036854775807) :
    Calls Try.prog 5 #[.slice A n c, .slice B m d] w (TruePost w) := by
  by_cases h : n ≤ 60 ∧ m ≤ 60
  · exact quotients_small A B n m c d x y w ha hb h.1 h.2
  · exact quotients_big A B n m c d w hn hm (by omega)
end Go.Proofs.Ytigobkjbckgniaa
