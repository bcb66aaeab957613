/-
  nat.DivMod, for every two numbers.
-/
import Derived.Test.YthjndkkepailmaaDivLong
namespace Go.Proofs.Ythjndkkepailmaa
open Go.RowKit

theorem tl_zero_of {f : Nat → Nat} {n : Nat} (h : vs B64 f n = 0) : tl f n = 0 := vs_eq_zero B64_pos (tl_cn f n) (by rw [vs_tl]; exact h)

set_option maxHeartbeats 400000 in
theorem divmod_no (A B : Option Addr) (n m c d : Nat) (x y : Nat → Nat) (w : World) (ha : Sl w A n c x) (hb : Sl w B m d y) (hn : n ≤ 1000000) (hm : m ≤ 1000000) (h0 : vs B64 y m = 0) :
    Calls Try.prog 15 #[.slice A n c, .slice B m d] w (QuoNo w) := by
  obtain ⟨A1, c1, e1, s1⟩ := viewV_sl ha
  obtain ⟨B1, d1, e2, s2⟩ := viewV_sl hb
  have V1 := view_raw A n c x w ha (by omega)
  have V2 := view_raw B m d y w hb (by omega)
  rw [e1] at V1
  rw [e2, tl_zero_of h0] at V2
  have H1 := Lib.hid V1
  have H2 := Lib.hid V2
  clear V1 V2 e1 e2
  generalize tl x n = p at *
  go_enter Try.func15, Try.ntmps15
  go_wp2_with fail
  refine H1.out.mono ?_
  rintro e w' ⟨rfl, rfl⟩
  go_wp2_with fail
  refine H2.out.mono ?_
  rintro e w' ⟨rfl, rfl⟩
  go_wp2_with fail
  go_ret3
  exact ⟨rfl, rfl⟩

set_option maxHeartbeats 400000 in
theorem divmod_less (A B : Option Addr) (n m c d : Nat) (x y : Nat → Nat) (w : World) (ha : Sl w A n c x) (hb : Sl w B m d y) (hn : n ≤ 1000000) (hm : m ≤ 1000000) (hlt : vs B64 x n < vs B64 y m) :
    Calls Try.prog 15 #[.slice A n c, .slice B m d] w (QuoPost w (vs B64 x n / vs B64 y m) (vs B64 x n % vs B64 y m)) := by
  rw [Nat.div_eq_of_lt hlt, Nat.mod_eq_of_lt hlt]
  obtain ⟨A1, c1, e1, s1⟩ := viewV_sl ha
  obtain ⟨B1, d1, e2, s2⟩ := viewV_sl hb
  have l1 := tl_le x n
  have l2 := tl_le y m
  have V1 := view_raw A n c x w ha (by omega)
  have V2 := view_raw B m d y w hb (by omega)
  rw [e1] at V1
  rw [e2] at V2
  rw [← vs_tl B64 x n] at hlt ⊢
  rw [← vs_tl B64 y m] at hlt
  clear e1 e2
  generalize tl x n = p at *
  have hq0 : 0 < tl y m := by
    rcases Nat.eq_zero_or_pos (tl y m) with h | h
    · rw [h, vs_zero] at hlt; omega
    · exact h
  generalize tl y m = q at *
  have V3 := cmp_any A1 B1 p q c1 d1 x y w s1 s2 (by omega) (by omega)
  rw [cmpN_lt hlt] at V3
  have H1 := Lib.hid V1
  have H2 := Lib.hid V2
  have H3 := Lib.hid V3
  have hqb : ((q : Int) == 0) = false := by simp; omega
  clear V1 V2 V3
  go_enter Try.func15, Try.ntmps15
  go_wp2_with fail
  refine H1.out.mono ?_
  rintro e w' ⟨rfl, rfl⟩
  go_wp2_with fail
  refine H2.out.mono ?_
  rintro e w' ⟨rfl, rfl⟩
  go_wp2_with fail
  refine H3.out.mono ?_
  rintro e w1 ⟨rfl, b1⟩
  go_wp2_with fail
  refine (trim_any A1 p c1 x w1 (s1.below b1) (by omega)).mono ?_
  rintro e w2 ⟨v, rfl, hnum, b2⟩
  go_wp2_with fail
  go_ret3
  exact ⟨_, v, rfl, ⟨none, 0, 0, x, rfl, Sl.none_ _ _ _ _, .inl rfl, rfl⟩, hnum, b1.trans (b2.mono b1.size)⟩

set_option maxHeartbeats 400000 in
theorem divmod_long (A B : Option Addr) (n m c d : Nat) (x y : Nat → Nat) (w : World) (ha : Sl w A n c x) (hb : Sl w B m d y) (hn : n ≤ 300000) (hm : m ≤ 300000) (ht : 2 ≤ tl y m) (hle : vs B64 y m ≤ vs B64 x n) :
    Calls Try.prog 15 #[.slice A n c, .slice B m d] w (QuoPost w (vs B64 x n / vs B64 y m) (vs B64 x n % vs B64 y m)) := by
  obtain ⟨A1, c1, e1, s1⟩ := viewV_sl ha
  obtain ⟨B1, d1, e2, s2⟩ := viewV_sl hb
  have l1 := tl_le x n
  have V1 := view_raw A n c x w ha (by omega)
  have V2 := view_raw B m d y w hb (by omega)
  have l2 := tl_le y m
  have cy := tl_cn y m
  rw [e1] at V1
  rw [e2] at V2
  rw [← vs_tl B64 x n, ← vs_tl B64 y m] at hle ⊢
  clear e1 e2
  generalize tl x n = p at *
  generalize tl y m = q at *
  obtain ⟨k, rfl⟩ : ∃ k, q = k + 2 := ⟨q - 2, by omega⟩
  have hqp : k + 2 ≤ p := cn_le B64_gt cy (Nat.lt_of_le_of_lt hle (vs_lt s1.small))
  have htop : 0 < y (k + 1) := by
    rcases cy with h | h
    · omega
    · have : k + 2 - 1 = k + 1 := by omega
      rw [this] at h; omega
  obtain ⟨bd, rfl, _, _, _⟩ := s2.at_ (k := 0) (by omega)
  have V3 := cmp_any A1 (some bd) p (k + 2) c1 d1 x y w s1 s2 (by omega) (by omega)
  obtain ⟨r, hr0, hr1⟩ : ∃ r : Nat, cmpN (vs B64 x p) (vs B64 y (k + 2)) = (r : Int) ∧ r ≤ 1 := by
    rcases Nat.lt_or_ge (vs B64 y (k + 2)) (vs B64 x p) with h | h
    · exact ⟨1, by rw [cmpN_gt h]; rfl, by omega⟩
    · exact ⟨0, by rw [Nat.le_antisymm h hle, cmpN_eq]; rfl, by omega⟩
  rw [hr0] at V3
  clear hr0
  have H1 := Lib.hid V1
  have H2 := Lib.hid V2
  have H3 := Lib.hid V3
  clear V1 V2 V3 hle
  have L : Hid (∀ w1, Below w.heap.size w w1 → Calls Try.prog 35 #[.slice A1 p c1, .slice (some bd) (k + 2) d1] w1 (LongPost w1 (vs B64 x p / vs B64 y (k + 2)) (vs B64 x p % vs B64 y (k + 2)))) :=
    Lib.hid fun w1 b1 => divLong_any A1 bd p k c1 d1 x y w1 (s1.below b1) (s2.below b1) hqp (by omega) htop
  generalize vs B64 x p / vs B64 y (k + 2) = Q at *
  generalize vs B64 x p % vs B64 y (k + 2) = R at *
  have hk0 : ((k : Int) + 2 == 0) = false := by simp; omega
  have hk1 : ((k : Int) + 2 == 1) = false := by simp; omega
  go_enter Try.func15, Try.ntmps15
  go_wp2_with fail
  refine H1.out.mono ?_
  rintro e w' ⟨rfl, rfl⟩
  go_wp2_with fail
  refine H2.out.mono ?_
  rintro e w' ⟨rfl, rfl⟩
  go_wp2_with fail
  refine H3.out.mono ?_
  rintro e w1 ⟨rfl, b1⟩
  go_wp2_with fail
  refine (L.out w1 b1).mono ?_
  rintro e w2 ⟨v, u, rfl, n1, n2, b2⟩
  go_wp2_with fail
  go_ret3
  exact ⟨v, u, rfl, n1, n2, b1.trans (b2.mono b1.size)⟩

theorem divmod_any (A B : Option Addr) (n m c d : Nat) (x y : Nat → Nat) (w : World) (ha : Sl w A n c x) (hb : Sl w B m d y) (hn : n ≤ 300000) (hm : m ≤ 300000) (h0 : 0 < vs B64 y m) :
    Calls Try.prog 15 #[.slice A n c, .slice B m d] w (QuoPost w (vs B64 x n / vs B64 y m) (vs B64 x n % vs B64 y m)) := by
  rcases Nat.lt_or_ge (vs B64 x n) (vs B64 y m) with h | h
  · exact divmod_less A B n m c d x y w ha hb (by omega) (by omega) h
  · rcases Nat.lt_or_ge (tl y m) 2 with h1 | h1
    · have h2 : tl y m = 1 := by
        have : tl y m ≠ 0 := fun e => by
          have h3 := vs_tl B64 y m
          rw [e, vs_zero] at h3
          omega
        omega
      have l2 := tl_le y m
      exact divmod_word A B n m c d x y w ha hb (by omega) (by omega) h2 h (Lib.hid fun hi lo u a1 a2 _ => div64_any hi lo (y 0) u a1 (hb.small 0 (by omega)) a2)
    · exact divmod_long A B n m c d x y w ha hb hn hm h1 h
end Go.Proofs.Ythjndkkepailmaa
