/-
  volvellelaw09.BitsNext.
  volvellelaw09.BitsNumbers.
  volvellelaw09.BitsOrder.
  volvellelaw09.BitsWords.
-/
import Derived.Test.YtkjlkgfnjbickaaDoorPlBGDy9
import Derived.Test.YtkjlkgfnjbickaaDoorPlBGBN
namespace Go.Proofs.YtkjlkgfnjbickaaDoor
open Go.RowKit

theorem next_cases {b : Nat} {up : Bool} (hb : b < B64) : (∃ n, nextN b up = (n, false) ∧ n = 0) ∨ ∃ n m, nextN b up = (n, true) ∧ n < B64 ∧ m < B64 ∧ nextN n (!up) = (m, true) ∧ (m = b ∨ (kindN b = 0 ∧ kindN m = 0)) := by
  have h1 := next_lt (b := b) up hb
  rcases h : nextN b up with ⟨n, ok⟩
  have h2 := next_no (b := b) (up := up)
  have h3 := next_back (b := b) (up := up) hb
  rw [h] at h1 h2 h3
  cases ok
  · exact .inl ⟨n, rfl, h2 rfl⟩
  · obtain ⟨h4, h5⟩ := h3 rfl
    have h6 := next_lt (b := n) (!up) h1
    rcases h7 : nextN n (!up) with ⟨m, k⟩
    rw [h7] at h4 h5 h6
    simp only at h4 h5 h6
    subst h4
    exact .inr ⟨n, m, rfl, h1, h6, h7, h5⟩

set_option maxHeartbeats 2000000 in
theorem lnext_any (b : Nat) (up : Bool) (w : World) (hb : b < B64) (hT : Tab w) : Calls Tryd.prog 5 #[.int .u64 (b : Int), .bool up] w (TruePost w) := by
  have AW := Lib.hid (awake9 w hT)
  have N1 := Lib.hid (fun w' => next_any b up w' hb)
  have N2 := Lib.hid (fun w' => rnext_any b up w' hb)
  have KA := Lib.hid (fun w' => kind_any b w' hb)
  rcases next_cases (up := up) hb with ⟨n, h1, rfl⟩ | ⟨n, m, h1, hn, hm, h2, h3⟩
  · rw [h1] at N1 N2
    clear h1
    go_enter Tryd.func5, Tryd.ntmps5
    go_wp2_with fail
    refine AW.out.mono ?_
    rintro e' w1 ⟨rfl, b1⟩
    go_wp2_with fail
    refine (N1.out _).mono ?_
    rintro e' w2 ⟨rfl, rfl⟩
    go_wp2_with fail
    refine (N2.out _).mono ?_
    rintro e' w2 ⟨rfl, rfl⟩
    go_wp2_with fail
    go_ret
    exact ⟨rfl, b1⟩
  · have N3 := Lib.hid (fun w' => next_any n (!up) w' hn)
    have KB := Lib.hid (fun w' => kind_any m w' hm)
    rw [h1] at N1 N2
    rw [h2] at N3
    clear h1 h2 hm hn
    by_cases h4 : m = b
    · subst h4
      clear h3 KA KB
      go_enter Tryd.func5, Tryd.ntmps5
      go_wp2_with fail
      refine AW.out.mono ?_
      rintro e' w1 ⟨rfl, b1⟩
      go_wp2_with fail
      refine (N1.out _).mono ?_
      rintro e' w2 ⟨rfl, rfl⟩
      go_wp2_with fail
      refine (N2.out _).mono ?_
      rintro e' w2 ⟨rfl, rfl⟩
      go_wp2_with fail
      refine (N3.out _).mono ?_
      rintro e' w2 ⟨rfl, rfl⟩
      go_wp2_with fail
      go_ret
      exact ⟨rfl, b1⟩
    · rcases h3 with h3 | ⟨h3, h5⟩
      · exact absurd h3 h4
      · rw [h3] at KA
        rw [h5] at KB
        have h6 : ((m : Int) == (b : Int)) = false := by simp; omega
        clear h3 h5 h4
        go_enter Tryd.func5, Tryd.ntmps5
        go_wp2_with fail
        refine AW.out.mono ?_
        rintro e' w1 ⟨rfl, b1⟩
        go_wp2_with fail
        refine (N1.out _).mono ?_
        rintro e' w2 ⟨rfl, rfl⟩
        go_wp2_with fail
        refine (N2.out _).mono ?_
        rintro e' w2 ⟨rfl, rfl⟩
        go_wp2_with fail
        refine (N3.out _).mono ?_
        rintro e' w2 ⟨rfl, rfl⟩
        go_wp2_with fail
        refine (KA.out _).mono ?_
        rintro e' w2 ⟨rfl, rfl⟩
        go_wp2_with fail
        refine (KB.out _).mono ?_
        rintro e' w2 ⟨rfl, rfl⟩
        go_wp2_with fail
        go_ret
        exact ⟨rfl, b1⟩
end Go.Proofs.YtkjlkgfnjbickaaDoor

namespace Go.Proofs.YtkjlkgfnjbickaaDoor
open Go.RowKit

theorem num_m (b : Nat) : (numD b).m < B64 ^ 256 := by
  unfold numD
  split
  · exact Nat.pow_pos B64_pos
  · split <;> exact mkD_m_bits _ _ _
theorem nb_of_words {V K : Nat} (h : V < B64 ^ K) : nb V ≤ 64 * K := by
  rw [B64_pow, ← Nat.pow_mul] at h
  exact (nb_le_iff _ _).2 h
/-- Word of a number that lies in memory canonically. -/
theorem wordNum {A : Option Addr} {p c V : Nat} (neg : Bool) (e : Int) (w : World) (h : Num w (.slice A p c) V) (hV : V < B64 ^ 256) :
    Calls Tryd.prog 15 #[.agg #[.bool neg, .slice A p c, .int .i64 e]] w (WP w (wordP (plainV neg V e) neg V e)) := by
  obtain ⟨_, _, _, f, hh, hs, hn, hc, rfl⟩ := h.raw 256 (nb_of_words hV)
  cases hh
  have := word_any neg _ _ _ f e w hs (by omega)
  rw [plain_V hc] at this
  exact this
/-- What Word answers of a word's number. -/
theorem word_back {b : Nat} (hb : b < B64) (h : (numD b).ok = true) : wordP (plainV (numD b).neg (numD b).m (numD b).e) (numD b).neg (numD b).m (numD b).e = (if kindN b = 0 then 0 else b, true) := by
  have hx : exN b ≠ 2047 := fun hx => by rw [num_no hx] at h; cases h
  obtain ⟨V, e, g, _, _⟩ := good_num hx
  rw [g.plain]
  unfold wordP
  rw [if_pos rfl]
  exact (word_num hb hx).2

set_option maxRecDepth 8000 in
set_option maxHeartbeats 4000000 in
theorem lnums_any (b : Nat) (w : World) (hb : b < B64) (hT : Tab w) : Calls Tryd.prog 3 #[.int .u64 (b : Int)] w (TruePost w) := by
  have AW := Lib.hid (awake9 w hT)
  have N1 := Lib.hid (fun w' (b' : Below w.heap.size w w') => number_any b w' hb (hT.below b'))
  have N2 := Lib.hid (fun w' (b' : Below w.heap.size w w') => rnumber_any b w' hb (hT.below b'))
  have KA := Lib.hid (fun w' => kind_any b w' hb)
  have KB := Lib.hid (fun w' => rkind_any b w' hb)
  have G1 := Lib.hid (fun w' => neg_word b w' hb)
  have G2 := Lib.hid (fun w' => rneg_word b w')
  have HM := Lib.hid (num_m b)
  have HB := Lib.hid (fun h => word_back hb h)
  have HK := Lib.hid (kind_le b)
  generalize numD b = r at *
  generalize sgB b = s at *
  generalize kindN b = k at *
  go_enter Tryd.func3, Tryd.ntmps3
  go_wp2_with fail
  refine AW.out.mono ?_
  rintro e' w1 ⟨rfl, b1⟩
  clear AW
  go_wp2_with fail
  refine (N1.out _ b1).mono ?_
  rintro e' w2 h2
  obtain ⟨A, p, c, rfl, n2, bb⟩ := h2.dp
  have b2 := below_step b1 bb
  clear bb h2 N1 b1
  have bb := alloc_bel w2 (cd3 (.bool r.neg) (.slice A p c) (.int .i64 r.e))
  have k3 := K3.made w2 (.bool r.neg) (.slice A p c) (.int .i64 r.e)
  replace n2 := n2.below bb
  have b3 := below_step b2 bb
  clear bb b2
  go_wp2_with fail
  generalize w2.alloc (cd3 (.bool r.neg) (.slice A p c) (.int .i64 r.e)) = w3 at *
  refine (N2.out _ b3).mono ?_
  rintro e' w4 h2
  obtain ⟨A4, p4, c4, rfl, n4, bb⟩ := h2.dp
  have b4 := below_step b3 bb
  replace n2 := n2.below bb
  replace k3 := k3.adv bb
  clear bb h2 N2 b3
  have bb := alloc_bel w4 (cd3 (.bool r.neg) (.slice A4 p4 c4) (.int .i64 r.e))
  have k5 := K3.made w4 (.bool r.neg) (.slice A4 p4 c4) (.int .i64 r.e)
  replace n2 := n2.below bb
  replace n4 := n4.below bb
  replace k3 := k3.adv bb
  have b5 := below_step b4 bb
  clear bb b4
  go_wp2_with fail
  generalize w4.alloc (cd3 (.bool r.neg) (.slice A4 p4 c4) (.int .i64 r.e)) = w5 at *
  refine (KA.out _).mono ?_
  rintro e' w6 ⟨rfl, rfl⟩
  go_wp2_with fail
  refine (KB.out _).mono ?_
  rintro e' w6 ⟨rfl, rfl⟩
  go_wp2_with fail
  refine (G1.out _).mono ?_
  rintro e' w6 ⟨rfl, rfl⟩
  go_wp2_with fail
  refine (G2.out _).mono ?_
  rintro e' w6 ⟨rfl, rfl⟩
  clear KB G1 G2
  have SA := Lib.hid (dsame_any r.neg r.e w5 n2 n4 256 (by omega) HM.out)
  obtain ⟨c0, c1, c2, c3⟩ := k3.cell
  obtain ⟨d0, d1, d2, d3⟩ := k5.cell
  go_wp2_with fail
  refine SA.out.mono ?_
  rintro e' w6 ⟨rfl, bb⟩
  have b6 := below_step b5 bb
  replace n2 := n2.below bb
  replace k3 := k3.adv bb
  clear SA bb c0 c1 c2 c3 d0 d1 d2 d3 k5 n4 b5
  rcases hok : r.ok with _ | _
  · go_wp2_with fail
    go_ret
    exact ⟨rfl, b6⟩
  · have HW := Lib.hid (HB.out hok)
    have W1 := Lib.hid (wordNum r.neg r.e w6 n2 HM.out)
    rw [HW.out] at W1
    obtain ⟨c0, c1, c2, c3⟩ := k3.cell
    go_wp2_with fail
    refine W1.out.mono ?_
    rintro e' w7 ⟨rfl, bb⟩
    have b7 := below_step b6 bb
    clear W1 bb c0 c1 c2 c3 HW HB HM n2 k3
    by_cases hk : k = 0
    · subst hk
      rw [if_pos rfl]
      by_cases h0 : b = 0
      · subst h0
        go_wp2_with fail
        go_ret
        exact ⟨rfl, b7⟩
      · have h1 : ((0 : Int) == (b : Int)) = false := by simp; omega
        go_wp2_with fail
        refine (KA.out _).mono ?_
        rintro e' w8 ⟨rfl, rfl⟩
        go_wp2_with fail
        go_ret
        exact ⟨rfl, b7⟩
    · rw [if_neg hk]
      go_wp2_with fail
      go_ret
      exact ⟨rfl, b7⟩
end Go.Proofs.YtkjlkgfnjbickaaDoor

namespace Go.Proofs.YtkjlkgfnjbickaaDoor
open Go.RowKit

/-- Cmp of two numbers that lie in memory canonically. -/
theorem cmpNum {A B : Option Addr} {n c m d V U : Nat} (na nb' : Bool) (ea eb : Int) (w : World) (h : Num w (.slice A n c) V) (h' : Num w (.slice B m d) U) (hV : V < B64 ^ 256) (hU : U < B64 ^ 256) (hp : plainV na V ea = true) (hq : plainV nb' U eb = true) :
    Calls Tryd.prog 19 #[.agg #[.bool na, .slice A n c, .int .i64 ea], .agg #[.bool nb', .slice B m d, .int .i64 eb]] w (CmpP w (ordD na nb' V U ea eb) true) := by
  obtain ⟨_, _, _, f, hh, hs, hn, hc, rfl⟩ := h.raw 256 (nb_of_words hV)
  cases hh
  obtain ⟨_, _, _, g, hh, hs', hm, hc', rfl⟩ := h'.raw 256 (nb_of_words hU)
  cases hh
  have := dcmp_any na nb' _ _ _ _ _ _ f g ea eb w hs hs' (by omega) (by omega)
  rw [plain_V hc, plain_V hc', hp, hq] at this
  exact this
theorem num_plain {b : Nat} (h : (numD b).ok = true) : exN b ≠ 2047 ∧ plainV (numD b).neg (numD b).m (numD b).e = true := by
  have hx : exN b ≠ 2047 := fun hx => by rw [num_no hx] at h; cases h
  obtain ⟨V, e, g, _, _⟩ := good_num hx
  exact ⟨hx, g.plain⟩

set_option maxRecDepth 8000 in
set_option maxHeartbeats 4000000 in
theorem lorder_any (b c : Nat) (w : World) (hb : b < B64) (hc : c < B64) (hT : Tab w) : Calls Tryd.prog 6 #[.int .u64 (b : Int), .int .u64 (c : Int)] w (TruePost w) := by
  have AW := Lib.hid (awake9 w hT)
  have NX1 := Lib.hid (fun w' => next_any b true w' hb)
  have hn := next_lt (b := b) true hb
  have N1 := Lib.hid (fun w' (b' : Below w.heap.size w w') => number_any b w' hb (hT.below b'))
  have N2 := Lib.hid (fun w' (b' : Below w.heap.size w w') => number_any _ w' hn (hT.below b'))
  have N3 := Lib.hid (fun w' (b' : Below w.heap.size w w') => number_any c w' hc (hT.below b'))
  have M1 := Lib.hid (num_m b)
  have M2 := Lib.hid (num_m (nextN b true).1)
  have M3 := Lib.hid (num_m c)
  have P1 := Lib.hid (fun h => num_plain (b := b) h)
  have P2 := Lib.hid (fun h => num_plain (b := (nextN b true).1) h)
  have P3 := Lib.hid (fun h => num_plain (b := c) h)
  have HL := Lib.hid (fun (h : (nextN b true).2 = true) (hx : exN b ≠ 2047) (hy : exN (nextN b true).1 ≠ 2047) => (show ordB b (nextN b true).1 < 0 from num_lt hx hy (next_val hb h).1))
  have HC := Lib.hid (fun (h : (nextN b true).2 = true) (hx : exN b ≠ 2047) (hy : exN (nextN b true).1 ≠ 2047) (hz : exN c ≠ 2047) => (show ordB c b ≤ 0 ∨ 0 ≤ ordB c (nextN b true).1 from
    ((next_val hb h).2 c hc).imp (fun h => num_le hz hx h) (fun h => num_ge' hz hy h)))
  unfold ordB at HL HC
  generalize nextN b true = q at *
  obtain ⟨n, ok⟩ := q
  simp only at hn N2 M2 P2 HL HC
  generalize numD b = x at *
  generalize numD n = y at *
  generalize numD c = z at *
  go_enter Tryd.func6, Tryd.ntmps6
  go_wp2_with fail
  refine AW.out.mono ?_
  rintro e' w1 ⟨rfl, b1⟩
  clear AW
  go_wp2_with fail
  refine (NX1.out _).mono ?_
  rintro e' w2 ⟨rfl, rfl⟩
  clear NX1
  go_wp2_with fail
  refine (N1.out _ b1).mono ?_
  rintro e' w2 h2
  obtain ⟨A, p, cp, rfl, n1, bb⟩ := h2.dp
  have b2 := below_step b1 bb
  clear bb h2 N1 b1
  have bb := alloc_bel w2 (cd3 (.bool x.neg) (.slice A p cp) (.int .i64 x.e))
  have k1 := K3.made w2 (.bool x.neg) (.slice A p cp) (.int .i64 x.e)
  replace n1 := n1.below bb
  have b3 := below_step b2 bb
  clear bb b2
  go_wp2_with fail
  generalize w2.alloc (cd3 (.bool x.neg) (.slice A p cp) (.int .i64 x.e)) = w3 at *
  refine (N2.out _ b3).mono ?_
  rintro e' w4 h2
  obtain ⟨A4, p4, c4, rfl, n2, bb⟩ := h2.dp
  have b4 := below_step b3 bb
  replace n1 := n1.below bb
  replace k1 := k1.adv bb
  clear bb h2 N2 b3
  have bb := alloc_bel w4 (cd3 (.bool y.neg) (.slice A4 p4 c4) (.int .i64 y.e))
  have k2 := K3.made w4 (.bool y.neg) (.slice A4 p4 c4) (.int .i64 y.e)
  replace n1 := n1.below bb
  replace n2 := n2.below bb
  replace k1 := k1.adv bb
  have b5 := below_step b4 bb
  clear bb b4
  go_wp2_with fail
  generalize w4.alloc (cd3 (.bool y.neg) (.slice A4 p4 c4) (.int .i64 y.e)) = w5 at *
  refine (N3.out _ b5).mono ?_
  rintro e' w6 h2
  obtain ⟨A6, p6, c6, rfl, n3, bb⟩ := h2.dp
  have b6 := below_step b5 bb
  replace n1 := n1.below bb
  replace n2 := n2.below bb
  replace k1 := k1.adv bb
  replace k2 := k2.adv bb
  clear bb h2 N3 b5
  obtain ⟨c0, c1, c2, c3⟩ := k1.cell
  obtain ⟨d0, d1, d2, d3⟩ := k2.cell
  have bb := alloc_bel w6 (cd3 (.bool z.neg) (.slice A6 p6 c6) (.int .i64 z.e))
  have k3 := K3.made w6 (.bool z.neg) (.slice A6 p6 c6) (.int .i64 z.e)
  replace n1 := n1.below bb
  replace n2 := n2.below bb
  replace n3 := n3.below bb
  replace k1 := k1.adv bb
  replace k2 := k2.adv bb
  have b7 := below_step b6 bb
  clear bb b6
  rcases hok : ok with _ | _
  · go_wp2_with fail
    go_ret
    exact ⟨rfl, b7⟩
  rcases hx : x.ok with _ | _
  · go_wp2_with fail
    go_ret
    exact ⟨rfl, b7⟩
  rcases hy : y.ok with _ | _
  · go_wp2_with fail
    go_ret
    exact ⟨rfl, b7⟩
  obtain ⟨x1, x2⟩ := P1.out hx
  obtain ⟨y1, y2⟩ := P2.out hy
  have HLT := HL.out hok x1 y1
  have C1 := Lib.hid (cmpNum x.neg y.neg x.e y.e _ n1 n2 M1.out M2.out x2 y2)
  generalize ordD x.neg y.neg x.m y.m x.e y.e = o at *
  have hge : decide (0 ≤ o) = false := decide_eq_false (by omega)
  clear P1 P2 HL
  go_wp2_with fail
  clear c0 c1 c2 c3 d0 d1 d2 d3
  generalize w6.alloc (cd3 (.bool z.neg) (.slice A6 p6 c6) (.int .i64 z.e)) = w7 at *
  refine C1.out.mono ?_
  rintro e' w8 ⟨rfl, bb⟩
  have b8 := below_step b7 bb
  replace n1 := n1.below bb
  replace n2 := n2.below bb
  replace n3 := n3.below bb
  replace k1 := k1.adv bb
  replace k2 := k2.adv bb
  replace k3 := k3.adv bb
  clear bb b7 C1
  rcases hz : z.ok with _ | _
  · go_wp2_with fail
    go_ret
    exact ⟨rfl, b8⟩
  obtain ⟨z1, z2⟩ := P3.out hz
  have HOR := HC.out hok x1 y1 z1
  have C2 := Lib.hid (cmpNum z.neg x.neg z.e x.e _ n3 n1 M3.out M1.out z2 x2)
  have C3 := Lib.hid (fun w' (bb : Below w8.heap.size w8 w') => cmpNum z.neg y.neg z.e y.e _ (n3.below bb) (n2.below bb) M3.out M2.out z2 y2)
  generalize ordD z.neg x.neg z.m x.m z.e x.e = o2 at *
  generalize ordD z.neg y.neg z.m y.m z.e y.e = o3 at *
  obtain ⟨c0, c1, c2, c3⟩ := k1.cell
  obtain ⟨f0, f1, f2, f3⟩ := k3.cell
  clear P3 HC HLT
  go_wp2_with fail
  refine C2.out.mono ?_
  rintro e' w9 ⟨rfl, bb⟩
  have b9 := below_step b8 bb
  have C4 := Lib.hid (C3.out _ bb)
  replace k2 := k2.adv bb
  replace k3 := k3.adv bb
  clear bb b8 C2 C3 c0 c1 c2 c3 f0 f1 f2 f3 n1 n2 n3 k1
  obtain ⟨d0, d1, d2, d3⟩ := k2.cell
  obtain ⟨f0, f1, f2, f3⟩ := k3.cell
  go_wp2_with fail
  refine C4.out.mono ?_
  rintro e' w10 ⟨rfl, bb⟩
  have b10 := below_step b9 bb
  clear bb b9 C4 d0 d1 d2 d3 f0 f1 f2 f3
  by_cases h1 : o2 ≤ 0
  · have h2 : decide (o2 ≤ 0) = true := decide_eq_true h1
    go_wp2_with fail
    go_ret
    exact ⟨rfl, b10⟩
  · have h2 : decide (o2 ≤ 0) = false := decide_eq_false h1
    have h3 : decide (0 ≤ o3) = true := decide_eq_true (HOR.resolve_left h1)
    go_wp2_with fail
    go_ret
    exact ⟨rfl, b10⟩
end Go.Proofs.YtkjlkgfnjbickaaDoor

namespace Go.Proofs.YtkjlkgfnjbickaaDoor
open Go.RowKit

set_option maxHeartbeats 2000000 in
theorem lwords_any (neg : Bool) (A : Option Addr) (n c : Nat) (x : Nat → Nat) (e : Int) (w : World) (ha : Sl w A n c x) (hn : n ≤ 9223372036854775807) (hT : Tab w) :
    Calls Tryd.prog 4 #[dyv neg A n c e] w (TruePost w) := by
  have b1 := alloc_bel w (cd3 (.bool neg) (.slice A n c) (.int .i64 e))
  have k1 := K3.made w (.bool neg) (.slice A n c) (.int .i64 e)
  have AW := Lib.hid (awake9 _ (hT.below b1))
  go_enter Tryd.func4, Tryd.ntmps4
  go_wp2_with fail
  refine AW.out.mono ?_
  generalize w.alloc (cd3 (.bool neg) (.slice A n c) (.int .i64 e)) = w1 at *
  rintro e' w2 ⟨rfl, b⟩
  have b2 := below_step b1 b
  replace k1 := k1.adv b
  have a2 := ha.below b2
  clear b AW b1
  obtain ⟨c0, c1, c2, c3⟩ := k1.cell
  by_cases h : 100 < n
  · have h1 : decide ((100 : Int) < (n : Int)) = true := decide_eq_true (by omega)
    go_wp2_with fail
    go_ret
    exact ⟨rfl, b2⟩
  · have h1 : decide ((100 : Int) < (n : Int)) = false := decide_eq_false (by omega)
    have W1 := Lib.hid (word_any neg A n c x e w2 a2 (by omega))
    have W2 := Lib.hid (fun w' (b : Below w2.heap.size w2 w') => rword_any neg A n c x e w' (a2.below b) (by omega))
    generalize wordP (plainB neg n x e) neg (vs B64 x n) e = p at *
    obtain ⟨p, ok⟩ := p
    go_wp2_with fail
    refine W1.out.mono ?_
    rintro e' w3 ⟨rfl, b⟩
    replace k1 := k1.adv b
    have b3 := below_step b2 b
    have W3 := Lib.hid (W2.out _ b)
    clear W1 W2 c0 c1 c2 c3 b
    obtain ⟨c0, c1, c2, c3⟩ := k1.cell
    go_wp2_with fail
    refine W3.out.mono ?_
    rintro e' w4 ⟨rfl, b⟩
    have b4 := below_step b3 b
    go_wp2_with fail
    go_ret
    exact ⟨rfl, b4⟩
end Go.Proofs.YtkjlkgfnjbickaaDoor
