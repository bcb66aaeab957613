/-
  volvellelaw10.awake: 2^53 and 1; Few.
  volvellelaw10.RoundAmong.
  volvellelaw10.RoundExact.
  volvellelaw10.RoundStays.
  volvellelaw10.RoundOrder.
-/
import Derived.Test.YtilmbdbcgbndmaaDoorPlOGDy8
import Derived.Test.YtilmbdbcgbndmaaDoorPlOGDy9
import Derived.Test.YtilmbdbcgbndmaaDoorPlOGDy11
import Derived.Test.YtilmbdbcgbndmaaDoorPlOGDy12
import Derived.Test.YtilmbdbcgbndmaaDoorPlOGBN
import Derived.Test.YtilmbdbcgbndmaaDoorPlOGON
import Derived.Test.YtilmbdbcgbndmaaDoorPlOGOR
import Derived.Test.YtilmbdbcgbndmaaDoorPlOGOC
namespace Go.Proofs.YtilmbdbcgbndmaaDoor
open Go.RowKit

theorem exact_one0 : exactV true false 9007199254740993 0 0 = (4845873199050653696, 1, true) := by decide +kernel
theorem exact_one2 : exactV true false 9007199254740993 0 2 = (4845873199050653697, 1, true) := by decide +kernel
theorem nb_one53 : nb 9007199254740993 = 54 := nb_of (B := 53) (by decide +kernel) (by decide +kernel)

set_option maxRecDepth 8000 in
set_option maxHeartbeats 2000000 in
theorem awake10 (w : World) (hT : Tab w) : Calls Tryd.prog 7 #[] w (TruePost w) := by
  have ba := alloc_bel w (cw 9007199254740993)
  have sa := slw w 9007199254740993 w.heap.size (by unfold B64; omega) rfl
  have bb := alloc_bel (w.alloc (cw 9007199254740993)) (cd3 (.bool false) (.slice (some ⟨w.heap.size, 0, none⟩) 1 1) (.int .i64 0))
  have k1 := K3.made (w.alloc (cw 9007199254740993)) (.bool false) (.slice (some ⟨w.heap.size, 0, none⟩) 1 1) (.int .i64 0)
  have b1 := below_step ba bb
  have s1 := sa.below bb
  have X1 := Lib.hid (oexact_any false _ 1 1 _ 0 0 _ s1 (by omega) (hT.below b1))
  have X2 := Lib.hid (fun w' (b : Below ((w.alloc (cw 9007199254740993)).alloc (cd3 (.bool false) (.slice (some ⟨w.heap.size, 0, none⟩) 1 1) (.int .i64 0))).heap.size ((w.alloc (cw 9007199254740993)).alloc (cd3 (.bool false) (.slice (some ⟨w.heap.size, 0, none⟩) 1 1) (.int .i64 0))) w') => oexact_any false _ 1 1 _ 0 2 w' (s1.below b) (by omega) (hT.below (below_step b1 b)))
  rw [plain_one 9007199254740993 (by decide) (by rw [nb_one53]; omega), vs_one] at X1 X2
  rw [exact_one0] at X1
  rw [exact_one2] at X2
  rw [show (w.alloc (cw 9007199254740993)).heap.size = w.heap.size + 1 by simp] at k1
  clear ba sa bb s1
  go_enter Tryd.func7, Tryd.ntmps7
  go_wp2_with fail
  refine X1.out.mono ?_
  clear X1
  generalize (w.alloc (cw 9007199254740993)).alloc (cd3 (.bool false) (.slice (some ⟨w.heap.size, 0, none⟩) 1 1) (.int .i64 0)) = w1 at *
  rintro e' w2 ⟨rfl, b⟩
  have b2 := below_step b1 b
  replace k1 := k1.adv b
  have X3 := Lib.hid (X2.out _ b)
  clear X2 b b1
  obtain ⟨c0, c1, c2, c3⟩ := k1.cell
  go_wp2_with fail
  refine X3.out.mono ?_
  rintro e' w3 ⟨rfl, b⟩
  have b3 := below_step b2 b
  clear X3 b b2 c0 c1 c2 c3
  go_wp2_with fail
  go_ret
  exact ⟨rfl, b3⟩
theorem few10 (neg : Bool) (A : Option Addr) (n c : Nat) (E : Int) (w : World) (hn : n ≤ 9223372036854775807) :
    Calls Tryd.prog 8 #[.agg #[.bool neg, .slice A n c, .int .i64 E]] w (BoolPost w (decide (n ≤ 100))) := by
  have b1 := alloc_bel w (cd3 (.bool neg) (.slice A n c) (.int .i64 E))
  have hd : decide ((n : Int) ≤ 100) = decide (n ≤ 100) := by rw [decide_eq_decide]; omega
  go_enter Tryd.func8, Tryd.ntmps8
  go_wp2_with fail
  go_ret
  exact ⟨by rw [← hd]; rfl, b1⟩
end Go.Proofs.YtilmbdbcgbndmaaDoor

namespace Go.Proofs.YtilmbdbcgbndmaaDoor
open Go.RowKit

set_option maxRecDepth 8000 in
set_option maxHeartbeats 4000000 in
theorem lramong_any (na nb' : Bool) (A B : Option Addr) (n c m d : Nat) (x y : Nat → Nat) (ea eb mode : Int) (w : World) (ha : Sl w A n c x) (hb : Sl w B m d y) (hn : n ≤ 9223372036854775807) (hm : m ≤ 9223372036854775807) (hT : Tab w) :
    Calls Tryd.prog 4 #[spv na A n c ea nb' B m d eb, .int .i64 mode] w (TruePost w) := by
  have b1 := alloc_bel w (co6 (.bool na) (.slice A n c) (.int .i64 ea) (.bool nb') (.slice B m d) (.int .i64 eb))
  have k1 := K6.made w (.bool na) (.slice A n c) (.int .i64 ea) (.bool nb') (.slice B m d) (.int .i64 eb)
  have AW := Lib.hid (awake10 _ (hT.below b1))
  have FA := Lib.hid (fun w' => few10 na A n c ea w' hn)
  have FB := Lib.hid (fun w' => few10 nb' B m d eb w' hm)
  have X1 := Lib.hid (fun w' (b : Below w.heap.size w w') (h : n ≤ 400000) (h' : m ≤ 400000) => oamong_any na nb' A B n c m d x y ea eb mode w' (ha.below b) (hb.below b) h h' (hT.below b))
  have X2 := Lib.hid (fun w' (b : Below w.heap.size w w') (h : n ≤ 400000) (h' : m ≤ 400000) => ramong_any na nb' A B n c m d x y ea eb mode w' (ha.below b) (hb.below b) h h' (hT.below b))
  have X3 := Lib.hid (fun w' (b : Below w.heap.size w w') (h : n ≤ 400000) (h' : m ≤ 400000) => oends_any na nb' A B n c m d x y ea eb w' (ha.below b) (hb.below b) h h' (hT.below b))
  have X4 := Lib.hid (fun w' (b : Below w.heap.size w w') (h : n ≤ 400000) (h' : m ≤ 400000) => rends_any na nb' A B n c m d x y ea eb w' (ha.below b) (hb.below b) h h' (hT.below b))
  generalize amongV (rightB (plainB na n x ea && plainB nb' m y eb) na nb' (vs B64 x n) (vs B64 y m) ea eb) na nb' (vs B64 x n) (vs B64 y m) ea eb mode = p at *
  generalize endsV (rightB (plainB na n x ea && plainB nb' m y eb) na nb' (vs B64 x n) (vs B64 y m) ea eb) na nb' (vs B64 x n) (vs B64 y m) ea eb = q at *
  obtain ⟨p0, p1, p2⟩ := p
  obtain ⟨q0, q1, q2⟩ := q
  clear ha hb hT
  go_enter Tryd.func4, Tryd.ntmps4
  go_wp2_with fail
  refine AW.out.mono ?_
  generalize w.alloc (co6 (.bool na) (.slice A n c) (.int .i64 ea) (.bool nb') (.slice B m d) (.int .i64 eb)) = w1 at *
  rintro e' w2 ⟨rfl, b⟩
  have b2 := below_step b1 b
  replace k1 := k1.adv b
  clear b AW b1
  obtain ⟨c0, c1, c2, c3, c4, c5, c6⟩ := k1.cell
  go_wp2_with fail
  refine (FA.out _).mono ?_
  rintro e' w3 ⟨rfl, b⟩
  have b3 := below_step b2 b
  replace k1 := k1.adv b
  clear b FA b2 c0 c1 c2 c3 c4 c5 c6
  obtain ⟨c0, c1, c2, c3, c4, c5, c6⟩ := k1.cell
  by_cases h : n ≤ 100
  · rw [decide_eq_true h]
    go_wp2_with fail
    refine (FB.out _).mono ?_
    rintro e' w4 ⟨rfl, b⟩
    have b4 := below_step b3 b
    replace k1 := k1.adv b
    clear b FB b3 c0 c1 c2 c3 c4 c5 c6
    obtain ⟨c0, c1, c2, c3, c4, c5, c6⟩ := k1.cell
    by_cases h' : m ≤ 100
    · rw [decide_eq_true h']
      go_wp2_with fail
      refine (X1.out _ b4 (by omega) (by omega)).mono ?_
      rintro e' w5 ⟨rfl, b⟩
      have b5 := below_step b4 b
      replace k1 := k1.adv b
      clear b X1 b4 c0 c1 c2 c3 c4 c5 c6
      obtain ⟨c0, c1, c2, c3, c4, c5, c6⟩ := k1.cell
      go_wp2_with fail
      refine (X2.out _ b5 (by omega) (by omega)).mono ?_
      rintro e' w6 ⟨rfl, b⟩
      have b6 := below_step b5 b
      replace k1 := k1.adv b
      clear b X2 b5 c0 c1 c2 c3 c4 c5 c6
      obtain ⟨c0, c1, c2, c3, c4, c5, c6⟩ := k1.cell
      go_wp2_with fail
      refine (X3.out _ b6 (by omega) (by omega)).mono ?_
      rintro e' w7 ⟨rfl, b⟩
      have b7 := below_step b6 b
      replace k1 := k1.adv b
      clear b X3 b6 c0 c1 c2 c3 c4 c5 c6
      obtain ⟨c0, c1, c2, c3, c4, c5, c6⟩ := k1.cell
      go_wp2_with fail
      refine (X4.out _ b7 (by omega) (by omega)).mono ?_
      rintro e' w8 ⟨rfl, b⟩
      have b8 := below_step b7 b
      go_wp2_with fail
      go_ret
      exact ⟨rfl, b8⟩
    · rw [decide_eq_false h']
      go_wp2_with fail
      go_ret
      exact ⟨rfl, b4⟩
  · rw [decide_eq_false h]
    go_wp2_with fail
    go_ret
    exact ⟨rfl, b3⟩
end Go.Proofs.YtilmbdbcgbndmaaDoor

namespace Go.Proofs.YtilmbdbcgbndmaaDoor
open Go.RowKit

set_option maxRecDepth 8000 in
set_option maxHeartbeats 2000000 in
theorem lrexact_any (neg : Bool) (A : Option Addr) (n c : Nat) (x : Nat → Nat) (e mode : Int) (w : World) (ha : Sl w A n c x) (hn : n ≤ 9223372036854775807) (hT : Tab w) :
    Calls Tryd.prog 3 #[dyv neg A n c e, .int .i64 mode] w (TruePost w) := by
  have b1 := alloc_bel w (cd3 (.bool neg) (.slice A n c) (.int .i64 e))
  have k1 := K3.made w (.bool neg) (.slice A n c) (.int .i64 e)
  have AW := Lib.hid (awake10 _ (hT.below b1))
  have FW := Lib.hid (fun w' => few10 neg A n c e w' hn)
  have X1 := Lib.hid (fun w' (b : Below w.heap.size w w') (h : n ≤ 400000) => oexact_any neg A n c x e mode w' (ha.below b) h (hT.below b))
  have X2 := Lib.hid (fun w' (b : Below w.heap.size w w') (h : n ≤ 400000) => rexact_any neg A n c x e mode w' (ha.below b) h (hT.below b))
  generalize exactV (plainB neg n x e) neg (vs B64 x n) e mode = p at *
  obtain ⟨p0, p1, p2⟩ := p
  clear ha hT
  go_enter Tryd.func3, Tryd.ntmps3
  go_wp2_with fail
  refine AW.out.mono ?_
  generalize w.alloc (cd3 (.bool neg) (.slice A n c) (.int .i64 e)) = w1 at *
  rintro e' w2 ⟨rfl, b⟩
  have b2 := below_step b1 b
  replace k1 := k1.adv b
  clear b AW b1
  obtain ⟨c0, c1, c2, c3⟩ := k1.cell
  go_wp2_with fail
  refine (FW.out _).mono ?_
  rintro e' w3 ⟨rfl, b⟩
  have b3 := below_step b2 b
  replace k1 := k1.adv b
  clear b FW b2 c0 c1 c2 c3
  obtain ⟨c0, c1, c2, c3⟩ := k1.cell
  by_cases h : n ≤ 100
  · rw [decide_eq_true h]
    go_wp2_with fail
    refine (X1.out _ b3 (by omega)).mono ?_
    rintro e' w4 ⟨rfl, b⟩
    have b4 := below_step b3 b
    replace k1 := k1.adv b
    clear b X1 b3 c0 c1 c2 c3
    obtain ⟨c0, c1, c2, c3⟩ := k1.cell
    go_wp2_with fail
    refine (X2.out _ b4 (by omega)).mono ?_
    rintro e' w5 ⟨rfl, b⟩
    have b5 := below_step b4 b
    go_wp2_with fail
    go_ret
    exact ⟨rfl, b5⟩
  · rw [decide_eq_false h]
    go_wp2_with fail
    go_ret
    exact ⟨rfl, b3⟩
end Go.Proofs.YtilmbdbcgbndmaaDoor

namespace Go.Proofs.YtilmbdbcgbndmaaDoor
open Go.RowKit

theorem num_m10 (b : Nat) : (numD b).m < B64 ^ 256 := by
  unfold numD
  split
  · exact Nat.pow_pos B64_pos
  · split <;> exact mkD_m_bits _ _ _
theorem num_plain10 {b : Nat} (h : (numD b).ok = true) : exN b ≠ 2047 ∧ plainV (numD b).neg (numD b).m (numD b).e = true := by
  have hx : exN b ≠ 2047 := fun hx => by rw [num_no hx] at h; cases h
  obtain ⟨V, e, g, _, _⟩ := good_num hx
  exact ⟨hx, g.plain⟩
theorem nb_of_words10 {V K : Nat} (h : V < B64 ^ K) : nb V ≤ 64 * K := by
  rw [B64_pow, ← Nat.pow_mul] at h
  exact (nb_le_iff _ _).2 h
/-- Exact of a number that lies in memory canonically. -/
theorem oexactNum {A : Option Addr} {p c V : Nat} (neg : Bool) (e mode : Int) (w : World) (h : Num w (.slice A p c) V) (hV : V < B64 ^ 256) (hT : Tab w) :
    Calls Tryd.prog 9 #[.agg #[.bool neg, .slice A p c, .int .i64 e], .int .i64 mode] w (EP w (exactV (plainV neg V e) neg V e mode)) := by
  obtain ⟨_, _, _, f, hh, hs, hn, hc, rfl⟩ := h.raw 256 (nb_of_words10 hV)
  cases hh
  have := oexact_any neg _ _ _ f e mode w hs (by omega) hT
  rw [plain_V hc] at this
  exact this

set_option maxRecDepth 8000 in
set_option maxHeartbeats 2000000 in
theorem lrstays_any (b : Nat) (mode : Int) (w : World) (hb : b < B64) (hT : Tab w) : Calls Tryd.prog 5 #[.int .u64 (b : Int), .int .i64 mode] w (TruePost w) := by
  have AW := Lib.hid (awake10 w hT)
  have N1 := Lib.hid (fun w' (b' : Below w.heap.size w w') => number_any b w' hb (hT.below b'))
  have KA := Lib.hid (fun w' => kind_any b w' hb)
  have HM := Lib.hid (num_m10 b)
  have HS := Lib.hid (fun (h : (numD b).ok = true) (hm : modeM mode = true) => exact_stays (mode := mode) hb (num_plain10 h).1 hm)
  have HP := Lib.hid (fun (h : (numD b).ok = true) => (num_plain10 h).2)
  have HT := Lib.hid hT
  clear hT
  generalize numD b = r at *
  go_enter Tryd.func5, Tryd.ntmps5
  go_wp2_with fail
  refine AW.out.mono ?_
  rintro e' w1 ⟨rfl, b1⟩
  clear AW
  go_wp2_with fail
  refine (N1.out _ b1).mono ?_
  rintro e' w2 h2
  obtain ⟨A, p, c, rfl, n2, bb⟩ := h2.dp
  have b2 := below_step b1 bb
  clear bb h2 N1 b1
  have bb := alloc_bel w2 (cd3 (.bool r.neg) (.slice A p c) (.int .i64 r.e))
  have k3 := K3.made w2 (.bool r.neg) (.slice A p c) (.int .i64 r.e)
  replace n2 := n2.below bb
  have b3 := below_step b2 bb
  clear bb b2
  rcases hok : r.ok with _ | _
  · go_wp2_with fail
    go_ret
    exact ⟨rfl, b3⟩
  · by_cases hd1 : mode < 0
    · have hd2 : decide (mode < 0) = true := decide_eq_true hd1
      go_wp2_with fail
      go_ret
      exact ⟨rfl, b3⟩
    · have hd2 : decide (mode < 0) = false := decide_eq_false hd1
      by_cases hd3 : 4 < mode
      · have hd4 : decide (4 < mode) = true := decide_eq_true hd3
        go_wp2_with fail
        go_ret
        exact ⟨rfl, b3⟩
      · have hd4 : decide (4 < mode) = false := decide_eq_false hd3
        have hm : modeM mode = true := by unfold modeM; simp; omega
        obtain ⟨u, hu, hub⟩ := HS.out hok hm
        have X1 := Lib.hid (oexactNum r.neg r.e mode _ n2 HM.out (HT.out.below b3))
        rw [HP.out hok, hu] at X1
        clear HS HP HM hm hu
        go_wp2_with fail
        refine X1.out.mono ?_
        generalize w2.alloc (cd3 (.bool r.neg) (.slice A p c) (.int .i64 r.e)) = w3 at *
        rintro e' w4 ⟨rfl, bb⟩
        have b4 := below_step b3 bb
        clear bb X1 b3 k3 n2 HT
        by_cases hub2 : u = b
        · subst hub2
          go_wp2_with fail
          go_ret
          exact ⟨rfl, b4⟩
        · obtain ⟨hk, rfl⟩ := hub.resolve_left hub2
          have h1 : ((0 : Int) == (b : Int)) = false := by simp; omega
          rw [hk] at KA
          go_wp2_with fail
          refine (KA.out _).mono ?_
          rintro e' w5 ⟨rfl, rfl⟩
          go_wp2_with fail
          go_ret
          exact ⟨rfl, b4⟩
end Go.Proofs.YtilmbdbcgbndmaaDoor

namespace Go.Proofs.YtilmbdbcgbndmaaDoor
open Go.RowKit

theorem cmpNum10 {A B : Option Addr} {n c m d V U : Nat} (na nb' : Bool) (ea eb : Int) (w : World) (h : Num w (.slice A n c) V) (h' : Num w (.slice B m d) U) (hV : V < B64 ^ 256) (hU : U < B64 ^ 256) (hp : plainV na V ea = true) (hq : plainV nb' U eb = true) :
    Calls Tryd.prog 17 #[.agg #[.bool na, .slice A n c, .int .i64 ea], .agg #[.bool nb', .slice B m d, .int .i64 eb]] w (CmpP w (ordD na nb' V U ea eb) true) := by
  obtain ⟨_, _, _, f, hh, hs, hn, hc, rfl⟩ := h.raw 256 (nb_of_words10 hV)
  cases hh
  obtain ⟨_, _, _, g, hh, hs', hm, hc', rfl⟩ := h'.raw 256 (nb_of_words10 hU)
  cases hh
  have := dcmp_any na nb' _ _ _ _ _ _ f g ea eb w hs hs' (by omega) (by omega)
  rw [plain_V hc, plain_V hc', hp, hq] at this
  exact this
theorem num_ok {b : Nat} (hb : b < B64) : (numD b).ok = true ↔ exN b ≠ 2047 := ⟨fun h => (num_plain10 h).1, fun h => (word_num hb h).1⟩
/-- What the law needs of what Exact answers. -/
theorem order_facts {ra rb : DR} {mode : Int} (pa : plainV ra.neg ra.m ra.e = true) (pb : plainV rb.neg rb.m rb.e = true) (hm : modeM mode = true) (ho : ordD ra.neg rb.neg ra.m rb.m ra.e rb.e ≤ 0) :
    ((numD (exactV true ra.neg ra.m ra.e mode).1).ok = true → (numD (exactV true rb.neg rb.m rb.e mode).1).ok = true → ordB (exactV true ra.neg ra.m ra.e mode).1 (exactV true rb.neg rb.m rb.e mode).1 ≤ 0) ∧
    ((numD (exactV true ra.neg ra.m ra.e mode).1).ok = false → kindN (exactV true ra.neg ra.m ra.e mode).1 = 3) ∧
    ((numD (exactV true ra.neg ra.m ra.e mode).1).ok = true → (numD (nextN (exactV true ra.neg ra.m ra.e mode).1 true).1).ok = true → ordD ra.neg (numD (nextN (exactV true ra.neg ra.m ra.e mode).1 true).1).neg ra.m (numD (nextN (exactV true ra.neg ra.m ra.e mode).1 true).1).m ra.e (numD (nextN (exactV true ra.neg ra.m ra.e mode).1 true).1).e < 0) ∧
    ((numD (exactV true ra.neg ra.m ra.e mode).1).ok = true → (numD (nextN (exactV true ra.neg ra.m ra.e mode).1 false).1).ok = true → ordD (numD (nextN (exactV true ra.neg ra.m ra.e mode).1 false).1).neg ra.neg (numD (nextN (exactV true ra.neg ra.m ra.e mode).1 false).1).m ra.m (numD (nextN (exactV true ra.neg ra.m ra.e mode).1 false).1).e ra.e < 0) := by
  have wa := exact_word pa hm
  have wb := exact_word pb hm
  refine ⟨fun h1 h2 => num_le ((num_ok wa).1 h1) ((num_ok wb).1 h2) (exact_order pa pb hm ho), fun h1 => exact_inf pa hm ?_, fun h1 h2 => ?_, fun h1 h2 => ?_⟩
  · rcases Nat.decEq (exN (exactV true ra.neg ra.m ra.e mode).1) 2047 with h | h
    · rw [(num_ok wa).2 h] at h1; cases h1
    · exact h
  · exact (exact_near pa hm ((num_ok wa).1 h1)).2.2.1 ((num_ok (next_lt true wa)).1 h2)
  · exact (exact_near pa hm ((num_ok wa).1 h1)).2.2.2 ((num_ok (next_lt false wa)).1 h2)

set_option maxRecDepth 8000 in
set_option maxHeartbeats 16000000 in
theorem lrorder_any (na nb' : Bool) (A B : Option Addr) (n c m d : Nat) (x y : Nat → Nat) (ea eb mode : Int) (w : World) (ha : Sl w A n c x) (hb : Sl w B m d y) (hn : n ≤ 70368744177664) (hm : m ≤ 70368744177664) (hT : Tab w) :
    Calls Tryd.prog 6 #[dyv na A n c ea, dyv nb' B m d eb, .int .i64 mode] w (TruePost w) := by
  obtain ⟨b1, k1, k2⟩ := start33 w (.bool na) (.slice A n c) (.int .i64 ea) (.bool nb') (.slice B m d) (.int .i64 eb)
  have AW := Lib.hid (awake10 _ (hT.below b1))
  have CM := Lib.hid (fun w' (b : Below w.heap.size w w') => dcmp_wide na nb' A B n c m d x y ea eb w' (ha.below b) (hb.below b) hn hm)
  have FA := Lib.hid (fun w' => few10 na A n c ea w' (by omega))
  have FB := Lib.hid (fun w' => few10 nb' B m d eb w' (by omega))
  obtain ⟨ok, hok⟩ : ∃ ok, Hid ((plainB na n x ea && plainB nb' m y eb) = ok) := ⟨_, Lib.hid rfl⟩
  rw [hok.out] at CM
  obtain ⟨o, ho⟩ : ∃ o, Hid (cmpD ok na nb' (vs B64 x n) (vs B64 y m) ea eb = o) := ⟨_, Lib.hid rfl⟩
  rw [ho.out] at CM
  have HT := Lib.hid hT
  have HA := Lib.hid ha
  have HB := Lib.hid hb
  clear hT ha hb
  go_enter Tryd.func6, Tryd.ntmps6
  go_wp2_with fail
  refine AW.out.mono ?_
  generalize (w.alloc (cd3 (.bool na) (.slice A n c) (.int .i64 ea))).alloc (cd3 (.bool nb') (.slice B m d) (.int .i64 eb)) = w1 at *
  rintro e' w2 ⟨rfl, b⟩
  have b2 := below_step b1 b
  replace k1 := k1.adv b
  replace k2 := k2.adv b
  clear b AW b1
  obtain ⟨c0, c1, c2, c3⟩ := k1.cell
  obtain ⟨d0, d1, d2, d3⟩ := k2.cell
  go_wp2_with fail
  refine (CM.out _ b2).mono ?_
  rintro e' w3 ⟨rfl, b⟩
  have b3 := below_step b2 b
  replace k1 := k1.adv b
  replace k2 := k2.adv b
  clear b CM b2 c0 c1 c2 c3 d0 d1 d2 d3
  obtain ⟨c0, c1, c2, c3⟩ := k1.cell
  obtain ⟨d0, d1, d2, d3⟩ := k2.cell
  cases ok
  · go_wp2_with fail
    go_ret
    exact ⟨rfl, b3⟩
  go_wp2_with fail
  refine (FA.out _).mono ?_
  rintro e' w4 ⟨rfl, b⟩
  have b4 := below_step b3 b
  replace k1 := k1.adv b
  replace k2 := k2.adv b
  clear b FA b3 c0 c1 c2 c3 d0 d1 d2 d3
  obtain ⟨c0, c1, c2, c3⟩ := k1.cell
  obtain ⟨d0, d1, d2, d3⟩ := k2.cell
  by_cases h1 : n ≤ 100
  case neg =>
    rw [decide_eq_false h1]
    go_wp2_with fail
    go_ret
    exact ⟨rfl, b4⟩
  rw [decide_eq_true h1]
  go_wp2_with fail
  refine (FB.out _).mono ?_
  rintro e' w5 ⟨rfl, b⟩
  have b5 := below_step b4 b
  replace k1 := k1.adv b
  replace k2 := k2.adv b
  clear b FB b4 c0 c1 c2 c3 d0 d1 d2 d3
  obtain ⟨c0, c1, c2, c3⟩ := k1.cell
  obtain ⟨d0, d1, d2, d3⟩ := k2.cell
  by_cases h2 : m ≤ 100
  case neg =>
    rw [decide_eq_false h2]
    go_wp2_with fail
    go_ret
    exact ⟨rfl, b5⟩
  rw [decide_eq_true h2]
  by_cases hd1 : mode < 0
  · have hd2 : decide (mode < 0) = true := decide_eq_true hd1
    go_wp2_with fail
    go_ret
    exact ⟨rfl, b5⟩
  have hd2 : decide (mode < 0) = false := decide_eq_false hd1
  by_cases hd3 : 4 < mode
  · have hd4 : decide (4 < mode) = true := decide_eq_true hd3
    go_wp2_with fail
    go_ret
    exact ⟨rfl, b5⟩
  have hd4 : decide (4 < mode) = false := decide_eq_false hd3
  have hmo : modeM mode = true := by unfold modeM; simp; omega
  have hok2 := hok.out
  simp only [Bool.and_eq_true] at hok2
  obtain ⟨hpa, hpb⟩ := hok2
  have PA := plain_facts hpa
  have PB := plain_facts hpb
  have pa : plainV na (vs B64 x n) ea = true := by rw [← plain_V PA.cn]; exact hpa
  have pb : plainV nb' (vs B64 y m) eb = true := by rw [← plain_V PB.cn]; exact hpb
  have va : vs B64 x n < B64 ^ 256 := nb_lt_words (by have := PA.bits; omega)
  have vb : vs B64 y m < B64 ^ 256 := nb_lt_words (by have := PB.bits; omega)
  have NA := Lib.hid (fun w' (b : Below w.heap.size w w') => PA.num (HA.out.below b))
  have NB := Lib.hid (fun w' (b : Below w.heap.size w w') => PB.num (HB.out.below b))
  have ho2 : ordD na nb' (vs B64 x n) (vs B64 y m) ea eb = o := ho.out
  clear ho hok hpa hpb PA PB HA HB h1 h2 hd1 hd3 hn hm
  generalize vs B64 x n = Va at *
  generalize vs B64 y m = Vb at *
  by_cases hgt : 0 < o
  · have hg1 : decide (0 < o) = true := decide_eq_true hgt
    have hord : ordD nb' na Vb Va eb ea ≤ 0 := by rw [ord_anti]; omega
    obtain ⟨y0, y1, y2⟩ := k1.frozen
    obtain ⟨z0, z1, z2⟩ := k2.frozen
    have hne : w.heap.size + 1 ≠ w.heap.size := by omega
    have oA := only_put3 w5 w.heap.size (.bool nb') (.slice B m d) (.int .i64 eb)
    have kA := k1.put (.bool nb') (.slice B m d) (.int .i64 eb)
    have kB := k2.only oA hne
    have bA := below_only b5 oA (Nat.le_refl _)
    have oB := only_put3 (put3 w5 w.heap.size (.bool nb') (.slice B m d) (.int .i64 eb)) (w.heap.size + 1) (.bool na) (.slice A n c) (.int .i64 ea)
    have kA2 := kA.only oB (Ne.symm hne)
    have kB2 := kB.put (.bool na) (.slice A n c) (.int .i64 ea)
    have b6 := below_only bA oB (Nat.le_succ _)
    clear oA kA kB bA oB
    go_upto_region 8 with fail
    clear y0 y1 y2 z0 z1 z2 c0 c1 c2 c3 d0 d1 d2 d3 k1 k2 b5
    have k1 := kA2
    have k2 := kB2
    clear kA2 kB2
    dsimp only [put3] at k1 k2 b6
    generalize (((((w5.setCell ⟨w.heap.size, 0, none⟩ (.bool nb')).setCell ⟨w.heap.size, 1, none⟩ (.slice B m d)).setCell ⟨w.heap.size, 2, none⟩ (.int .i64 eb)).setCell ⟨w.heap.size + 1, 0, none⟩ (.bool na)).setCell ⟨w.heap.size + 1, 1, none⟩ (.slice A n c)).setCell ⟨w.heap.size + 1, 2, none⟩ (.int .i64 ea) = w6 at *
    obtain ⟨F1, F2, F3, F4⟩ := order_facts (ra := ⟨true, nb', Vb, eb⟩) (rb := ⟨true, na, Va, ea⟩) pb pa hmo hord
    simp only at F1 F2 F3 F4
    have wx := exact_word pb hmo
    have wy := exact_word pa hmo
    have X1 := Lib.hid (fun w' (b : Below w.heap.size w w') => oexactNum nb' eb mode w' (NB.out w' b) vb (HT.out.below b))
    have X2 := Lib.hid (fun w' (b : Below w.heap.size w w') => oexactNum na ea mode w' (NA.out w' b) va (HT.out.below b))
    rw [pb] at X1
    rw [pa] at X2
    have N1 := Lib.hid (fun w' (b : Below w.heap.size w w') => number_any (exactV true nb' Vb eb mode).1 w' wx (HT.out.below b))
    have N2 := Lib.hid (fun w' (b : Below w.heap.size w w') => number_any (exactV true na Va ea mode).1 w' wy (HT.out.below b))
    have KX := Lib.hid (fun w' => kind_any (exactV true nb' Vb eb mode).1 w' wx)
    have NU := Lib.hid (fun w' => next_any (exactV true nb' Vb eb mode).1 true w' wx)
    have ND := Lib.hid (fun w' => next_any (exactV true nb' Vb eb mode).1 false w' wx)
    have N3 := Lib.hid (fun w' (b : Below w.heap.size w w') => number_any (nextN (exactV true nb' Vb eb mode).1 true).1 w' (next_lt true wx) (HT.out.below b))
    have N4 := Lib.hid (fun w' (b : Below w.heap.size w w') => number_any (nextN (exactV true nb' Vb eb mode).1 false).1 w' (next_lt false wx) (HT.out.below b))
    have M1 := Lib.hid (num_m10 (exactV true nb' Vb eb mode).1)
    have M2 := Lib.hid (num_m10 (exactV true na Va ea mode).1)
    have M3 := Lib.hid (num_m10 (nextN (exactV true nb' Vb eb mode).1 true).1)
    have M4 := Lib.hid (num_m10 (nextN (exactV true nb' Vb eb mode).1 false).1)
    have P1 := Lib.hid (fun h => (num_plain10 (b := (exactV true nb' Vb eb mode).1) h).2)
    have P2 := Lib.hid (fun h => (num_plain10 (b := (exactV true na Va ea mode).1) h).2)
    have P3 := Lib.hid (fun h => (num_plain10 (b := (nextN (exactV true nb' Vb eb mode).1 true).1) h).2)
    have P4 := Lib.hid (fun h => (num_plain10 (b := (nextN (exactV true nb' Vb eb mode).1 false).1) h).2)
    have NL := NB
    have HVL := Lib.hid vb
    have HPL := Lib.hid pb
    unfold ordB at F1
    replace F1 := Lib.hid F1
    replace F2 := Lib.hid F2
    replace F3 := Lib.hid F3
    replace F4 := Lib.hid F4
    clear wx wy NA NB pa pb va vb hmo hord HT ho2 hd2 hd4
    generalize hgx : (exactV true nb' Vb eb mode) = px at *
    generalize hgy : (exactV true na Va ea mode) = py at *
    clear hgx hgy
    obtain ⟨x0, x1, x2⟩ := px
    obtain ⟨y0, y1, y2⟩ := py
    simp only at F1 F2 F3 F4 N1 N2 KX NU ND N3 N4 M1 M2 M3 M4 P1 P2 P3 P4
    generalize nextN x0 true = pu at *
    generalize nextN x0 false = pd at *
    obtain ⟨u0, u1⟩ := pu
    obtain ⟨v0, v1⟩ := pd
    simp only at F3 F4 N3 N4 M3 M4 P3 P4
    generalize numD x0 = r1 at *
    generalize numD y0 = r2 at *
    generalize numD u0 = r3 at *
    generalize numD v0 = r4 at *
    obtain ⟨c0, c1, c2, c3⟩ := k1.cell
    obtain ⟨d0, d1, d2, d3⟩ := k2.cell
    go_wp2_with fail
    refine (X1.out _ b6).mono ?_
    rintro e' w7 ⟨rfl, b⟩
    have b7 := below_step b6 b
    replace k1 := k1.adv b
    replace k2 := k2.adv b
    clear b X1 b6 c0 c1 c2 c3 d0 d1 d2 d3
    obtain ⟨c0, c1, c2, c3⟩ := k1.cell
    obtain ⟨d0, d1, d2, d3⟩ := k2.cell
    go_wp2_with fail
    refine (X2.out _ b7).mono ?_
    rintro e' w8 ⟨rfl, b⟩
    have b8 := below_step b7 b
    replace k1 := k1.adv b
    replace k2 := k2.adv b
    clear b X2 b7 c0 c1 c2 c3 d0 d1 d2 d3 k2
    go_wp2_with fail
    refine (N1.out _ b8).mono ?_
    rintro e' w9 h9
    obtain ⟨A9, p9, q9, rfl, n9, b⟩ := h9.dp
    have b9 := below_step b8 b
    replace k1 := k1.adv b
    clear b h9 N1 b8
    have b := alloc_bel w9 (cd3 (.bool r1.neg) (.slice A9 p9 q9) (.int .i64 r1.e))
    have k9 := K3.made w9 (.bool r1.neg) (.slice A9 p9 q9) (.int .i64 r1.e)
    replace n9 := n9.below b
    replace k1 := k1.adv b
    replace b9 := below_step b9 b
    clear b
    go_wp2_with fail
    generalize w9.alloc (cd3 (.bool r1.neg) (.slice A9 p9 q9) (.int .i64 r1.e)) = w10 at *
    refine (N2.out _ b9).mono ?_
    rintro e' w11 h9
    obtain ⟨A11, p11, q11, rfl, n11, b⟩ := h9.dp
    have b11 := below_step b9 b
    replace k1 := k1.adv b
    replace k9 := k9.adv b
    replace n9 := n9.below b
    clear b h9 N2 b9
    obtain ⟨c0, c1, c2, c3⟩ := k1.cell
    obtain ⟨f0, f1, f2, f3⟩ := k9.cell
    have b := alloc_bel w11 (cd3 (.bool r2.neg) (.slice A11 p11 q11) (.int .i64 r2.e))
    have k11 := K3.made w11 (.bool r2.neg) (.slice A11 p11 q11) (.int .i64 r2.e)
    replace n9 := n9.below b
    replace n11 := n11.below b
    replace k1 := k1.adv b
    replace k9 := k9.adv b
    replace b11 := below_step b11 b
    clear b
    rcases h1 : r1.ok with _ | _
    · have hk := F2.out h1
      rw [hk] at KX
      clear F1 F2 F3 F4 P1 P2 P3 P4
      rcases h2 : r2.ok with _ | _
      · go_wp2_with fail
        refine (KX.out _).mono ?_
        rintro e' w12 ⟨rfl, rfl⟩
        go_wp2_with fail
        go_ret
        exact ⟨rfl, b11⟩
      · go_wp2_with fail
        refine (KX.out _).mono ?_
        rintro e' w12 ⟨rfl, rfl⟩
        go_wp2_with fail
        go_ret
        exact ⟨rfl, b11⟩
    rcases h2 : r2.ok with _ | _
    · clear F1 c0 c1 c2 c3 f0 f1 f2 f3
      go_wp2_with fail
      generalize w11.alloc (cd3 (.bool r2.neg) (.slice A11 p11 q11) (.int .i64 r2.e)) = w13 at *
      have b13 := b11
      clear b11 k9 k11 n9 n11
      refine (NU.out _).mono ?_
      rintro e' w14 ⟨rfl, rfl⟩
      go_wp2_with fail
      refine (ND.out _).mono ?_
      rintro e' w14 ⟨rfl, rfl⟩
      go_wp2_with fail
      refine (N3.out _ b13).mono ?_
      rintro e' w14 h9
      obtain ⟨A14, p14, q14, rfl, n14, b⟩ := h9.dp
      have b14 := below_step b13 b
      replace k1 := k1.adv b
      clear b h9 N3 b13
      have b := alloc_bel w14 (cd3 (.bool r3.neg) (.slice A14 p14 q14) (.int .i64 r3.e))
      have k14 := K3.made w14 (.bool r3.neg) (.slice A14 p14 q14) (.int .i64 r3.e)
      replace n14 := n14.below b
      replace k1 := k1.adv b
      replace b14 := below_step b14 b
      clear b
      go_wp2_with fail
      generalize w14.alloc (cd3 (.bool r3.neg) (.slice A14 p14 q14) (.int .i64 r3.e)) = w15 at *
      refine (N4.out _ b14).mono ?_
      rintro e' w16 h9
      obtain ⟨A16, p16, q16, rfl, n16, b⟩ := h9.dp
      have b16 := below_step b14 b
      replace k1 := k1.adv b
      replace k14 := k14.adv b
      replace n14 := n14.below b
      clear b h9 N4 b14
      obtain ⟨c0, c1, c2, c3⟩ := k1.cell
      obtain ⟨f0, f1, f2, f3⟩ := k14.cell
      have b := alloc_bel w16 (cd3 (.bool r4.neg) (.slice A16 p16 q16) (.int .i64 r4.e))
      have k16 := K3.made w16 (.bool r4.neg) (.slice A16 p16 q16) (.int .i64 r4.e)
      replace n14 := n14.below b
      replace n16 := n16.below b
      replace k1 := k1.adv b
      replace k14 := k14.adv b
      replace b16 := below_step b16 b
      clear b
      rcases h3 : r3.ok with _ | _
      · clear F3 P3 f0 f1 f2 f3
        rcases h4 : r4.ok with _ | _
        · go_wp2_with fail
          go_ret
          exact ⟨rfl, b16⟩
        · have HL4 := F4.out h1 h4
          have C4 := Lib.hid (cmpNum10 r4.neg nb' r4.e eb _ n16 (NL.out _ b16) M4.out HVL.out (P4.out h4) HPL.out)
          generalize ordD r4.neg nb' r4.m Vb r4.e eb = o4 at *
          have hl4 : decide (0 ≤ o4) = false := decide_eq_false (by omega)
          clear HL4 F4
          go_wp2_with fail
          clear c0 c1 c2 c3
          generalize w16.alloc (cd3 (.bool r4.neg) (.slice A16 p16 q16) (.int .i64 r4.e)) = w17 at *
          refine C4.out.mono ?_
          rintro e' w19 ⟨rfl, b⟩
          have b19 := below_step b16 b
          go_wp2_with fail
          go_ret
          exact ⟨rfl, b19⟩
      · have HL3 := F3.out h1 h3
        have C3 := Lib.hid (cmpNum10 nb' r3.neg eb r3.e _ (NL.out _ b16) n14 HVL.out M3.out HPL.out (P3.out h3))
        generalize ordD nb' r3.neg Vb r3.m eb r3.e = o3 at *
        have hl3 : decide (0 ≤ o3) = false := decide_eq_false (by omega)
        clear HL3 F3
        go_wp2_with fail
        clear c0 c1 c2 c3 f0 f1 f2 f3
        generalize w16.alloc (cd3 (.bool r4.neg) (.slice A16 p16 q16) (.int .i64 r4.e)) = w17 at *
        refine C3.out.mono ?_
        rintro e' w18 ⟨rfl, b⟩
        have b18 := below_step b16 b
        replace k1 := k1.adv b
        replace k16 := k16.adv b
        replace n16 := n16.below b
        clear b C3 b16 k14 n14
        rcases h4 : r4.ok with _ | _
        · go_wp2_with fail
          go_ret
          exact ⟨rfl, b18⟩
        · have HL4 := F4.out h1 h4
          have C4 := Lib.hid (cmpNum10 r4.neg nb' r4.e eb _ n16 (NL.out _ b18) M4.out HVL.out (P4.out h4) HPL.out)
          generalize ordD r4.neg nb' r4.m Vb r4.e eb = o4 at *
          have hl4 : decide (0 ≤ o4) = false := decide_eq_false (by omega)
          clear HL4 F4
          obtain ⟨c0, c1, c2, c3⟩ := k1.cell
          obtain ⟨f0, f1, f2, f3⟩ := k16.cell
          go_wp2_with fail
          refine C4.out.mono ?_
          rintro e' w19 ⟨rfl, b⟩
          have b19 := below_step b18 b
          go_wp2_with fail
          go_ret
          exact ⟨rfl, b19⟩
    · have HLE := F1.out h1 h2
      have C1 := Lib.hid (cmpNum10 r1.neg r2.neg r1.e r2.e _ n9 n11 M1.out M2.out (P1.out h1) (P2.out h2))
      generalize ordD r1.neg r2.neg r1.m r2.m r1.e r2.e = o1 at *
      have hle : decide (0 < o1) = false := decide_eq_false (by omega)
      clear HLE F1
      go_wp2_with fail
      clear c0 c1 c2 c3 f0 f1 f2 f3
      generalize w11.alloc (cd3 (.bool r2.neg) (.slice A11 p11 q11) (.int .i64 r2.e)) = w12 at *
      refine C1.out.mono ?_
      rintro e' w13 ⟨rfl, b⟩
      have b13 := below_step b11 b
      replace k1 := k1.adv b
      clear b C1 b11 k9 k11 n9 n11
      go_wp2_with fail
      refine (NU.out _).mono ?_
      rintro e' w14 ⟨rfl, rfl⟩
      go_wp2_with fail
      refine (ND.out _).mono ?_
      rintro e' w14 ⟨rfl, rfl⟩
      go_wp2_with fail
      refine (N3.out _ b13).mono ?_
      rintro e' w14 h9
      obtain ⟨A14, p14, q14, rfl, n14, b⟩ := h9.dp
      have b14 := below_step b13 b
      replace k1 := k1.adv b
      clear b h9 N3 b13
      have b := alloc_bel w14 (cd3 (.bool r3.neg) (.slice A14 p14 q14) (.int .i64 r3.e))
      have k14 := K3.made w14 (.bool r3.neg) (.slice A14 p14 q14) (.int .i64 r3.e)
      replace n14 := n14.below b
      replace k1 := k1.adv b
      replace b14 := below_step b14 b
      clear b
      go_wp2_with fail
      generalize w14.alloc (cd3 (.bool r3.neg) (.slice A14 p14 q14) (.int .i64 r3.e)) = w15 at *
      refine (N4.out _ b14).mono ?_
      rintro e' w16 h9
      obtain ⟨A16, p16, q16, rfl, n16, b⟩ := h9.dp
      have b16 := below_step b14 b
      replace k1 := k1.adv b
      replace k14 := k14.adv b
      replace n14 := n14.below b
      clear b h9 N4 b14
      obtain ⟨c0, c1, c2, c3⟩ := k1.cell
      obtain ⟨f0, f1, f2, f3⟩ := k14.cell
      have b := alloc_bel w16 (cd3 (.bool r4.neg) (.slice A16 p16 q16) (.int .i64 r4.e))
      have k16 := K3.made w16 (.bool r4.neg) (.slice A16 p16 q16) (.int .i64 r4.e)
      replace n14 := n14.below b
      replace n16 := n16.below b
      replace k1 := k1.adv b
      replace k14 := k14.adv b
      replace b16 := below_step b16 b
      clear b
      rcases h3 : r3.ok with _ | _
      · clear F3 P3 f0 f1 f2 f3
        rcases h4 : r4.ok with _ | _
        · go_wp2_with fail
          go_ret
          exact ⟨rfl, b16⟩
        · have HL4 := F4.out h1 h4
          have C4 := Lib.hid (cmpNum10 r4.neg nb' r4.e eb _ n16 (NL.out _ b16) M4.out HVL.out (P4.out h4) HPL.out)
          generalize ordD r4.neg nb' r4.m Vb r4.e eb = o4 at *
          have hl4 : decide (0 ≤ o4) = false := decide_eq_false (by omega)
          clear HL4 F4
          go_wp2_with fail
          clear c0 c1 c2 c3
          generalize w16.alloc (cd3 (.bool r4.neg) (.slice A16 p16 q16) (.int .i64 r4.e)) = w17 at *
          refine C4.out.mono ?_
          rintro e' w19 ⟨rfl, b⟩
          have b19 := below_step b16 b
          go_wp2_with fail
          go_ret
          exact ⟨rfl, b19⟩
      · have HL3 := F3.out h1 h3
        have C3 := Lib.hid (cmpNum10 nb' r3.neg eb r3.e _ (NL.out _ b16) n14 HVL.out M3.out HPL.out (P3.out h3))
        generalize ordD nb' r3.neg Vb r3.m eb r3.e = o3 at *
        have hl3 : decide (0 ≤ o3) = false := decide_eq_false (by omega)
        clear HL3 F3
        go_wp2_with fail
        clear c0 c1 c2 c3 f0 f1 f2 f3
        generalize w16.alloc (cd3 (.bool r4.neg) (.slice A16 p16 q16) (.int .i64 r4.e)) = w17 at *
        refine C3.out.mono ?_
        rintro e' w18 ⟨rfl, b⟩
        have b18 := below_step b16 b
        replace k1 := k1.adv b
        replace k16 := k16.adv b
        replace n16 := n16.below b
        clear b C3 b16 k14 n14
        rcases h4 : r4.ok with _ | _
        · go_wp2_with fail
          go_ret
          exact ⟨rfl, b18⟩
        · have HL4 := F4.out h1 h4
          have C4 := Lib.hid (cmpNum10 r4.neg nb' r4.e eb _ n16 (NL.out _ b18) M4.out HVL.out (P4.out h4) HPL.out)
          generalize ordD r4.neg nb' r4.m Vb r4.e eb = o4 at *
          have hl4 : decide (0 ≤ o4) = false := decide_eq_false (by omega)
          clear HL4 F4
          obtain ⟨c0, c1, c2, c3⟩ := k1.cell
          obtain ⟨f0, f1, f2, f3⟩ := k16.cell
          go_wp2_with fail
          refine C4.out.mono ?_
          rintro e' w19 ⟨rfl, b⟩
          have b19 := below_step b18 b
          go_wp2_with fail
          go_ret
          exact ⟨rfl, b19⟩
  · have hg1 : decide (0 < o) = false := decide_eq_false hgt
    have hord : ordD na nb' Va Vb ea eb ≤ 0 := by omega
    go_upto_region 8 with fail
    clear c0 c1 c2 c3 d0 d1 d2 d3
    obtain ⟨F1, F2, F3, F4⟩ := order_facts (ra := ⟨true, na, Va, ea⟩) (rb := ⟨true, nb', Vb, eb⟩) pa pb hmo hord
    simp only at F1 F2 F3 F4
    have wx := exact_word pa hmo
    have wy := exact_word pb hmo
    have X1 := Lib.hid (fun w' (b : Below w.heap.size w w') => oexactNum na ea mode w' (NA.out w' b) va (HT.out.below b))
    have X2 := Lib.hid (fun w' (b : Below w.heap.size w w') => oexactNum nb' eb mode w' (NB.out w' b) vb (HT.out.below b))
    rw [pa] at X1
    rw [pb] at X2
    have N1 := Lib.hid (fun w' (b : Below w.heap.size w w') => number_any (exactV true na Va ea mode).1 w' wx (HT.out.below b))
    have N2 := Lib.hid (fun w' (b : Below w.heap.size w w') => number_any (exactV true nb' Vb eb mode).1 w' wy (HT.out.below b))
    have KX := Lib.hid (fun w' => kind_any (exactV true na Va ea mode).1 w' wx)
    have NU := Lib.hid (fun w' => next_any (exactV true na Va ea mode).1 true w' wx)
    have ND := Lib.hid (fun w' => next_any (exactV true na Va ea mode).1 false w' wx)
    have N3 := Lib.hid (fun w' (b : Below w.heap.size w w') => number_any (nextN (exactV true na Va ea mode).1 true).1 w' (next_lt true wx) (HT.out.below b))
    have N4 := Lib.hid (fun w' (b : Below w.heap.size w w') => number_any (nextN (exactV true na Va ea mode).1 false).1 w' (next_lt false wx) (HT.out.below b))
    have M1 := Lib.hid (num_m10 (exactV true na Va ea mode).1)
    have M2 := Lib.hid (num_m10 (exactV true nb' Vb eb mode).1)
    have M3 := Lib.hid (num_m10 (nextN (exactV true na Va ea mode).1 true).1)
    have M4 := Lib.hid (num_m10 (nextN (exactV true na Va ea mode).1 false).1)
    have P1 := Lib.hid (fun h => (num_plain10 (b := (exactV true na Va ea mode).1) h).2)
    have P2 := Lib.hid (fun h => (num_plain10 (b := (exactV true nb' Vb eb mode).1) h).2)
    have P3 := Lib.hid (fun h => (num_plain10 (b := (nextN (exactV true na Va ea mode).1 true).1) h).2)
    have P4 := Lib.hid (fun h => (num_plain10 (b := (nextN (exactV true na Va ea mode).1 false).1) h).2)
    have NL := NA
    have HVL := Lib.hid va
    have HPL := Lib.hid pa
    unfold ordB at F1
    replace F1 := Lib.hid F1
    replace F2 := Lib.hid F2
    replace F3 := Lib.hid F3
    replace F4 := Lib.hid F4
    clear wx wy NA NB pa pb va vb hmo hord HT ho2 hd2 hd4
    generalize hgx : (exactV true na Va ea mode) = px at *
    generalize hgy : (exactV true nb' Vb eb mode) = py at *
    clear hgx hgy
    obtain ⟨x0, x1, x2⟩ := px
    obtain ⟨y0, y1, y2⟩ := py
    simp only at F1 F2 F3 F4 N1 N2 KX NU ND N3 N4 M1 M2 M3 M4 P1 P2 P3 P4
    generalize nextN x0 true = pu at *
    generalize nextN x0 false = pd at *
    obtain ⟨u0, u1⟩ := pu
    obtain ⟨v0, v1⟩ := pd
    simp only at F3 F4 N3 N4 M3 M4 P3 P4
    generalize numD x0 = r1 at *
    generalize numD y0 = r2 at *
    generalize numD u0 = r3 at *
    generalize numD v0 = r4 at *
    obtain ⟨c0, c1, c2, c3⟩ := k1.cell
    obtain ⟨d0, d1, d2, d3⟩ := k2.cell
    go_wp2_with fail
    refine (X1.out _ b5).mono ?_
    rintro e' w7 ⟨rfl, b⟩
    have b7 := below_step b5 b
    replace k1 := k1.adv b
    replace k2 := k2.adv b
    clear b X1 b5 c0 c1 c2 c3 d0 d1 d2 d3
    obtain ⟨c0, c1, c2, c3⟩ := k1.cell
    obtain ⟨d0, d1, d2, d3⟩ := k2.cell
    go_wp2_with fail
    refine (X2.out _ b7).mono ?_
    rintro e' w8 ⟨rfl, b⟩
    have b8 := below_step b7 b
    replace k1 := k1.adv b
    replace k2 := k2.adv b
    clear b X2 b7 c0 c1 c2 c3 d0 d1 d2 d3 k2
    go_wp2_with fail
    refine (N1.out _ b8).mono ?_
    rintro e' w9 h9
    obtain ⟨A9, p9, q9, rfl, n9, b⟩ := h9.dp
    have b9 := below_step b8 b
    replace k1 := k1.adv b
    clear b h9 N1 b8
    have b := alloc_bel w9 (cd3 (.bool r1.neg) (.slice A9 p9 q9) (.int .i64 r1.e))
    have k9 := K3.made w9 (.bool r1.neg) (.slice A9 p9 q9) (.int .i64 r1.e)
    replace n9 := n9.below b
    replace k1 := k1.adv b
    replace b9 := below_step b9 b
    clear b
    go_wp2_with fail
    generalize w9.alloc (cd3 (.bool r1.neg) (.slice A9 p9 q9) (.int .i64 r1.e)) = w10 at *
    refine (N2.out _ b9).mono ?_
    rintro e' w11 h9
    obtain ⟨A11, p11, q11, rfl, n11, b⟩ := h9.dp
    have b11 := below_step b9 b
    replace k1 := k1.adv b
    replace k9 := k9.adv b
    replace n9 := n9.below b
    clear b h9 N2 b9
    obtain ⟨c0, c1, c2, c3⟩ := k1.cell
    obtain ⟨f0, f1, f2, f3⟩ := k9.cell
    have b := alloc_bel w11 (cd3 (.bool r2.neg) (.slice A11 p11 q11) (.int .i64 r2.e))
    have k11 := K3.made w11 (.bool r2.neg) (.slice A11 p11 q11) (.int .i64 r2.e)
    replace n9 := n9.below b
    replace n11 := n11.below b
    replace k1 := k1.adv b
    replace k9 := k9.adv b
    replace b11 := below_step b11 b
    clear b
    rcases h1 : r1.ok with _ | _
    · have hk := F2.out h1
      rw [hk] at KX
      clear F1 F2 F3 F4 P1 P2 P3 P4
      rcases h2 : r2.ok with _ | _
      · go_wp2_with fail
        refine (KX.out _).mono ?_
        rintro e' w12 ⟨rfl, rfl⟩
        go_wp2_with fail
        go_ret
        exact ⟨rfl, b11⟩
      · go_wp2_with fail
        refine (KX.out _).mono ?_
        rintro e' w12 ⟨rfl, rfl⟩
        go_wp2_with fail
        go_ret
        exact ⟨rfl, b11⟩
    rcases h2 : r2.ok with _ | _
    · clear F1 c0 c1 c2 c3 f0 f1 f2 f3
      go_wp2_with fail
      generalize w11.alloc (cd3 (.bool r2.neg) (.slice A11 p11 q11) (.int .i64 r2.e)) = w13 at *
      have b13 := b11
      clear b11 k9 k11 n9 n11
      refine (NU.out _).mono ?_
      rintro e' w14 ⟨rfl, rfl⟩
      go_wp2_with fail
      refine (ND.out _).mono ?_
      rintro e' w14 ⟨rfl, rfl⟩
      go_wp2_with fail
      refine (N3.out _ b13).mono ?_
      rintro e' w14 h9
      obtain ⟨A14, p14, q14, rfl, n14, b⟩ := h9.dp
      have b14 := below_step b13 b
      replace k1 := k1.adv b
      clear b h9 N3 b13
      have b := alloc_bel w14 (cd3 (.bool r3.neg) (.slice A14 p14 q14) (.int .i64 r3.e))
      have k14 := K3.made w14 (.bool r3.neg) (.slice A14 p14 q14) (.int .i64 r3.e)
      replace n14 := n14.below b
      replace k1 := k1.adv b
      replace b14 := below_step b14 b
      clear b
      go_wp2_with fail
      generalize w14.alloc (cd3 (.bool r3.neg) (.slice A14 p14 q14) (.int .i64 r3.e)) = w15 at *
      refine (N4.out _ b14).mono ?_
      rintro e' w16 h9
      obtain ⟨A16, p16, q16, rfl, n16, b⟩ := h9.dp
      have b16 := below_step b14 b
      replace k1 := k1.adv b
      replace k14 := k14.adv b
      replace n14 := n14.below b
      clear b h9 N4 b14
      obtain ⟨c0, c1, c2, c3⟩ := k1.cell
      obtain ⟨f0, f1, f2, f3⟩ := k14.cell
      have b := alloc_bel w16 (cd3 (.bool r4.neg) (.slice A16 p16 q16) (.int .i64 r4.e))
      have k16 := K3.made w16 (.bool r4.neg) (.slice A16 p16 q16) (.int .i64 r4.e)
      replace n14 := n14.below b
      replace n16 := n16.below b
      replace k1 := k1.adv b
      replace k14 := k14.adv b
      replace b16 := below_step b16 b
      clear b
      rcases h3 : r3.ok with _ | _
      · clear F3 P3 f0 f1 f2 f3
        rcases h4 : r4.ok with _ | _
        · go_wp2_with fail
          go_ret
          exact ⟨rfl, b16⟩
        · have HL4 := F4.out h1 h4
          have C4 := Lib.hid (cmpNum10 r4.neg na r4.e ea _ n16 (NL.out _ b16) M4.out HVL.out (P4.out h4) HPL.out)
          generalize ordD r4.neg na r4.m Va r4.e ea = o4 at *
          have hl4 : decide (0 ≤ o4) = false := decide_eq_false (by omega)
          clear HL4 F4
          go_wp2_with fail
          clear c0 c1 c2 c3
          generalize w16.alloc (cd3 (.bool r4.neg) (.slice A16 p16 q16) (.int .i64 r4.e)) = w17 at *
          refine C4.out.mono ?_
          rintro e' w19 ⟨rfl, b⟩
          have b19 := below_step b16 b
          go_wp2_with fail
          go_ret
          exact ⟨rfl, b19⟩
      · have HL3 := F3.out h1 h3
        have C3 := Lib.hid (cmpNum10 na r3.neg ea r3.e _ (NL.out _ b16) n14 HVL.out M3.out HPL.out (P3.out h3))
        generalize ordD na r3.neg Va r3.m ea r3.e = o3 at *
        have hl3 : decide (0 ≤ o3) = false := decide_eq_false (by omega)
        clear HL3 F3
        go_wp2_with fail
        clear c0 c1 c2 c3 f0 f1 f2 f3
        generalize w16.alloc (cd3 (.bool r4.neg) (.slice A16 p16 q16) (.int .i64 r4.e)) = w17 at *
        refine C3.out.mono ?_
        rintro e' w18 ⟨rfl, b⟩
        have b18 := below_step b16 b
        replace k1 := k1.adv b
        replace k16 := k16.adv b
        replace n16 := n16.below b
        clear b C3 b16 k14 n14
        rcases h4 : r4.ok with _ | _
        · go_wp2_with fail
          go_ret
          exact ⟨rfl, b18⟩
        · have HL4 := F4.out h1 h4
          have C4 := Lib.hid (cmpNum10 r4.neg na r4.e ea _ n16 (NL.out _ b18) M4.out HVL.out (P4.out h4) HPL.out)
          generalize ordD r4.neg na r4.m Va r4.e ea = o4 at *
          have hl4 : decide (0 ≤ o4) = false := decide_eq_false (by omega)
          clear HL4 F4
          obtain ⟨c0, c1, c2, c3⟩ := k1.cell
          obtain ⟨f0, f1, f2, f3⟩ := k16.cell
          go_wp2_with fail
          refine C4.out.mono ?_
          rintro e' w19 ⟨rfl, b⟩
          have b19 := below_step b18 b
          go_wp2_with fail
          go_ret
          exact ⟨rfl, b19⟩
    · have HLE := F1.out h1 h2
      have C1 := Lib.hid (cmpNum10 r1.neg r2.neg r1.e r2.e _ n9 n11 M1.out M2.out (P1.out h1) (P2.out h2))
      generalize ordD r1.neg r2.neg r1.m r2.m r1.e r2.e = o1 at *
      have hle : decide (0 < o1) = false := decide_eq_false (by omega)
      clear HLE F1
      go_wp2_with fail
      clear c0 c1 c2 c3 f0 f1 f2 f3
      generalize w11.alloc (cd3 (.bool r2.neg) (.slice A11 p11 q11) (.int .i64 r2.e)) = w12 at *
      refine C1.out.mono ?_
      rintro e' w13 ⟨rfl, b⟩
      have b13 := below_step b11 b
      replace k1 := k1.adv b
      clear b C1 b11 k9 k11 n9 n11
      go_wp2_with fail
      refine (NU.out _).mono ?_
      rintro e' w14 ⟨rfl, rfl⟩
      go_wp2_with fail
      refine (ND.out _).mono ?_
      rintro e' w14 ⟨rfl, rfl⟩
      go_wp2_with fail
      refine (N3.out _ b13).mono ?_
      rintro e' w14 h9
      obtain ⟨A14, p14, q14, rfl, n14, b⟩ := h9.dp
      have b14 := below_step b13 b
      replace k1 := k1.adv b
      clear b h9 N3 b13
      have b := alloc_bel w14 (cd3 (.bool r3.neg) (.slice A14 p14 q14) (.int .i64 r3.e))
      have k14 := K3.made w14 (.bool r3.neg) (.slice A14 p14 q14) (.int .i64 r3.e)
      replace n14 := n14.below b
      replace k1 := k1.adv b
      replace b14 := below_step b14 b
      clear b
      go_wp2_with fail
      generalize w14.alloc (cd3 (.bool r3.neg) (.slice A14 p14 q14) (.int .i64 r3.e)) = w15 at *
      refine (N4.out _ b14).mono ?_
      rintro e' w16 h9
      obtain ⟨A16, p16, q16, rfl, n16, b⟩ := h9.dp
      have b16 := below_step b14 b
      replace k1 := k1.adv b
      replace k14 := k14.adv b
      replace n14 := n14.below b
      clear b h9 N4 b14
      obtain ⟨c0, c1, c2, c3⟩ := k1.cell
      obtain ⟨f0, f1, f2, f3⟩ := k14.cell
      have b := alloc_bel w16 (cd3 (.bool r4.neg) (.slice A16 p16 q16) (.int .i64 r4.e))
      have k16 := K3.made w16 (.bool r4.neg) (.slice A16 p16 q16) (.int .i64 r4.e)
      replace n14 := n14.below b
      replace n16 := n16.below b
      replace k1 := k1.adv b
      replace k14 := k14.adv b
      replace b16 := below_step b16 b
      clear b
      rcases h3 : r3.ok with _ | _
      · clear F3 P3 f0 f1 f2 f3
        rcases h4 : r4.ok with _ | _
        · go_wp2_with fail
          go_ret
          exact ⟨rfl, b16⟩
        · have HL4 := F4.out h1 h4
          have C4 := Lib.hid (cmpNum10 r4.neg na r4.e ea _ n16 (NL.out _ b16) M4.out HVL.out (P4.out h4) HPL.out)
          generalize ordD r4.neg na r4.m Va r4.e ea = o4 at *
          have hl4 : decide (0 ≤ o4) = false := decide_eq_false (by omega)
          clear HL4 F4
          go_wp2_with fail
          clear c0 c1 c2 c3
          generalize w16.alloc (cd3 (.bool r4.neg) (.slice A16 p16 q16) (.int .i64 r4.e)) = w17 at *
          refine C4.out.mono ?_
          rintro e' w19 ⟨rfl, b⟩
          have b19 := below_step b16 b
          go_wp2_with fail
          go_ret
          exact ⟨rfl, b19⟩
      · have HL3 := F3.out h1 h3
        have C3 := Lib.hid (cmpNum10 na r3.neg ea r3.e _ (NL.out _ b16) n14 HVL.out M3.out HPL.out (P3.out h3))
        generalize ordD na r3.neg Va r3.m ea r3.e = o3 at *
        have hl3 : decide (0 ≤ o3) = false := decide_eq_false (by omega)
        clear HL3 F3
        go_wp2_with fail
        clear c0 c1 c2 c3 f0 f1 f2 f3
        generalize w16.alloc (cd3 (.bool r4.neg) (.slice A16 p16 q16) (.int .i64 r4.e)) = w17 at *
        refine C3.out.mono ?_
        rintro e' w18 ⟨rfl, b⟩
        have b18 := below_step b16 b
        replace k1 := k1.adv b
        replace k16 := k16.adv b
        replace n16 := n16.below b
        clear b C3 b16 k14 n14
        rcases h4 : r4.ok with _ | _
        · go_wp2_with fail
          go_ret
          exact ⟨rfl, b18⟩
        · have HL4 := F4.out h1 h4
          have C4 := Lib.hid (cmpNum10 r4.neg na r4.e ea _ n16 (NL.out _ b18) M4.out HVL.out (P4.out h4) HPL.out)
          generalize ordD r4.neg na r4.m Va r4.e ea = o4 at *
          have hl4 : decide (0 ≤ o4) = false := decide_eq_false (by omega)
          clear HL4 F4
          obtain ⟨c0, c1, c2, c3⟩ := k1.cell
          obtain ⟨f0, f1, f2, f3⟩ := k16.cell
          go_wp2_with fail
          refine C4.out.mono ?_
          rintro e' w19 ⟨rfl, b⟩
          have b19 := below_step b18 b
          go_wp2_with fail
          go_ret
          exact ⟨rfl, b19⟩
end Go.Proofs.YtilmbdbcgbndmaaDoor
