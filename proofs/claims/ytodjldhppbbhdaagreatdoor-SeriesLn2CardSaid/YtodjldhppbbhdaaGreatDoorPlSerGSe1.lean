/-
  The series of the code, in plain numbers: stretches of an arctangent's series, and its units.
  How many terms of a share are enough (series).
  nat.Sub: where its answer lies; a number whose last bit is set.
  Does a calc go on (series' goesOn)?
  volvelleref04.Meet: two spans with a number in common.
-/
import Derived.Test.YtodjldhppbbhdaaGreatDoorPlSerGNat1
import Derived.Test.YtodjldhppbbhdaaGreatDoorPlSerGDy8
import Derived.Test.YtodjldhppbbhdaaGreatDoorPlSerGDy9
import Derived.Test.YtodjldhppbbhdaaGreatDoorPlSerGDy10
import Derived.Test.YtodjldhppbbhdaaGreatDoorPlSerGDy12
import Derived.Test.YtodjldhppbbhdaaGreatDoorPlSerGDy13
import Derived.Test.YtodjldhppbbhdaaGreatDoorPlSerGSp2
import Derived.Test.YtodjldhppbbhdaaGreatDoorPlSerGSp3
import Derived.Test.YtodjldhppbbhdaaGreatDoorPlSerGSp6
namespace Go.Proofs.YtodjldhppbbhdaaGreatDoor
open Go.RowKit

structure StrN where
  sum : Nat
  odds : Nat
  below : Nat
def leafN (n first : Nat) : StrN := ⟨1, 2 * first + 1, (2 * first + 1) * (n * n)⟩
def joinN (minus : Bool) (a b : StrN) : StrN := ⟨if minus then a.sum * b.below - a.odds * b.sum else a.sum * b.below + a.odds * b.sum, a.odds * b.odds, a.below * b.below⟩
def minusB (circ : Bool) (mid : Nat) : Bool := circ && decide (mid % 2 = 1)
/-- The stretch of len places from first on; fuel: len - 1 at least. -/
def betN (circ : Bool) (n : Nat) : Nat → Nat → Nat → StrN
  | 0, first, _ => leafN n first
  | fuel + 1, first, len => if len ≤ 1 then leafN n first else joinN (minusB circ (len / 2)) (betN circ n fuel first (len / 2)) (betN circ n fuel (first + len / 2) (len - len / 2))
structure StrB (s : StrN) (len : Nat) : Prop where
  b1 : nb s.sum ≤ 50 * len - 1
  b2 : nb s.odds ≤ 20 * len
  b3 : nb s.below ≤ 48 * len
theorem leaf_b {n first : Nat} (hn : n < 2 ^ 14) (hf : first < 2 ^ 16) : StrB (leafN n first) 1 := by
  have h1 : nb (2 * first + 1) ≤ 17 := (nb_le_iff _ _).2 (by omega)
  have h2 : nb n ≤ 14 := (nb_le_iff _ _).2 hn
  have h3 := nb_mul n n
  have h4 := nb_mul (2 * first + 1) (n * n)
  exact ⟨by show nb 1 ≤ _; rw [show nb 1 = 1 from by decide]; omega, by show nb (2 * first + 1) ≤ _; omega, by show nb ((2 * first + 1) * (n * n)) ≤ _; omega⟩
theorem join_b {minus : Bool} {a b : StrN} {la lb : Nat} (h1 : 1 ≤ la) (h2 : 1 ≤ lb) (ha : StrB a la) (hb : StrB b lb) : StrB (joinN minus a b) (la + lb) := by
  obtain ⟨a1, a2, a3⟩ := ha
  obtain ⟨b1, b2, b3⟩ := hb
  have m1 := nb_mul a.sum b.below
  have m2 := nb_mul a.odds b.sum
  have m3 := nb_mul a.odds b.odds
  have m4 := nb_mul a.below b.below
  refine ⟨?_, by show nb (a.odds * b.odds) ≤ _; omega, by show nb (a.below * b.below) ≤ _; omega⟩
  show nb (if minus then a.sum * b.below - a.odds * b.sum else a.sum * b.below + a.odds * b.sum) ≤ _
  cases minus
  · have := nb_add (X := a.sum * b.below) (Y := a.odds * b.sum) (K := 50 * (la + lb) - 2) (by omega) (by omega)
    simp only [Bool.false_eq_true, if_false]
    omega
  · have := nb_mono (Nat.sub_le (a.sum * b.below) (a.odds * b.sum))
    simp only [if_true]
    omega
theorem betN_b {circ : Bool} {n : Nat} (hn : n < 2 ^ 14) : ∀ (fuel first len : Nat), 1 ≤ len → len ≤ fuel + 1 → first + len ≤ 2 ^ 16 → StrB (betN circ n fuel first len) len
  | 0, first, len, h1, h2, h3 => by
    obtain rfl : len = 1 := by omega
    exact leaf_b hn (by omega)
  | fuel + 1, first, len, h1, h2, h3 => by
    unfold betN
    by_cases h : len ≤ 1
    · obtain rfl : len = 1 := by omega
      rw [if_pos h]
      exact leaf_b hn (by omega)
    · rw [if_neg h]
      have := join_b (minus := minusB circ (len / 2)) (by omega) (by omega) (betN_b (circ := circ) hn fuel first (len / 2) (by omega) (by omega) (by omega)) (betN_b (circ := circ) hn fuel (first + len / 2) (len - len / 2) (by omega) (by omega) (by omega))
      rw [show len / 2 + (len - len / 2) = len by omega] at this
      exact this
/-- n to the 2 to the k. -/
def sqs (n : Nat) : Nat → Nat
  | 0 => n
  | k + 1 => sqs n k * sqs n k
theorem sqs_nb {n : Nat} (hn : n < 2 ^ 14) : ∀ k, nb (sqs n k) ≤ 14 * 2 ^ k
  | 0 => by have : nb n ≤ 14 := (nb_le_iff _ _).2 hn; simpa [sqs] using this
  | k + 1 => by
    have h := sqs_nb hn k
    have m := nb_mul (sqs n k) (sqs n k)
    unfold sqs
    rw [Nat.pow_succ]
    omega
theorem sqs_ge {n : Nat} (hn : 2 ≤ n) : ∀ k, 2 ≤ sqs n k
  | 0 => hn
  | k + 1 => by
    have h := sqs_ge hn k
    have := Nat.mul_le_mul h h
    unfold sqs
    omega
def termsN (n bits : Nat) : Nat := 16 * (bits + 8) / (nb (sqs n 5) - 1) + 1
/-- tm times the arctangent of 1 over n, in units. -/
def unitsN (circ : Bool) (tm n bits : Nat) : Nat := (betN circ n (termsN n bits - 1) 0 (termsN n bits)).sum * (tm * n) * 2 ^ bits / (betN circ n (termsN n bits - 1) 0 (termsN n bits)).below
end Go.Proofs.YtodjldhppbbhdaaGreatDoor

namespace Go.Proofs.YtodjldhppbbhdaaGreatDoor
open Go.RowKit

abbrev shv (tm n : Nat) : Value := .agg #[.int .u64 ((tm : Nat) : Int), .int .u64 ((n : Nat) : Int)]
abbrev cs2 (tm n : Nat) : Obj := .cells #[.int .u64 ((tm : Nat) : Int), .int .u64 ((n : Nat) : Int)] 49
set_option maxRecDepth 8000 in
set_option maxHeartbeats 4000000 in
theorem terms_any (tm n bits : Nat) (hn1 : 2 ≤ n) (hn2 : n < 2 ^ 14) (hb : bits ≤ 8000) (w : World) :
    Calls Tryz.prog 90 #[shv tm n, .int .i64 ((bits : Nat) : Int)] w (IP w ((termsN n bits : Nat) : Int)) := by
  have b1 := alloc_bel w (cs2 tm n)
  have kS := KC.made 49 w #[.int .u64 ((tm : Nat) : Int), .int .u64 ((n : Nat) : Int)]
  have k0 := kS.at_ 0 _ rfl
  have k1 := kS.at_ 1 _ rfl
  have b2 := below_step b1 (alloc_bel (w.alloc (cs2 tm n)) (.cells #[.int .u64 ((n : Nat) : Int)] 47))
  have S1 := one_sl 47 (w.alloc (cs2 tm n)) n (by unfold B64; omega)
  rw [show (w.alloc (cs2 tm n)).heap.size = w.heap.size + 1 by simp] at S1
  have N1 : Num ((w.alloc (cs2 tm n)).alloc (.cells #[.int .u64 ((n : Nat) : Int)] 47)) (.slice (some ⟨w.heap.size + 1, 0, none⟩) 1 1) (sqs n 0) := ⟨_, _, _, _, rfl, S1, .inr (show n ≠ 0 by omega), vs_one _ _⟩
  have HB := Lib.hid (sqs_nb hn2)
  have HG := Lib.hid (sqs_ge hn1 5)
  clear S1 kS b1
  go_enter Tryz.func90, Tryz.ntmps90
  go_wp2_with fail
  generalize (w.alloc (cs2 tm n)).alloc (.cells #[.int .u64 ((n : Nat) : Int)] 47) = w1 at *
  clear k0 k1 hn2
  go_loopw [5, 9] (fun s5 s9 wr => ∃ k : Nat, k ≤ 5 ∧ s9 = .int .i64 (k : Int) ∧ Num wr s5 (sqs n k) ∧ Below w.heap.size w wr) (fun _ s9 _ => 5 - (intOf s9).toNat)
  case atStart => exact ⟨0, by omega, rfl, N1, b2⟩
  case round =>
    clear N1 b2
    obtain ⟨k, hk, rfl, N, B⟩ := hrel
    by_cases hlt : k < 5
    · have hlt' : (k : Int) < 5 := by omega
      have hnb := HB.out k
      have hp : 2 ^ k ≤ 2 ^ 5 := Nat.pow_le_pow_right (by omega) hk
      have MU := Lib.hid (mulN wr N N (by omega) (by omega))
      clear hnb hp N
      go_wp2_with fail
      refine MU.out.mono ?_
      rintro e' w2 ⟨A, p, c, rfl, N2, b2⟩
      go_wp2_with fail
      go_roundw
      case rel => exact ⟨k + 1, by omega, by go_num, N2, below_step B b2⟩
      case measure => simp [intOf]; omega
    · obtain rfl : k = 5 := by omega
      have hlt' : ¬ ((5 : Nat) : Int) < 5 := by omega
      have hnb := HB.out 5
      have BT := Lib.hid (bitsN wr N (by omega))
      have hge : 2 ≤ nb (sqs n 5) := by
        rcases Nat.lt_or_ge (nb (sqs n 5)) 2 with h | h
        · have := (nb_le_iff (sqs n 5) 1).1 (by omega)
          have := HG.out
          omega
        · exact h
      have HT : Hid (termsN n bits = 16 * (bits + 8) / (nb (sqs n 5) - 1) + 1) := Lib.hid rfl
      clear HB HG N
      generalize nb (sqs n 5) = X at *
      obtain ⟨q, hq⟩ : ∃ q : Nat, q = 16 * (bits + 8) / (X - 1) := ⟨_, rfl⟩
      have hq0 : q ≤ 128128 := by rw [hq]; exact Nat.le_trans (Nat.div_le_self _ _) (by omega)
      have hq1 : Int.tdiv (16 * ((bits : Int) + 8)) ((X : Int) - 1) = (q : Int) := by
        rw [hq, show (16 * ((bits : Int) + 8)) = ((16 * (bits + 8) : Nat) : Int) by omega, show ((X : Int) - 1) = ((X - 1 : Nat) : Int) by omega]
        exact (Int.ofNat_tdiv _ _).symm
      have hq2 : (16 * ((bits : Int) + 8)) / ((X : Int) - 1) = (q : Int) := by
        rw [hq, show (16 * ((bits : Int) + 8)) = ((16 * (bits + 8) : Nat) : Int) by omega, show ((X : Int) - 1) = ((X - 1 : Nat) : Int) by omega]
        exact (Int.natCast_ediv _ _).symm
      rw [← hq] at HT
      clear hq
      have hx0 : ¬ ((X : Int) - 1 = 0) := by omega
      go_wp2_with fail
      refine BT.out.mono ?_
      rintro e' w2 ⟨rfl, b2⟩
      go_wp2_with fail
      rw [HT.out]
      go_ret
      exact ⟨by go_num, below_step B b2⟩
end Go.Proofs.YtodjldhppbbhdaaGreatDoor

namespace Go.Proofs.YtodjldhppbbhdaaGreatDoor
open Go.RowKit

/-- A difference in memory of the call's own. -/
def RowOk (w : World) (V : Nat) (e : Ending) (w' : World) : Prop := ∃ g N F c, e = .returned (.tuple #[viewV (some ⟨g, 0, none⟩) c (tl F N), .bool true]) ∧ Row 47 w' g N F ∧ vs B64 F N = V ∧ N ≤ c ∧ N ≤ 1000000 ∧ w.heap.size ≤ g ∧ Below w.heap.size w w'
set_option maxHeartbeats 400000 in
theorem sub_row (A B : Option Addr) (n m c d : Nat) (x y : Nat → Nat) (w : World) (ha : Sl w A n c x) (hb : Sl w B m d y) (hn : n ≤ 1000000) (hm : m ≤ 1000000) (hle : vs B64 y m ≤ vs B64 x n) :
    Calls Tryz.prog 50 #[.slice A n c, .slice B m d] w (RowOk w (vs B64 x n - vs B64 y m)) := by
  obtain ⟨A1, c1, e1, s1⟩ := viewV_sl ha
  obtain ⟨B1, d1, e2, s2⟩ := viewV_sl hb
  have l1 := tl_le x n
  have l2 := tl_le y m
  have V1 := view_raw A n c x w ha (by omega)
  have V2 := view_raw B m d y w hb (by omega)
  have cy := tl_cn y m
  rw [e1] at V1
  rw [e2] at V2
  rw [← vs_tl B64 x n, ← vs_tl B64 y m] at hle ⊢
  clear e1 e2
  generalize tl x n = p at *
  generalize tl y m = q at *
  have hqp : q ≤ p := cn_le B64_gt cy (Nat.lt_of_le_of_lt hle (vs_lt s1.small))
  have V3 := cmp_any A1 B1 p q c1 d1 x y w s1 s2 (by omega) (by omega)
  obtain ⟨r, hr0, hr1⟩ : ∃ r : Nat, cmpN (vs B64 x p) (vs B64 y q) = (r : Int) ∧ r ≤ 1 := by
    rcases Nat.lt_or_ge (vs B64 y q) (vs B64 x p) with h | h
    · exact ⟨1, by rw [cmpN_gt h]; rfl, by omega⟩
    · exact ⟨0, by rw [Nat.le_antisymm h hle, cmpN_eq]; rfl, by omega⟩
  rw [hr0] at V3
  clear hr0
  have H1 := Lib.hid V1
  have H2 := Lib.hid V2
  have H3 := Lib.hid V3
  clear V1 V2 V3
  have hmk : ∀ u : World, (Instr.makeSlice 25 (.int .i64 (p : Int)) (.int .i64 (p : Int))).run Tryz.prog u =
      .ok (.slice (some ⟨u.heap.size, 0, none⟩) p p) (u.alloc (.cells (madeCells #[.int .u64 0] p) 47)) := fun u => make_run p (by omega) u
  go_enter Tryz.func50, Tryz.ntmps50
  go_wp2_with fail
  refine H1.out.mono ?_
  rintro e w' ⟨rfl, rfl⟩
  go_wp2_with fail
  refine H2.out.mono ?_
  rintro e w' ⟨rfl, rfl⟩
  go_wp2_with fail
  refine H3.out.mono ?_
  rintro e w1 ⟨rfl, hb1⟩
  have hrow := Row.made 47 w1 p
  have s1' := s1.below hb1
  have s2' := s2.below hb1
  go_wp2_with (with_reducible refine wpList_copy_words rfl (.tmp 18) (.tmp 19) 25 rfl 47 Tryz.underlying25 size64 47 w1.heap.size p p p _ A1 p c1 x rfl rfl hrow (Nat.le_refl _) (s1'.alloc _) (Nat.le_refl _) ?_; intro w2 hrow2 hon2)
  have hb2 : Below w1.heap.size w1 w2 := Only.below ((Below.refl _ w1).alloc (Nat.le_refl _) _) hon2 (by simp) (Nat.le_refl _)
  refine (subFrom_any w1.heap.size 0 p p p _ B1 q d1 y w2 hrow2 (by omega) (by omega) (s2'.below hb2) hqp (s2'.far (Nat.le_refl _))).mono ?_
  rintro e w3 ⟨rfl, F', dd, hinv⟩
  have hb3 : Below w1.heap.size w1 w3 := Only.below hb2 hinv.2.2.1 hb2.size (Nat.le_refl _)
  go_wp2_with fail
  refine (view_raw _ p p _ w3 (hinv.2.1.sl0 p p (Nat.le_refl _) (Nat.le_refl _)) (by omega)).mono ?_
  rintro e w5 ⟨rfl, rfl⟩
  go_wp2_with fail
  go_ret2
  have hs := hinv.2.2.2.2
  simp only [Nat.zero_add] at hs
  rw [vs_pad _ _ _ _ hqp] at hs
  have e0 : vs B64 (fun j => if j < p then x j else 0) p = vs B64 x p := vs_pad _ _ _ _ (Nat.le_refl _)
  exact ⟨w1.heap.size, p, F', p, rfl, hinv.2.1, by rw [← e0]; exact sub_end hs hinv.2.1.2 (by rw [e0]; exact hle), Nat.le_refl _, by omega, hb1.size, hb1.trans (hb3.mono hb1.size)⟩
/-- A number above 0 in memory of the call's own. -/
def RowP (w : World) (V : Nat) (e : Ending) (w' : World) : Prop := ∃ g q c F, e = .returned (.tuple #[.slice (some ⟨g, 0, none⟩) q c, .bool true]) ∧ Row 47 w' g q F ∧ 0 < q ∧ q ≤ c ∧ q ≤ 1000000 ∧ Cn q F ∧ vs B64 F q = V ∧ w.heap.size ≤ g ∧ Below w.heap.size w w'
theorem subR {v u : Value} {V U : Nat} (w : World) (h : Num w v V) (h' : Num w u U) (hV : nb V ≤ 6000000) (hU : nb U ≤ 6000000) (hlt : U < V) : Calls Tryz.prog 50 #[v, u] w (RowP w (V - U)) := by
  obtain ⟨A, n, c, x, rfl, s1, hn, c1, rfl⟩ := h.raw 100000 (by omega)
  obtain ⟨B, m, d, y, rfl, s2, hm, c2, rfl⟩ := h'.raw 100000 (by omega)
  refine (sub_row A B n m c d x y w s1 s2 (by omega) (by omega) (by omega)).mono ?_
  rintro e w' ⟨g, N, F, c', rfl, hr, hv, hc, hN, hge, hb⟩
  have hl := tl_le F N
  have h0 : tl F N ≠ 0 := fun h0 => by
    have := vs_tl B64 F N
    rw [h0, vs_zero] at this
    omega
  refine ⟨g, tl F N, c', F, by unfold viewV; rw [if_neg h0], ?_, by omega, by omega, by omega, tl_cn F N, by rw [vs_tl, hv], hge, hb⟩
  obtain ⟨⟨a, q1, q2, q3⟩, q4⟩ := hr
  exact ⟨⟨a, q1, by omega, fun i hi => q3 i (by omega)⟩, fun j hj => q4 j (by omega)⟩
/-- The last bit is set. -/
theorem row_odd {w : World} {g q c V X : Nat} {F : Nat → Nat} (hr : Row 47 w g q F) (h0 : 0 < q) (hc : q ≤ c) (hn : Cn q F) (hv : vs B64 F q = V) (hX : X = 2 * (F 0 / 2) + 1) :
    Num (w.setCell ⟨g, 0, none⟩ (.int .u64 (X : Int))) (.slice (some ⟨g, 0, none⟩) q c) (2 * (V / 2) + 1) ∧ Only w (w.setCell ⟨g, 0, none⟩ (.int .u64 (X : Int))) g := by
  have hF := hr.2 0 h0
  have hX2 : X < B64 := by unfold B64 at hF ⊢; omega
  have r2 := hr.set_ 0 X hX2
  refine ⟨⟨_, _, _, _, rfl, r2.sl0 q c (Nat.le_refl _) hc, ?_, ?_⟩, (Only.refl w g).set_ 0 _⟩
  · rcases hn with h | h
    · omega
    · refine .inr ?_
      unfold upd
      split
      · omega
      · exact h
  · obtain ⟨k, rfl⟩ : ∃ k, q = k + 1 := ⟨q - 1, by omega⟩
    rw [vs_cons] at hv ⊢
    have e1 : vs B64 (fun j => upd F 0 X (j + 1)) k = vs B64 (fun j => F (j + 1)) k := vs_congr fun j _ => by unfold upd; rw [if_neg (by omega)]
    rw [e1, show upd F 0 X 0 = X by unfold upd; rw [if_pos rfl]]
    unfold B64 at hv ⊢
    omega
end Go.Proofs.YtodjldhppbbhdaaGreatDoor

namespace Go.Proofs.YtodjldhppbbhdaaGreatDoor
open Go.RowKit
variable {TW : TypeId}

/-- Is a calc bad from here on? -/
def goesBad (p : Int) (bad : Bool) : Bool := bad || decide (p < 16) || decide (7000 < p)
def GoesP (T : TypeId) (w : World) (g : Nat) (p : Int) (bad : Bool) (e : Ending) (w' : World) : Prop := e = .returned (.bool (!goesBad p bad)) ∧ Wk T w' g p (goesBad p bad) ∧ Only w w' g
set_option maxHeartbeats 2000000 in
theorem goes_any (g : Nat) (p : Int) (bad : Bool) (w : World) (hW : Wk TW w g p bad) : Calls Tryz.prog 47 #[.pointer (some ⟨g, 0, none⟩)] w (GoesP TW w g p bad) := by
  obtain ⟨kw0, kw1⟩ := hW.cell
  have FA : Hid (Calls Tryz.prog 31 #[.pointer (some ⟨g, 0, none⟩)] w fun e w' => e = .returned (.tuple #[]) ∧ Wk TW w' g p true ∧ Only w w' g) := Lib.hid (fail_any g p bad w hW)
  have HW := Lib.hid hW
  clear hW
  by_cases h1 : p < 16
  · have h1' : decide (p < 16) = true := decide_eq_true h1
    have HT : Hid (goesBad p bad = true) := Lib.hid (by unfold goesBad; rw [h1', Bool.or_true, Bool.true_or])
    go_enter Tryz.func47, Tryz.ntmps47
    go_wp2_with fail
    refine FA.out.mono ?_
    rintro e' w2 ⟨rfl, hW2, o2⟩
    obtain ⟨kv0, kv1⟩ := hW2.cell
    clear kw0 kw1 FA
    go_wp2_with fail
    go_ret
    unfold GoesP
    rw [HT.out]
    exact ⟨rfl, hW2, o2⟩
  · have h1' : decide (p < 16) = false := decide_eq_false h1
    by_cases h2 : 7000 < p
    · have h2' : decide (7000 < p) = true := decide_eq_true h2
      have HT : Hid (goesBad p bad = true) := Lib.hid (by unfold goesBad; rw [h2', Bool.or_true])
      go_enter Tryz.func47, Tryz.ntmps47
      go_wp2_with fail
      refine FA.out.mono ?_
      rintro e' w2 ⟨rfl, hW2, o2⟩
      obtain ⟨kv0, kv1⟩ := hW2.cell
      clear kw0 kw1 FA
      go_wp2_with fail
      go_ret
      unfold GoesP
      rw [HT.out]
      exact ⟨rfl, hW2, o2⟩
    · have h2' : decide (7000 < p) = false := decide_eq_false h2
      have HT : Hid (goesBad p bad = bad) := Lib.hid (by unfold goesBad; rw [h1', h2', Bool.or_false, Bool.or_false])
      go_enter Tryz.func47, Tryz.ntmps47
      go_wp2_with fail
      go_ret
      unfold GoesP
      rw [HT.out]
      exact ⟨rfl, HW.out, Only.refl _ _⟩
end Go.Proofs.YtodjldhppbbhdaaGreatDoor

namespace Go.Proofs.YtodjldhppbbhdaaGreatDoor
open Go.RowKit

theorem rcmpI {r s : DR} {A B : Option Addr} {n c m d : Nat} (w : World) (ha : DIn w A n c r) (hb : DIn w B m d s) :
    Calls Tryz.prog 28 #[dyv r.neg A n c r.e, dyv s.neg B m d s.e] w (CmpP w (cmpI2 r s) (r.ok && s.ok)) := by
  obtain ⟨x, a1, a2, a3, a4⟩ := ha
  obtain ⟨y, b1, b2, b3, b4⟩ := hb
  have := rcmpD_any r.neg s.neg A B n c m d x y r.e s.e w a1 b1 a2 b2
  unfold cmpI2
  rw [a3, b3, a4, b4]
  exact this
set_option maxHeartbeats 2000000 in
theorem meet_yes {lo hi lo' hi' : DR} {A B A' B' : Option Addr} {n c m d n' c' m' d' : Nat} (w : World) (ha : DIn w A n c lo) (hb : DIn w B m d hi) (ha' : DIn w A' n' c' lo') (hb' : DIn w B' m' d' hi')
    (h1 : lo.ok = true) (h2 : hi.ok = true) (h3 : lo'.ok = true) (h4 : hi'.ok = true) (hx : cmpI2 lo hi' ≤ 0) (hy : cmpI2 lo' hi ≤ 0) :
    Calls Tryz.prog 15 #[spv lo.neg A n c lo.e hi.neg B m d hi.e, spv lo'.neg A' n' c' lo'.e hi'.neg B' m' d' hi'.e] w (TruePost w) := by
  obtain ⟨bel, kA, kB, hsz⟩ := start666 w (.bool lo.neg) (.slice A n c) (.int .i64 lo.e) (.bool hi.neg) (.slice B m d) (.int .i64 hi.e) (.bool lo'.neg) (.slice A' n' c') (.int .i64 lo'.e) (.bool hi'.neg) (.slice B' m' d') (.int .i64 hi'.e)
  have C1 := Lib.hid (rcmpI _ (ha.below bel) (hb'.below bel))
  rw [h1, h4] at C1
  have D1 : Hid (∀ w', Below w.heap.size w w' → Calls Tryz.prog 28 #[dyv lo'.neg A' n' c' lo'.e, dyv hi.neg B m d hi.e] w' (CmpP w' (cmpI2 lo' hi) true)) := Lib.hid (fun w' b => by
    have := rcmpI w' (ha'.below b) (hb.below b)
    rw [h3, h2] at this
    exact this)
  obtain ⟨k0, k1, k2, k3, k4, k5⟩ := kA.cell
  obtain ⟨l0, l1, l2, l3, l4, l5⟩ := kB.cell
  clear ha hb ha' hb' h1 h2 h3 h4
  generalize cmpI2 lo hi' = x at *
  generalize cmpI2 lo' hi = y at *
  go_enter Tryz.func15, Tryz.ntmps15
  go_wp2_with fail
  refine C1.out.mono ?_
  generalize (w.alloc (co6 (.bool lo.neg) (.slice A n c) (.int .i64 lo.e) (.bool hi.neg) (.slice B m d) (.int .i64 hi.e))).alloc (co6 (.bool lo'.neg) (.slice A' n' c') (.int .i64 lo'.e) (.bool hi'.neg) (.slice B' m' d') (.int .i64 hi'.e)) = w1 at *
  rintro e' w2 ⟨rfl, b⟩
  have B2 := below_step bel b
  have kA2 := kA.below b (by omega)
  have kB2 := kB.below b (by omega)
  clear C1 b bel kA kB k0 k1 k2 k3 k4 k5 l0 l1 l2 l3 l4 l5
  obtain ⟨k0, k1, k2, k3, k4, k5⟩ := kA2.cell
  obtain ⟨l0, l1, l2, l3, l4, l5⟩ := kB2.cell
  go_wp2_with fail
  refine (D1.out _ B2).mono ?_
  rintro e' w3 ⟨rfl, b⟩
  have B3 := below_step B2 b
  clear D1 b B2 kA2 kB2 k0 k1 k2 k3 k4 k5 l0 l1 l2 l3 l4 l5
  go_wp2_with fail
  go_ret
  exact ⟨rfl, B3⟩
end Go.Proofs.YtodjldhppbbhdaaGreatDoor
