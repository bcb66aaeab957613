/-
  volvellelaw03's Few, works, fit.
  Calls of a nil work; volvellelaw03's awake: 1 over 3.
  The state of a law with two works.
-/
import Derived.RegionTactic
import Derived.ChangeAlike
import Derived.KernelRfl
import Derived.Test.YtljioadppdpdiaaGreatDoorPkDy11
import Derived.Test.YtljioadppdpdiaaGreatDoorPkSp3
import Derived.Test.YtljioadppdpdiaaGreatDoorPkSp6
import Derived.Test.YtljioadppdpdiaaGreatDoorPkSp7
import Derived.Test.YtljioadppdpdiaaGreatDoorPkSp5
namespace Go.Proofs.YtljioadppdpdiaaGreatDoor
open Go.RowKit

/-- Are these spans of few words and of exponents that aren't great? -/
def few3 (n m : Nat) (ea eb : Int) : Bool := (few1 n ea && few1 m eb) && decide (n ≤ 20) && decide (m ≤ 20)
def few3L (l : SPL) : Nat → Bool
  | 0 => true
  | k + 1 => few3L l k && few3 (l.lo.n k) (l.hi.n k) (l.lo.e k) (l.hi.e k)
theorem few3_true {n m : Nat} {ea eb : Int} (h : few3 n m ea eb = true) : n ≤ 20 ∧ m ≤ 20 ∧ -20000 ≤ ea ∧ ea ≤ 20000 ∧ -20000 ≤ eb ∧ eb ≤ 20000 := by
  unfold few3 at h
  simp only [Bool.and_eq_true, decide_eq_true_eq] at h
  have h1 := few1_true h.1.1.1
  have h2 := few1_true h.1.1.2
  omega
theorem few3L_true {l : SPL} {k : Nat} (h : few3L l k = true) : ∀ j, j < k → few3 (l.lo.n j) (l.hi.n j) (l.lo.e j) (l.hi.e j) = true := by
  induction k with
  | zero => intro j hj; omega
  | succ k ih =>
    intro j hj
    simp only [few3L, Bool.and_eq_true] at h
    rcases Nat.lt_or_ge j k with h1 | h1
    · exact ih h.1 j h1
    · obtain rfl : j = k := by omega
      exact h.2
theorem few3L_false {l : SPL} {k j : Nat} (hj : j < k) (h : few3 (l.lo.n j) (l.hi.n j) (l.lo.e j) (l.hi.e j) = false) : few3L l k = false := by
  cases hp : few3L l k with
  | false => rfl
  | true => rw [few3L_true hp j hj] at h; cases h

set_option maxHeartbeats 4000000 in
theorem few3_any (L : Option Addr) (k cp : Nat) (l : SPL) (w : World) (h : SLs w L k cp l) (hk : k ≤ 9223372036854775807) (hlen : ∀ j, j < k → l.lo.n j ≤ 9223372036854775807 ∧ l.hi.n j ≤ 9223372036854775807) :
    Calls Tryz.prog 6 #[.slice L k cp] w (BoolPost w (few3L l k)) := by
  have HLEN := Lib.hid hlen
  clear hlen
  go_enter Tryz.func6, Tryz.ntmps6
  go_wp2_with fail
  go_loopw [7] (fun s7 wr => ∃ j : Nat, j ≤ k ∧ s7 = .int .i64 (j : Int) ∧ Hid (few3L l j = true) ∧ Below w.heap.size w wr) (fun s7 _ => k - (intOf s7).toNat)
  case atStart => exact ⟨0, Nat.zero_le _, rfl, Lib.hid rfl, Below.refl _ _⟩
  case round =>
    obtain ⟨j, hj, rfl, hall, bw⟩ := hrel
    by_cases hlt : j < k
    · have HS := h.below bw
      obtain ⟨ad, rfl, hb, hc⟩ := HS.2.1 (by omega)
      obtain ⟨⟨d0, d1, d2⟩, ⟨d3, d4, d5⟩⟩ := hc j hlt
      obtain ⟨sl, sh⟩ := HS.2.2 j hlt
      have hln := HLEN.out j hlt
      have HY : Hid (few3 (l.lo.n j) (l.hi.n j) (l.lo.e j) (l.hi.e j) = true → few3L l (j + 1) = true) := Lib.hid (fun hp => by rw [few3L, hall.out, hp]; rfl)
      have HNO : Hid (few3 (l.lo.n j) (l.hi.n j) (l.lo.e j) (l.hi.e j) = false → few3L l k = false) := Lib.hid (fun hp => few3L_false hlt hp)
      clear hc hall HS
      generalize l.lo.ng j = na at *
      generalize l.lo.A j = A at *
      generalize l.lo.n j = n at *
      generalize l.lo.c j = c at *
      generalize l.lo.e j = ea at *
      generalize l.lo.x j = x at *
      generalize l.hi.ng j = nb' at *
      generalize l.hi.A j = B at *
      generalize l.hi.n j = m at *
      generalize l.hi.c j = d at *
      generalize l.hi.e j = eb at *
      generalize l.hi.x j = y at *
      have bA := alloc_bel6 wr (.bool na) (.slice A n c) (.int .i64 ea) (.bool nb') (.slice B m d) (.int .i64 eb)
      have kA := KC.made 28 wr #[.bool na, .slice A n c, .int .i64 ea, .bool nb', .slice B m d, .int .i64 eb]
      have FP := few_pair na nb' A B n m c d x y ea eb _ (sl.below bA) (sh.below bA) hln.1 hln.2
      rw [show (wr.alloc (co6 (.bool na) (.slice A n c) (.int .i64 ea) (.bool nb') (.slice B m d) (.int .i64 eb))).heap.size = wr.heap.size + 1 by simp] at FP
      have FPH := Lib.hid FP
      have HW1 : Hid ((wr.alloc (co6 (.bool na) (.slice A n c) (.int .i64 ea) (.bool nb') (.slice B m d) (.int .i64 eb))).heap.size = wr.heap.size + 1) := Lib.hid (by simp)
      have k0 := kA.at_ 0 _ rfl
      have k1 := kA.at_ 1 _ rfl
      have k2 := kA.at_ 2 _ rfl
      have k3 := kA.at_ 3 _ rfl
      have k4 := kA.at_ 4 _ rfl
      have k5 := kA.at_ 5 _ rfl
      clear FP sl sh
      go_wp2_with fail
      refine FPH.out.mono ?_
      clear FPH k0 k1 k2 k3 k4 k5 d0 d1 d2 d3 d4 d5
      have B1 := below_step bw bA
      generalize wr.alloc (co6 (.bool na) (.slice A n c) (.int .i64 ea) (.bool nb') (.slice B m d) (.int .i64 eb)) = w1 at *
      rintro e' w2 ⟨rfl, b2⟩
      rw [← HW1.out] at b2
      clear HW1
      have kB := kA.adv b2
      have B2 := below_step B1 b2
      clear b2 kA bA bw hb B1
      have k0 := kB.at_ 0 _ rfl
      have k1 := kB.at_ 1 _ rfl
      have k2 := kB.at_ 2 _ rfl
      have k3 := kB.at_ 3 _ rfl
      have k4 := kB.at_ 4 _ rfl
      have k5 := kB.at_ 5 _ rfl
      clear kB
      by_cases hf : (few1 n ea && few1 m eb) = true
      · rw [hf]
        by_cases h1 : n ≤ 20
        · have h1' : ¬ (20 : Int) < (n : Int) := by omega
          by_cases h2 : m ≤ 20
          · have h2' : ¬ (20 : Int) < (m : Int) := by omega
            have HF := Lib.hid (HY.out (by unfold few3; rw [hf]; simp [h1, h2]))
            clear HY HNO hf
            go_wp2_with fail
            go_roundw
            case rel => exact ⟨j + 1, by omega, by go_num, HF, B2⟩
            case measure => simp [intOf]; omega
          · have h2' : (20 : Int) < (m : Int) := by omega
            have HN := Lib.hid (HNO.out (by unfold few3; simp [h2]))
            clear HY HNO hf
            go_wp2_with fail
            go_ret
            exact ⟨by rw [HN.out]; rfl, B2⟩
        · have h1' : (20 : Int) < (n : Int) := by omega
          have HN := Lib.hid (HNO.out (by unfold few3; simp [h1]))
          clear HY HNO hf
          go_wp2_with fail
          go_ret
          exact ⟨by rw [HN.out]; rfl, B2⟩
      · have hf' : (few1 n ea && few1 m eb) = false := by simpa using hf
        have HN := Lib.hid (HNO.out (by unfold few3; rw [hf']; rfl))
        rw [hf']
        clear HY HNO hf hf'
        go_wp2_with fail
        go_ret
        exact ⟨by rw [HN.out]; rfl, B2⟩
    · obtain rfl : j = k := by omega
      go_wp2_with fail
      go_ret
      exact ⟨by rw [hall.out]; rfl, bw⟩
/-- Is P up to 500, or too great? -/
def fitK (p : Int) : Bool := decide (p ≤ 500) || decide (8192 < p)
abbrev ck2 (a b : Value) : Obj := .cells #[a, b] 23
set_option maxHeartbeats 1000000 in
theorem fit_any (p : Int) (bad : Bool) (w : World) : Calls Tryz.prog 7 #[.agg #[.int .i64 p, .bool bad]] w (BoolPost w (fitK p)) := by
  have b := alloc_bel w (ck2 (.int .i64 p) (.bool bad))
  by_cases h1 : p ≤ 500
  · have h1' : decide (p ≤ 500) = true := by simpa using h1
    have HF : Hid (fitK p = true) := Lib.hid (by unfold fitK; rw [h1']; rfl)
    go_enter Tryz.func7, Tryz.ntmps7
    go_wp2_with fail
    go_ret
    exact ⟨by rw [HF.out]; rfl, b⟩
  · have h1' : decide (p ≤ 500) = false := by simpa using h1
    by_cases h2 : 8192 < p
    · have h2' : decide (8192 < p) = true := by simpa using h2
      have HF : Hid (fitK p = true) := Lib.hid (by unfold fitK; rw [h2', Bool.or_true])
      go_enter Tryz.func7, Tryz.ntmps7
      go_wp2_with fail
      go_ret
      exact ⟨by rw [HF.out]; rfl, b⟩
    · have h2' : decide (8192 < p) = false := by simpa using h2
      have HF : Hid (fitK p = false) := Lib.hid (by unfold fitK; rw [h1', h2']; rfl)
      go_enter Tryz.func7, Tryz.ntmps7
      go_wp2_with fail
      go_ret
      exact ⟨by rw [HF.out]; rfl, b⟩
def WorksP (w : World) (p : Int) (bad : Bool) (e : Ending) (w' : World) : Prop := ∃ g h, e = .returned (.tuple #[.pointer (some ⟨g, 0, none⟩), .pointer (some ⟨h, 0, none⟩)]) ∧ Wk 37 w' g p bad ∧ Wk 38 w' h p bad ∧ g ≠ h ∧ w.heap.size ≤ g ∧ w.heap.size ≤ h ∧ Below w.heap.size w w'
theorem works1 (w : World) (o : Obj) (p : Int) (bad : Bool) : WorksP w p bad (.returned (.tuple #[.pointer (some ⟨w.heap.size + 1, 0, none⟩), .pointer (some ⟨w.heap.size + 1 + 1, 0, none⟩)])) (((w.alloc o).alloc (.cells #[.int .i64 p, .bool bad] 37)).alloc (.cells #[.int .i64 p, .bool bad] 38)).drew := by
  have b := (below_step (below_step (alloc_bel w o) (alloc_bel _ (.cells #[.int .i64 p, .bool bad] 37))) (alloc_bel _ (.cells #[.int .i64 p, .bool bad] 38))).drew
  have k1 := (KC.made 37 (w.alloc o) #[.int .i64 p, .bool bad]).adv (alloc_bel _ (.cells #[.int .i64 p, .bool bad] 38))
  have k2 := KC.made 38 ((w.alloc o).alloc (.cells #[.int .i64 p, .bool bad] 37)) #[.int .i64 p, .bool bad]
  rw [show (w.alloc o).heap.size = w.heap.size + 1 by simp] at k1
  rw [show ((w.alloc o).alloc (.cells #[.int .i64 p, .bool bad] 37)).heap.size = w.heap.size + 1 + 1 by simp] at k2
  exact ⟨_, _, rfl, k1, k2, by omega, by omega, by omega, b⟩
theorem works2 (w : World) (o : Obj) (p : Int) (bad : Bool) : WorksP w p bad (.returned (.tuple #[.pointer (some ⟨w.heap.size + 1 + 1, 0, none⟩), .pointer (some ⟨w.heap.size + 1, 0, none⟩)])) (((w.alloc o).alloc (.cells #[.int .i64 p, .bool bad] 38)).alloc (.cells #[.int .i64 p, .bool bad] 37)).drew := by
  have b := (below_step (below_step (alloc_bel w o) (alloc_bel _ (.cells #[.int .i64 p, .bool bad] 38))) (alloc_bel _ (.cells #[.int .i64 p, .bool bad] 37))).drew
  have k1 := (KC.made 38 (w.alloc o) #[.int .i64 p, .bool bad]).adv (alloc_bel _ (.cells #[.int .i64 p, .bool bad] 37))
  have k2 := KC.made 37 ((w.alloc o).alloc (.cells #[.int .i64 p, .bool bad] 38)) #[.int .i64 p, .bool bad]
  rw [show (w.alloc o).heap.size = w.heap.size + 1 by simp] at k1
  rw [show ((w.alloc o).alloc (.cells #[.int .i64 p, .bool bad] 38)).heap.size = w.heap.size + 1 + 1 by simp] at k2
  exact ⟨_, _, rfl, k2, k1, by omega, by omega, by omega, b⟩
set_option maxHeartbeats 4000000 in
theorem works_any (p : Int) (bad : Bool) (w : World) : Calls Tryz.prog 8 #[.agg #[.int .i64 p, .bool bad]] w (WorksP w p bad) := by
  have b := alloc_bel w (ck2 (.int .i64 p) (.bool bad))
  have kA := KC.made 23 w #[.int .i64 p, .bool bad]
  have k0 := kA.at_ 0 _ rfl
  have k1 := kA.at_ 1 _ rfl
  go_enter Tryz.func8, Tryz.ntmps8
  go_wp2_with fail
  go_region
  all_goals (go_wp2_with fail; go_ret2; first | exact works1 w _ p bad | exact works2 w _ p bad)
end Go.Proofs.YtljioadppdpdiaaGreatDoor

namespace Go.Proofs.YtljioadppdpdiaaGreatDoor
open Go.RowKit

abbrev spz : Value := spv false none 0 0 0 false none 0 0 0
def ZeroP (w : World) (e : Ending) (w' : World) : Prop := e = .returned spz ∧ Below w.heap.size w w'
set_option maxHeartbeats 2000000 in
theorem point_nil (neg : Bool) (A : Option Addr) (n c : Nat) (x : Int) (w : World) : Calls Tryz.prog 44 #[.pointer none, dyv neg A n c x] w (ZeroP w) := by
  have b1 := below_step (below_step (alloc_bel w (cd3 (.bool neg) (.slice A n c) (.int .i64 x))) (alloc_bel _ z6)) (alloc_bel _ (co6 (.bool neg) (.slice A n c) (.int .i64 x) (.bool neg) (.slice A n c) (.int .i64 x)))
  have b2 := below_step b1 (alloc_bel _ (co6 (.bool neg) (.slice A n c) (.int .i64 x) (.bool neg) (.slice A n c) (.int .i64 x)))
  have kR := (((KC.made 28 (w.alloc (cd3 (.bool neg) (.slice A n c) (.int .i64 x))) zs).adv (alloc_bel _ (co6 (.bool neg) (.slice A n c) (.int .i64 x) (.bool neg) (.slice A n c) (.int .i64 x)))).adv (alloc_bel _ (co6 (.bool neg) (.slice A n c) (.int .i64 x) (.bool neg) (.slice A n c) (.int .i64 x))))
  rw [show (w.alloc (cd3 (.bool neg) (.slice A n c) (.int .i64 x))).heap.size = w.heap.size + 1 by simp] at kR
  have kA := (KC.made 26 w #[.bool neg, .slice A n c, .int .i64 x]).adv (alloc_bel _ z6)
  have ka0 := kA.at_ 0 _ rfl
  have ka1 := kA.at_ 1 _ rfl
  have ka2 := kA.at_ 2 _ rfl
  have TN := Lib.hid (fun (L : Option Addr) (w' : World) => takes_nil L 1 1 w')
  go_enter Tryz.func44, Tryz.ntmps44
  go_wp2_with fail
  refine (TN.out _ _).mono ?_
  rintro e' w2 ⟨rfl, rfl⟩
  clear ka0 ka1 ka2 TN kA b1
  have bF := below_only b2 (only_put6 _ (w.heap.size + 1) (.bool false) (.slice none 0 0) (.int .i64 0) (.bool false) (.slice none 0 0) (.int .i64 0)) (by omega)
  have s0 := kR.at_ 0 _ rfl
  have s1 := kR.at_ 1 _ rfl
  have s2 := kR.at_ 2 _ rfl
  have s3 := kR.at_ 3 _ rfl
  have s4 := kR.at_ 4 _ rfl
  have s5 := kR.at_ 5 _ rfl
  have rf0 := kR.fr 0
  have rf1 := kR.fr 1
  have rf2 := kR.fr 2
  have rf3 := kR.fr 3
  have rf4 := kR.fr 4
  have rf5 := kR.fr 5
  generalize (((w.alloc (cd3 (.bool neg) (.slice A n c) (.int .i64 x))).alloc z6).alloc (co6 (.bool neg) (.slice A n c) (.int .i64 x) (.bool neg) (.slice A n c) (.int .i64 x))).alloc (co6 (.bool neg) (.slice A n c) (.int .i64 x) (.bool neg) (.slice A n c) (.int .i64 x)) = w9 at *
  go_wp2_with fail
  exact bodyPost_ret (v := spz) (by simp [results, Tryz.results44, go_sem, s0, s1, s2, s3, s4, s5]) rfl ⟨rfl, bF⟩
set_option maxHeartbeats 2000000 in
theorem num_one_nil (w : World) (hT : Tab w) : Calls Tryz.prog 20 #[.pointer none, .int .i64 1] w (ZeroP w) := by
  have b0 := alloc_bel w z6
  have kR := KC.made 28 w zs
  have b1 := alloc_bel (w.alloc z6) (.cells #[.int .u64 1] 42)
  have HM : Hid (Calls Tryz.prog 43 #[.bool false, .slice (some ⟨w.heap.size + 1, 0, none⟩) 1 1, .int .i64 0] ((w.alloc z6).alloc (.cells #[.int .u64 1] 42)) (DP ((w.alloc z6).alloc (.cells #[.int .u64 1] 42)) (mkD false 1 0))) := Lib.hid (by
    have := make_any false _ 1 1 (fun _ => 1) 0 _ (one_sl 42 (w.alloc z6) 1 (by unfold B64; omega)) (by omega) (hT.below (below_step b0 b1)) (by omega) (by omega)
    rw [vs_one, show (w.alloc z6).heap.size = w.heap.size + 1 by simp] at this
    exact this.mono fun _ _ h => h.dp)
  generalize mkD false 1 0 = r at *
  have kR1 := kR.adv b1
  have B1 := below_step b0 b1
  clear kR b0 b1
  go_enter Tryz.func20, Tryz.ntmps20
  go_wp2_with fail
  refine HM.out.mono ?_
  clear HM
  generalize (w.alloc z6).alloc (.cells #[.int .u64 1] 42) = w1 at *
  rintro e' w2 ⟨A1, n1, c1, rfl, m1, b2⟩
  have kR2 := kR1.adv b2
  have B2 := below_step B1 b2
  clear kR1 B1 b2
  have s0 := kR2.at_ 0 _ rfl
  have hl := kR2.2
  go_wp2_with fail
  have b3 := alloc_bel w2 (cd3 (.bool r.neg) (.slice A1 n1 c1) (.int .i64 r.e))
  have kR3 := kR2.adv b3
  have B3 := below_step B2 b3
  clear kR2 B2 b3 s0 hl
  generalize w2.alloc (cd3 (.bool r.neg) (.slice A1 n1 c1) (.int .i64 r.e)) = w3 at *
  refine (point_nil r.neg A1 n1 c1 r.e w3).mono ?_
  rintro e' w4 ⟨rfl, b4⟩
  have kR := kR3.adv b4
  have B4 := below_step B3 b4
  have bF := below_only B4 (only_put6 _ (w.heap.size) (.bool false) (.slice none 0 0) (.int .i64 0) (.bool false) (.slice none 0 0) (.int .i64 0)) (by omega)
  clear kR3 B3 b4 B4
  have s0 := kR.at_ 0 _ rfl
  have s1 := kR.at_ 1 _ rfl
  have s2 := kR.at_ 2 _ rfl
  have s3 := kR.at_ 3 _ rfl
  have s4 := kR.at_ 4 _ rfl
  have s5 := kR.at_ 5 _ rfl
  have rf0 := kR.fr 0
  have rf1 := kR.fr 1
  have rf2 := kR.fr 2
  have rf3 := kR.fr 3
  have rf4 := kR.fr 4
  have rf5 := kR.fr 5
  go_wp2_with fail
  exact bodyPost_ret (v := spz) (by simp [results, Tryz.results20, go_sem, s0, s1, s2, s3, s4, s5]) rfl ⟨rfl, bF⟩

theorem aw1 : numS 3 false 1 = ⟨false, ⟨true, false, 1, 0⟩, ⟨true, false, 1, 0⟩⟩ := by kernel_rfl
theorem aw3 : numS 3 false 3 = ⟨false, ⟨true, false, 3, 0⟩, ⟨true, false, 3, 0⟩⟩ := by kernel_rfl
theorem awd : divC 3 false ⟨true, false, 1, 0⟩ ⟨true, false, 1, 0⟩ ⟨true, false, 3, 0⟩ ⟨true, false, 3, 0⟩ = ⟨false, ⟨true, false, 5, -4⟩, ⟨true, false, 3, -3⟩⟩ := by kernel_rfl
set_option maxRecDepth 8000 in
set_option maxHeartbeats 4000000 in
theorem awake3 (w : World) (hT : Tab w) : Calls Tryz.prog 5 #[] w (TruePost w) := by
  have b0 := alloc_bel w (.cells #[.int .i64 3, .bool false] 37)
  have hW : Wk 37 (w.alloc (.cells #[.int .i64 3, .bool false] 37)) w.heap.size 3 false := KC.made 37 w #[.int .i64 3, .bool false]
  have hT1 := hT.below b0
  have S := St.start hW
  have HN1 : Hid (∀ w', Wk 37 w' w.heap.size 3 false → Tab w' → Calls Tryz.prog 20 #[.pointer (some ⟨w.heap.size, 0, none⟩), .int .i64 1] w' (SPost 37 w' w.heap.size 3 ⟨false, ⟨true, false, 1, 0⟩, ⟨true, false, 1, 0⟩⟩)) := Lib.hid (fun w' k t => by
    have := num_any 1 w.heap.size 3 false w' k t (by omega) (by omega)
    rw [aw1] at this
    exact this)
  have HN3 : Hid (∀ w', Wk 37 w' w.heap.size 3 false → Tab w' → Calls Tryz.prog 20 #[.pointer (some ⟨w.heap.size, 0, none⟩), .int .i64 3] w' (SPost 37 w' w.heap.size 3 ⟨false, ⟨true, false, 3, 0⟩, ⟨true, false, 3, 0⟩⟩)) := Lib.hid (fun w' k t => by
    have := num_any 3 w.heap.size 3 false w' k t (by omega) (by omega)
    rw [aw3] at this
    exact this)
  go_enter Tryz.func5, Tryz.ntmps5
  go_wp2_with fail
  generalize w.alloc (.cells #[.int .i64 3, .bool false] 37) = w1 at *
  refine (HN1.out _ hW hT1).mono ?_
  rintro e' w2 ⟨A1, n1, c1, B1, m1, d1, rfl, N1, N2, hW2, o2⟩
  have S2 := ((S.only o2 hW2).num N2).num N1
  clear S N1 N2 hW2 o2 HN1
  go_wp2_with fail
  refine (HN3.out _ S2.W (hT1.wk hW S2.O)).mono ?_
  rintro e' w3 ⟨A2, n2, c2, B2, m2, d2, rfl, N1, N2, hW3, o3⟩
  have S3 := ((S2.only o3 hW3).num N2).num N1
  clear S2 N1 N2 hW3 o3 HN3
  go_wp2_with fail
  have DV := div_any (lo := ⟨true, false, 1, 0⟩) (hi := ⟨true, false, 1, 0⟩) (lo' := ⟨true, false, 3, 0⟩) (hi' := ⟨true, false, 3, 0⟩) w.heap.size 3 false w3 S3.W
    (DIn.of_num S3.ns.2.2.1 rfl rfl) (DIn.of_num S3.ns.2.2.2.1 rfl rfl) (DIn.of_num S3.ns.1 rfl rfl) (DIn.of_num S3.ns.2.1 rfl rfl) (hT1.wk hW S3.O)
  rw [awd] at DV
  have HDV := Lib.hid DV
  clear DV
  refine HDV.out.mono ?_
  rintro e' w4 ⟨A3, n3, c3, B3, m3, d3, rfl, N1, N2, hW4, o4⟩
  have S4 := ((S3.only o4 hW4).num N2).num N1
  clear S3 N1 N2 hW4 o4 HDV
  obtain ⟨kw0, kw1⟩ := S4.wc
  have hl := S4.lt
  have b5 := (alloc_bel w4 (co6 (.bool false) (.slice A3 n3 c3) (.int .i64 (-4)) (.bool false) (.slice B3 m3 d3) (.int .i64 (-3))))
  have b6 := alloc_bel (w4.alloc (co6 (.bool false) (.slice A3 n3 c3) (.int .i64 (-4)) (.bool false) (.slice B3 m3 d3) (.int .i64 (-3)))) (.cells #[.int .u64 5] 42)
  have b7 := alloc_bel ((w4.alloc (co6 (.bool false) (.slice A3 n3 c3) (.int .i64 (-4)) (.bool false) (.slice B3 m3 d3) (.int .i64 (-3)))).alloc (.cells #[.int .u64 5] 42)) (.cells #[.int .u64 3] 42)
  have q5 := one_sl 42 (w4.alloc (co6 (.bool false) (.slice A3 n3 c3) (.int .i64 (-4)) (.bool false) (.slice B3 m3 d3) (.int .i64 (-3)))) 5 (by unfold B64; omega)
  have q3 := one_sl 42 ((w4.alloc (co6 (.bool false) (.slice A3 n3 c3) (.int .i64 (-4)) (.bool false) (.slice B3 m3 d3) (.int .i64 (-3)))).alloc (.cells #[.int .u64 5] 42)) 3 (by unfold B64; omega)
  have S5 := ((S4.below b5).below b6).below b7
  have n5 : Num (((w4.alloc (co6 (.bool false) (.slice A3 n3 c3) (.int .i64 (-4)) (.bool false) (.slice B3 m3 d3) (.int .i64 (-3)))).alloc (.cells #[.int .u64 5] 42)).alloc (.cells #[.int .u64 3] 42)) (.slice (some ⟨w4.heap.size + 1, 0, none⟩) 1 1) 5 := by
    rw [show (w4.alloc (co6 (.bool false) (.slice A3 n3 c3) (.int .i64 (-4)) (.bool false) (.slice B3 m3 d3) (.int .i64 (-3)))).heap.size = w4.heap.size + 1 by simp] at q5
    exact ⟨_, _, _, fun _ => 5, rfl, Sl.below q5 b7, .inr (by decide), vs_one _ _⟩
  have n3' : Num (((w4.alloc (co6 (.bool false) (.slice A3 n3 c3) (.int .i64 (-4)) (.bool false) (.slice B3 m3 d3) (.int .i64 (-3)))).alloc (.cells #[.int .u64 5] 42)).alloc (.cells #[.int .u64 3] 42)) (.slice (some ⟨w4.heap.size + 1 + 1, 0, none⟩) 1 1) 3 := by
    rw [show ((w4.alloc (co6 (.bool false) (.slice A3 n3 c3) (.int .i64 (-4)) (.bool false) (.slice B3 m3 d3) (.int .i64 (-3)))).alloc (.cells #[.int .u64 5] 42)).heap.size = w4.heap.size + 1 + 1 by simp] at q3
    exact ⟨_, _, _, fun _ => 3, rfl, q3, .inr (by decide), vs_one _ _⟩
  have SM := Lib.hid (same_span ⟨true, false, 5, -4⟩ ⟨true, false, 3, -3⟩ A3 B3 (some ⟨w4.heap.size + 1, 0, none⟩) (some ⟨w4.heap.size + 1 + 1, 0, none⟩) n3 c3 m3 d3 1 1 1 1 _ S5.ns.1 S5.ns.2.1 n5 n3' (by unfold B64; exact nb_lt_words (n := 256) (by decide +kernel)) (by unfold B64; exact nb_lt_words (n := 256) (by decide +kernel)))
  clear q5 q3 n5 n3'
  go_wp2_with fail
  refine SM.out.mono ?_
  rintro e' w6 ⟨rfl, b8⟩
  have S6 := S5.below b8
  go_wp2_with fail
  go_ret
  exact ⟨rfl, below_only b0 S6.O (Nat.le_refl _)⟩
end Go.Proofs.YtljioadppdpdiaaGreatDoor

namespace Go.Proofs.YtljioadppdpdiaaGreatDoor
open Go.RowKit

/-- Blocks of cells, none of them one of the two works. -/
def KS2 (w : World) (g h : Nat) : List (TypeId × Nat × Array Value) → Prop
  | [] => True
  | (T, a, cs) :: r => (KC T w a cs ∧ a ≠ g ∧ a ≠ h) ∧ KS2 w g h r
theorem KS2.adv {w w' : World} {g h : Nat} (b : Below w.heap.size w w') : ∀ {ks : List (TypeId × Nat × Array Value)}, KS2 w g h ks → KS2 w' g h ks
  | [], _ => trivial
  | (_, _, _) :: _, k => ⟨⟨k.1.1.adv b, k.1.2⟩, KS2.adv b k.2⟩
theorem KS2.only1 {w w' : World} {g h : Nat} (o : Only w w' g) : ∀ {ks : List (TypeId × Nat × Array Value)}, KS2 w g h ks → KS2 w' g h ks
  | [], _ => trivial
  | (_, _, _) :: _, k => ⟨⟨k.1.1.only o k.1.2.1, k.1.2⟩, KS2.only1 o k.2⟩
theorem KS2.only2 {w w' : World} {g h : Nat} (o : Only w w' h) : ∀ {ks : List (TypeId × Nat × Array Value)}, KS2 w g h ks → KS2 w' g h ks
  | [], _ => trivial
  | (_, _, _) :: _, k => ⟨⟨k.1.1.only o k.1.2.2, k.1.2⟩, KS2.only2 o k.2⟩
theorem KS2.put {w w' : World} {g h a : Nat} (o : Only w w' a) : ∀ {ks : List (TypeId × Nat × Array Value)}, KS2 w g h ks → NeS a ks → KS2 w' g h ks
  | [], _, _ => trivial
  | (_, _, _) :: _, k, hne => ⟨⟨k.1.1.only o hne.1, k.1.2⟩, KS2.put o k.2 hne.2⟩
/-- A law's state: two works (the code's, the reference's), blocks, numbers. -/
structure L2 (w : World) (g h : Nat) (p : Int) (bv bw : Bool) (wi : World) (ks : List (TypeId × Nat × Array Value)) (ns : List (Value × Nat)) : Prop where
  bel : Below w.heap.size w wi
  W : Wk 37 wi g p bv
  V : Wk 38 wi h p bw
  hg : w.heap.size ≤ g
  hh : w.heap.size ≤ h
  ne : g ≠ h
  ks : KS2 wi g h ks
  ns : NS wi ns
section
variable {w wi wj : World} {g h : Nat} {p : Int} {bv bw b' : Bool} {ks : List (TypeId × Nat × Array Value)} {ns : List (Value × Nat)}
theorem L2.below (L : L2 w g h p bv bw wi ks ns) (b : Below wi.heap.size wi wj) : L2 w g h p bv bw wj ks ns := ⟨below_step L.bel b, L.W.below b, L.V.below b, L.hg, L.hh, L.ne, L.ks.adv b, L.ns.adv b⟩
theorem L2.drew (L : L2 w g h p bv bw wi ks ns) : L2 w g h p bv bw wi.drew ks ns := L.below (Below.refl _ wi).drew
theorem L2.callW (L : L2 w g h p bv bw wi ks ns) (o : Only wi wj g) (W' : Wk 37 wj g p b') : L2 w g h p b' bw wj ks ns :=
  ⟨below_only L.bel o L.hg, W', L.V.only o (fun e => L.ne e.symm), L.hg, L.hh, L.ne, L.ks.only1 o, L.ns.wk L.W o⟩
theorem L2.callV (L : L2 w g h p bv bw wi ks ns) (o : Only wi wj h) (V' : Wk 38 wj h p b') : L2 w g h p bv b' wj ks ns :=
  ⟨below_only L.bel o L.hh, L.W.only o L.ne, V', L.hg, L.hh, L.ne, L.ks.only2 o, L.ns.wk L.V o⟩
theorem L2.num (L : L2 w g h p bv bw wi ks ns) {v : Value} {V : Nat} (n : Num wi v V) : L2 w g h p bv bw wi ks ((v, V) :: ns) := ⟨L.bel, L.W, L.V, L.hg, L.hh, L.ne, L.ks, n, L.ns⟩
theorem L2.alloc (L : L2 w g h p bv bw wi ks ns) (T' : TypeId) (cs : Array Value) : L2 w g h p bv bw (wi.alloc (.cells cs T')) ((T', wi.heap.size, cs) :: ks) ns := by
  have L' := L.below (alloc_bel wi (.cells cs T'))
  have h1 := L.W.2
  have h2 := L.V.2
  exact ⟨L'.bel, L'.W, L'.V, L.hg, L.hh, L.ne, ⟨⟨KC.made T' wi cs, by omega, by omega⟩, L'.ks⟩, L'.ns⟩
theorem L2.drop (L : L2 w g h p bv bw wi ks ns) {k : TypeId × Nat × Array Value} {ks' : List (TypeId × Nat × Array Value)} (e : ks = k :: ks') : L2 w g h p bv bw wi ks' ns := by
  subst e
  exact ⟨L.bel, L.W, L.V, L.hg, L.hh, L.ne, L.ks.2, L.ns⟩
theorem L2.forget (L : L2 w g h p bv bw wi ks ns) : L2 w g h p bv bw wi ks [] := ⟨L.bel, L.W, L.V, L.hg, L.hh, L.ne, L.ks, trivial⟩
end
theorem ns_put6 {w : World} {g : Nat} {na nb' : Bool} {A B : Option Addr} {n c m d : Nat} {e f : Int} (k : KC 28 w g #[.bool na, .slice A n c, .int .i64 e, .bool nb', .slice B m d, .int .i64 f]) (x y z x' y' z' : Value) : ∀ {ns : List (Value × Nat)}, NS w ns → NS (put6 w g x y z x' y' z') ns
  | [], _ => trivial
  | (_, _) :: _, h => ⟨num_put6 h.1 k.b6 _ _ _ _ _ _, ns_put6 k x y z x' y' z' h.2⟩
/-- Two spans of the law's own are written. -/
theorem L2.put2 {w wi : World} {g h : Nat} {p : Int} {bv bw : Bool} {ks : List (TypeId × Nat × Array Value)} {ns : List (Value × Nat)} {s t : Nat} (L : L2 w g h p bv bw wi ((28, t, zs) :: (28, s, zs) :: ks) ns)
    (hs : w.heap.size ≤ s) (ht : w.heap.size ≤ t) (hst : t ≠ s) (h1 : NeS s ks) (h2 : NeS t ks) (x y z x' y' z' a b c a' b' c' : Value) :
    L2 w g h p bv bw (put6 (put6 wi s x y z x' y' z') t a b c a' b' c') ((28, t, #[a, b, c, a', b', c']) :: (28, s, #[x, y, z, x', y', z']) :: ks) ns := by
  have o1 := only_put6 wi s x y z x' y' z'
  have kt := L.ks.1
  have k2 := L.ks.2.1
  have n1 := ns_put6 k2.1 x y z x' y' z' L.ns
  have kt1 := kt.1.only o1 hst
  have o2 := only_put6 (put6 wi s x y z x' y' z') t a b c a' b' c'
  have n2 := ns_put6 kt1 a b c a' b' c' n1
  have g1 := kt.2.1
  have g2 := kt.2.2
  have g3 := k2.2.1
  have g4 := k2.2.2
  exact ⟨below_only (below_only L.bel o1 hs) o2 ht, (L.W.only o1 (fun e => g3 e.symm)).only o2 (fun e => g1 e.symm), (L.V.only o1 (fun e => g4 e.symm)).only o2 (fun e => g2 e.symm), L.hg, L.hh, L.ne,
    ⟨⟨kt1.put6 _ _ _ _ _ _, kt.2⟩, ⟨(k2.1.put6 x y z x' y' z').only o2 (fun e => hst e.symm), k2.2⟩, KS2.put o2 (KS2.put o1 L.ks.2.2 h1) h2⟩, n2⟩
end Go.Proofs.YtljioadppdpdiaaGreatDoor
