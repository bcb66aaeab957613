/-
  volvellelaw03's Few, works, fit.
  Calls of a nil work; volvellelaw03's awake: 1 over 3.
  The state of a law with two works.
-/
import Derived.RegionTactic
import Derived.ChangeAlike
import Derived.KernelRfl
import Derived.Test.YtmadojejafbpjaaGreatDoorPkDy11
import Derived.Test.YtmadojejafbpjaaGreatDoorPkSp3
import Derived.Test.YtmadojejafbpjaaGreatDoorPkSp6
import Derived.Test.YtmadojejafbpjaaGreatDoorPkSp7
import Derived.Test.YtmadojejafbpjaaGreatDoorPkSp5
namespace Go.Proofs.YtmadojejafbpjaaGreatDoor
open Go.RowKit

/-- Are these spans of few words and of exponents that aren't great? -/
def few3 (n m : Nat) (ea eb : Int) : Bool := (few1 n ea && few1 m eb) && decide (n ≤ 20) && decide (m ≤ 20)
def few3L (l : SPL) : Nat → Bool
  | 0 => true
  | k + 1 => few3L l k && few3 (l.lo.n k) (l.hi.n k) (l.lo.e k) (l.hi.e k)
theorem few3_true {n m : Nat} {ea eb : Int} (h : few3 n m ea eb = true) : n ≤ 20 ∧ m ≤ 20 ∧ -20000 ≤ ea ∧ ea ≤ 20000 ∧ -20000 ≤ eb ∧ eb ≤ 20000 := by
  unfold few3 at h
  simp only [Bool.and_eq_true, decide_eq_true_eq] at h
  have h1 := few1_true h.1.1.1
  have h2 := few1_true h.1.1.2
  omega
theorem few3L_true {l : SPL} {k : Nat} (h : few3L l k = true) : ∀ j, j < k → few3 (l.lo.n j) (l.hi.n j) (l.lo.e j) (l.hi.e j) = true := by
  induction k with
  | zero => intro j hj; omega
  | succ k ih =>
    intro j hj
    simp only [few3L, Bool.and_eq_true] at h
    rcases Nat.lt_or_ge j k with h1 | h1
    · exact ih h.1 j h1
    · obtain rfl : j = k := by omega
      exact h.2
theorem few3L_false {l : SPL} {k j : Nat} (hj : j < k) (h : few3 (l.lo.n j) (l.hi.n j) (l.lo.e j) (l.hi.e j) = false) : few3L l k = false := by
  cases hp : few3L l k with
  | false => rfl
  | true => rw [few3L_true hp j hj] at h; cases h

/-- Is P up to 500, or too great? -/
def fitK (p : Int) : Bool := decide (p ≤ 500) || decide (8192 < p)
def WorksP (w : World) (p : Int) (bad : Bool) (e : Ending) (w' : World) : Prop := ∃ g h, e = .returned (.tuple #[.pointer (some ⟨g, 0, none⟩), .pointer (some ⟨h, 0, none⟩)]) ∧ Wk 32 w' g p bad ∧ Wk 41 w' h p bad ∧ g ≠ h ∧ w.heap.size ≤ g ∧ w.heap.size ≤ h ∧ Below w.heap.size w w'
theorem works1 (w : World) (o : Obj) (p : Int) (bad : Bool) : WorksP w p bad (.returned (.tuple #[.pointer (some ⟨w.heap.size + 1, 0, none⟩), .pointer (some ⟨w.heap.size + 1 + 1, 0, none⟩)])) (((w.alloc o).alloc (.cells #[.int .i64 p, .bool bad] 32)).alloc (.cells #[.int .i64 p, .bool bad] 41)).drew := by
  have b := (below_step (below_step (alloc_bel w o) (alloc_bel _ (.cells #[.int .i64 p, .bool bad] 32))) (alloc_bel _ (.cells #[.int .i64 p, .bool bad] 41))).drew
  have k1 := (KC.made 32 (w.alloc o) #[.int .i64 p, .bool bad]).adv (alloc_bel _ (.cells #[.int .i64 p, .bool bad] 41))
  have k2 := KC.made 41 ((w.alloc o).alloc (.cells #[.int .i64 p, .bool bad] 32)) #[.int .i64 p, .bool bad]
  rw [show (w.alloc o).heap.size = w.heap.size + 1 by simp] at k1
  rw [show ((w.alloc o).alloc (.cells #[.int .i64 p, .bool bad] 32)).heap.size = w.heap.size + 1 + 1 by simp] at k2
  exact ⟨_, _, rfl, k1, k2, by omega, by omega, by omega, b⟩
theorem works2 (w : World) (o : Obj) (p : Int) (bad : Bool) : WorksP w p bad (.returned (.tuple #[.pointer (some ⟨w.heap.size + 1 + 1, 0, none⟩), .pointer (some ⟨w.heap.size + 1, 0, none⟩)])) (((w.alloc o).alloc (.cells #[.int .i64 p, .bool bad] 41)).alloc (.cells #[.int .i64 p, .bool bad] 32)).drew := by
  have b := (below_step (below_step (alloc_bel w o) (alloc_bel _ (.cells #[.int .i64 p, .bool bad] 41))) (alloc_bel _ (.cells #[.int .i64 p, .bool bad] 32))).drew
  have k1 := (KC.made 41 (w.alloc o) #[.int .i64 p, .bool bad]).adv (alloc_bel _ (.cells #[.int .i64 p, .bool bad] 32))
  have k2 := KC.made 32 ((w.alloc o).alloc (.cells #[.int .i64 p, .bool bad] 41)) #[.int .i64 p, .bool bad]
  rw [show (w.alloc o).heap.size = w.heap.size + 1 by simp] at k1
  rw [show ((w.alloc o).alloc (.cells #[.int .i64 p, .bool bad] 41)).heap.size = w.heap.size + 1 + 1 by simp] at k2
  exact ⟨_, _, rfl, k2, k1, by omega, by omega, by omega, b⟩
end Go.Proofs.YtmadojejafbpjaaGreatDoor

namespace Go.Proofs.YtmadojejafbpjaaGreatDoor
open Go.RowKit

abbrev spz : Value := spv false none 0 0 0 false none 0 0 0
def ZeroP (w : World) (e : Ending) (w' : World) : Prop := e = .returned spz ∧ Below w.heap.size w w'
set_option maxHeartbeats 2000000 in
theorem point_nil (neg : Bool) (A : Option Addr) (n c : Nat) (x : Int) (w : World) : Calls Tryz.prog 36 #[.pointer none, dyv neg A n c x] w (ZeroP w) := by
  have b1 := below_step (below_step (alloc_bel w (cd3 (.bool neg) (.slice A n c) (.int .i64 x))) (alloc_bel _ z6)) (alloc_bel _ (co6 (.bool neg) (.slice A n c) (.int .i64 x) (.bool neg) (.slice A n c) (.int .i64 x)))
  have b2 := below_step b1 (alloc_bel _ (co6 (.bool neg) (.slice A n c) (.int .i64 x) (.bool neg) (.slice A n c) (.int .i64 x)))
  have kR := (((KC.made 29 (w.alloc (cd3 (.bool neg) (.slice A n c) (.int .i64 x))) zs).adv (alloc_bel _ (co6 (.bool neg) (.slice A n c) (.int .i64 x) (.bool neg) (.slice A n c) (.int .i64 x)))).adv (alloc_bel _ (co6 (.bool neg) (.slice A n c) (.int .i64 x) (.bool neg) (.slice A n c) (.int .i64 x))))
  rw [show (w.alloc (cd3 (.bool neg) (.slice A n c) (.int .i64 x))).heap.size = w.heap.size + 1 by simp] at kR
  have kA := (KC.made 27 w #[.bool neg, .slice A n c, .int .i64 x]).adv (alloc_bel _ z6)
  have ka0 := kA.at_ 0 _ rfl
  have ka1 := kA.at_ 1 _ rfl
  have ka2 := kA.at_ 2 _ rfl
  have TN := Lib.hid (fun (L : Option Addr) (w' : World) => takes_nil L 1 1 w')
  go_enter Tryz.func36, Tryz.ntmps36
  go_wp2_with fail
  refine (TN.out _ _).mono ?_
  rintro e' w2 ⟨rfl, rfl⟩
  clear ka0 ka1 ka2 TN kA b1
  have bF := below_only b2 (only_put6 _ (w.heap.size + 1) (.bool false) (.slice none 0 0) (.int .i64 0) (.bool false) (.slice none 0 0) (.int .i64 0)) (by omega)
  have s0 := kR.at_ 0 _ rfl
  have s1 := kR.at_ 1 _ rfl
  have s2 := kR.at_ 2 _ rfl
  have s3 := kR.at_ 3 _ rfl
  have s4 := kR.at_ 4 _ rfl
  have s5 := kR.at_ 5 _ rfl
  have rf0 := kR.fr 0
  have rf1 := kR.fr 1
  have rf2 := kR.fr 2
  have rf3 := kR.fr 3
  have rf4 := kR.fr 4
  have rf5 := kR.fr 5
  generalize (((w.alloc (cd3 (.bool neg) (.slice A n c) (.int .i64 x))).alloc z6).alloc (co6 (.bool neg) (.slice A n c) (.int .i64 x) (.bool neg) (.slice A n c) (.int .i64 x))).alloc (co6 (.bool neg) (.slice A n c) (.int .i64 x) (.bool neg) (.slice A n c) (.int .i64 x)) = w9 at *
  go_wp2_with fail
  exact bodyPost_ret (v := spz) (by simp [results, Tryz.results36, go_sem, s0, s1, s2, s3, s4, s5]) rfl ⟨rfl, bF⟩
set_option maxHeartbeats 2000000 in
theorem num_one_nil (w : World) (hT : Tab w) : Calls Tryz.prog 17 #[.pointer none, .int .i64 1] w (ZeroP w) := by
  have b0 := alloc_bel w z6
  have kR := KC.made 29 w zs
  have b1 := alloc_bel (w.alloc z6) (.cells #[.int .u64 1] 47)
  have HM : Hid (Calls Tryz.prog 35 #[.bool false, .slice (some ⟨w.heap.size + 1, 0, none⟩) 1 1, .int .i64 0] ((w.alloc z6).alloc (.cells #[.int .u64 1] 47)) (DP ((w.alloc z6).alloc (.cells #[.int .u64 1] 47)) (mkD false 1 0))) := Lib.hid (by
    have := make_any false _ 1 1 (fun _ => 1) 0 _ (one_sl 47 (w.alloc z6) 1 (by unfold B64; omega)) (by omega) (hT.below (below_step b0 b1)) (by omega) (by omega)
    rw [vs_one, show (w.alloc z6).heap.size = w.heap.size + 1 by simp] at this
    exact this.mono fun _ _ h => h.dp)
  generalize mkD false 1 0 = r at *
  have kR1 := kR.adv b1
  have B1 := below_step b0 b1
  clear kR b0 b1
  go_enter Tryz.func17, Tryz.ntmps17
  go_wp2_with fail
  refine HM.out.mono ?_
  clear HM
  generalize (w.alloc z6).alloc (.cells #[.int .u64 1] 47) = w1 at *
  rintro e' w2 ⟨A1, n1, c1, rfl, m1, b2⟩
  have kR2 := kR1.adv b2
  have B2 := below_step B1 b2
  clear kR1 B1 b2
  have s0 := kR2.at_ 0 _ rfl
  have hl := kR2.2
  go_wp2_with fail
  have b3 := alloc_bel w2 (cd3 (.bool r.neg) (.slice A1 n1 c1) (.int .i64 r.e))
  have kR3 := kR2.adv b3
  have B3 := below_step B2 b3
  clear kR2 B2 b3 s0 hl
  generalize w2.alloc (cd3 (.bool r.neg) (.slice A1 n1 c1) (.int .i64 r.e)) = w3 at *
  refine (point_nil r.neg A1 n1 c1 r.e w3).mono ?_
  rintro e' w4 ⟨rfl, b4⟩
  have kR := kR3.adv b4
  have B4 := below_step B3 b4
  have bF := below_only B4 (only_put6 _ (w.heap.size) (.bool false) (.slice none 0 0) (.int .i64 0) (.bool false) (.slice none 0 0) (.int .i64 0)) (by omega)
  clear kR3 B3 b4 B4
  have s0 := kR.at_ 0 _ rfl
  have s1 := kR.at_ 1 _ rfl
  have s2 := kR.at_ 2 _ rfl
  have s3 := kR.at_ 3 _ rfl
  have s4 := kR.at_ 4 _ rfl
  have s5 := kR.at_ 5 _ rfl
  have rf0 := kR.fr 0
  have rf1 := kR.fr 1
  have rf2 := kR.fr 2
  have rf3 := kR.fr 3
  have rf4 := kR.fr 4
  have rf5 := kR.fr 5
  go_wp2_with fail
  exact bodyPost_ret (v := spz) (by simp [results, Tryz.results17, go_sem, s0, s1, s2, s3, s4, s5]) rfl ⟨rfl, bF⟩

theorem aw1 : numS 3 false 1 = ⟨false, ⟨true, false, 1, 0⟩, ⟨true, false, 1, 0⟩⟩ := by kernel_rfl
theorem aw3 : numS 3 false 3 = ⟨false, ⟨true, false, 3, 0⟩, ⟨true, false, 3, 0⟩⟩ := by kernel_rfl
theorem awd : divC 3 false ⟨true, false, 1, 0⟩ ⟨true, false, 1, 0⟩ ⟨true, false, 3, 0⟩ ⟨true, false, 3, 0⟩ = ⟨false, ⟨true, false, 5, -4⟩, ⟨true, false, 3, -3⟩⟩ := by kernel_rfl
end Go.Proofs.YtmadojejafbpjaaGreatDoor

namespace Go.Proofs.YtmadojejafbpjaaGreatDoor
open Go.RowKit

/-- Blocks of cells, none of them one of the two works. -/
def KS2 (w : World) (g h : Nat) : List (TypeId × Nat × Array Value) → Prop
  | [] => True
  | (T, a, cs) :: r => (KC T w a cs ∧ a ≠ g ∧ a ≠ h) ∧ KS2 w g h r
theorem KS2.adv {w w' : World} {g h : Nat} (b : Below w.heap.size w w') : ∀ {ks : List (TypeId × Nat × Array Value)}, KS2 w g h ks → KS2 w' g h ks
  | [], _ => trivial
  | (_, _, _) :: _, k => ⟨⟨k.1.1.adv b, k.1.2⟩, KS2.adv b k.2⟩
theorem KS2.only1 {w w' : World} {g h : Nat} (o : Only w w' g) : ∀ {ks : List (TypeId × Nat × Array Value)}, KS2 w g h ks → KS2 w' g h ks
  | [], _ => trivial
  | (_, _, _) :: _, k => ⟨⟨k.1.1.only o k.1.2.1, k.1.2⟩, KS2.only1 o k.2⟩
theorem KS2.only2 {w w' : World} {g h : Nat} (o : Only w w' h) : ∀ {ks : List (TypeId × Nat × Array Value)}, KS2 w g h ks → KS2 w' g h ks
  | [], _ => trivial
  | (_, _, _) :: _, k => ⟨⟨k.1.1.only o k.1.2.2, k.1.2⟩, KS2.only2 o k.2⟩
theorem KS2.put {w w' : World} {g h a : Nat} (o : Only w w' a) : ∀ {ks : List (TypeId × Nat × Array Value)}, KS2 w g h ks → NeS a ks → KS2 w' g h ks
  | [], _, _ => trivial
  | (_, _, _) :: _, k, hne => ⟨⟨k.1.1.only o hne.1, k.1.2⟩, KS2.put o k.2 hne.2⟩
/-- A law's state: two works (the code's, the reference's), blocks, numbers. -/
structure L2 (w : World) (g h : Nat) (p : Int) (bv bw : Bool) (wi : World) (ks : List (TypeId × Nat × Array Value)) (ns : List (Value × Nat)) : Prop where
  bel : Below w.heap.size w wi
  W : Wk 32 wi g p bv
  V : Wk 41 wi h p bw
  hg : w.heap.size ≤ g
  hh : w.heap.size ≤ h
  ne : g ≠ h
  ks : KS2 wi g h ks
  ns : NS wi ns
section
variable {w wi wj : World} {g h : Nat} {p : Int} {bv bw b' : Bool} {ks : List (TypeId × Nat × Array Value)} {ns : List (Value × Nat)}
theorem L2.below (L : L2 w g h p bv bw wi ks ns) (b : Below wi.heap.size wi wj) : L2 w g h p bv bw wj ks ns := ⟨below_step L.bel b, L.W.below b, L.V.below b, L.hg, L.hh, L.ne, L.ks.adv b, L.ns.adv b⟩
theorem L2.drew (L : L2 w g h p bv bw wi ks ns) : L2 w g h p bv bw wi.drew ks ns := L.below (Below.refl _ wi).drew
theorem L2.callW (L : L2 w g h p bv bw wi ks ns) (o : Only wi wj g) (W' : Wk 32 wj g p b') : L2 w g h p b' bw wj ks ns :=
  ⟨below_only L.bel o L.hg, W', L.V.only o (fun e => L.ne e.symm), L.hg, L.hh, L.ne, L.ks.only1 o, L.ns.wk L.W o⟩
theorem L2.callV (L : L2 w g h p bv bw wi ks ns) (o : Only wi wj h) (V' : Wk 41 wj h p b') : L2 w g h p bv b' wj ks ns :=
  ⟨below_only L.bel o L.hh, L.W.only o L.ne, V', L.hg, L.hh, L.ne, L.ks.only2 o, L.ns.wk L.V o⟩
theorem L2.num (L : L2 w g h p bv bw wi ks ns) {v : Value} {V : Nat} (n : Num wi v V) : L2 w g h p bv bw wi ks ((v, V) :: ns) := ⟨L.bel, L.W, L.V, L.hg, L.hh, L.ne, L.ks, n, L.ns⟩
theorem L2.alloc (L : L2 w g h p bv bw wi ks ns) (T' : TypeId) (cs : Array Value) : L2 w g h p bv bw (wi.alloc (.cells cs T')) ((T', wi.heap.size, cs) :: ks) ns := by
  have L' := L.below (alloc_bel wi (.cells cs T'))
  have h1 := L.W.2
  have h2 := L.V.2
  exact ⟨L'.bel, L'.W, L'.V, L.hg, L.hh, L.ne, ⟨⟨KC.made T' wi cs, by omega, by omega⟩, L'.ks⟩, L'.ns⟩
theorem L2.drop (L : L2 w g h p bv bw wi ks ns) {k : TypeId × Nat × Array Value} {ks' : List (TypeId × Nat × Array Value)} (e : ks = k :: ks') : L2 w g h p bv bw wi ks' ns := by
  subst e
  exact ⟨L.bel, L.W, L.V, L.hg, L.hh, L.ne, L.ks.2, L.ns⟩
theorem L2.forget (L : L2 w g h p bv bw wi ks ns) : L2 w g h p bv bw wi ks [] := ⟨L.bel, L.W, L.V, L.hg, L.hh, L.ne, L.ks, trivial⟩
end
theorem ns_put6 {w : World} {g : Nat} {na nb' : Bool} {A B : Option Addr} {n c m d : Nat} {e f : Int} (k : KC 29 w g #[.bool na, .slice A n c, .int .i64 e, .bool nb', .slice B m d, .int .i64 f]) (x y z x' y' z' : Value) : ∀ {ns : List (Value × Nat)}, NS w ns → NS (put6 w g x y z x' y' z') ns
  | [], _ => trivial
  | (_, _) :: _, h => ⟨num_put6 h.1 k.b6 _ _ _ _ _ _, ns_put6 k x y z x' y' z' h.2⟩
/-- Two spans of the law's own are written. -/
theorem L2.put2 {w wi : World} {g h : Nat} {p : Int} {bv bw : Bool} {ks : List (TypeId × Nat × Array Value)} {ns : List (Value × Nat)} {s t : Nat} (L : L2 w g h p bv bw wi ((29, t, zs) :: (29, s, zs) :: ks) ns)
    (hs : w.heap.size ≤ s) (ht : w.heap.size ≤ t) (hst : t ≠ s) (h1 : NeS s ks) (h2 : NeS t ks) (x y z x' y' z' a b c a' b' c' : Value) :
    L2 w g h p bv bw (put6 (put6 wi s x y z x' y' z') t a b c a' b' c') ((29, t, #[a, b, c, a', b', c']) :: (29, s, #[x, y, z, x', y', z']) :: ks) ns := by
  have o1 := only_put6 wi s x y z x' y' z'
  have kt := L.ks.1
  have k2 := L.ks.2.1
  have n1 := ns_put6 k2.1 x y z x' y' z' L.ns
  have kt1 := kt.1.only o1 hst
  have o2 := only_put6 (put6 wi s x y z x' y' z') t a b c a' b' c'
  have n2 := ns_put6 kt1 a b c a' b' c' n1
  have g1 := kt.2.1
  have g2 := kt.2.2
  have g3 := k2.2.1
  have g4 := k2.2.2
  exact ⟨below_only (below_only L.bel o1 hs) o2 ht, (L.W.only o1 (fun e => g3 e.symm)).only o2 (fun e => g1 e.symm), (L.V.only o1 (fun e => g4 e.symm)).only o2 (fun e => g2 e.symm), L.hg, L.hh, L.ne,
    ⟨⟨kt1.put6 _ _ _ _ _ _, kt.2⟩, ⟨(k2.1.put6 x y z x' y' z').only o2 (fun e => hst e.symm), k2.2⟩, KS2.put o2 (KS2.put o1 L.ks.2.2 h1) h2⟩, n2⟩
end Go.Proofs.YtmadojejafbpjaaGreatDoor
