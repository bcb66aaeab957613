/-
  Blocks of cells of any type.
  part's small functions: isZero, size, power, isOne.
  special's small functions and methods: plain, pole, wordsOf, oneNaN, overZero, angle, projection, root, power, logarithm, lastLine.
  special's methods: projection, root, power, logarithm, lastLine.
-/
import Derived.Deep.RegionHeld3
import Derived.RegionTactic
import Derived.Test.YtembfhepinfmnaaDoorPlPGDy9
import Derived.Test.YtembfhepinfmnaaDoorPlPGBN
import Derived.Test.YtembfhepinfmnaaDoorPlPGPk1
namespace Go.Proofs.YtembfhepinfmnaaDoor
open Go.RowKit

def KB (T : TypeId) (w : World) (g : Nat) (cs : Array Value) : Prop := w.heap[g]? = some (.cells cs T (0, 0)) ∧ g < w.heap.size
theorem KB.adv {T : TypeId} {w w' : World} {g : Nat} {cs : Array Value} (h : KB T w g cs) (b : Below w.heap.size w w') : KB T w' g cs := ⟨(b.block g h.2).trans h.1, Nat.lt_of_lt_of_le h.2 b.size⟩
theorem KB.drew {T : TypeId} {w : World} {g : Nat} {cs : Array Value} (h : KB T w g cs) : KB T w.drew g cs := h
theorem KB.made (T : TypeId) (w : World) (cs : Array Value) : KB T (w.alloc (.cells cs T)) w.heap.size cs := ⟨heap_alloc_new w _, by simp⟩
theorem KB.at_ {T : TypeId} {w : World} {g : Nat} {cs : Array Value} (h : KB T w g cs) (i : Nat) {v : Value} (hv : cs[i]? = some v) : w.cell? ⟨g, i, none⟩ = some v := by
  have h1 := h.1
  simp [World.cell?, h1, hv]
theorem KB.fr {T : TypeId} {w : World} {g : Nat} {cs : Array Value} (h : KB T w g cs) (i : Nat) : w.frozen? ⟨g, i, none⟩ = false := by
  have h1 := h.1
  simp [World.frozen?, h1]
theorem KB.set_ {T : TypeId} {w : World} {g : Nat} {cs : Array Value} (h : KB T w g cs) (i : Nat) (v : Value) : KB T (w.setCell ⟨g, i, none⟩ v) g (cs.setIfInBounds i v) := by
  obtain ⟨h1, h2⟩ := h
  refine ⟨?_, by simpa [World.setCell] using h2⟩
  simp [World.setCell, Array.getElem?_modify, h1]
theorem KB.only {T : TypeId} {w w' : World} {g g' : Nat} {cs : Array Value} (h : KB T w g cs) (o : Only w w' g') (hne : g ≠ g') : KB T w' g cs := ⟨(o.block g h.2 (by simpa using hne)).trans h.1, Nat.lt_of_lt_of_le h.2 o.size⟩
theorem only_one (w : World) (g i : Nat) (v : Value) : Only w (w.setCell ⟨g, i, none⟩ v) g := (Only.refl w g).set_ i v
/-- Two blocks laid one after the other. -/
theorem kb_two (T U : TypeId) (w : World) (cs ds : Array Value) : KB T ((w.alloc (.cells cs T)).alloc (.cells ds U)) w.heap.size cs ∧ KB U ((w.alloc (.cells cs T)).alloc (.cells ds U)) (w.heap.size + 1) ds ∧ Below w.heap.size w ((w.alloc (.cells cs T)).alloc (.cells ds U)) := by
  have k2 := KB.made U (w.alloc (.cells cs T)) ds
  rw [show (w.alloc (.cells cs T)).heap.size = w.heap.size + 1 by simp] at k2
  exact ⟨(KB.made T w cs).adv (alloc_bel _ _), k2, below_step (alloc_bel _ _) (alloc_bel _ _)⟩
theorem put3_cell {w : World} {g : Nat} {a b c v : Value} {ad : Addr} (h : w.cell? ad = some v) (hne : ad.block ≠ g) : (put3 w g a b c).cell? ad = some v :=
  (World.cell?_of_block ((only_put3 w g a b c).block _ (World.block_lt_of_cell? _ _ h) (by simpa using hne))).trans h
theorem put3_drew {w : World} {g : Nat} {a b c v : Value} {ad : Addr} (h : w.cell? ad = some v) (hne : ad.block ≠ g) : (put3 w g a b c).drew.cell? ad = some v := put3_cell h hne
/-- No word of a list, as a test. -/
def notUB : Value → Bool
  | .int .u64 _ => false
  | _ => true
theorem notU_of {v : Value} (h : notUB v = true) : NotU v := fun k e => by subst e; cases h
/-- A number does not lie in a block that holds no word. -/
theorem num_kb {T : TypeId} {w w' : World} {g : Nat} {cs : Array Value} {v : Value} {V : Nat} (h : Num w v V) (k : KB T w g cs) (hn : cs.all notUB = true) (o : Only w w' g) : Num w' v V := by
  obtain ⟨A, n, c, f, hv, hs, hc, he⟩ := h
  refine ⟨A, n, c, f, hv, hs.only o fun hn0 ad e hb => ?_, hc, he⟩
  obtain ⟨ad', e', _, _, hcl⟩ := hs.at_ (k := 0) hn0
  rw [e] at e'
  injection e' with e'
  subst e'
  have h1 := k.1
  rw [show ad.add 0 = ad from by simp [Addr.add]] at hcl
  simp only [World.cell?, hb, h1] at hcl
  split at hcl
  · cases hcl
  · have hx := Array.mem_of_getElem? hcl
    exact notU_of (Array.all_eq_true_iff_forall_mem.1 hn _ hx) _ rfl
end Go.Proofs.YtembfhepinfmnaaDoor

namespace Go.Proofs.YtembfhepinfmnaaDoor
open Go.RowKit

theorem pnum_empty {w : World} {A : Option Addr} {n c V : Nat} (h : Num w (.slice A n c) V) : n = 0 ↔ V = 0 := by
  obtain ⟨_, _, _, f, hh, _, hc, rfl⟩ := h
  cases hh
  constructor
  · intro h; subst h; exact vs_zero _ _
  · intro h; exact cn_zero hc h
theorem pcmpNum {A B : Option Addr} {n c m d V U : Nat} (na nb' : Bool) (ea eb : Int) (w : World) (h : Num w (.slice A n c) V) (h' : Num w (.slice B m d) U) (hp : plainV na V ea = true) (hq : plainV nb' U eb = true) (hV : nb V ≤ 16384) (hU : nb U ≤ 16384) :
    Calls Tryd.prog 45 #[.agg #[.bool na, .slice A n c, .int .i64 ea], .agg #[.bool nb', .slice B m d, .int .i64 eb]] w (CmpP w (ordD na nb' V U ea eb) true) := by
  obtain ⟨_, _, _, f, hh, hs, hn, hc, rfl⟩ := h.raw 256 (by omega)
  cases hh
  obtain ⟨_, _, _, g, hh, hs', hm, hc', rfl⟩ := h'.raw 256 (by omega)
  cases hh
  have := dcmp_any na nb' _ _ _ _ _ _ f g ea eb w hs hs' (by omega) (by omega)
  rw [plain_V hc, plain_V hc', hp, hq] at this
  exact this
theorem pplain_nb {neg : Bool} {V : Nat} {e : Int} (h : plainV neg V e = true) : nb V ≤ 16384 := by
  unfold plainV at h
  by_cases h0 : V = 0
  · rw [h0, nb_zero]; omega
  · rw [if_neg h0] at h
    simp only [Bool.and_eq_true, decide_eq_true_eq] at h
    exact h.1.2

theorem pisZero_any {w : World} {A : Option Addr} {n c V : Nat} (neg : Bool) (e : Int) (h : Num w (.slice A n c) V) :
    Calls Tryd.prog 40 #[.agg #[.bool neg, .slice A n c, .int .i64 e]] w fun r w' => r = .returned (.bool (decide (V = 0))) ∧ Below w.heap.size w w' := by
  have b1 := alloc_bel w (cd3 (.bool neg) (.slice A n c) (.int .i64 e))
  have hn : ((n : Int) == 0) = decide (V = 0) := by
    rw [Bool.eq_iff_iff]
    simp [← pnum_empty h]
  obtain ⟨q, hq⟩ : ∃ q, Hid (decide (V = 0) = q) := ⟨_, Lib.hid rfl⟩
  rw [hq.out] at hn ⊢
  go_enter Tryd.func40, Tryd.ntmps40
  go_wp2_with fail
  go_ret
  exact ⟨rfl, b1⟩
theorem psize_any (neg : Bool) (A : Option Addr) (n c : Nat) (e : Int) (w : World) :
    Calls Tryd.prog 42 #[.agg #[.bool neg, .slice A n c, .int .i64 e]] w fun r w' => r = .returned (.agg #[.bool false, .slice A n c, .int .i64 e]) ∧ Below w.heap.size w w' := by
  go_enter Tryd.func42, Tryd.ntmps42
  go_wp2_with fail
  exact bodyPost_ret (v := .agg #[.bool false, .slice A n c, .int .i64 e]) (by simp [results, Tryd.results42, go_sem]) rfl ⟨rfl, below_step (alloc_bel w _) (alloc_bel _ _)⟩
theorem ppower_any (e : Int) (w : World) :
    Calls Tryd.prog 46 #[.int .i64 e] w fun r w' => ∃ A n c, r = .returned (.agg #[.bool false, .slice A n c, .int .i64 e]) ∧ Num w' (.slice A n c) 1 ∧ Below w.heap.size w w' := by
  go_enter Tryd.func46, Tryd.ntmps46
  go_wp2_with fail
  have s3 := slw (w.alloc (cd3 (.bool false) (.slice (some ⟨w.heap.size + 1, 0, none⟩) 1 1) (.int .i64 e))) 1 (w.heap.size + 1) (by unfold B64; omega) (by simp)
  exact bodyPost_ret (v := .agg #[.bool false, .slice (some ⟨w.heap.size + 1, 0, none⟩) 1 1, .int .i64 e]) (by simp [results, Tryd.results46, go_sem]) rfl
    ⟨_, _, _, rfl, ⟨_, _, _, _, rfl, s3, .inr (by decide), vs_one _ _⟩, below_step (alloc_bel w _) (alloc_bel _ _)⟩
set_option maxHeartbeats 1000000 in
theorem pisOne_any {w : World} {A : Option Addr} {n c V : Nat} (neg : Bool) (e : Int) (h : Num w (.slice A n c) V) (hp : plainV neg V e = true) :
    Calls Tryd.prog 41 #[.agg #[.bool neg, .slice A n c, .int .i64 e]] w fun r w' => r = .returned (.bool (decide (ordD neg false V 1 e 0 = 0))) ∧ Below w.heap.size w w' := by
  have b1 := alloc_bel w (cd3 (.bool neg) (.slice A n c) (.int .i64 e))
  have k1 := KB.made 52 w #[.bool neg, .slice A n c, .int .i64 e]
  have n1 := h.below b1
  have one : plainV false 1 0 = true := by
    unfold plainV
    rw [if_neg (by decide), show nb 1 = 1 from nb_of (B := 0) (by decide) (by decide)]
    decide
  have q1 : nb 1 ≤ 16384 := pplain_nb one
  have hV := pplain_nb hp
  obtain ⟨q, hq⟩ : ∃ q, Hid (decide (ordD neg false V 1 e 0 = 0) = q) := ⟨_, Lib.hid rfl⟩
  rw [hq.out]
  have hd : ((ordD neg false V 1 e 0 : Int) == 0) = q := by rw [← hq.out, Bool.eq_iff_iff]; simp
  have CM := Lib.hid (fun (B : Option Addr) (m d : Nat) (w' : World) (h1 : Num w' (.slice A n c) V) (h2 : Num w' (.slice B m d) 1) => pcmpNum neg false e 0 w' h1 h2 hp one hV q1)
  generalize ordD neg false V 1 e 0 = z at *
  clear hp one hV q1 hq
  go_enter Tryd.func41, Tryd.ntmps41
  go_upto_region 1 with fail
  generalize w.alloc _ = w1 at *
  have k1 := k1.drew
  have n1 : Num w1.drew (.slice A n c) V := n1.below (Below.refl _ w1).drew
  have b1 := b1.drew
  go_region_held3 (fun w' => w'.cell? ⟨w.heap.size, 0, none⟩ = some (.bool neg) ∧ w'.cell? ⟨w.heap.size, 1, none⟩ = some (.slice A n c) ∧ w'.cell? ⟨w.heap.size, 2, none⟩ = some (.int .i64 e))
    (exact ⟨k1.at_ 0 rfl, k1.at_ 1 rfl, k1.at_ 2 rfl⟩)
    (first
      | (go_at_call 46; refine (ppower_any 0 _).mono ?_; rintro e' w2 ⟨B, m, d, rfl, n2, bb⟩; have k1 := k1.adv bb; have n1 := n1.below bb; have b1 := below_step b1 bb)
      | (go_at_call 45; refine (CM.out _ _ _ _ n1 n2).mono ?_; rintro e' w3 ⟨rfl, bb⟩; have k1 := k1.adv bb; have b1 := below_step b1 bb))
  go_wp2_with fail
  go_ret
  exact ⟨rfl, b1⟩
end Go.Proofs.YtembfhepinfmnaaDoor

namespace Go.Proofs.YtembfhepinfmnaaDoor
open Go.RowKit

/-- A spot as it is handed in. -/
abbrev spC (p : Sp) : Array Value := #[.int .u64 (p.x : Int), .int .u64 (p.y : Int), .int .i64 (kindN p.x : Int), .int .i64 (kindN p.y : Int), .int .u64 (sgI (sgB p.x)), .int .u64 (sgI (sgB p.y)), .int .u64 (sgI p.su), .bool p.isI, .bool p.isN, .bool p.sing]
abbrev twV (t : TW) : Value := .agg #[.int .u64 t.a, .int .u64 t.b, .int .i64 t.f]
def TP (w : World) (t : TW) (e : Ending) (w' : World) : Prop := e = .returned (twV t) ∧ Below w.heap.size w w'
def TPB (w : World) (t : TW × Bool) (e : Ending) (w' : World) : Prop := e = .returned (.tuple #[twV t.1, .bool t.2]) ∧ Below w.heap.size w w'

theorem cplain_any (a b : Int) (w : World) : Calls Tryd.prog 25 #[.int .u64 a, .int .u64 b] w fun e w' => e = .returned (.agg #[.int .u64 a, .int .u64 b, .int .i64 0]) ∧ Below w.heap.size w w' := by
  go_enter Tryd.func25, Tryd.ntmps25
  go_wp2_with fail
  refine bodyPost_ret (v := .agg #[.int .u64 a, .int .u64 b, .int .i64 0]) (by simp [results, Tryd.results25, go_sem]) rfl ⟨rfl, alloc_bel w _⟩
theorem cpole_any (a b : Int) (w : World) : Calls Tryd.prog 32 #[.int .u64 a, .int .u64 b] w fun e w' => e = .returned (.agg #[.int .u64 a, .int .u64 b, .int .i64 16]) ∧ Below w.heap.size w w' := by
  go_enter Tryd.func32, Tryd.ntmps32
  go_wp2_with fail
  refine bodyPost_ret (v := .agg #[.int .u64 a, .int .u64 b, .int .i64 16]) (by simp [results, Tryd.results32, go_sem]) rfl ⟨rfl, alloc_bel w _⟩
theorem wordsOf_any (tag : Int) (w : World) : Calls Tryd.prog 24 #[.int .i64 tag] w fun e w' => e = .returned (.int .i64 (if wideT tag then 4 else 2)) ∧ w = w' := by
  by_cases h4 : tag = 4
  · subst h4
    go_enter Tryd.func24, Tryd.ntmps24
    go_wp2_with fail
    go_ret
    exact ⟨rfl, rfl⟩
  · by_cases h5 : tag = 5
    · subst h5
      go_enter Tryd.func24, Tryd.ntmps24
      go_wp2_with fail
      go_ret
      exact ⟨rfl, rfl⟩
    · have hw := Lib.hid (show wideT tag = false by unfold wideT; simp [h4, h5])
      have g4 : (tag == 4) = false := by simp [h4]
      have g5 : (tag == 5) = false := by simp [h5]
      clear h4 h5
      rw [hw.out]
      go_enter Tryd.func24, Tryd.ntmps24
      go_wp2_with fail
      go_ret
      exact ⟨rfl, rfl⟩
theorem oneNaN_any (b : Nat) (w : World) (hb : b < B64) : Calls Tryd.prog 26 #[.int .u64 (b : Int)] w fun e w' => e = .returned (.int .u64 (cleanI b)) ∧ w = w' := by
  have K := Lib.hid (kind_any b w hb)
  obtain ⟨c, hc⟩ : ∃ c, Hid (cleanI b = c) := ⟨_, Lib.hid rfl⟩
  rw [hc.out]
  have hc' := hc.out
  unfold cleanI at hc'
  by_cases h : kindN b = 4
  · rw [if_pos h] at hc'
    rw [h] at K
    subst hc'
    clear h hc
    go_enter Tryd.func26, Tryd.ntmps26
    go_wp2_with fail
    refine K.out.mono ?_
    rintro e' w1 ⟨rfl, rfl⟩
    go_wp2_with fail
    go_ret
    exact ⟨rfl, rfl⟩
  · rw [if_neg h] at hc'
    subst hc'
    clear hc
    have h2 : ((kindN b : Int) == 4) = false := by simp; omega
    clear h
    generalize kindN b = k at *
    go_enter Tryd.func26, Tryd.ntmps26
    go_wp2_with fail
    refine K.out.mono ?_
    rintro e' w1 ⟨rfl, rfl⟩
    go_wp2_with fail
    go_ret
    exact ⟨rfl, rfl⟩
theorem or_inf (s : Bool) : Go.bits .or .u64 9218868437227405312 (sgI s) = wI 9218868437227405312 s := by cases s <;> rfl
theorem top_of (b : Nat) (h : b < B64) : Go.bits .and .u64 (b : Int) 9223372036854775808 = sgI (sgB b) := by
  have e := u64_and_nat b 9223372036854775808 (by unfold B64 at h; omega) (by omega)
  rw [show ((9223372036854775808 : Nat) : Int) = 9223372036854775808 from rfl] at e
  have e2 : b &&& 9223372036854775808 = b / 9223372036854775808 % 2 * 9223372036854775808 := nat_bit 63 b
  rw [e, e2]
  unfold B64 at h
  cases hs : sgB b
  · have := sgB_false.1 hs
    rw [show b / 9223372036854775808 % 2 * 9223372036854775808 = 0 by omega]; rfl
  · have := sgB_true.1 hs
    rw [show b / 9223372036854775808 % 2 * 9223372036854775808 = 9223372036854775808 by omega]; rfl
theorem lo_xor (l : Nat) (h : l < 9223372036854775808) : l ^^^ 9223372036854775808 = l + 9223372036854775808 := by
  have e : (9223372036854775808 : Nat) = 2 ^ 63 := by decide
  have e2 := Nat.two_pow_add_eq_or_of_lt (i := 63) (b := l) (by rw [← e]; exact h) 1
  rw [Nat.mul_one, ← e] at e2
  rw [Nat.add_comm, e2]
  apply Nat.eq_of_testBit_eq
  intro i
  rw [Nat.testBit_xor, Nat.testBit_or]
  by_cases hi : i = 63
  · subst hi
    rw [Nat.testBit_lt_two_pow (by rw [← e]; exact h)]
    simp
  · rw [e, Nat.testBit_two_pow_of_ne (fun hh => hi hh.symm)]
    simp
theorem hi_xor (l : Nat) (h : l < 9223372036854775808) : (l + 9223372036854775808) ^^^ 9223372036854775808 = l := by
  rw [← lo_xor l h, Nat.xor_assoc, Nat.xor_self, Nat.xor_zero]
theorem xor_top (b : Nat) (h : b < B64) : Go.bits .xor .u64 (b : Int) 9223372036854775808 = (flipN b : Int) := by
  have e := u64_xor_nat b 9223372036854775808 (by unfold B64 at h; omega) (by omega)
  rw [show ((9223372036854775808 : Nat) : Int) = 9223372036854775808 from rfl] at e
  rw [e]
  unfold flipN
  unfold B64 at h
  split
  · have h2 := hi_xor (b - 9223372036854775808) (by omega)
    rw [Nat.sub_add_cancel (by omega)] at h2
    rw [h2]
  · rw [lo_xor b (by omega)]
theorem xor_zero (b : Nat) (h : b < B64) : Go.bits .xor .u64 (b : Int) 0 = (b : Int) := by
  have e := u64_xor_nat b 0 (by unfold B64 at h; omega) (by omega)
  rw [show ((0 : Nat) : Int) = 0 from rfl] at e
  rw [e, Nat.xor_zero]
theorem xor_sg (b : Nat) (s : Bool) (h : b < B64) : Go.bits .and .u64 (Go.bits .xor .u64 (b : Int) (sgI s)) 9223372036854775808 = sgI (sgB b ^^ s) := by
  cases s
  · rw [show sgI false = 0 from rfl, xor_zero b h, top_of b h, Bool.xor_false]
  · rw [show sgI true = 9223372036854775808 from rfl, xor_top b h, top_of _ (flip_lt h), flip_sg h, Bool.xor_true]
theorem kind_inf (b : Nat) : ((kindN b : Int) == 3) = infB b := by
  unfold infB
  rw [Bool.eq_iff_iff]
  simp
  omega
theorem kind_zer (b : Nat) : ((kindN b : Int) == 0) = zerB b := by
  unfold zerB
  rw [Bool.eq_iff_iff]
  simp [← kind_none]
theorem overZero_any (p : Sp) (b : Nat) (w : World) (hb : b < B64) : Calls Tryd.prog 33 #[.agg (spC p), .int .u64 (b : Int)] w fun e w' => e = .returned (.int .u64 (overI p.su b)) ∧ Below w.heap.size w w' := by
  obtain ⟨c, hc⟩ : ∃ c, Hid (overI p.su b = c) := ⟨_, Lib.hid rfl⟩
  rw [hc.out]
  have hc' := hc.out
  unfold overI at hc'
  have b1 := alloc_bel w (.cells (spC p) 33)
  have K := Lib.hid (kind_any b (w.alloc (.cells (spC p) 33)) hb)
  by_cases h : kindN b = 0
  · rw [if_pos h] at hc'
    rw [h] at K
    subst hc'
    clear h hc
    go_enter Tryd.func33, Tryd.ntmps33
    go_wp2_with fail
    refine K.out.mono ?_
    rintro e' w1 ⟨rfl, rfl⟩
    go_wp2_with fail
    go_ret
    exact ⟨rfl, b1⟩
  · rw [if_neg h] at hc'
    have h1 := Lib.hid (xor_sg b p.su hb)
    have h2 := Lib.hid (or_inf (sgB b ^^ p.su))
    rw [← h1.out] at h2
    have h3 : Go.bits .or .u64 9218868437227405312 (Go.bits .and .u64 (Go.bits .xor .u64 (b : Int) (sgI p.su)) 9223372036854775808) = c := by
      rw [h2.out, hc']
    clear hc hc' h1 h2
    have h2 : ((kindN b : Int) == 0) = false := by simp; omega
    clear h
    generalize kindN b = k at *
    go_enter Tryd.func33, Tryd.ntmps33
    go_wp2_with fail
    refine K.out.mono ?_
    rintro e' w1 ⟨rfl, rfl⟩
    go_wp2_with fail
    go_ret
    exact ⟨rfl, b1⟩
set_option maxHeartbeats 1000000 in
theorem angle_any (p : Sp) (w : World) : Calls Tryd.prog 28 #[.agg (spC p)] w fun e w' => e = .returned (.tuple #[.int .u64 p.angW, .int .i64 p.angF]) ∧ Below w.heap.size w w' := by
  have b1 := alloc_bel w (.cells (spC p) 33)
  have ky := kind_inf p.y
  have kx := kind_inf p.x
  have ns := sgI_ne (sgB p.x)
  unfold Sp.angW Sp.angF angW angF
  dsimp only [spC] at *
  have wa : sgI true = 9223372036854775808 := rfl
  have wb : sgI false = 0 := rfl
  generalize kindN p.x = kx' at *
  generalize kindN p.y = ky' at *
  generalize infB p.x = ix at *
  generalize infB p.y = iy at *
  generalize hsx : sgI (sgB p.x) = sX at *
  clear hsx
  generalize sgB p.x = sx at *
  generalize sgB p.y = sy at *
  cases iy <;> cases ix <;> cases sx <;> cases sy
  all_goals
    go_enter Tryd.func28, Tryd.ntmps28
    go_wp2_with fail
    go_ret2
    exact ⟨rfl, b1⟩
end Go.Proofs.YtembfhepinfmnaaDoor

namespace Go.Proofs.YtembfhepinfmnaaDoor
open Go.RowKit

set_option maxHeartbeats 1000000 in
theorem projection_any (p : Sp) (w : World) (hx : p.x < B64) (hy : p.y < B64) : Calls Tryd.prog 27 #[.agg (spC p)] w (TP w (lineN 3 p).1) := by
  obtain ⟨t, ht⟩ : ∃ t, Hid ((lineN 3 p).1 = t) := ⟨_, Lib.hid rfl⟩
  rw [ht.out]
  have ht' := ht.out
  unfold lineN at ht'
  rw [if_neg (by decide), if_pos rfl] at ht'
  obtain ⟨k1, k2, b1⟩ := kb_two 33 36 w (spC p) #[.int .u64 0, .int .u64 0, .int .i64 0]
  clear ht
  dsimp only [spC] at *
  cases hi : p.isI
  · rw [hi] at ht' k1 k2 b1
    simp only [Bool.false_eq_true, if_false] at ht'
    subst ht'
    go_enter Tryd.func27, Tryd.ntmps27
    go_wp2_with fail
    generalize (w.alloc _).alloc _ = w1 at *
    have c0 := k1.at_ 0 (v := .int .u64 (p.x : Int)) (by simp)
    have c1 := k1.at_ 1 (v := .int .u64 (p.y : Int)) (by simp)
    have hl := k1.2
    go_region_held3 (fun w' => w'.cell? ⟨w.heap.size, 0, none⟩ = some (.int .u64 (p.x : Int)) ∧ w'.cell? ⟨w.heap.size, 1, none⟩ = some (.int .u64 (p.y : Int)))
      (first | with_reducible exact ⟨put3_cell d0 (by simp), put3_cell d1 (by simp)⟩ | exact ⟨d0, d1⟩ | exact ⟨c0, c1⟩)
      (first
        | (go_at_call 26; refine (oneNaN_any _ _ (by first | exact hx | exact hy)).mono ?_; rintro e' w2 ⟨rfl, rfl⟩)
        | (go_at_call 25; refine (cplain_any _ _ _).mono ?_; rintro e' w2 ⟨rfl, bb⟩; have d0 := (bb.cell hl).trans c0; have d1 := (bb.cell hl).trans c1; have q2 := k2.drew.adv bb; have f0 := q2.fr 0; have f1 := q2.fr 1; have f2 := q2.fr 2; have z0 := q2.at_ 0 (v := .int .u64 0) rfl; have z1 := q2.at_ 1 (v := .int .u64 0) rfl; have z2 := q2.at_ 2 (v := .int .i64 0) rfl))
    have b2 := below_step b1.drew bb
    go_wp2_with fail
    exact bodyPost_ret (v := .agg #[.int .u64 (cleanI p.x), .int .u64 (cleanI p.y), .int .i64 0]) (by simp [results, Tryd.results27, go_sem, z0, z1, z2]) rfl ⟨rfl, below_put3 b2 (by omega) b2.size _ _ _⟩
  · rw [hi] at ht' k1 k2 b1
    simp only [if_true] at ht'
    subst ht'
    go_enter Tryd.func27, Tryd.ntmps27
    go_wp2_with fail
    generalize (w.alloc _).alloc _ = w1 at *
    refine (cplain_any _ _ _).mono ?_
    rintro e' w2 ⟨rfl, bb⟩
    have q2 := k2.adv bb
    have b2 := below_step b1 bb
    have f0 := q2.fr 0
    have f1 := q2.fr 1
    have f2 := q2.fr 2
    have z0 := q2.at_ 0 (v := .int .u64 0) rfl
    have z1 := q2.at_ 1 (v := .int .u64 0) rfl
    have z2 := q2.at_ 2 (v := .int .i64 0) rfl
    go_wp2_with fail
    exact bodyPost_ret (v := .agg #[.int .u64 9218868437227405312, .int .u64 (sgI (sgB p.y)), .int .i64 0]) (by simp [results, Tryd.results27, go_sem, z0, z1, z2]) rfl ⟨rfl, below_put3 b2 (by omega) b2.size _ _ _⟩
set_option maxHeartbeats 1000000 in
theorem sproot_any (p : Sp) (w : World) : Calls Tryd.prog 29 #[.agg (spC p)] w (TPB w (lineN 6 p)) := by
  obtain ⟨t, ht⟩ : ∃ t, Hid (lineN 6 p = t) := ⟨_, Lib.hid rfl⟩
  rw [ht.out]
  have ht' := ht.out
  unfold lineN at ht'
  rw [if_neg (by decide), if_neg (by decide), if_neg (by decide), if_neg (by decide), if_pos rfl] at ht'
  obtain ⟨k1, k2, b1⟩ := kb_two 33 36 w (spC p) #[.int .u64 0, .int .u64 0, .int .i64 0]
  clear ht
  have ky := kind_inf p.y
  have ns := sgI_ne (sgB p.x)
  have orI := or_inf (sgB p.y)
  dsimp only [spC] at *
  generalize infB p.y = iy at *
  generalize kindN p.y = kY at *
  generalize hsx : sgI (sgB p.x) = sX at *
  clear hsx
  generalize sgB p.x = sx at *
  generalize hwi : wI 9218868437227405312 (sgB p.y) = wi at *
  clear hwi
  generalize sgI (sgB p.y) = sY at *
  cases iy
  · simp only [Bool.false_eq_true, if_false] at ht'
    generalize p.isN = nn at *
    cases nn
    · cases sx
      · simp only [Bool.false_eq_true, if_false] at ht'
        subst ht'
        go_enter Tryd.func29, Tryd.ntmps29
        go_wp2_with fail
        generalize (w.alloc _).alloc _ = w1 at *
        refine (cplain_any _ _ _).mono ?_
        rintro e' w2 ⟨rfl, bb⟩
        have q2 := k2.adv bb
        have b2 := below_step b1 bb
        have f0 := q2.fr 0
        have f1 := q2.fr 1
        have f2 := q2.fr 2
        have z0 := q2.at_ 0 (v := .int .u64 0) rfl
        have z1 := q2.at_ 1 (v := .int .u64 0) rfl
        have z2 := q2.at_ 2 (v := .int .i64 0) rfl
        go_wp2_with fail
        exact bodyPost_ret (v := .tuple #[.agg #[.int .u64 9218868437227405312, .int .u64 sY, .int .i64 0], .bool true]) (by simp [results, Tryd.results29, go_sem, z0, z1, z2]) rfl ⟨rfl, below_put3 b2 (by omega) b2.size _ _ _⟩
      · simp only [Bool.false_eq_true, if_false, if_true] at ht'
        subst ht'
        go_enter Tryd.func29, Tryd.ntmps29
        go_wp2_with fail
        generalize (w.alloc _).alloc _ = w1 at *
        refine (cplain_any _ _ _).mono ?_
        rintro e' w2 ⟨rfl, bb⟩
        have q2 := k2.adv bb
        have b2 := below_step b1 bb
        have f0 := q2.fr 0
        have f1 := q2.fr 1
        have f2 := q2.fr 2
        have z0 := q2.at_ 0 (v := .int .u64 0) rfl
        have z1 := q2.at_ 1 (v := .int .u64 0) rfl
        have z2 := q2.at_ 2 (v := .int .i64 0) rfl
        go_wp2_with fail
        exact bodyPost_ret (v := .tuple #[.agg #[.int .u64 0, .int .u64 wi, .int .i64 0], .bool true]) (by simp [results, Tryd.results29, go_sem, z0, z1, z2]) rfl ⟨rfl, below_put3 b2 (by omega) b2.size _ _ _⟩
    · simp only [if_true] at ht'
      subst ht'
      go_enter Tryd.func29, Tryd.ntmps29
      go_wp2_with fail
      exact bodyPost_ret (v := .tuple #[.agg #[.int .u64 0, .int .u64 0, .int .i64 0], .bool false]) (by simp [results, Tryd.results29, go_sem]) rfl ⟨rfl, below_step (alloc_bel w _) (alloc_bel _ _)⟩
  · simp only [if_true] at ht'
    subst ht'
    go_enter Tryd.func29, Tryd.ntmps29
    go_wp2_with fail
    generalize (w.alloc _).alloc _ = w1 at *
    refine (cplain_any _ _ _).mono ?_
    rintro e' w2 ⟨rfl, bb⟩
    have q2 := k2.adv bb
    have b2 := below_step b1 bb
    have f0 := q2.fr 0
    have f1 := q2.fr 1
    have f2 := q2.fr 2
    have z0 := q2.at_ 0 (v := .int .u64 0) rfl
    have z1 := q2.at_ 1 (v := .int .u64 0) rfl
    have z2 := q2.at_ 2 (v := .int .i64 0) rfl
    go_wp2_with fail
    exact bodyPost_ret (v := .tuple #[.agg #[.int .u64 9218868437227405312, .int .u64 wi, .int .i64 0], .bool true]) (by simp [results, Tryd.results29, go_sem, z0, z1, z2]) rfl ⟨rfl, below_put3 b2 (by omega) b2.size _ _ _⟩
set_option maxHeartbeats 1000000 in
theorem sppower_any (p : Sp) (w : World) : Calls Tryd.prog 30 #[.agg (spC p)] w (TPB w (lineN 7 p)) := by
  obtain ⟨t, ht⟩ : ∃ t, Hid (lineN 7 p = t) := ⟨_, Lib.hid rfl⟩
  rw [ht.out]
  have ht' := ht.out
  unfold lineN at ht'
  rw [if_neg (by decide), if_neg (by decide), if_neg (by decide), if_neg (by decide), if_neg (by decide), if_pos rfl] at ht'
  obtain ⟨k1, k2, b1⟩ := kb_two 33 36 w (spC p) #[.int .u64 0, .int .u64 0, .int .i64 0]
  clear ht
  have kx := kind_inf p.x
  have ky := kind_zer p.y
  have ns := sgI_ne (sgB p.x)
  dsimp only [spC] at *
  generalize infB p.x = ix at *
  generalize kindN p.x = kX at *
  generalize zerB p.y = zy at *
  generalize kindN p.y = kY at *
  generalize hsx : sgI (sgB p.x) = sX at *
  clear hsx
  generalize sgB p.x = sx at *
  generalize sgI (sgB p.y) = sY at *
  have kx' : ((kX : Int) != 3) = !ix := by rw [← kx]; rfl
  have ky' : ((kY : Int) != 0) = !zy := by rw [← ky]; rfl
  cases ix
  · simp only [Bool.false_and, Bool.false_eq_true, if_false] at ht'
    subst ht'
    go_enter Tryd.func30, Tryd.ntmps30
    go_wp2_with fail
    exact bodyPost_ret (v := .tuple #[.agg #[.int .u64 0, .int .u64 0, .int .i64 0], .bool false]) (by simp [results, Tryd.results30, go_sem]) rfl ⟨rfl, below_step (alloc_bel w _) (alloc_bel _ _)⟩
  · cases zy
    · simp only [Bool.and_false, Bool.false_eq_true, if_false] at ht'
      subst ht'
      go_enter Tryd.func30, Tryd.ntmps30
      go_wp2_with fail
      exact bodyPost_ret (v := .tuple #[.agg #[.int .u64 0, .int .u64 0, .int .i64 0], .bool false]) (by simp [results, Tryd.results30, go_sem]) rfl ⟨rfl, below_step (alloc_bel w _) (alloc_bel _ _)⟩
    · cases sx
      · simp only [Bool.and_true, Bool.false_eq_true, if_false, if_true] at ht'
        subst ht'
        go_enter Tryd.func30, Tryd.ntmps30
        go_wp2_with fail
        generalize (w.alloc _).alloc _ = w1 at *
        refine (cplain_any _ _ _).mono ?_
        rintro e' w2 ⟨rfl, bb⟩
        have q2 := k2.adv bb
        have b2 := below_step b1 bb
        have f0 := q2.fr 0
        have f1 := q2.fr 1
        have f2 := q2.fr 2
        have z0 := q2.at_ 0 (v := .int .u64 0) rfl
        have z1 := q2.at_ 1 (v := .int .u64 0) rfl
        have z2 := q2.at_ 2 (v := .int .i64 0) rfl
        go_wp2_with fail
        exact bodyPost_ret (v := .tuple #[.agg #[.int .u64 9218868437227405312, .int .u64 sY, .int .i64 0], .bool true]) (by simp [results, Tryd.results30, go_sem, z0, z1, z2]) rfl ⟨rfl, below_put3 b2 (by omega) b2.size _ _ _⟩
      · simp only [Bool.and_true, if_true] at ht'
        subst ht'
        go_enter Tryd.func30, Tryd.ntmps30
        go_wp2_with fail
        generalize (w.alloc _).alloc _ = w1 at *
        refine (cplain_any _ _ _).mono ?_
        rintro e' w2 ⟨rfl, bb⟩
        have q2 := k2.adv bb
        have b2 := below_step b1 bb
        have f0 := q2.fr 0
        have f1 := q2.fr 1
        have f2 := q2.fr 2
        have z0 := q2.at_ 0 (v := .int .u64 0) rfl
        have z1 := q2.at_ 1 (v := .int .u64 0) rfl
        have z2 := q2.at_ 2 (v := .int .i64 0) rfl
        go_wp2_with fail
        exact bodyPost_ret (v := .tuple #[.agg #[.int .u64 0, .int .u64 sY, .int .i64 0], .bool true]) (by simp [results, Tryd.results30, go_sem, z0, z1, z2]) rfl ⟨rfl, below_put3 b2 (by omega) b2.size _ _ _⟩
set_option maxHeartbeats 1000000 in
theorem splogarithm_any (p : Sp) (w : World) : Calls Tryd.prog 31 #[.agg (spC p)] w (TPB w (lineN 8 p)) := by
  obtain ⟨t, ht⟩ : ∃ t, Hid (lineN 8 p = t) := ⟨_, Lib.hid rfl⟩
  rw [ht.out]
  have ht' := ht.out
  unfold lineN at ht'
  rw [if_neg (by decide), if_neg (by decide), if_neg (by decide), if_neg (by decide), if_neg (by decide), if_neg (by decide), if_pos rfl] at ht'
  obtain ⟨k1, k2, b1⟩ := kb_two 33 36 w (spC p) #[.int .u64 0, .int .u64 0, .int .i64 0]
  clear ht
  have hor : Go.bits .or .i64 16 p.angF = 16 + p.angF := by
    unfold Sp.angF angF
    split <;> rfl
  obtain ⟨s, hs⟩ : ∃ s, Hid (p.sing = s) := ⟨_, Lib.hid rfl⟩
  have AN := Lib.hid (fun w' => angle_any p w')
  go_enter Tryd.func31, Tryd.ntmps31
  go_wp2_with fail
  generalize (w.alloc _).alloc _ = w1 at *
  refine (AN.out _).mono ?_
  rintro e' w2 ⟨rfl, bb⟩
  have q1 := k1.adv bb
  have q2 := k2.adv bb
  have b2 := below_step b1 bb
  have d8 := q1.at_ 8 (v := .bool p.isN) rfl
  have d9 := q1.at_ 9 (v := .bool p.sing) rfl
  rw [hs.out] at d9 ht'
  have f0 := q2.fr 0
  have z0 := q2.at_ 0 (v := .int .u64 0) rfl
  have f1 := q2.fr 1
  have z1 := q2.at_ 1 (v := .int .u64 0) rfl
  have f2 := q2.fr 2
  have z2 := q2.at_ 2 (v := .int .i64 0) rfl
  clear AN hs
  generalize p.angF = F at *
  generalize p.angW = A at *
  cases s
  · simp only [Bool.false_eq_true, if_false] at ht'
    subst ht'
    go_wp2_with fail
    have d8' : w2.drew.cell? ⟨w.heap.size, 8, none⟩ = some (.bool p.isN) := d8
    go_region_held3 (fun w' => w'.cell? ⟨w.heap.size, 8, none⟩ = some (.bool p.isN)) (first | with_reducible exact put3_drew d8 (by simp) | with_reducible exact d8') (fail)
    go_wp2_with fail
    exact bodyPost_ret (v := .tuple #[.agg #[.int .u64 9218868437227405312, .int .u64 A, .int .i64 F], .bool (!p.isN)]) (by simp [results, Tryd.results31, go_sem, z0, z1, z2]) rfl ⟨rfl, (below_put3 b2 (by omega) b2.size _ _ _).drew⟩
  · simp only [if_true] at ht'
    subst ht'
    go_wp2_with fail
    exact bodyPost_ret (v := .tuple #[.agg #[.int .u64 18442240474082181120, .int .u64 A, .int .i64 (16 + F)], .bool true]) (by simp [results, Tryd.results31, go_sem, z0, z1, z2]) rfl ⟨rfl, below_put3 b2 (by omega) b2.size _ _ _⟩
set_option maxHeartbeats 1000000 in
theorem lastLine_any (p : Sp) (w : World) : Calls Tryd.prog 12 #[.agg (spC p)] w (TP w (lastN p)) := by
  obtain ⟨t, ht⟩ : ∃ t, Hid (lastN p = t) := ⟨_, Lib.hid rfl⟩
  rw [ht.out]
  have ht' := ht.out
  unfold lastN at ht'
  obtain ⟨k1, k2, b1⟩ := kb_two 33 36 w (spC p) #[.int .u64 0, .int .u64 0, .int .i64 0]
  clear ht
  dsimp only [spC] at *
  generalize hn : p.isN = n at *
  clear hn
  cases n
  · simp only [Bool.false_eq_true, if_false] at ht'
    subst ht'
    go_enter Tryd.func12, Tryd.ntmps12
    go_wp2_with fail
    generalize (w.alloc _).alloc _ = w1 at *
    refine (cplain_any _ _ _).mono ?_
    rintro e' w2 ⟨rfl, bb⟩
    have hs := bb.size
    have q1 := k1.adv bb
    have q2 := k2.adv bb
    have b2 := below_step b1 bb
    have q3 := KB.made 36 w2 #[.int .u64 9221120237041090560, .int .u64 9221120237041090560, .int .i64 0]
    have al := alloc_bel w2 (.cells #[.int .u64 9221120237041090560, .int .u64 9221120237041090560, .int .i64 0] 36)
    go_upto_region 2 with fail
    generalize hw3 : w2.alloc _ = w3 at *
    have r1 := q1.adv al
    have r2 := q2.adv al
    have b3 := below_step b2 al
    have hl2 := k2.2
    have hl0 : w.heap.size ≤ w2.heap.size := by omega
    clear hw3 al q1 q2 b2 k1 k2 b1
    have d8 := r1.at_ 8 (v := .bool false) rfl
    have e0 := q3.at_ 0 (v := .int .u64 9221120237041090560) rfl
    have e1 := q3.at_ 1 (v := .int .u64 9221120237041090560) rfl
    have e2 := q3.at_ 2 (v := .int .i64 0) rfl
    have g2 := q3.fr 2
    have f0 := r2.fr 0
    have z0 := r2.at_ 0 (v := .int .u64 0) rfl
    have f1 := r2.fr 1
    have z1 := r2.at_ 1 (v := .int .u64 0) rfl
    have f2 := r2.fr 2
    have z2 := r2.at_ 2 (v := .int .i64 0) rfl
    go_wp2_with fail
    exact bodyPost_ret (v := .agg #[.int .u64 9221120237041090560, .int .u64 9221120237041090560, .int .i64 8]) (by simp [results, Tryd.results12, go_sem, z0, z1, z2]) rfl ⟨rfl, below_put3 (Only.below b3 (only_one _ _ _ _) b3.size hl0) (by omega) (by simp [World.setCell]; exact b3.size) _ _ _⟩
  · simp only [if_true] at ht'
    subst ht'
    go_enter Tryd.func12, Tryd.ntmps12
    go_wp2_with fail
    generalize (w.alloc _).alloc _ = w1 at *
    refine (cplain_any _ _ _).mono ?_
    rintro e' w2 ⟨rfl, bb⟩
    have hs := bb.size
    have q1 := k1.adv bb
    have q2 := k2.adv bb
    have b2 := below_step b1 bb
    have q3 := KB.made 36 w2 #[.int .u64 9221120237041090560, .int .u64 9221120237041090560, .int .i64 0]
    have al := alloc_bel w2 (.cells #[.int .u64 9221120237041090560, .int .u64 9221120237041090560, .int .i64 0] 36)
    go_upto_region 2 with fail
    generalize hw3 : w2.alloc _ = w3 at *
    have r1 := q1.adv al
    have r2 := q2.adv al
    have b3 := below_step b2 al
    have hl2 := k2.2
    have hl0 : w.heap.size ≤ w2.heap.size := by omega
    clear hw3 al q1 q2 b2 k1 k2 b1
    have d8 := r1.at_ 8 (v := .bool true) rfl
    have e0 := q3.at_ 0 (v := .int .u64 9221120237041090560) rfl
    have e1 := q3.at_ 1 (v := .int .u64 9221120237041090560) rfl
    have e2 := q3.at_ 2 (v := .int .i64 0) rfl
    have g2 := q3.fr 2
    have f0 := r2.fr 0
    have z0 := r2.at_ 0 (v := .int .u64 0) rfl
    have f1 := r2.fr 1
    have z1 := r2.at_ 1 (v := .int .u64 0) rfl
    have f2 := r2.fr 2
    have z2 := r2.at_ 2 (v := .int .i64 0) rfl
    go_wp2_with fail
    exact bodyPost_ret (v := .agg #[.int .u64 9221120237041090560, .int .u64 9221120237041090560, .int .i64 0]) (by simp [results, Tryd.results12, go_sem, z0, z1, z2]) rfl ⟨rfl, below_put3 b3 (by omega) (b3.size) _ _ _⟩
end Go.Proofs.YtembfhepinfmnaaDoor
