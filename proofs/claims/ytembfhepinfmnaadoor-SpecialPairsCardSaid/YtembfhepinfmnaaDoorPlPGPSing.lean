/-
  part's placeOf and Singular.
-/
import Derived.Test.YtembfhepinfmnaaDoorPlPGPk2
namespace Go.Proofs.YtembfhepinfmnaaDoor
open Go.RowKit

abbrev fourC (a b c d : Nat) : Array Value := #[.int .u64 (a : Int), .int .u64 (b : Int), .int .u64 (c : Int), .int .u64 (d : Int)]
abbrev z14 : Array Value := #[.bool false, .slice none 0 0, .int .i64 0, .bool false, .slice none 0 0, .int .i64 0, .bool false, .slice none 0 0, .int .i64 0, .bool false, .slice none 0 0, .int .i64 0, .bool false, .bool false]
theorem notU14 : z14.all notUB = true := by decide +kernel
abbrev put14 (w : World) (g : Nat) (a0 a1 a2 a3 a4 a5 a6 a7 a8 a9 a10 a11 a12 a13 : Value) : World :=
  (((((((((((((((w.setCell ⟨g, 0, none⟩ a0).setCell ⟨g, 1, none⟩ a1).setCell ⟨g, 2, none⟩ a2).setCell ⟨g, 3, none⟩ a3).setCell ⟨g, 4, none⟩ a4).setCell ⟨g, 5, none⟩ a5).setCell ⟨g, 6, none⟩ a6).setCell ⟨g, 7, none⟩ a7).setCell ⟨g, 8, none⟩ a8).setCell ⟨g, 9, none⟩ a9).setCell ⟨g, 10, none⟩ a10).setCell ⟨g, 11, none⟩ a11).setCell ⟨g, 12, none⟩ a12).setCell ⟨g, 13, none⟩ a13))
theorem only_put14 (w : World) (g : Nat) (a0 a1 a2 a3 a4 a5 a6 a7 a8 a9 a10 a11 a12 a13 : Value) : Only w (put14 w g a0 a1 a2 a3 a4 a5 a6 a7 a8 a9 a10 a11 a12 a13) g :=
  ((((((((((((((Only.refl w g).set_ 0 a0).set_ 1 a1).set_ 2 a2).set_ 3 a3).set_ 4 a4).set_ 5 a5).set_ 6 a6).set_ 7 a7).set_ 8 a8).set_ 9 a9).set_ 10 a10).set_ 11 a11).set_ 12 a12).set_ 13 a13
/-- What is answered of a place: the numbers of the words that count. -/
def PlaceP (w : World) (x y u v : DR) (ok : Bool) (e : Ending) (w' : World) : Prop :=
  ∃ (A1 : Option Addr) (n1 c1 : Nat) (A2 : Option Addr) (n2 c2 : Nat) (A3 : Option Addr) (n3 c3 : Nat) (A4 : Option Addr) (n4 c4 : Nat) (l m : Bool),
    e = .returned (.tuple #[.agg #[.bool x.neg, .slice A1 n1 c1, .int .i64 x.e, .bool y.neg, .slice A2 n2 c2, .int .i64 y.e, .bool u.neg, .slice A3 n3 c3, .int .i64 u.e, .bool v.neg, .slice A4 n4 c4, .int .i64 v.e, .bool l, .bool m], .bool ok]) ∧
    Num w' (.slice A1 n1 c1) x.m ∧ Num w' (.slice A2 n2 c2) y.m ∧ Num w' (.slice A3 n3 c3) u.m ∧ Num w' (.slice A4 n4 c4) v.m ∧ Below w.heap.size w w'

abbrev SPL2 (w' : World) (g0 g1 g2 : Nat) (a b : Nat) (x y : DR) (A1 : Option Addr) (n1 c1 : Nat) (A2 : Option Addr) (n2 c2 : Nat) : Prop :=
  w'.cell? ⟨g0, 0, none⟩ = some (.int .u64 (a : Int)) ∧ w'.cell? ⟨g0, 1, none⟩ = some (.int .u64 (b : Int)) ∧
      w'.cell? ⟨g1, 0, none⟩ = some (.bool x.neg) ∧ w'.cell? ⟨g1, 1, none⟩ = some (.slice A1 n1 c1) ∧ w'.cell? ⟨g1, 2, none⟩ = some (.int .i64 x.e) ∧
      w'.cell? ⟨g2, 0, none⟩ = some (.bool y.neg) ∧ w'.cell? ⟨g2, 1, none⟩ = some (.slice A2 n2 c2) ∧ w'.cell? ⟨g2, 2, none⟩ = some (.int .i64 y.e)
theorem place_out (tag : Int) (a b c d : Nat) (w : World) (h : tag < 0 ∨ 20 < tag) : Calls Tryd.prog 39 #[.int .i64 tag, .agg (fourC a b c d)] w (PlaceP w DR.no DR.no DR.no DR.no false) := by
  rcases h with h | h
  · have h1 : decide (tag < 0) = true := decide_eq_true h
    go_enter Tryd.func39, Tryd.ntmps39
    go_wp2_with fail
    exact bodyPost_ret (v := .tuple #[.agg z14, .bool false]) (by simp [results, Tryd.results39, go_sem]) rfl ⟨_, _, _, _, _, _, _, _, _, _, _, _, _, _, rfl, num_nil _, num_nil _, num_nil _, num_nil _, below_step (alloc_bel w _) (alloc_bel _ _)⟩
  · have h1 : decide (tag < 0) = false := decide_eq_false (by omega)
    have h2 : decide (20 < tag) = true := decide_eq_true h
    go_enter Tryd.func39, Tryd.ntmps39
    go_wp2_with fail
    exact bodyPost_ret (v := .tuple #[.agg z14, .bool false]) (by simp [results, Tryd.results39, go_sem]) rfl ⟨_, _, _, _, _, _, _, _, _, _, _, _, _, _, rfl, num_nil _, num_nil _, num_nil _, num_nil _, below_step (alloc_bel w _) (alloc_bel _ _)⟩

set_option maxHeartbeats 1000000 in
theorem place_two (tag : Int) (a b c d : Nat) (w : World) (hT : Tab w) (ha : a < B64) (hb : b < B64) (h0 : 0 ≤ tag) (h20 : tag ≤ 20) (h4 : tag ≠ 4) (h5 : tag ≠ 5) :
    Calls Tryd.prog 39 #[.int .i64 tag, .agg (fourC a b c d)] w (PlaceP w (numD a) (numD b) DR.no DR.no ((numD a).ok && (numD b).ok)) := by
  have g1 : decide (tag < 0) = false := decide_eq_false (by omega)
  have g2 : decide (20 < tag) = false := decide_eq_false (by omega)
  have g4 : (tag != 4) = true := by simp [h4]
  have g5 : (tag != 5) = true := by simp [h5]
  obtain ⟨k1, k2, b1⟩ := kb_two 24 54 w (fourC a b c d) z14
  have N1 := Lib.hid (fun w' (b' : Below w.heap.size w w') => number_any a w' ha (hT.below b'))
  have N2 := Lib.hid (fun w' (b' : Below w.heap.size w w') => number_any b w' hb (hT.below b'))
  have NA := Lib.hid (fun w' => neg_word a w' ha)
  have NB := Lib.hid (fun w' => neg_word b w' hb)
  clear h4 h5
  generalize numD a = x at *
  generalize numD b = y at *
  go_enter Tryd.func39, Tryd.ntmps39
  go_wp2_with fail
  generalize (w.alloc _).alloc _ = w1 at *
  refine (N1.out _ b1).mono ?_
  rintro e' w2 h
  obtain ⟨A1, n1, c1, rfl, m1, bb⟩ := h.dp
  have k1 := k1.adv bb
  have k2 := k2.adv bb
  have b1 := below_step b1 bb
  have j0 := k1.at_ 0 (v := .int .u64 (a : Int)) rfl
  have j1 := k1.at_ 1 (v := .int .u64 (b : Int)) rfl
  clear h bb N1
  go_upto_region 4 with fail
  have kx := KB.made 52 w2 #[.bool x.neg, .slice A1 n1 c1, .int .i64 x.e]
  have al := alloc_bel w2 (cd3 (.bool x.neg) (.slice A1 n1 c1) (.int .i64 x.e))
  have k1 := k1.adv al
  have k2 := k2.adv al
  have m1 := m1.below al
  have b1 := below_step b1 al
  clear al j0 j1
  generalize hw : w2.alloc _ = w3 at *
  clear hw
  have j0 := k1.at_ 0 (v := .int .u64 (a : Int)) rfl
  have j1 := k1.at_ 1 (v := .int .u64 (b : Int)) rfl
  go_wp2_with fail
  refine (N2.out _ b1).mono ?_
  rintro e' w4 h
  obtain ⟨A2, n2, c2, rfl, m2, bb⟩ := h.dp
  have k1 := k1.adv bb
  have k2 := k2.adv bb
  have kx := kx.adv bb
  have m1 := m1.below bb
  have b1 := below_step b1 bb
  clear h bb N2 j0 j1
  go_upto_region 5 with fail
  have ky := KB.made 52 w4 #[.bool y.neg, .slice A2 n2 c2, .int .i64 y.e]
  have al := alloc_bel w4 (cd3 (.bool y.neg) (.slice A2 n2 c2) (.int .i64 y.e))
  have k1 := (k1.adv al).drew
  have k2 := (k2.adv al).drew
  have kx := (kx.adv al).drew
  have m1 := m1.below (al.drew)
  have m2 := m2.below (al.drew)
  have b0 := below_step b1 al
  have ky := ky.drew
  clear al
  generalize hw : w4.alloc _ = w5 at *
  clear hw
  have hq0 : w.heap.size + 1 < w5.heap.size := k2.2
  have hq1 := k1.2
  have hq2 := kx.2
  have hq3 := ky.2
  have KEEP : Hid (∀ o : Obj, SPL2 (w5.alloc o).drew w.heap.size w2.heap.size w4.heap.size a b x y A1 n1 c1 A2 n2 c2) := Lib.hid (fun o => by
    have al := (alloc_bel w5 o).drew
    have k1 := KB.adv (w := w5) k1 al
    have kx := KB.adv (w := w5) kx al
    have ky := KB.adv (w := w5) ky al
    exact ⟨k1.at_ 0 rfl, k1.at_ 1 rfl, kx.at_ 0 rfl, kx.at_ 1 rfl, kx.at_ 2 rfl, ky.at_ 0 rfl, ky.at_ 1 rfl, ky.at_ 2 rfl⟩)
  go_region_held3 (fun w' => w'.cell? ⟨w.heap.size, 0, none⟩ = some (.int .u64 (a : Int)) ∧ w'.cell? ⟨w.heap.size, 1, none⟩ = some (.int .u64 (b : Int)) ∧
      w'.cell? ⟨w2.heap.size, 0, none⟩ = some (.bool x.neg) ∧ w'.cell? ⟨w2.heap.size, 1, none⟩ = some (.slice A1 n1 c1) ∧ w'.cell? ⟨w2.heap.size, 2, none⟩ = some (.int .i64 x.e) ∧
      w'.cell? ⟨w4.heap.size, 0, none⟩ = some (.bool y.neg) ∧ w'.cell? ⟨w4.heap.size, 1, none⟩ = some (.slice A2 n2 c2) ∧ w'.cell? ⟨w4.heap.size, 2, none⟩ = some (.int .i64 y.e))
    (first | with_reducible exact KEEP.out _ | exact ⟨k1.at_ 0 rfl, k1.at_ 1 rfl, kx.at_ 0 rfl, kx.at_ 1 rfl, kx.at_ 2 rfl, ky.at_ 0 rfl, ky.at_ 1 rfl, ky.at_ 2 rfl⟩)
    (first
      | (go_at_call 44; refine (NA.out _).mono ?_; rintro e' w6 ⟨rfl, rfl⟩)
      | (go_at_call 44; refine (NB.out _).mono ?_; rintro e' w6 ⟨rfl, rfl⟩))
  all_goals
    have kz := (KB.made 54 w5 #[.bool x.neg, .slice A1 n1 c1, .int .i64 x.e, .bool y.neg, .slice A2 n2 c2, .int .i64 y.e, .bool false, .slice none 0 0, .int .i64 0, .bool false, .slice none 0 0, .int .i64 0, .bool (sgB a), .bool (sgB b)]).drew
    have al := (alloc_bel w5 (.cells #[.bool x.neg, .slice A1 n1 c1, .int .i64 x.e, .bool y.neg, .slice A2 n2 c2, .int .i64 y.e, .bool false, .slice none 0 0, .int .i64 0, .bool false, .slice none 0 0, .int .i64 0, .bool (sgB a), .bool (sgB b)] 54)).drew
    have k2 := KB.adv (w := w5) k2 al
    have m1 := Num.below (w := w5) m1 al
    have m2 := Num.below (w := w5) m2 al
    have b1 := below_step (w1 := w5) b0 al
    clear al KEEP k1 kx ky b0
    generalize hw : (w5.alloc _).drew = w6 at *
    clear hw
    have y0 := kz.at_ 0 (v := .bool x.neg) rfl
    have y1 := kz.at_ 1 (v := .slice A1 n1 c1) rfl
    have y2 := kz.at_ 2 (v := .int .i64 x.e) rfl
    have y3 := kz.at_ 3 (v := .bool y.neg) rfl
    have y4 := kz.at_ 4 (v := .slice A2 n2 c2) rfl
    have y5 := kz.at_ 5 (v := .int .i64 y.e) rfl
    have y6 := kz.at_ 6 (v := .bool false) rfl
    have y7 := kz.at_ 7 (v := .slice none 0 0) rfl
    have y8 := kz.at_ 8 (v := .int .i64 0) rfl
    have y9 := kz.at_ 9 (v := .bool false) rfl
    have y10 := kz.at_ 10 (v := .slice none 0 0) rfl
    have y11 := kz.at_ 11 (v := .int .i64 0) rfl
    have y12 := kz.at_ 12 (v := .bool (sgB a)) rfl
    have y13 := kz.at_ 13 (v := .bool (sgB b)) rfl
    have z0 := k2.at_ 0 (v := .bool false) rfl
    have fz0 := k2.fr 0
    have z1 := k2.at_ 1 (v := .slice none 0 0) rfl
    have fz1 := k2.fr 1
    have z2 := k2.at_ 2 (v := .int .i64 0) rfl
    have fz2 := k2.fr 2
    have z3 := k2.at_ 3 (v := .bool false) rfl
    have fz3 := k2.fr 3
    have z4 := k2.at_ 4 (v := .slice none 0 0) rfl
    have fz4 := k2.fr 4
    have z5 := k2.at_ 5 (v := .int .i64 0) rfl
    have fz5 := k2.fr 5
    have z6 := k2.at_ 6 (v := .bool false) rfl
    have fz6 := k2.fr 6
    have z7 := k2.at_ 7 (v := .slice none 0 0) rfl
    have fz7 := k2.fr 7
    have z8 := k2.at_ 8 (v := .int .i64 0) rfl
    have fz8 := k2.fr 8
    have z9 := k2.at_ 9 (v := .bool false) rfl
    have fz9 := k2.fr 9
    have z10 := k2.at_ 10 (v := .slice none 0 0) rfl
    have fz10 := k2.fr 10
    have z11 := k2.at_ 11 (v := .int .i64 0) rfl
    have fz11 := k2.fr 11
    have z12 := k2.at_ 12 (v := .bool false) rfl
    have fz12 := k2.fr 12
    have z13 := k2.at_ 13 (v := .bool false) rfl
    have fz13 := k2.fr 13
    go_upto_region 7 with fail
    generalize x.ok = ox at *
    generalize y.ok = oy at *
    cases ox
    · go_wp2_with fail
      have o := only_put14 w6 (w.heap.size + 1) (.bool x.neg) (.slice A1 n1 c1) (.int .i64 x.e) (.bool y.neg) (.slice A2 n2 c2) (.int .i64 y.e) (.bool false) (.slice none 0 0) (.int .i64 0) (.bool false) (.slice none 0 0) (.int .i64 0) (.bool (sgB a)) (.bool (sgB b))
      exact bodyPost_ret (v := .tuple #[.agg #[.bool x.neg, .slice A1 n1 c1, .int .i64 x.e, .bool y.neg, .slice A2 n2 c2, .int .i64 y.e, .bool false, .slice none 0 0, .int .i64 0, .bool false, .slice none 0 0, .int .i64 0, .bool (sgB a), .bool (sgB b)], .bool (false && oy)]) (by simp [results, Tryd.results39, go_sem, z0, z1, z2, z3, z4, z5, z6, z7, z8, z9, z10, z11, z12, z13]) rfl
        ⟨_, _, _, _, _, _, _, _, _, _, _, _, _, _, rfl, num_kb m1 k2 notU14 o, num_kb m2 k2 notU14 o, num_nil _, num_nil _, Only.below b1 o b1.size (by omega)⟩
    · go_wp2_with fail
      have o := only_put14 w6 (w.heap.size + 1) (.bool x.neg) (.slice A1 n1 c1) (.int .i64 x.e) (.bool y.neg) (.slice A2 n2 c2) (.int .i64 y.e) (.bool false) (.slice none 0 0) (.int .i64 0) (.bool false) (.slice none 0 0) (.int .i64 0) (.bool (sgB a)) (.bool (sgB b))
      exact bodyPost_ret (v := .tuple #[.agg #[.bool x.neg, .slice A1 n1 c1, .int .i64 x.e, .bool y.neg, .slice A2 n2 c2, .int .i64 y.e, .bool false, .slice none 0 0, .int .i64 0, .bool false, .slice none 0 0, .int .i64 0, .bool (sgB a), .bool (sgB b)], .bool (true && oy)]) (by simp [results, Tryd.results39, go_sem, z0, z1, z2, z3, z4, z5, z6, z7, z8, z9, z10, z11, z12, z13]) rfl
        ⟨_, _, _, _, _, _, _, _, _, _, _, _, _, _, rfl, num_kb m1 k2 notU14 o, num_kb m2 k2 notU14 o, num_nil _, num_nil _, Only.below b1 o b1.size (by omega)⟩
end Go.Proofs.YtembfhepinfmnaaDoor
