/-
  part's placeOf of tag 4: four words count.
-/
import Derived.Test.YtembfhepinfmnaaDoorPlPGPSing
namespace Go.Proofs.YtembfhepinfmnaaDoor
open Go.RowKit

set_option maxHeartbeats 4000000 in
theorem place_four4 (a b c d : Nat) (w : World) (hT : Tab w) (ha : a < B64) (hb : b < B64) (hc : c < B64) (hd : d < B64) :
    Calls Tryd.prog 39 #[.int .i64 4, .agg (fourC a b c d)] w (PlaceP w (numD a) (numD b) (numD c) (numD d) ((((numD a).ok && (numD b).ok) && (numD c).ok) && (numD d).ok)) := by
  obtain ⟨k1, k2, b1⟩ := kb_two 24 54 w (fourC a b c d) z14
  have N1 := Lib.hid (fun w' (b' : Below w.heap.size w w') => number_any a w' ha (hT.below b'))
  have N2 := Lib.hid (fun w' (b' : Below w.heap.size w w') => number_any b w' hb (hT.below b'))
  have N3 := Lib.hid (fun w' (b' : Below w.heap.size w w') => number_any c w' hc (hT.below b'))
  have N4 := Lib.hid (fun w' (b' : Below w.heap.size w w') => number_any d w' hd (hT.below b'))
  have NA := Lib.hid (fun w' => neg_word a w' ha)
  have NB := Lib.hid (fun w' => neg_word b w' hb)
  generalize numD a = x at *
  generalize numD b = y at *
  generalize numD c = u at *
  generalize numD d = v at *
  go_enter Tryd.func39, Tryd.ntmps39
  go_wp2_with fail
  generalize (w.alloc _).alloc _ = w1 at *
  refine (N1.out _ b1).mono ?_
  rintro e' w2 h
  obtain ⟨A1, n1, c1, rfl, m1, bb⟩ := h.dp
  have k1 := k1.adv bb
  have k2 := k2.adv bb
  have b1 := below_step b1 bb
  have j0 := k1.at_ 0 (v := .int .u64 (a : Int)) rfl
  have j1 := k1.at_ 1 (v := .int .u64 (b : Int)) rfl
  clear h bb N1
  go_upto_region 4 with fail
  have kx := KB.made 52 w2 #[.bool x.neg, .slice A1 n1 c1, .int .i64 x.e]
  have al := alloc_bel w2 (cd3 (.bool x.neg) (.slice A1 n1 c1) (.int .i64 x.e))
  have k1 := k1.adv al
  have k2 := k2.adv al
  have m1 := m1.below al
  have b1 := below_step b1 al
  clear al j0 j1
  generalize hw : w2.alloc _ = w3 at *
  clear hw
  have j0 := k1.at_ 0 (v := .int .u64 (a : Int)) rfl
  have j1 := k1.at_ 1 (v := .int .u64 (b : Int)) rfl
  go_wp2_with fail
  refine (N2.out _ b1).mono ?_
  rintro e' w4 h
  obtain ⟨A2, n2, c2, rfl, m2, bb⟩ := h.dp
  have k1 := k1.adv bb
  have k2 := k2.adv bb
  have kx := kx.adv bb
  have m1 := m1.below bb
  have b1 := below_step b1 bb
  clear h bb N2 j0 j1
  go_upto_region 5 with fail
  have ky := KB.made 52 w4 #[.bool y.neg, .slice A2 n2 c2, .int .i64 y.e]
  have al := alloc_bel w4 (cd3 (.bool y.neg) (.slice A2 n2 c2) (.int .i64 y.e))
  have k1 := (k1.adv al).drew
  have k2 := (k2.adv al).drew
  have kx := (kx.adv al).drew
  have m1 := m1.below (al.drew)
  have m2 := m2.below (al.drew)
  have b0 := below_step b1 al
  have ky := ky.drew
  clear al
  generalize hw : w4.alloc _ = w5 at *
  clear hw
  have hq0 : w.heap.size + 1 < w5.heap.size := k2.2
  have hq1 := k1.2
  have hq2 := kx.2
  have hq3 := ky.2
  have KEEP : Hid (∀ o : Obj, SPL2 (w5.alloc o).drew w.heap.size w2.heap.size w4.heap.size a b x y A1 n1 c1 A2 n2 c2) := Lib.hid (fun o => by
    have al := (alloc_bel w5 o).drew
    have k1 := KB.adv (w := w5) k1 al
    have kx := KB.adv (w := w5) kx al
    have ky := KB.adv (w := w5) ky al
    exact ⟨k1.at_ 0 rfl, k1.at_ 1 rfl, kx.at_ 0 rfl, kx.at_ 1 rfl, kx.at_ 2 rfl, ky.at_ 0 rfl, ky.at_ 1 rfl, ky.at_ 2 rfl⟩)
  go_region_held3 (fun w' => w'.cell? ⟨w.heap.size, 0, none⟩ = some (.int .u64 (a : Int)) ∧ w'.cell? ⟨w.heap.size, 1, none⟩ = some (.int .u64 (b : Int)) ∧
      w'.cell? ⟨w2.heap.size, 0, none⟩ = some (.bool x.neg) ∧ w'.cell? ⟨w2.heap.size, 1, none⟩ = some (.slice A1 n1 c1) ∧ w'.cell? ⟨w2.heap.size, 2, none⟩ = some (.int .i64 x.e) ∧
      w'.cell? ⟨w4.heap.size, 0, none⟩ = some (.bool y.neg) ∧ w'.cell? ⟨w4.heap.size, 1, none⟩ = some (.slice A2 n2 c2) ∧ w'.cell? ⟨w4.heap.size, 2, none⟩ = some (.int .i64 y.e))
    (first | with_reducible exact KEEP.out _ | exact ⟨k1.at_ 0 rfl, k1.at_ 1 rfl, kx.at_ 0 rfl, kx.at_ 1 rfl, kx.at_ 2 rfl, ky.at_ 0 rfl, ky.at_ 1 rfl, ky.at_ 2 rfl⟩)
    (first
      | (go_at_call 44; refine (NA.out _).mono ?_; rintro e' w6 ⟨rfl, rfl⟩)
      | (go_at_call 44; refine (NB.out _).mono ?_; rintro e' w6 ⟨rfl, rfl⟩))
  all_goals
    have kz := (KB.made 54 w5 #[.bool x.neg, .slice A1 n1 c1, .int .i64 x.e, .bool y.neg, .slice A2 n2 c2, .int .i64 y.e, .bool false, .slice none 0 0, .int .i64 0, .bool false, .slice none 0 0, .int .i64 0, .bool (sgB a), .bool (sgB b)]).drew
    have al := (alloc_bel w5 (.cells #[.bool x.neg, .slice A1 n1 c1, .int .i64 x.e, .bool y.neg, .slice A2 n2 c2, .int .i64 y.e, .bool false, .slice none 0 0, .int .i64 0, .bool false, .slice none 0 0, .int .i64 0, .bool (sgB a), .bool (sgB b)] 54)).drew
    have k2 := KB.adv (w := w5) k2 al
    have m1 := Num.below (w := w5) m1 al
    have m2 := Num.below (w := w5) m2 al
    have b1 := below_step (w1 := w5) b0 al
    have k1 := KB.adv (w := w5) k1 al
    clear al KEEP kx ky b0
    generalize hw : (w5.alloc _).drew = w6 at *
    clear hw
    have hz5 : w.heap.size + 1 < w5.heap.size := hq0
    have j2 := k1.at_ 2 (v := .int .u64 (c : Int)) rfl
    go_wp2_with fail
    refine (N3.out _ b1).mono ?_
    rintro e' w7 h
    obtain ⟨A3, n3, c3, rfl, m3, bb⟩ := h.dp
    have k1 := k1.adv bb
    have k2 := k2.adv bb
    have kz := kz.adv bb
    have m1 := m1.below bb
    have m2 := m2.below bb
    have b1 := below_step b1 bb
    clear h bb N3 j2
    have y0 := kz.at_ 0 (v := .bool x.neg) rfl
    have fy0 := kz.fr 0
    have y1 := kz.at_ 1 (v := .slice A1 n1 c1) rfl
    have fy1 := kz.fr 1
    have y2 := kz.at_ 2 (v := .int .i64 x.e) rfl
    have fy2 := kz.fr 2
    have y3 := kz.at_ 3 (v := .bool y.neg) rfl
    have fy3 := kz.fr 3
    have y4 := kz.at_ 4 (v := .slice A2 n2 c2) rfl
    have fy4 := kz.fr 4
    have y5 := kz.at_ 5 (v := .int .i64 y.e) rfl
    have fy5 := kz.fr 5
    have y6 := kz.at_ 6 (v := .bool false) rfl
    have fy6 := kz.fr 6
    have y7 := kz.at_ 7 (v := .slice none 0 0) rfl
    have fy7 := kz.fr 7
    have y8 := kz.at_ 8 (v := .int .i64 0) rfl
    have fy8 := kz.fr 8
    have y9 := kz.at_ 9 (v := .bool false) rfl
    have fy9 := kz.fr 9
    have y10 := kz.at_ 10 (v := .slice none 0 0) rfl
    have fy10 := kz.fr 10
    have y11 := kz.at_ 11 (v := .int .i64 0) rfl
    have fy11 := kz.fr 11
    have y12 := kz.at_ 12 (v := .bool (sgB a)) rfl
    have fy12 := kz.fr 12
    have y13 := kz.at_ 13 (v := .bool (sgB b)) rfl
    have fy13 := kz.fr 13
    go_upto_region 10 with fail
    clear y0 fy0 y1 fy1 y2 fy2 y3 fy3 y4 fy4 y5 fy5 y6 fy6 y7 fy7 y8 fy8 y9 fy9 y10 fy10 y11 fy11 y12 fy12 y13 fy13
    have o := (((Only.refl w7 w5.heap.size).set_ 6 (.bool u.neg)).set_ 7 (.slice A3 n3 c3)).set_ 8 (.int .i64 u.e)
    have kz2 : KB 54 _ w5.heap.size #[.bool x.neg, .slice A1 n1 c1, .int .i64 x.e, .bool y.neg, .slice A2 n2 c2, .int .i64 y.e, .bool u.neg, .slice A3 n3 c3, .int .i64 u.e, .bool false, .slice none 0 0, .int .i64 0, .bool (sgB a), .bool (sgB b)] := ((kz.set_ 6 (.bool u.neg)).set_ 7 (.slice A3 n3 c3)).set_ 8 (.int .i64 u.e)
    have nu : (#[.bool x.neg, .slice A1 n1 c1, .int .i64 x.e, .bool y.neg, .slice A2 n2 c2, .int .i64 y.e, .bool false, .slice none 0 0, .int .i64 0, .bool false, .slice none 0 0, .int .i64 0, .bool (sgB a), .bool (sgB b)] : Array Value).all notUB = true := by simp [notUB]
    have k1 := k1.only o (by omega)
    have k2 := k2.only o (by omega)
    have m1 := num_kb m1 kz nu o
    have m2 := num_kb m2 kz nu o
    have m3 := num_kb m3 kz nu o
    have b1 := Only.below b1 o b1.size (by omega)
    have kz := kz2
    clear o kz2 nu
    generalize hw : ((w7.setCell _ _).setCell _ _).setCell _ _ = w8 at *
    clear hw
    have j3 := k1.at_ 3 (v := .int .u64 (d : Int)) rfl
    go_wp2_with fail
    refine (N4.out _ b1).mono ?_
    rintro e' w8 h
    obtain ⟨A4, n4, c4, rfl, m4, bb⟩ := h.dp
    have k1 := k1.adv bb
    have k2 := k2.adv bb
    have kz := kz.adv bb
    have m1 := m1.below bb
    have m2 := m2.below bb
    have m3 := m3.below bb
    have b1 := below_step b1 bb
    clear h bb N4 j3
    have y0 := kz.at_ 0 (v := .bool x.neg) rfl
    have fy0 := kz.fr 0
    have y1 := kz.at_ 1 (v := .slice A1 n1 c1) rfl
    have fy1 := kz.fr 1
    have y2 := kz.at_ 2 (v := .int .i64 x.e) rfl
    have fy2 := kz.fr 2
    have y3 := kz.at_ 3 (v := .bool y.neg) rfl
    have fy3 := kz.fr 3
    have y4 := kz.at_ 4 (v := .slice A2 n2 c2) rfl
    have fy4 := kz.fr 4
    have y5 := kz.at_ 5 (v := .int .i64 y.e) rfl
    have fy5 := kz.fr 5
    have y6 := kz.at_ 6 (v := .bool u.neg) rfl
    have fy6 := kz.fr 6
    have y7 := kz.at_ 7 (v := .slice A3 n3 c3) rfl
    have fy7 := kz.fr 7
    have y8 := kz.at_ 8 (v := .int .i64 u.e) rfl
    have fy8 := kz.fr 8
    have y9 := kz.at_ 9 (v := .bool false) rfl
    have fy9 := kz.fr 9
    have y10 := kz.at_ 10 (v := .slice none 0 0) rfl
    have fy10 := kz.fr 10
    have y11 := kz.at_ 11 (v := .int .i64 0) rfl
    have fy11 := kz.fr 11
    have y12 := kz.at_ 12 (v := .bool (sgB a)) rfl
    have fy12 := kz.fr 12
    have y13 := kz.at_ 13 (v := .bool (sgB b)) rfl
    have fy13 := kz.fr 13
    go_upto_region 11 with fail
    clear y0 fy0 y1 fy1 y2 fy2 y3 fy3 y4 fy4 y5 fy5 y6 fy6 y7 fy7 y8 fy8 y9 fy9 y10 fy10 y11 fy11 y12 fy12 y13 fy13
    have o := (((Only.refl w8 w5.heap.size).set_ 9 (.bool v.neg)).set_ 10 (.slice A4 n4 c4)).set_ 11 (.int .i64 v.e)
    have kz2 : KB 54 _ w5.heap.size #[.bool x.neg, .slice A1 n1 c1, .int .i64 x.e, .bool y.neg, .slice A2 n2 c2, .int .i64 y.e, .bool u.neg, .slice A3 n3 c3, .int .i64 u.e, .bool v.neg, .slice A4 n4 c4, .int .i64 v.e, .bool (sgB a), .bool (sgB b)] := ((kz.set_ 9 (.bool v.neg)).set_ 10 (.slice A4 n4 c4)).set_ 11 (.int .i64 v.e)
    have nu : (#[.bool x.neg, .slice A1 n1 c1, .int .i64 x.e, .bool y.neg, .slice A2 n2 c2, .int .i64 y.e, .bool u.neg, .slice A3 n3 c3, .int .i64 u.e, .bool false, .slice none 0 0, .int .i64 0, .bool (sgB a), .bool (sgB b)] : Array Value).all notUB = true := by simp [notUB]
    have k1 := k1.only o (by omega)
    have k2 := k2.only o (by omega)
    have m1 := num_kb m1 kz nu o
    have m2 := num_kb m2 kz nu o
    have m3 := num_kb m3 kz nu o
    have m4 := num_kb m4 kz nu o
    have b1 := Only.below b1 o b1.size (by omega)
    have kz := kz2
    clear o kz2 nu
    generalize hw : ((w8.setCell _ _).setCell _ _).setCell _ _ = w9 at *
    clear hw
    have y0 := kz.at_ 0 (v := .bool x.neg) rfl
    have y1 := kz.at_ 1 (v := .slice A1 n1 c1) rfl
    have y2 := kz.at_ 2 (v := .int .i64 x.e) rfl
    have y3 := kz.at_ 3 (v := .bool y.neg) rfl
    have y4 := kz.at_ 4 (v := .slice A2 n2 c2) rfl
    have y5 := kz.at_ 5 (v := .int .i64 y.e) rfl
    have y6 := kz.at_ 6 (v := .bool u.neg) rfl
    have y7 := kz.at_ 7 (v := .slice A3 n3 c3) rfl
    have y8 := kz.at_ 8 (v := .int .i64 u.e) rfl
    have y9 := kz.at_ 9 (v := .bool v.neg) rfl
    have y10 := kz.at_ 10 (v := .slice A4 n4 c4) rfl
    have y11 := kz.at_ 11 (v := .int .i64 v.e) rfl
    have y12 := kz.at_ 12 (v := .bool (sgB a)) rfl
    have y13 := kz.at_ 13 (v := .bool (sgB b)) rfl
    have z0 := k2.at_ 0 (v := .bool false) rfl
    have fz0 := k2.fr 0
    have z1 := k2.at_ 1 (v := .slice none 0 0) rfl
    have fz1 := k2.fr 1
    have z2 := k2.at_ 2 (v := .int .i64 0) rfl
    have fz2 := k2.fr 2
    have z3 := k2.at_ 3 (v := .bool false) rfl
    have fz3 := k2.fr 3
    have z4 := k2.at_ 4 (v := .slice none 0 0) rfl
    have fz4 := k2.fr 4
    have z5 := k2.at_ 5 (v := .int .i64 0) rfl
    have fz5 := k2.fr 5
    have z6 := k2.at_ 6 (v := .bool false) rfl
    have fz6 := k2.fr 6
    have z7 := k2.at_ 7 (v := .slice none 0 0) rfl
    have fz7 := k2.fr 7
    have z8 := k2.at_ 8 (v := .int .i64 0) rfl
    have fz8 := k2.fr 8
    have z9 := k2.at_ 9 (v := .bool false) rfl
    have fz9 := k2.fr 9
    have z10 := k2.at_ 10 (v := .slice none 0 0) rfl
    have fz10 := k2.fr 10
    have z11 := k2.at_ 11 (v := .int .i64 0) rfl
    have fz11 := k2.fr 11
    have z12 := k2.at_ 12 (v := .bool false) rfl
    have fz12 := k2.fr 12
    have z13 := k2.at_ 13 (v := .bool false) rfl
    have fz13 := k2.fr 13
    generalize x.ok = ox at *
    generalize y.ok = oy at *
    generalize u.ok = ou at *
    generalize v.ok = ov at *
    cases ox <;> cases oy <;> cases ou
    · go_wp2_with fail
      have o := only_put14 w9 (w.heap.size + 1) (.bool x.neg) (.slice A1 n1 c1) (.int .i64 x.e) (.bool y.neg) (.slice A2 n2 c2) (.int .i64 y.e) (.bool u.neg) (.slice A3 n3 c3) (.int .i64 u.e) (.bool v.neg) (.slice A4 n4 c4) (.int .i64 v.e) (.bool (sgB a)) (.bool (sgB b))
      exact bodyPost_ret (v := .tuple #[.agg #[.bool x.neg, .slice A1 n1 c1, .int .i64 x.e, .bool y.neg, .slice A2 n2 c2, .int .i64 y.e, .bool u.neg, .slice A3 n3 c3, .int .i64 u.e, .bool v.neg, .slice A4 n4 c4, .int .i64 v.e, .bool (sgB a), .bool (sgB b)], .bool (((false && false) && false) && ov)]) (by simp [results, Tryd.results39, go_sem, z0, z1, z2, z3, z4, z5, z6, z7, z8, z9, z10, z11, z12, z13]) rfl
        ⟨_, _, _, _, _, _, _, _, _, _, _, _, _, _, rfl, num_kb m1 k2 notU14 o, num_kb m2 k2 notU14 o, num_kb m3 k2 notU14 o, num_kb m4 k2 notU14 o, Only.below b1 o b1.size (by omega)⟩
    · go_wp2_with fail
      have o := only_put14 w9 (w.heap.size + 1) (.bool x.neg) (.slice A1 n1 c1) (.int .i64 x.e) (.bool y.neg) (.slice A2 n2 c2) (.int .i64 y.e) (.bool u.neg) (.slice A3 n3 c3) (.int .i64 u.e) (.bool v.neg) (.slice A4 n4 c4) (.int .i64 v.e) (.bool (sgB a)) (.bool (sgB b))
      exact bodyPost_ret (v := .tuple #[.agg #[.bool x.neg, .slice A1 n1 c1, .int .i64 x.e, .bool y.neg, .slice A2 n2 c2, .int .i64 y.e, .bool u.neg, .slice A3 n3 c3, .int .i64 u.e, .bool v.neg, .slice A4 n4 c4, .int .i64 v.e, .bool (sgB a), .bool (sgB b)], .bool (((false && false) && true) && ov)]) (by simp [results, Tryd.results39, go_sem, z0, z1, z2, z3, z4, z5, z6, z7, z8, z9, z10, z11, z12, z13]) rfl
        ⟨_, _, _, _, _, _, _, _, _, _, _, _, _, _, rfl, num_kb m1 k2 notU14 o, num_kb m2 k2 notU14 o, num_kb m3 k2 notU14 o, num_kb m4 k2 notU14 o, Only.below b1 o b1.size (by omega)⟩
    · go_wp2_with fail
      have o := only_put14 w9 (w.heap.size + 1) (.bool x.neg) (.slice A1 n1 c1) (.int .i64 x.e) (.bool y.neg) (.slice A2 n2 c2) (.int .i64 y.e) (.bool u.neg) (.slice A3 n3 c3) (.int .i64 u.e) (.bool v.neg) (.slice A4 n4 c4) (.int .i64 v.e) (.bool (sgB a)) (.bool (sgB b))
      exact bodyPost_ret (v := .tuple #[.agg #[.bool x.neg, .slice A1 n1 c1, .int .i64 x.e, .bool y.neg, .slice A2 n2 c2, .int .i64 y.e, .bool u.neg, .slice A3 n3 c3, .int .i64 u.e, .bool v.neg, .slice A4 n4 c4, .int .i64 v.e, .bool (sgB a), .bool (sgB b)], .bool (((false && true) && false) && ov)]) (by simp [results, Tryd.results39, go_sem, z0, z1, z2, z3, z4, z5, z6, z7, z8, z9, z10, z11, z12, z13]) rfl
        ⟨_, _, _, _, _, _, _, _, _, _, _, _, _, _, rfl, num_kb m1 k2 notU14 o, num_kb m2 k2 notU14 o, num_kb m3 k2 notU14 o, num_kb m4 k2 notU14 o, Only.below b1 o b1.size (by omega)⟩
    · go_wp2_with fail
      have o := only_put14 w9 (w.heap.size + 1) (.bool x.neg) (.slice A1 n1 c1) (.int .i64 x.e) (.bool y.neg) (.slice A2 n2 c2) (.int .i64 y.e) (.bool u.neg) (.slice A3 n3 c3) (.int .i64 u.e) (.bool v.neg) (.slice A4 n4 c4) (.int .i64 v.e) (.bool (sgB a)) (.bool (sgB b))
      exact bodyPost_ret (v := .tuple #[.agg #[.bool x.neg, .slice A1 n1 c1, .int .i64 x.e, .bool y.neg, .slice A2 n2 c2, .int .i64 y.e, .bool u.neg, .slice A3 n3 c3, .int .i64 u.e, .bool v.neg, .slice A4 n4 c4, .int .i64 v.e, .bool (sgB a), .bool (sgB b)], .bool (((false && true) && true) && ov)]) (by simp [results, Tryd.results39, go_sem, z0, z1, z2, z3, z4, z5, z6, z7, z8, z9, z10, z11, z12, z13]) rfl
        ⟨_, _, _, _, _, _, _, _, _, _, _, _, _, _, rfl, num_kb m1 k2 notU14 o, num_kb m2 k2 notU14 o, num_kb m3 k2 notU14 o, num_kb m4 k2 notU14 o, Only.below b1 o b1.size (by omega)⟩
    · go_wp2_with fail
      have o := only_put14 w9 (w.heap.size + 1) (.bool x.neg) (.slice A1 n1 c1) (.int .i64 x.e) (.bool y.neg) (.slice A2 n2 c2) (.int .i64 y.e) (.bool u.neg) (.slice A3 n3 c3) (.int .i64 u.e) (.bool v.neg) (.slice A4 n4 c4) (.int .i64 v.e) (.bool (sgB a)) (.bool (sgB b))
      exact bodyPost_ret (v := .tuple #[.agg #[.bool x.neg, .slice A1 n1 c1, .int .i64 x.e, .bool y.neg, .slice A2 n2 c2, .int .i64 y.e, .bool u.neg, .slice A3 n3 c3, .int .i64 u.e, .bool v.neg, .slice A4 n4 c4, .int .i64 v.e, .bool (sgB a), .bool (sgB b)], .bool (((true && false) && false) && ov)]) (by simp [results, Tryd.results39, go_sem, z0, z1, z2, z3, z4, z5, z6, z7, z8, z9, z10, z11, z12, z13]) rfl
        ⟨_, _, _, _, _, _, _, _, _, _, _, _, _, _, rfl, num_kb m1 k2 notU14 o, num_kb m2 k2 notU14 o, num_kb m3 k2 notU14 o, num_kb m4 k2 notU14 o, Only.below b1 o b1.size (by omega)⟩
    · go_wp2_with fail
      have o := only_put14 w9 (w.heap.size + 1) (.bool x.neg) (.slice A1 n1 c1) (.int .i64 x.e) (.bool y.neg) (.slice A2 n2 c2) (.int .i64 y.e) (.bool u.neg) (.slice A3 n3 c3) (.int .i64 u.e) (.bool v.neg) (.slice A4 n4 c4) (.int .i64 v.e) (.bool (sgB a)) (.bool (sgB b))
      exact bodyPost_ret (v := .tuple #[.agg #[.bool x.neg, .slice A1 n1 c1, .int .i64 x.e, .bool y.neg, .slice A2 n2 c2, .int .i64 y.e, .bool u.neg, .slice A3 n3 c3, .int .i64 u.e, .bool v.neg, .slice A4 n4 c4, .int .i64 v.e, .bool (sgB a), .bool (sgB b)], .bool (((true && false) && true) && ov)]) (by simp [results, Tryd.results39, go_sem, z0, z1, z2, z3, z4, z5, z6, z7, z8, z9, z10, z11, z12, z13]) rfl
        ⟨_, _, _, _, _, _, _, _, _, _, _, _, _, _, rfl, num_kb m1 k2 notU14 o, num_kb m2 k2 notU14 o, num_kb m3 k2 notU14 o, num_kb m4 k2 notU14 o, Only.below b1 o b1.size (by omega)⟩
    · go_wp2_with fail
      have o := only_put14 w9 (w.heap.size + 1) (.bool x.neg) (.slice A1 n1 c1) (.int .i64 x.e) (.bool y.neg) (.slice A2 n2 c2) (.int .i64 y.e) (.bool u.neg) (.slice A3 n3 c3) (.int .i64 u.e) (.bool v.neg) (.slice A4 n4 c4) (.int .i64 v.e) (.bool (sgB a)) (.bool (sgB b))
      exact bodyPost_ret (v := .tuple #[.agg #[.bool x.neg, .slice A1 n1 c1, .int .i64 x.e, .bool y.neg, .slice A2 n2 c2, .int .i64 y.e, .bool u.neg, .slice A3 n3 c3, .int .i64 u.e, .bool v.neg, .slice A4 n4 c4, .int .i64 v.e, .bool (sgB a), .bool (sgB b)], .bool (((true && true) && false) && ov)]) (by simp [results, Tryd.results39, go_sem, z0, z1, z2, z3, z4, z5, z6, z7, z8, z9, z10, z11, z12, z13]) rfl
        ⟨_, _, _, _, _, _, _, _, _, _, _, _, _, _, rfl, num_kb m1 k2 notU14 o, num_kb m2 k2 notU14 o, num_kb m3 k2 notU14 o, num_kb m4 k2 notU14 o, Only.below b1 o b1.size (by omega)⟩
    · go_wp2_with fail
      have o := only_put14 w9 (w.heap.size + 1) (.bool x.neg) (.slice A1 n1 c1) (.int .i64 x.e) (.bool y.neg) (.slice A2 n2 c2) (.int .i64 y.e) (.bool u.neg) (.slice A3 n3 c3) (.int .i64 u.e) (.bool v.neg) (.slice A4 n4 c4) (.int .i64 v.e) (.bool (sgB a)) (.bool (sgB b))
      exact bodyPost_ret (v := .tuple #[.agg #[.bool x.neg, .slice A1 n1 c1, .int .i64 x.e, .bool y.neg, .slice A2 n2 c2, .int .i64 y.e, .bool u.neg, .slice A3 n3 c3, .int .i64 u.e, .bool v.neg, .slice A4 n4 c4, .int .i64 v.e, .bool (sgB a), .bool (sgB b)], .bool (((true && true) && true) && ov)]) (by simp [results, Tryd.results39, go_sem, z0, z1, z2, z3, z4, z5, z6, z7, z8, z9, z10, z11, z12, z13]) rfl
        ⟨_, _, _, _, _, _, _, _, _, _, _, _, _, _, rfl, num_kb m1 k2 notU14 o, num_kb m2 k2 notU14 o, num_kb m3 k2 notU14 o, num_kb m4 k2 notU14 o, Only.below b1 o b1.size (by omega)⟩
end Go.Proofs.YtembfhepinfmnaaDoor
