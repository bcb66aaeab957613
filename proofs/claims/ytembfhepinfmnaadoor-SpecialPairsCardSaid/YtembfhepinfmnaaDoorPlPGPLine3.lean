/-
  special's line: what the table's lines tell ahead of the last one.
-/
import Derived.Test.YtembfhepinfmnaaDoorPlPGPk2
namespace Go.Proofs.YtembfhepinfmnaaDoor
open Go.RowKit

theorem sp_all {w : World} {g : Nat} {p : Sp} (k : KB 33 w g (spC p)) : w.cell? ⟨g, 0, none⟩ = some (.int .u64 (p.x : Int)) ∧ w.cell? ⟨g, 1, none⟩ = some (.int .u64 (p.y : Int)) ∧ w.cell? ⟨g, 2, none⟩ = some (.int .i64 (kindN p.x : Int)) ∧ w.cell? ⟨g, 3, none⟩ = some (.int .i64 (kindN p.y : Int)) ∧ w.cell? ⟨g, 4, none⟩ = some (.int .u64 (sgI (sgB p.x))) ∧ w.cell? ⟨g, 5, none⟩ = some (.int .u64 (sgI (sgB p.y))) ∧ w.cell? ⟨g, 6, none⟩ = some (.int .u64 (sgI p.su)) ∧ w.cell? ⟨g, 7, none⟩ = some (.bool p.isI) ∧ w.cell? ⟨g, 8, none⟩ = some (.bool p.isN) ∧ w.cell? ⟨g, 9, none⟩ = some (.bool p.sing) :=
  ⟨k.at_ 0 rfl, k.at_ 1 rfl, k.at_ 2 rfl, k.at_ 3 rfl, k.at_ 4 rfl, k.at_ 5 rfl, k.at_ 6 rfl, k.at_ 7 rfl, k.at_ 8 rfl, k.at_ 9 rfl⟩
theorem sp_put {w : World} {g g' : Nat} {a b c : Value} {p : Sp} (k : KB 33 w g (spC p)) (h : g ≠ g') : (put3 w g' a b c).cell? ⟨g, 0, none⟩ = some (.int .u64 (p.x : Int)) ∧ (put3 w g' a b c).cell? ⟨g, 1, none⟩ = some (.int .u64 (p.y : Int)) ∧ (put3 w g' a b c).cell? ⟨g, 2, none⟩ = some (.int .i64 (kindN p.x : Int)) ∧ (put3 w g' a b c).cell? ⟨g, 3, none⟩ = some (.int .i64 (kindN p.y : Int)) ∧ (put3 w g' a b c).cell? ⟨g, 4, none⟩ = some (.int .u64 (sgI (sgB p.x))) ∧ (put3 w g' a b c).cell? ⟨g, 5, none⟩ = some (.int .u64 (sgI (sgB p.y))) ∧ (put3 w g' a b c).cell? ⟨g, 6, none⟩ = some (.int .u64 (sgI p.su)) ∧ (put3 w g' a b c).cell? ⟨g, 7, none⟩ = some (.bool p.isI) ∧ (put3 w g' a b c).cell? ⟨g, 8, none⟩ = some (.bool p.isN) ∧ (put3 w g' a b c).cell? ⟨g, 9, none⟩ = some (.bool p.sing) := sp_all (k.only (only_put3 _ _ _ _ _) h)
theorem sp_drew {w : World} {g g' : Nat} {a b c : Value} {p : Sp} (k : KB 33 w g (spC p)) (h : g ≠ g') : (put3 w g' a b c).drew.cell? ⟨g, 0, none⟩ = some (.int .u64 (p.x : Int)) ∧ (put3 w g' a b c).drew.cell? ⟨g, 1, none⟩ = some (.int .u64 (p.y : Int)) ∧ (put3 w g' a b c).drew.cell? ⟨g, 2, none⟩ = some (.int .i64 (kindN p.x : Int)) ∧ (put3 w g' a b c).drew.cell? ⟨g, 3, none⟩ = some (.int .i64 (kindN p.y : Int)) ∧ (put3 w g' a b c).drew.cell? ⟨g, 4, none⟩ = some (.int .u64 (sgI (sgB p.x))) ∧ (put3 w g' a b c).drew.cell? ⟨g, 5, none⟩ = some (.int .u64 (sgI (sgB p.y))) ∧ (put3 w g' a b c).drew.cell? ⟨g, 6, none⟩ = some (.int .u64 (sgI p.su)) ∧ (put3 w g' a b c).drew.cell? ⟨g, 7, none⟩ = some (.bool p.isI) ∧ (put3 w g' a b c).drew.cell? ⟨g, 8, none⟩ = some (.bool p.isN) ∧ (put3 w g' a b c).drew.cell? ⟨g, 9, none⟩ = some (.bool p.sing) := sp_all (KB.drew (k.only (only_put3 _ _ _ _ _) h))
set_option maxHeartbeats 1000000 in
theorem line_2 (p : Sp) (w : World) (hx : p.x < B64) (hy : p.y < B64) : Calls Tryd.prog 11 #[.agg (spC p), .int .i64 2] w (TPB w (lineN 2 p)) := by
  obtain ⟨k1, k2, b1⟩ := kb_two 33 36 w (spC p) #[.int .u64 0, .int .u64 0, .int .i64 0]
  have xt := xor_top p.y hy
  have fl := flip_lt hy
  go_enter Tryd.func11, Tryd.ntmps11
  go_wp2_with fail
  generalize (w.alloc _).alloc _ = w1 at *
  have k1 := k1.drew
  have k2 := k2.drew
  have b1 := b1.drew
  go_region_held3 (fun w' => w'.cell? ⟨w.heap.size, 0, none⟩ = some (.int .u64 (p.x : Int)) ∧ w'.cell? ⟨w.heap.size, 1, none⟩ = some (.int .u64 (p.y : Int)) ∧ w'.cell? ⟨w.heap.size, 2, none⟩ = some (.int .i64 (kindN p.x : Int)) ∧ w'.cell? ⟨w.heap.size, 3, none⟩ = some (.int .i64 (kindN p.y : Int)) ∧ w'.cell? ⟨w.heap.size, 4, none⟩ = some (.int .u64 (sgI (sgB p.x))) ∧ w'.cell? ⟨w.heap.size, 5, none⟩ = some (.int .u64 (sgI (sgB p.y))) ∧ w'.cell? ⟨w.heap.size, 6, none⟩ = some (.int .u64 (sgI p.su)) ∧ w'.cell? ⟨w.heap.size, 7, none⟩ = some (.bool p.isI) ∧ w'.cell? ⟨w.heap.size, 8, none⟩ = some (.bool p.isN) ∧ w'.cell? ⟨w.heap.size, 9, none⟩ = some (.bool p.sing))
    (first | with_reducible exact sp_put k1 (by simp) | with_reducible exact sp_drew k1 (by simp) | with_reducible exact sp_all k1 | exact sp_all k1)
    (first
      | (go_at_call 26; refine (oneNaN_any _ _ (by first | exact hx | exact fl)).mono ?_; rintro e' w2 ⟨rfl, rfl⟩)
      | (go_at_call 25; refine (cplain_any _ _ _).mono ?_; rintro e' w2 ⟨rfl, bb⟩; have k1 := k1.adv bb; have k2 := k2.adv bb; have b1 := below_step b1 bb; have f0 := k2.fr 0; have f1 := k2.fr 1; have f2 := k2.fr 2; have z0 := k2.at_ 0 (v := .int .u64 0) rfl; have z1 := k2.at_ 1 (v := .int .u64 0) rfl; have z2 := k2.at_ 2 (v := .int .i64 0) rfl))
  go_wp2_with fail
  exact bodyPost_ret (v := .tuple #[.agg #[.int .u64 (cleanI p.x), .int .u64 (cleanI (flipN p.y)), .int .i64 0], .bool true]) (by simp [results, Tryd.results11, go_sem, z0, z1, z2]) rfl ⟨rfl, below_put3 b1 (by omega) b1.size _ _ _⟩
set_option maxHeartbeats 1000000 in
theorem line_3 (p : Sp) (w : World) (hx : p.x < B64) (hy : p.y < B64) : Calls Tryd.prog 11 #[.agg (spC p), .int .i64 3] w (TPB w (lineN 3 p)) := by
  obtain ⟨k1, k2, b1⟩ := kb_two 33 36 w (spC p) #[.int .u64 0, .int .u64 0, .int .i64 0]
  obtain ⟨t, ht⟩ : ∃ t, Hid ((lineN 3 p).1 = t) := ⟨_, Lib.hid rfl⟩
  have hl : lineN 3 p = (t, true) := by
    rw [← ht.out]
    unfold lineN
    rw [if_neg (by decide), if_pos rfl]
  have CT := Lib.hid (fun w' => projection_any p w' hx hy)
  rw [hl]
  rw [ht.out] at CT
  clear ht hl
  go_enter Tryd.func11, Tryd.ntmps11
  go_wp2_with fail
  generalize (w.alloc _).alloc _ = w1 at *
  refine (CT.out _).mono ?_
  rintro e' w2 ⟨rfl, bb⟩
  have k2 := k2.adv bb
  have b1 := below_step b1 bb
  have f0 := k2.fr 0
  have f1 := k2.fr 1
  have f2 := k2.fr 2
  have z0 := k2.at_ 0 (v := .int .u64 0) rfl
  have z1 := k2.at_ 1 (v := .int .u64 0) rfl
  have z2 := k2.at_ 2 (v := .int .i64 0) rfl
  go_wp2_with fail
  exact bodyPost_ret (v := .tuple #[twV t, .bool true]) (by simp [results, Tryd.results11, go_sem, z0, z1, z2]) rfl ⟨rfl, below_put3 b1 (by omega) b1.size _ _ _⟩
set_option maxHeartbeats 1000000 in
theorem line_6 (p : Sp) (w : World) : Calls Tryd.prog 11 #[.agg (spC p), .int .i64 6] w (TPB w (lineN 6 p)) := by
  obtain ⟨k1, k2, b1⟩ := kb_two 33 36 w (spC p) #[.int .u64 0, .int .u64 0, .int .i64 0]
  obtain ⟨t, ht⟩ : ∃ t, Hid (lineN 6 p = t) := ⟨_, Lib.hid rfl⟩
  have CT := Lib.hid (fun w' => sproot_any p w')
  rw [ht.out] at CT ⊢
  obtain ⟨t, tok⟩ := t
  clear ht
  go_enter Tryd.func11, Tryd.ntmps11
  go_wp2_with fail
  generalize (w.alloc _).alloc _ = w1 at *
  refine (CT.out _).mono ?_
  rintro e' w2 ⟨rfl, bb⟩
  have k2 := k2.adv bb
  have b1 := below_step b1 bb
  have f0 := k2.fr 0
  have f1 := k2.fr 1
  have f2 := k2.fr 2
  have z0 := k2.at_ 0 (v := .int .u64 0) rfl
  have z1 := k2.at_ 1 (v := .int .u64 0) rfl
  have z2 := k2.at_ 2 (v := .int .i64 0) rfl
  go_wp2_with fail
  exact bodyPost_ret (v := .tuple #[twV t, .bool tok]) (by simp [results, Tryd.results11, go_sem, z0, z1, z2]) rfl ⟨rfl, below_put3 b1 (by omega) b1.size _ _ _⟩
set_option maxHeartbeats 1000000 in
theorem line_7 (p : Sp) (w : World) : Calls Tryd.prog 11 #[.agg (spC p), .int .i64 7] w (TPB w (lineN 7 p)) := by
  obtain ⟨k1, k2, b1⟩ := kb_two 33 36 w (spC p) #[.int .u64 0, .int .u64 0, .int .i64 0]
  obtain ⟨t, ht⟩ : ∃ t, Hid (lineN 7 p = t) := ⟨_, Lib.hid rfl⟩
  have CT := Lib.hid (fun w' => sppower_any p w')
  rw [ht.out] at CT ⊢
  obtain ⟨t, tok⟩ := t
  clear ht
  go_enter Tryd.func11, Tryd.ntmps11
  go_wp2_with fail
  generalize (w.alloc _).alloc _ = w1 at *
  refine (CT.out _).mono ?_
  rintro e' w2 ⟨rfl, bb⟩
  have k2 := k2.adv bb
  have b1 := below_step b1 bb
  have f0 := k2.fr 0
  have f1 := k2.fr 1
  have f2 := k2.fr 2
  have z0 := k2.at_ 0 (v := .int .u64 0) rfl
  have z1 := k2.at_ 1 (v := .int .u64 0) rfl
  have z2 := k2.at_ 2 (v := .int .i64 0) rfl
  go_wp2_with fail
  exact bodyPost_ret (v := .tuple #[twV t, .bool tok]) (by simp [results, Tryd.results11, go_sem, z0, z1, z2]) rfl ⟨rfl, below_put3 b1 (by omega) b1.size _ _ _⟩
set_option maxHeartbeats 1000000 in
theorem line_8 (p : Sp) (w : World) : Calls Tryd.prog 11 #[.agg (spC p), .int .i64 8] w (TPB w (lineN 8 p)) := by
  obtain ⟨k1, k2, b1⟩ := kb_two 33 36 w (spC p) #[.int .u64 0, .int .u64 0, .int .i64 0]
  obtain ⟨t, ht⟩ : ∃ t, Hid (lineN 8 p = t) := ⟨_, Lib.hid rfl⟩
  have CT := Lib.hid (fun w' => splogarithm_any p w')
  rw [ht.out] at CT ⊢
  obtain ⟨t, tok⟩ := t
  clear ht
  go_enter Tryd.func11, Tryd.ntmps11
  go_wp2_with fail
  generalize (w.alloc _).alloc _ = w1 at *
  refine (CT.out _).mono ?_
  rintro e' w2 ⟨rfl, bb⟩
  have k2 := k2.adv bb
  have b1 := below_step b1 bb
  have f0 := k2.fr 0
  have f1 := k2.fr 1
  have f2 := k2.fr 2
  have z0 := k2.at_ 0 (v := .int .u64 0) rfl
  have z1 := k2.at_ 1 (v := .int .u64 0) rfl
  have z2 := k2.at_ 2 (v := .int .i64 0) rfl
  go_wp2_with fail
  exact bodyPost_ret (v := .tuple #[twV t, .bool tok]) (by simp [results, Tryd.results11, go_sem, z0, z1, z2]) rfl ⟨rfl, below_put3 b1 (by omega) b1.size _ _ _⟩
set_option maxHeartbeats 1000000 in
theorem line_0 (p : Sp) (w : World) : Calls Tryd.prog 11 #[.agg (spC p), .int .i64 0] w (TPB w (lineN 0 p)) := by
  obtain ⟨k1, k2, b1⟩ := kb_two 33 36 w (spC p) #[.int .u64 0, .int .u64 0, .int .i64 0]
  go_enter Tryd.func11, Tryd.ntmps11
  go_wp2_with fail
  generalize (w.alloc _).alloc _ = w1 at *
  have k1 := k1.drew
  have k2 := k2.drew
  have b1 := b1.drew
  go_region_held3 (fun w' => w'.cell? ⟨w.heap.size, 0, none⟩ = some (.int .u64 (p.x : Int)) ∧ w'.cell? ⟨w.heap.size, 1, none⟩ = some (.int .u64 (p.y : Int)) ∧ w'.cell? ⟨w.heap.size, 2, none⟩ = some (.int .i64 (kindN p.x : Int)) ∧ w'.cell? ⟨w.heap.size, 3, none⟩ = some (.int .i64 (kindN p.y : Int)) ∧ w'.cell? ⟨w.heap.size, 4, none⟩ = some (.int .u64 (sgI (sgB p.x))) ∧ w'.cell? ⟨w.heap.size, 5, none⟩ = some (.int .u64 (sgI (sgB p.y))) ∧ w'.cell? ⟨w.heap.size, 6, none⟩ = some (.int .u64 (sgI p.su)) ∧ w'.cell? ⟨w.heap.size, 7, none⟩ = some (.bool p.isI) ∧ w'.cell? ⟨w.heap.size, 8, none⟩ = some (.bool p.isN) ∧ w'.cell? ⟨w.heap.size, 9, none⟩ = some (.bool p.sing))
    (first | with_reducible exact sp_put k1 (by simp) | with_reducible exact sp_drew k1 (by simp) | with_reducible exact sp_all k1 | exact sp_all k1)
    (first
      | (go_at_call 25; refine (cplain_any _ _ _).mono ?_; rintro e' w2 ⟨rfl, bb⟩; have k1 := k1.adv bb; have k2 := k2.adv bb; have b1 := below_step b1 bb; have f0 := k2.fr 0; have f1 := k2.fr 1; have f2 := k2.fr 2; have z0 := k2.at_ 0 (v := .int .u64 0) rfl; have z1 := k2.at_ 1 (v := .int .u64 0) rfl; have z2 := k2.at_ 2 (v := .int .i64 0) rfl))
  all_goals go_wp2_with fail
  all_goals
    exact bodyPost_ret (v := .tuple #[.agg #[.int .u64 9218868437227405312, .int .u64 0, .int .i64 0], .bool p.isI]) (by simp [results, Tryd.results11, go_sem, z0, z1, z2]) rfl ⟨rfl, below_put3 b1 (by omega) b1.size _ _ _⟩
set_option maxHeartbeats 1000000 in
theorem line_1 (p : Sp) (w : World) : Calls Tryd.prog 11 #[.agg (spC p), .int .i64 1] w (TPB w (lineN 1 p)) := by
  obtain ⟨k1, k2, b1⟩ := kb_two 33 36 w (spC p) #[.int .u64 0, .int .u64 0, .int .i64 0]
  have AN := Lib.hid (fun w' => angle_any p w')
  go_enter Tryd.func11, Tryd.ntmps11
  go_wp2_with fail
  generalize (w.alloc _).alloc _ = w1 at *
  refine (AN.out _).mono ?_
  rintro e' w2 ⟨rfl, bb⟩
  have k1 := k1.adv bb
  have k2 := k2.adv bb
  have b1 := below_step b1 bb
  have f0 := k2.fr 0
  have f1 := k2.fr 1
  have f2 := k2.fr 2
  have z0 := k2.at_ 0 (v := .int .u64 0) rfl
  have z1 := k2.at_ 1 (v := .int .u64 0) rfl
  have z2 := k2.at_ 2 (v := .int .i64 0) rfl
  have d := k1.drew
  generalize hF : p.angF = F at *
  generalize hA : p.angW = A at *
  go_wp2_with fail
  go_region_held3 (fun w' => w'.cell? ⟨w.heap.size, 0, none⟩ = some (.int .u64 (p.x : Int)) ∧ w'.cell? ⟨w.heap.size, 1, none⟩ = some (.int .u64 (p.y : Int)) ∧ w'.cell? ⟨w.heap.size, 2, none⟩ = some (.int .i64 (kindN p.x : Int)) ∧ w'.cell? ⟨w.heap.size, 3, none⟩ = some (.int .i64 (kindN p.y : Int)) ∧ w'.cell? ⟨w.heap.size, 4, none⟩ = some (.int .u64 (sgI (sgB p.x))) ∧ w'.cell? ⟨w.heap.size, 5, none⟩ = some (.int .u64 (sgI (sgB p.y))) ∧ w'.cell? ⟨w.heap.size, 6, none⟩ = some (.int .u64 (sgI p.su)) ∧ w'.cell? ⟨w.heap.size, 7, none⟩ = some (.bool p.isI) ∧ w'.cell? ⟨w.heap.size, 8, none⟩ = some (.bool p.isN) ∧ w'.cell? ⟨w.heap.size, 9, none⟩ = some (.bool p.sing))
    (first | with_reducible exact sp_drew k1 (by simp) | with_reducible exact sp_all d)
    (fail)
  go_wp2_with fail
  subst hF hA
  exact bodyPost_ret (v := .tuple #[.agg #[.int .u64 p.angW, .int .u64 0, .int .i64 p.angF], .bool (!p.isN)]) (by simp [results, Tryd.results11, go_sem, z0, z1, z2]) rfl ⟨rfl, (below_put3 b1 (by omega) b1.size _ _ _).drew⟩
set_option maxHeartbeats 1000000 in
theorem line_17 (p : Sp) (w : World) : Calls Tryd.prog 11 #[.agg (spC p), .int .i64 17] w (TPB w (lineN 17 p)) := by
  obtain ⟨k1, k2, b1⟩ := kb_two 33 36 w (spC p) #[.int .u64 0, .int .u64 0, .int .i64 0]
  have orI := or_inf (sgB p.y)
  go_enter Tryd.func11, Tryd.ntmps11
  go_wp2_with fail
  generalize (w.alloc _).alloc _ = w1 at *
  have k1 := k1.drew
  have k2 := k2.drew
  have b1 := b1.drew
  go_region_held3 (fun w' => w'.cell? ⟨w.heap.size, 0, none⟩ = some (.int .u64 (p.x : Int)) ∧ w'.cell? ⟨w.heap.size, 1, none⟩ = some (.int .u64 (p.y : Int)) ∧ w'.cell? ⟨w.heap.size, 2, none⟩ = some (.int .i64 (kindN p.x : Int)) ∧ w'.cell? ⟨w.heap.size, 3, none⟩ = some (.int .i64 (kindN p.y : Int)) ∧ w'.cell? ⟨w.heap.size, 4, none⟩ = some (.int .u64 (sgI (sgB p.x))) ∧ w'.cell? ⟨w.heap.size, 5, none⟩ = some (.int .u64 (sgI (sgB p.y))) ∧ w'.cell? ⟨w.heap.size, 6, none⟩ = some (.int .u64 (sgI p.su)) ∧ w'.cell? ⟨w.heap.size, 7, none⟩ = some (.bool p.isI) ∧ w'.cell? ⟨w.heap.size, 8, none⟩ = some (.bool p.isN) ∧ w'.cell? ⟨w.heap.size, 9, none⟩ = some (.bool p.sing))
    (first | with_reducible exact sp_put k1 (by simp) | with_reducible exact sp_drew k1 (by simp) | with_reducible exact sp_all k1 | exact sp_all k1)
    (first
      | (go_at_call 32; refine (cpole_any _ _ _).mono ?_; rintro e' w2 ⟨rfl, bb⟩; have k1 := k1.adv bb; have k2 := k2.adv bb; have b1 := below_step b1 bb; have f0 := k2.fr 0; have f1 := k2.fr 1; have f2 := k2.fr 2; have z0 := k2.at_ 0 (v := .int .u64 0) rfl; have z1 := k2.at_ 1 (v := .int .u64 0) rfl; have z2 := k2.at_ 2 (v := .int .i64 0) rfl))
  all_goals go_wp2_with fail
  all_goals
    exact bodyPost_ret (v := .tuple #[.agg #[.int .u64 (sgI (sgB p.x)), .int .u64 (wI 9218868437227405312 (sgB p.y)), .int .i64 16], .bool p.sing]) (by simp [results, Tryd.results11, go_sem, z0, z1, z2]) rfl ⟨rfl, below_put3 b1 (by omega) b1.size _ _ _⟩
set_option maxHeartbeats 1000000 in
theorem line_20 (p : Sp) (w : World) : Calls Tryd.prog 11 #[.agg (spC p), .int .i64 20] w (TPB w (lineN 20 p)) := by
  obtain ⟨k1, k2, b1⟩ := kb_two 33 36 w (spC p) #[.int .u64 0, .int .u64 0, .int .i64 0]
  have orI := or_inf (sgB p.x)
  go_enter Tryd.func11, Tryd.ntmps11
  go_wp2_with fail
  generalize (w.alloc _).alloc _ = w1 at *
  have k1 := k1.drew
  have k2 := k2.drew
  have b1 := b1.drew
  go_region_held3 (fun w' => w'.cell? ⟨w.heap.size, 0, none⟩ = some (.int .u64 (p.x : Int)) ∧ w'.cell? ⟨w.heap.size, 1, none⟩ = some (.int .u64 (p.y : Int)) ∧ w'.cell? ⟨w.heap.size, 2, none⟩ = some (.int .i64 (kindN p.x : Int)) ∧ w'.cell? ⟨w.heap.size, 3, none⟩ = some (.int .i64 (kindN p.y : Int)) ∧ w'.cell? ⟨w.heap.size, 4, none⟩ = some (.int .u64 (sgI (sgB p.x))) ∧ w'.cell? ⟨w.heap.size, 5, none⟩ = some (.int .u64 (sgI (sgB p.y))) ∧ w'.cell? ⟨w.heap.size, 6, none⟩ = some (.int .u64 (sgI p.su)) ∧ w'.cell? ⟨w.heap.size, 7, none⟩ = some (.bool p.isI) ∧ w'.cell? ⟨w.heap.size, 8, none⟩ = some (.bool p.isN) ∧ w'.cell? ⟨w.heap.size, 9, none⟩ = some (.bool p.sing))
    (first | with_reducible exact sp_put k1 (by simp) | with_reducible exact sp_drew k1 (by simp) | with_reducible exact sp_all k1 | exact sp_all k1)
    (first
      | (go_at_call 32; refine (cpole_any _ _ _).mono ?_; rintro e' w2 ⟨rfl, bb⟩; have k1 := k1.adv bb; have k2 := k2.adv bb; have b1 := below_step b1 bb; have f0 := k2.fr 0; have f1 := k2.fr 1; have f2 := k2.fr 2; have z0 := k2.at_ 0 (v := .int .u64 0) rfl; have z1 := k2.at_ 1 (v := .int .u64 0) rfl; have z2 := k2.at_ 2 (v := .int .i64 0) rfl))
  all_goals go_wp2_with fail
  all_goals
    exact bodyPost_ret (v := .tuple #[.agg #[.int .u64 (wI 9218868437227405312 (sgB p.x)), .int .u64 (sgI (sgB p.y)), .int .i64 16], .bool p.sing]) (by simp [results, Tryd.results11, go_sem, z0, z1, z2]) rfl ⟨rfl, below_put3 b1 (by omega) b1.size _ _ _⟩
set_option maxHeartbeats 2000000 in
theorem line_5f (x y : Nat) (su ii nn : Bool) (w : World) (hx : x < B64) (hy : y < B64) : Calls Tryd.prog 11 #[.agg (spC ⟨x, y, su, ii, nn, false⟩), .int .i64 5] w (TPB w (⟨overI su x, overI su y, 16⟩, false && !(zerB x && zerB y))) := by
  obtain ⟨k1, k2, b1⟩ := kb_two 33 36 w (spC ⟨x, y, su, ii, nn, false⟩) #[.int .u64 0, .int .u64 0, .int .i64 0]
  have kx := kind_zer x
  have ky := kind_zer y
  have OZ := Lib.hid (fun b w' h => overZero_any ⟨x, y, su, ii, nn, false⟩ b w' h)
  generalize zerB x = zx at *
  generalize zerB y = zy at *
  cases zx <;> cases zy
  · go_enter Tryd.func11, Tryd.ntmps11
    go_upto_region 23 with fail
    clear kx ky
    generalize (w.alloc _).alloc _ = w1 at *
    have k1 := k1.drew
    have k2 := k2.drew
    have b1 := b1.drew
    refine wp_region_noPanic ?_
    refine wp_region_held_drew (S := (fun w' => w'.cell? ⟨w.heap.size, 0, none⟩ = some (.int .u64 (x : Int)) ∧ w'.cell? ⟨w.heap.size, 1, none⟩ = some (.int .u64 (y : Int)) ∧ w'.cell? ⟨w.heap.size, 2, none⟩ = some (.int .i64 (kindN x : Int)) ∧ w'.cell? ⟨w.heap.size, 3, none⟩ = some (.int .i64 (kindN y : Int)) ∧ w'.cell? ⟨w.heap.size, 4, none⟩ = some (.int .u64 (sgI (sgB x))) ∧ w'.cell? ⟨w.heap.size, 5, none⟩ = some (.int .u64 (sgI (sgB y))) ∧ w'.cell? ⟨w.heap.size, 6, none⟩ = some (.int .u64 (sgI su)) ∧ w'.cell? ⟨w.heap.size, 7, none⟩ = some (.bool ii) ∧ w'.cell? ⟨w.heap.size, 8, none⟩ = some (.bool nn) ∧ w'.cell? ⟨w.heap.size, 9, none⟩ = some (.bool false))) (by kernel_rfl) (sp_all k1) (fun hHeld => ?_)
    refine wpAnyH_take (i := 0) (oi := ⟨some 91, _, _, _, _, _⟩) (v := ?vh1) rfl (by kernel_rfl) (by kernel_rfl) (by kernel_rfl) (fun _ _ _ h => h) (Or.inl ⟨by kernel_rfl, ?hy1⟩) (by assumption) ?rest1
    case hy1 => (intro w hSw; (try dsimp only at hSw); go_simp; try with_reducible rfl)
    try simp only [Act.put, List.setIfInBounds_toArray, List.set_cons_zero, List.set_cons_succ]
    refine wpAnyH_take (i := 1) (oi := ⟨some 92, _, _, _, _, _⟩) (v := ?vh2) rfl (by kernel_rfl) (by kernel_rfl) (by kernel_rfl) (fun _ _ _ h => h) (Or.inl ⟨by kernel_rfl, ?hy2⟩) (by assumption) ?rest2
    case hy2 => (intro w hSw; (try dsimp only at hSw); go_simp; try with_reducible rfl)
    try simp only [Act.put, List.setIfInBounds_toArray, List.set_cons_zero, List.set_cons_succ]
    refine wpAnyH_take (i := 2) (oi := ⟨some 93, _, _, _, _, _⟩) (v := ?vh3) rfl (by kernel_rfl) (by kernel_rfl) (by kernel_rfl) (fun _ _ _ h => h) (Or.inl ⟨by kernel_rfl, ?hy3⟩) (by assumption) ?rest3
    case hy3 => (intro w hSw; (try dsimp only at hSw); go_simp; try with_reducible rfl)
    try simp only [Act.put, List.setIfInBounds_toArray, List.set_cons_zero, List.set_cons_succ]
    refine wpAnyH_take (i := 4) (oi := ⟨some 95, _, _, _, _, _⟩) (v := ?vh4) rfl (by kernel_rfl) (by kernel_rfl) (by kernel_rfl) (fun _ _ _ h => h) (Or.inl ⟨by kernel_rfl, ?hy4⟩) (by assumption) ?rest4
    case hy4 => (intro w hSw; (try dsimp only at hSw); go_simp; try with_reducible rfl)
    try simp only [Act.put, List.setIfInBounds_toArray, List.set_cons_zero, List.set_cons_succ]
    refine wpAnyH_take (i := 5) (oi := ⟨some 96, _, _, _, _, _⟩) (v := ?vh5) rfl (by kernel_rfl) (by kernel_rfl) (by kernel_rfl) (fun _ _ _ h => h) (Or.inl ⟨by kernel_rfl, ?hy5⟩) (by assumption) ?rest5
    case hy5 => (intro w hSw; (try dsimp only at hSw); go_simp; try with_reducible rfl)
    try simp only [Act.put, List.setIfInBounds_toArray, List.set_cons_zero, List.set_cons_succ]
    refine wpAnyH_take (i := 6) (oi := ⟨some 97, _, _, _, _, _⟩) (v := ?vh6) rfl (by kernel_rfl) (by kernel_rfl) (by kernel_rfl) (fun _ _ _ h => h) (Or.inl ⟨by kernel_rfl, ?hy6⟩) (by assumption) ?rest6
    case hy6 => (intro w hSw; (try dsimp only at hSw); go_simp; try with_reducible rfl)
    try simp only [Act.put, List.setIfInBounds_toArray, List.set_cons_zero, List.set_cons_succ]
    refine wpAnyH_take (i := 9) (oi := ⟨some 100, _, _, _, _, _⟩) (v := ?vh7) rfl (by kernel_rfl) (by kernel_rfl) (by kernel_rfl) (fun _ _ _ h => h) (Or.inl ⟨by kernel_rfl, ?hy7⟩) (by assumption) ?rest7
    case hy7 => (intro w hSw; (try dsimp only at hSw); go_simp; try with_reducible rfl)
    try simp only [Act.put, List.setIfInBounds_toArray, List.set_cons_zero, List.set_cons_succ]
    refine wpAnyH_take (i := 10) (oi := ⟨some 101, _, _, _, _, _⟩) (v := ?vh8) rfl (by kernel_rfl) (by kernel_rfl) (by kernel_rfl) (fun _ _ _ h => h) (Or.inl ⟨by kernel_rfl, ?hy8⟩) (by assumption) ?rest8
    case hy8 => (intro w hSw; (try dsimp only at hSw); go_simp; try with_reducible rfl)
    try simp only [Act.put, List.setIfInBounds_toArray, List.set_cons_zero, List.set_cons_succ]
    refine wpAnyH_ready (rs := [3]) (by kernel_rfl) (by simp) ?_
    refine AllReadyH.cons rfl (fun K hK => ?_) AllReadyH.nil
    go_simp
    refine (OZ.out _ _ (by first | exact hx | exact hy)).mono ?_
    rintro e' w2 ⟨rfl, bb⟩
    have k1 := k1.adv bb
    have k2 := k2.adv bb
    have b1 := below_step b1 bb
    refine hK.out _ _ (sp_all k1) (fun hHeld => ?_)
    clear hK K
    refine wpAnyH_ready (rs := [7]) (by kernel_rfl) (by simp) ?_
    refine AllReadyH.cons rfl (fun K hK => ?_) AllReadyH.nil
    go_simp
    refine (OZ.out _ _ (by first | exact hx | exact hy)).mono ?_
    rintro e' w2 ⟨rfl, bb⟩
    have k1 := k1.adv bb
    have k2 := k2.adv bb
    have b1 := below_step b1 bb
    refine hK.out _ _ (sp_all k1) (fun hHeld => ?_)
    clear hK K
    refine wpAnyH_ready (rs := [8]) (by kernel_rfl) (by simp) ?_
    refine AllReadyH.cons rfl (fun K hK => ?_) AllReadyH.nil
    go_simp
    refine (cpole_any _ _ _).mono ?_
    rintro e' w2 ⟨rfl, bb⟩
    have k1 := k1.adv bb
    have k2 := k2.adv bb
    have b1 := below_step b1 bb
    have f0 := k2.fr 0
    have f1 := k2.fr 1
    have f2 := k2.fr 2
    have z0 := k2.at_ 0 (v := .int .u64 0) rfl
    have z1 := k2.at_ 1 (v := .int .u64 0) rfl
    have z2 := k2.at_ 2 (v := .int .i64 0) rfl
    refine hK.out _ _ (sp_all k1) (fun hHeld => ?_)
    clear hK K
    try simp only [Act.put, List.setIfInBounds_toArray, List.set_cons_zero, List.set_cons_succ]
    refine wpAnyH_take (i := 11) (oi := ⟨some 102, _, _, _, _, _⟩) (v := ?vh9) rfl (by kernel_rfl) (by kernel_rfl) (by kernel_rfl) (fun _ _ _ h => h) (Or.inl ⟨by kernel_rfl, ?hy9⟩) (by assumption) ?rest9
    case hy9 => (intro w hSw; (try dsimp only at hSw); go_simp; try with_reducible rfl)
    try simp only [Act.put, List.setIfInBounds_toArray, List.set_cons_zero, List.set_cons_succ]
    refine wpAnyH_take (i := 12) (oi := ⟨some 103, _, _, _, _, _⟩) (v := undef) rfl (by kernel_rfl) (by kernel_rfl) (by kernel_rfl) (fun _ _ _ h => h) (Or.inr ⟨by kernel_rfl, rfl⟩) (by assumption) ?_
    try simp only [Act.put, List.setIfInBounds_toArray, List.set_cons_zero, List.set_cons_succ]
    refine wpAnyH_take (i := 13) (oi := ⟨some 104, _, _, _, _, _⟩) (v := undef) rfl (by kernel_rfl) (by kernel_rfl) (by kernel_rfl) (fun _ _ _ h => h) (Or.inr ⟨by kernel_rfl, rfl⟩) (by assumption) ?_
    try simp only [Act.put, List.setIfInBounds_toArray, List.set_cons_zero, List.set_cons_succ]
    refine wpAnyH_take (i := 14) (oi := ⟨some 105, _, _, _, _, _⟩) (v := ?vh10) rfl (by kernel_rfl) (by kernel_rfl) (by kernel_rfl) (fun _ _ _ h => h) (Or.inl ⟨by kernel_rfl, ?hy10⟩) (by assumption) ?rest10
    case hy10 => (intro w hSw; (try dsimp only at hSw); go_simp; try with_reducible rfl)
    try simp only [Act.put, List.setIfInBounds_toArray, List.set_cons_zero, List.set_cons_succ]
    refine wpAnyH_ready (rs := [15]) (by kernel_rfl) (by simp) ?_
    refine AllReadyH.cons rfl (fun K hK => ?_) AllReadyH.nil
    go_simp
    refine hK.out _ _ (sp_put k1 (by simp)) (fun hHeld => ?_)
    clear hK K
    try simp only [Act.put, List.setIfInBounds_toArray, List.set_cons_zero, List.set_cons_succ]
    refine wpAnyH_ready (rs := [16]) (by kernel_rfl) (by simp) ?_
    refine AllReadyH.cons rfl (fun K hK => ?_) AllReadyH.nil
    go_simp
    refine hK.out _ _ (sp_put k1 (by simp)) (fun hHeld => ?_)
    clear hK K
    try simp only [Act.put, List.setIfInBounds_toArray, List.set_cons_zero, List.set_cons_succ]
    refine wpAnyH_done (by kernel_rfl) ?_ _
    refine NoPanic.normal ?_
    go_wp2_with fail
    exact bodyPost_ret (v := .tuple #[.agg #[.int .u64 (overI su x), .int .u64 (overI su y), .int .i64 16], .bool false]) (by simp [results, Tryd.results11, go_sem, z0, z1, z2]) rfl ⟨rfl, below_put3 b1 (by omega) b1.size _ _ _⟩
  · go_enter Tryd.func11, Tryd.ntmps11
    go_upto_region 23 with fail
    clear kx ky
    generalize (w.alloc _).alloc _ = w1 at *
    have k1 := k1.drew
    have k2 := k2.drew
    have b1 := b1.drew
    refine wp_region_noPanic ?_
    refine wp_region_held_drew (S := (fun w' => w'.cell? ⟨w.heap.size, 0, none⟩ = some (.int .u64 (x : Int)) ∧ w'.cell? ⟨w.heap.size, 1, none⟩ = some (.int .u64 (y : Int)) ∧ w'.cell? ⟨w.heap.size, 2, none⟩ = some (.int .i64 (kindN x : Int)) ∧ w'.cell? ⟨w.heap.size, 3, none⟩ = some (.int .i64 (kindN y : Int)) ∧ w'.cell? ⟨w.heap.size, 4, none⟩ = some (.int .u64 (sgI (sgB x))) ∧ w'.cell? ⟨w.heap.size, 5, none⟩ = some (.int .u64 (sgI (sgB y))) ∧ w'.cell? ⟨w.heap.size, 6, none⟩ = some (.int .u64 (sgI su)) ∧ w'.cell? ⟨w.heap.size, 7, none⟩ = some (.bool ii) ∧ w'.cell? ⟨w.heap.size, 8, none⟩ = some (.bool nn) ∧ w'.cell? ⟨w.heap.size, 9, none⟩ = some (.bool false))) (by kernel_rfl) (sp_all k1) (fun hHeld => ?_)
    refine wpAnyH_take (i := 0) (oi := ⟨some 91, _, _, _, _, _⟩) (v := ?vh11) rfl (by kernel_rfl) (by kernel_rfl) (by kernel_rfl) (fun _ _ _ h => h) (Or.inl ⟨by kernel_rfl, ?hy11⟩) (by assumption) ?rest11
    case hy11 => (intro w hSw; (try dsimp only at hSw); go_simp; try with_reducible rfl)
    try simp only [Act.put, List.setIfInBounds_toArray, List.set_cons_zero, List.set_cons_succ]
    refine wpAnyH_take (i := 1) (oi := ⟨some 92, _, _, _, _, _⟩) (v := ?vh12) rfl (by kernel_rfl) (by kernel_rfl) (by kernel_rfl) (fun _ _ _ h => h) (Or.inl ⟨by kernel_rfl, ?hy12⟩) (by assumption) ?rest12
    case hy12 => (intro w hSw; (try dsimp only at hSw); go_simp; try with_reducible rfl)
    try simp only [Act.put, List.setIfInBounds_toArray, List.set_cons_zero, List.set_cons_succ]
    refine wpAnyH_take (i := 2) (oi := ⟨some 93, _, _, _, _, _⟩) (v := ?vh13) rfl (by kernel_rfl) (by kernel_rfl) (by kernel_rfl) (fun _ _ _ h => h) (Or.inl ⟨by kernel_rfl, ?hy13⟩) (by assumption) ?rest13
    case hy13 => (intro w hSw; (try dsimp only at hSw); go_simp; try with_reducible rfl)
    try simp only [Act.put, List.setIfInBounds_toArray, List.set_cons_zero, List.set_cons_succ]
    refine wpAnyH_take (i := 4) (oi := ⟨some 95, _, _, _, _, _⟩) (v := ?vh14) rfl (by kernel_rfl) (by kernel_rfl) (by kernel_rfl) (fun _ _ _ h => h) (Or.inl ⟨by kernel_rfl, ?hy14⟩) (by assumption) ?rest14
    case hy14 => (intro w hSw; (try dsimp only at hSw); go_simp; try with_reducible rfl)
    try simp only [Act.put, List.setIfInBounds_toArray, List.set_cons_zero, List.set_cons_succ]
    refine wpAnyH_take (i := 5) (oi := ⟨some 96, _, _, _, _, _⟩) (v := ?vh15) rfl (by kernel_rfl) (by kernel_rfl) (by kernel_rfl) (fun _ _ _ h => h) (Or.inl ⟨by kernel_rfl, ?hy15⟩) (by assumption) ?rest15
    case hy15 => (intro w hSw; (try dsimp only at hSw); go_simp; try with_reducible rfl)
    try simp only [Act.put, List.setIfInBounds_toArray, List.set_cons_zero, List.set_cons_succ]
    refine wpAnyH_take (i := 6) (oi := ⟨some 97, _, _, _, _, _⟩) (v := ?vh16) rfl (by kernel_rfl) (by kernel_rfl) (by kernel_rfl) (fun _ _ _ h => h) (Or.inl ⟨by kernel_rfl, ?hy16⟩) (by assumption) ?rest16
    case hy16 => (intro w hSw; (try dsimp only at hSw); go_simp; try with_reducible rfl)
    try simp only [Act.put, List.setIfInBounds_toArray, List.set_cons_zero, List.set_cons_succ]
    refine wpAnyH_take (i := 9) (oi := ⟨some 100, _, _, _, _, _⟩) (v := ?vh17) rfl (by kernel_rfl) (by kernel_rfl) (by kernel_rfl) (fun _ _ _ h => h) (Or.inl ⟨by kernel_rfl, ?hy17⟩) (by assumption) ?rest17
    case hy17 => (intro w hSw; (try dsimp only at hSw); go_simp; try with_reducible rfl)
    try simp only [Act.put, List.setIfInBounds_toArray, List.set_cons_zero, List.set_cons_succ]
    refine wpAnyH_take (i := 10) (oi := ⟨some 101, _, _, _, _, _⟩) (v := ?vh18) rfl (by kernel_rfl) (by kernel_rfl) (by kernel_rfl) (fun _ _ _ h => h) (Or.inl ⟨by kernel_rfl, ?hy18⟩) (by assumption) ?rest18
    case hy18 => (intro w hSw; (try dsimp only at hSw); go_simp; try with_reducible rfl)
    try simp only [Act.put, List.setIfInBounds_toArray, List.set_cons_zero, List.set_cons_succ]
    refine wpAnyH_ready (rs := [3]) (by kernel_rfl) (by simp) ?_
    refine AllReadyH.cons rfl (fun K hK => ?_) AllReadyH.nil
    go_simp
    refine (OZ.out _ _ (by first | exact hx | exact hy)).mono ?_
    rintro e' w2 ⟨rfl, bb⟩
    have k1 := k1.adv bb
    have k2 := k2.adv bb
    have b1 := below_step b1 bb
    refine hK.out _ _ (sp_all k1) (fun hHeld => ?_)
    clear hK K
    refine wpAnyH_ready (rs := [7]) (by kernel_rfl) (by simp) ?_
    refine AllReadyH.cons rfl (fun K hK => ?_) AllReadyH.nil
    go_simp
    refine (OZ.out _ _ (by first | exact hx | exact hy)).mono ?_
    rintro e' w2 ⟨rfl, bb⟩
    have k1 := k1.adv bb
    have k2 := k2.adv bb
    have b1 := below_step b1 bb
    refine hK.out _ _ (sp_all k1) (fun hHeld => ?_)
    clear hK K
    refine wpAnyH_ready (rs := [8]) (by kernel_rfl) (by simp) ?_
    refine AllReadyH.cons rfl (fun K hK => ?_) AllReadyH.nil
    go_simp
    refine (cpole_any _ _ _).mono ?_
    rintro e' w2 ⟨rfl, bb⟩
    have k1 := k1.adv bb
    have k2 := k2.adv bb
    have b1 := below_step b1 bb
    have f0 := k2.fr 0
    have f1 := k2.fr 1
    have f2 := k2.fr 2
    have z0 := k2.at_ 0 (v := .int .u64 0) rfl
    have z1 := k2.at_ 1 (v := .int .u64 0) rfl
    have z2 := k2.at_ 2 (v := .int .i64 0) rfl
    refine hK.out _ _ (sp_all k1) (fun hHeld => ?_)
    clear hK K
    try simp only [Act.put, List.setIfInBounds_toArray, List.set_cons_zero, List.set_cons_succ]
    refine wpAnyH_take (i := 11) (oi := ⟨some 102, _, _, _, _, _⟩) (v := ?vh19) rfl (by kernel_rfl) (by kernel_rfl) (by kernel_rfl) (fun _ _ _ h => h) (Or.inl ⟨by kernel_rfl, ?hy19⟩) (by assumption) ?rest19
    case hy19 => (intro w hSw; (try dsimp only at hSw); go_simp; try with_reducible rfl)
    try simp only [Act.put, List.setIfInBounds_toArray, List.set_cons_zero, List.set_cons_succ]
    refine wpAnyH_take (i := 12) (oi := ⟨some 103, _, _, _, _, _⟩) (v := undef) rfl (by kernel_rfl) (by kernel_rfl) (by kernel_rfl) (fun _ _ _ h => h) (Or.inr ⟨by kernel_rfl, rfl⟩) (by assumption) ?_
    try simp only [Act.put, List.setIfInBounds_toArray, List.set_cons_zero, List.set_cons_succ]
    refine wpAnyH_take (i := 13) (oi := ⟨some 104, _, _, _, _, _⟩) (v := undef) rfl (by kernel_rfl) (by kernel_rfl) (by kernel_rfl) (fun _ _ _ h => h) (Or.inr ⟨by kernel_rfl, rfl⟩) (by assumption) ?_
    try simp only [Act.put, List.setIfInBounds_toArray, List.set_cons_zero, List.set_cons_succ]
    refine wpAnyH_take (i := 14) (oi := ⟨some 105, _, _, _, _, _⟩) (v := ?vh20) rfl (by kernel_rfl) (by kernel_rfl) (by kernel_rfl) (fun _ _ _ h => h) (Or.inl ⟨by kernel_rfl, ?hy20⟩) (by assumption) ?rest20
    case hy20 => (intro w hSw; (try dsimp only at hSw); go_simp; try with_reducible rfl)
    try simp only [Act.put, List.setIfInBounds_toArray, List.set_cons_zero, List.set_cons_succ]
    refine wpAnyH_ready (rs := [15]) (by kernel_rfl) (by simp) ?_
    refine AllReadyH.cons rfl (fun K hK => ?_) AllReadyH.nil
    go_simp
    refine hK.out _ _ (sp_put k1 (by simp)) (fun hHeld => ?_)
    clear hK K
    try simp only [Act.put, List.setIfInBounds_toArray, List.set_cons_zero, List.set_cons_succ]
    refine wpAnyH_ready (rs := [16]) (by kernel_rfl) (by simp) ?_
    refine AllReadyH.cons rfl (fun K hK => ?_) AllReadyH.nil
    go_simp
    refine hK.out _ _ (sp_put k1 (by simp)) (fun hHeld => ?_)
    clear hK K
    try simp only [Act.put, List.setIfInBounds_toArray, List.set_cons_zero, List.set_cons_succ]
    refine wpAnyH_done (by kernel_rfl) ?_ _
    refine NoPanic.normal ?_
    go_wp2_with fail
    exact bodyPost_ret (v := .tuple #[.agg #[.int .u64 (overI su x), .int .u64 (overI su y), .int .i64 16], .bool false]) (by simp [results, Tryd.results11, go_sem, z0, z1, z2]) rfl ⟨rfl, below_put3 b1 (by omega) b1.size _ _ _⟩
  · go_enter Tryd.func11, Tryd.ntmps11
    go_upto_region 23 with fail
    clear kx ky
    generalize (w.alloc _).alloc _ = w1 at *
    have k1 := k1.drew
    have k2 := k2.drew
    have b1 := b1.drew
    refine wp_region_noPanic ?_
    refine wp_region_held_drew (S := (fun w' => w'.cell? ⟨w.heap.size, 0, none⟩ = some (.int .u64 (x : Int)) ∧ w'.cell? ⟨w.heap.size, 1, none⟩ = some (.int .u64 (y : Int)) ∧ w'.cell? ⟨w.heap.size, 2, none⟩ = some (.int .i64 (kindN x : Int)) ∧ w'.cell? ⟨w.heap.size, 3, none⟩ = some (.int .i64 (kindN y : Int)) ∧ w'.cell? ⟨w.heap.size, 4, none⟩ = some (.int .u64 (sgI (sgB x))) ∧ w'.cell? ⟨w.heap.size, 5, none⟩ = some (.int .u64 (sgI (sgB y))) ∧ w'.cell? ⟨w.heap.size, 6, none⟩ = some (.int .u64 (sgI su)) ∧ w'.cell? ⟨w.heap.size, 7, none⟩ = some (.bool ii) ∧ w'.cell? ⟨w.heap.size, 8, none⟩ = some (.bool nn) ∧ w'.cell? ⟨w.heap.size, 9, none⟩ = some (.bool false))) (by kernel_rfl) (sp_all k1) (fun hHeld => ?_)
    refine wpAnyH_take (i := 0) (oi := ⟨some 91, _, _, _, _, _⟩) (v := ?vh21) rfl (by kernel_rfl) (by kernel_rfl) (by kernel_rfl) (fun _ _ _ h => h) (Or.inl ⟨by kernel_rfl, ?hy21⟩) (by assumption) ?rest21
    case hy21 => (intro w hSw; (try dsimp only at hSw); go_simp; try with_reducible rfl)
    try simp only [Act.put, List.setIfInBounds_toArray, List.set_cons_zero, List.set_cons_succ]
    refine wpAnyH_take (i := 1) (oi := ⟨some 92, _, _, _, _, _⟩) (v := ?vh22) rfl (by kernel_rfl) (by kernel_rfl) (by kernel_rfl) (fun _ _ _ h => h) (Or.inl ⟨by kernel_rfl, ?hy22⟩) (by assumption) ?rest22
    case hy22 => (intro w hSw; (try dsimp only at hSw); go_simp; try with_reducible rfl)
    try simp only [Act.put, List.setIfInBounds_toArray, List.set_cons_zero, List.set_cons_succ]
    refine wpAnyH_take (i := 2) (oi := ⟨some 93, _, _, _, _, _⟩) (v := ?vh23) rfl (by kernel_rfl) (by kernel_rfl) (by kernel_rfl) (fun _ _ _ h => h) (Or.inl ⟨by kernel_rfl, ?hy23⟩) (by assumption) ?rest23
    case hy23 => (intro w hSw; (try dsimp only at hSw); go_simp; try with_reducible rfl)
    try simp only [Act.put, List.setIfInBounds_toArray, List.set_cons_zero, List.set_cons_succ]
    refine wpAnyH_take (i := 4) (oi := ⟨some 95, _, _, _, _, _⟩) (v := ?vh24) rfl (by kernel_rfl) (by kernel_rfl) (by kernel_rfl) (fun _ _ _ h => h) (Or.inl ⟨by kernel_rfl, ?hy24⟩) (by assumption) ?rest24
    case hy24 => (intro w hSw; (try dsimp only at hSw); go_simp; try with_reducible rfl)
    try simp only [Act.put, List.setIfInBounds_toArray, List.set_cons_zero, List.set_cons_succ]
    refine wpAnyH_take (i := 5) (oi := ⟨some 96, _, _, _, _, _⟩) (v := ?vh25) rfl (by kernel_rfl) (by kernel_rfl) (by kernel_rfl) (fun _ _ _ h => h) (Or.inl ⟨by kernel_rfl, ?hy25⟩) (by assumption) ?rest25
    case hy25 => (intro w hSw; (try dsimp only at hSw); go_simp; try with_reducible rfl)
    try simp only [Act.put, List.setIfInBounds_toArray, List.set_cons_zero, List.set_cons_succ]
    refine wpAnyH_take (i := 6) (oi := ⟨some 97, _, _, _, _, _⟩) (v := ?vh26) rfl (by kernel_rfl) (by kernel_rfl) (by kernel_rfl) (fun _ _ _ h => h) (Or.inl ⟨by kernel_rfl, ?hy26⟩) (by assumption) ?rest26
    case hy26 => (intro w hSw; (try dsimp only at hSw); go_simp; try with_reducible rfl)
    try simp only [Act.put, List.setIfInBounds_toArray, List.set_cons_zero, List.set_cons_succ]
    refine wpAnyH_take (i := 9) (oi := ⟨some 100, _, _, _, _, _⟩) (v := ?vh27) rfl (by kernel_rfl) (by kernel_rfl) (by kernel_rfl) (fun _ _ _ h => h) (Or.inl ⟨by kernel_rfl, ?hy27⟩) (by assumption) ?rest27
    case hy27 => (intro w hSw; (try dsimp only at hSw); go_simp; try with_reducible rfl)
    try simp only [Act.put, List.setIfInBounds_toArray, List.set_cons_zero, List.set_cons_succ]
    refine wpAnyH_take (i := 10) (oi := ⟨some 101, _, _, _, _, _⟩) (v := ?vh28) rfl (by kernel_rfl) (by kernel_rfl) (by kernel_rfl) (fun _ _ _ h => h) (Or.inl ⟨by kernel_rfl, ?hy28⟩) (by assumption) ?rest28
    case hy28 => (intro w hSw; (try dsimp only at hSw); go_simp; try with_reducible rfl)
    try simp only [Act.put, List.setIfInBounds_toArray, List.set_cons_zero, List.set_cons_succ]
    refine wpAnyH_ready (rs := [3]) (by kernel_rfl) (by simp) ?_
    refine AllReadyH.cons rfl (fun K hK => ?_) AllReadyH.nil
    go_simp
    refine (OZ.out _ _ (by first | exact hx | exact hy)).mono ?_
    rintro e' w2 ⟨rfl, bb⟩
    have k1 := k1.adv bb
    have k2 := k2.adv bb
    have b1 := below_step b1 bb
    refine hK.out _ _ (sp_all k1) (fun hHeld => ?_)
    clear hK K
    refine wpAnyH_ready (rs := [7]) (by kernel_rfl) (by simp) ?_
    refine AllReadyH.cons rfl (fun K hK => ?_) AllReadyH.nil
    go_simp
    refine (OZ.out _ _ (by first | exact hx | exact hy)).mono ?_
    rintro e' w2 ⟨rfl, bb⟩
    have k1 := k1.adv bb
    have k2 := k2.adv bb
    have b1 := below_step b1 bb
    refine hK.out _ _ (sp_all k1) (fun hHeld => ?_)
    clear hK K
    refine wpAnyH_ready (rs := [8]) (by kernel_rfl) (by simp) ?_
    refine AllReadyH.cons rfl (fun K hK => ?_) AllReadyH.nil
    go_simp
    refine (cpole_any _ _ _).mono ?_
    rintro e' w2 ⟨rfl, bb⟩
    have k1 := k1.adv bb
    have k2 := k2.adv bb
    have b1 := below_step b1 bb
    have f0 := k2.fr 0
    have f1 := k2.fr 1
    have f2 := k2.fr 2
    have z0 := k2.at_ 0 (v := .int .u64 0) rfl
    have z1 := k2.at_ 1 (v := .int .u64 0) rfl
    have z2 := k2.at_ 2 (v := .int .i64 0) rfl
    refine hK.out _ _ (sp_all k1) (fun hHeld => ?_)
    clear hK K
    try simp only [Act.put, List.setIfInBounds_toArray, List.set_cons_zero, List.set_cons_succ]
    refine wpAnyH_take (i := 11) (oi := ⟨some 102, _, _, _, _, _⟩) (v := ?vh29) rfl (by kernel_rfl) (by kernel_rfl) (by kernel_rfl) (fun _ _ _ h => h) (Or.inl ⟨by kernel_rfl, ?hy29⟩) (by assumption) ?rest29
    case hy29 => (intro w hSw; (try dsimp only at hSw); go_simp; try with_reducible rfl)
    try simp only [Act.put, List.setIfInBounds_toArray, List.set_cons_zero, List.set_cons_succ]
    refine wpAnyH_take (i := 12) (oi := ⟨some 103, _, _, _, _, _⟩) (v := undef) rfl (by kernel_rfl) (by kernel_rfl) (by kernel_rfl) (fun _ _ _ h => h) (Or.inr ⟨by kernel_rfl, rfl⟩) (by assumption) ?_
    try simp only [Act.put, List.setIfInBounds_toArray, List.set_cons_zero, List.set_cons_succ]
    refine wpAnyH_take (i := 13) (oi := ⟨some 104, _, _, _, _, _⟩) (v := undef) rfl (by kernel_rfl) (by kernel_rfl) (by kernel_rfl) (fun _ _ _ h => h) (Or.inr ⟨by kernel_rfl, rfl⟩) (by assumption) ?_
    try simp only [Act.put, List.setIfInBounds_toArray, List.set_cons_zero, List.set_cons_succ]
    refine wpAnyH_take (i := 14) (oi := ⟨some 105, _, _, _, _, _⟩) (v := ?vh30) rfl (by kernel_rfl) (by kernel_rfl) (by kernel_rfl) (fun _ _ _ h => h) (Or.inl ⟨by kernel_rfl, ?hy30⟩) (by assumption) ?rest30
    case hy30 => (intro w hSw; (try dsimp only at hSw); go_simp; try with_reducible rfl)
    try simp only [Act.put, List.setIfInBounds_toArray, List.set_cons_zero, List.set_cons_succ]
    refine wpAnyH_ready (rs := [15]) (by kernel_rfl) (by simp) ?_
    refine AllReadyH.cons rfl (fun K hK => ?_) AllReadyH.nil
    go_simp
    refine hK.out _ _ (sp_put k1 (by simp)) (fun hHeld => ?_)
    clear hK K
    try simp only [Act.put, List.setIfInBounds_toArray, List.set_cons_zero, List.set_cons_succ]
    refine wpAnyH_ready (rs := [16]) (by kernel_rfl) (by simp) ?_
    refine AllReadyH.cons rfl (fun K hK => ?_) AllReadyH.nil
    go_simp
    refine hK.out _ _ (sp_put k1 (by simp)) (fun hHeld => ?_)
    clear hK K
    try simp only [Act.put, List.setIfInBounds_toArray, List.set_cons_zero, List.set_cons_succ]
    refine wpAnyH_done (by kernel_rfl) ?_ _
    refine NoPanic.normal ?_
    go_wp2_with fail
    exact bodyPost_ret (v := .tuple #[.agg #[.int .u64 (overI su x), .int .u64 (overI su y), .int .i64 16], .bool false]) (by simp [results, Tryd.results11, go_sem, z0, z1, z2]) rfl ⟨rfl, below_put3 b1 (by omega) b1.size _ _ _⟩
  · go_enter Tryd.func11, Tryd.ntmps11
    go_upto_region 23 with fail
    clear kx ky
    generalize (w.alloc _).alloc _ = w1 at *
    have k1 := k1.drew
    have k2 := k2.drew
    have b1 := b1.drew
    refine wp_region_noPanic ?_
    refine wp_region_held_drew (S := (fun w' => w'.cell? ⟨w.heap.size, 0, none⟩ = some (.int .u64 (x : Int)) ∧ w'.cell? ⟨w.heap.size, 1, none⟩ = some (.int .u64 (y : Int)) ∧ w'.cell? ⟨w.heap.size, 2, none⟩ = some (.int .i64 (kindN x : Int)) ∧ w'.cell? ⟨w.heap.size, 3, none⟩ = some (.int .i64 (kindN y : Int)) ∧ w'.cell? ⟨w.heap.size, 4, none⟩ = some (.int .u64 (sgI (sgB x))) ∧ w'.cell? ⟨w.heap.size, 5, none⟩ = some (.int .u64 (sgI (sgB y))) ∧ w'.cell? ⟨w.heap.size, 6, none⟩ = some (.int .u64 (sgI su)) ∧ w'.cell? ⟨w.heap.size, 7, none⟩ = some (.bool ii) ∧ w'.cell? ⟨w.heap.size, 8, none⟩ = some (.bool nn) ∧ w'.cell? ⟨w.heap.size, 9, none⟩ = some (.bool false))) (by kernel_rfl) (sp_all k1) (fun hHeld => ?_)
    refine wpAnyH_take (i := 0) (oi := ⟨some 91, _, _, _, _, _⟩) (v := ?vh31) rfl (by kernel_rfl) (by kernel_rfl) (by kernel_rfl) (fun _ _ _ h => h) (Or.inl ⟨by kernel_rfl, ?hy31⟩) (by assumption) ?rest31
    case hy31 => (intro w hSw; (try dsimp only at hSw); go_simp; try with_reducible rfl)
    try simp only [Act.put, List.setIfInBounds_toArray, List.set_cons_zero, List.set_cons_succ]
    refine wpAnyH_take (i := 1) (oi := ⟨some 92, _, _, _, _, _⟩) (v := ?vh32) rfl (by kernel_rfl) (by kernel_rfl) (by kernel_rfl) (fun _ _ _ h => h) (Or.inl ⟨by kernel_rfl, ?hy32⟩) (by assumption) ?rest32
    case hy32 => (intro w hSw; (try dsimp only at hSw); go_simp; try with_reducible rfl)
    try simp only [Act.put, List.setIfInBounds_toArray, List.set_cons_zero, List.set_cons_succ]
    refine wpAnyH_take (i := 2) (oi := ⟨some 93, _, _, _, _, _⟩) (v := ?vh33) rfl (by kernel_rfl) (by kernel_rfl) (by kernel_rfl) (fun _ _ _ h => h) (Or.inl ⟨by kernel_rfl, ?hy33⟩) (by assumption) ?rest33
    case hy33 => (intro w hSw; (try dsimp only at hSw); go_simp; try with_reducible rfl)
    try simp only [Act.put, List.setIfInBounds_toArray, List.set_cons_zero, List.set_cons_succ]
    refine wpAnyH_take (i := 4) (oi := ⟨some 95, _, _, _, _, _⟩) (v := ?vh34) rfl (by kernel_rfl) (by kernel_rfl) (by kernel_rfl) (fun _ _ _ h => h) (Or.inl ⟨by kernel_rfl, ?hy34⟩) (by assumption) ?rest34
    case hy34 => (intro w hSw; (try dsimp only at hSw); go_simp; try with_reducible rfl)
    try simp only [Act.put, List.setIfInBounds_toArray, List.set_cons_zero, List.set_cons_succ]
    refine wpAnyH_take (i := 5) (oi := ⟨some 96, _, _, _, _, _⟩) (v := ?vh35) rfl (by kernel_rfl) (by kernel_rfl) (by kernel_rfl) (fun _ _ _ h => h) (Or.inl ⟨by kernel_rfl, ?hy35⟩) (by assumption) ?rest35
    case hy35 => (intro w hSw; (try dsimp only at hSw); go_simp; try with_reducible rfl)
    try simp only [Act.put, List.setIfInBounds_toArray, List.set_cons_zero, List.set_cons_succ]
    refine wpAnyH_take (i := 6) (oi := ⟨some 97, _, _, _, _, _⟩) (v := ?vh36) rfl (by kernel_rfl) (by kernel_rfl) (by kernel_rfl) (fun _ _ _ h => h) (Or.inl ⟨by kernel_rfl, ?hy36⟩) (by assumption) ?rest36
    case hy36 => (intro w hSw; (try dsimp only at hSw); go_simp; try with_reducible rfl)
    try simp only [Act.put, List.setIfInBounds_toArray, List.set_cons_zero, List.set_cons_succ]
    refine wpAnyH_take (i := 9) (oi := ⟨some 100, _, _, _, _, _⟩) (v := ?vh37) rfl (by kernel_rfl) (by kernel_rfl) (by kernel_rfl) (fun _ _ _ h => h) (Or.inl ⟨by kernel_rfl, ?hy37⟩) (by assumption) ?rest37
    case hy37 => (intro w hSw; (try dsimp only at hSw); go_simp; try with_reducible rfl)
    try simp only [Act.put, List.setIfInBounds_toArray, List.set_cons_zero, List.set_cons_succ]
    refine wpAnyH_take (i := 10) (oi := ⟨some 101, _, _, _, _, _⟩) (v := ?vh38) rfl (by kernel_rfl) (by kernel_rfl) (by kernel_rfl) (fun _ _ _ h => h) (Or.inl ⟨by kernel_rfl, ?hy38⟩) (by assumption) ?rest38
    case hy38 => (intro w hSw; (try dsimp only at hSw); go_simp; try with_reducible rfl)
    try simp only [Act.put, List.setIfInBounds_toArray, List.set_cons_zero, List.set_cons_succ]
    refine wpAnyH_ready (rs := [3]) (by kernel_rfl) (by simp) ?_
    refine AllReadyH.cons rfl (fun K hK => ?_) AllReadyH.nil
    go_simp
    refine (OZ.out _ _ (by first | exact hx | exact hy)).mono ?_
    rintro e' w2 ⟨rfl, bb⟩
    have k1 := k1.adv bb
    have k2 := k2.adv bb
    have b1 := below_step b1 bb
    refine hK.out _ _ (sp_all k1) (fun hHeld => ?_)
    clear hK K
    refine wpAnyH_ready (rs := [7]) (by kernel_rfl) (by simp) ?_
    refine AllReadyH.cons rfl (fun K hK => ?_) AllReadyH.nil
    go_simp
    refine (OZ.out _ _ (by first | exact hx | exact hy)).mono ?_
    rintro e' w2 ⟨rfl, bb⟩
    have k1 := k1.adv bb
    have k2 := k2.adv bb
    have b1 := below_step b1 bb
    refine hK.out _ _ (sp_all k1) (fun hHeld => ?_)
    clear hK K
    refine wpAnyH_ready (rs := [8]) (by kernel_rfl) (by simp) ?_
    refine AllReadyH.cons rfl (fun K hK => ?_) AllReadyH.nil
    go_simp
    refine (cpole_any _ _ _).mono ?_
    rintro e' w2 ⟨rfl, bb⟩
    have k1 := k1.adv bb
    have k2 := k2.adv bb
    have b1 := below_step b1 bb
    have f0 := k2.fr 0
    have f1 := k2.fr 1
    have f2 := k2.fr 2
    have z0 := k2.at_ 0 (v := .int .u64 0) rfl
    have z1 := k2.at_ 1 (v := .int .u64 0) rfl
    have z2 := k2.at_ 2 (v := .int .i64 0) rfl
    refine hK.out _ _ (sp_all k1) (fun hHeld => ?_)
    clear hK K
    try simp only [Act.put, List.setIfInBounds_toArray, List.set_cons_zero, List.set_cons_succ]
    refine wpAnyH_take (i := 11) (oi := ⟨some 102, _, _, _, _, _⟩) (v := ?vh39) rfl (by kernel_rfl) (by kernel_rfl) (by kernel_rfl) (fun _ _ _ h => h) (Or.inl ⟨by kernel_rfl, ?hy39⟩) (by assumption) ?rest39
    case hy39 => (intro w hSw; (try dsimp only at hSw); go_simp; try with_reducible rfl)
    try simp only [Act.put, List.setIfInBounds_toArray, List.set_cons_zero, List.set_cons_succ]
    refine wpAnyH_take (i := 12) (oi := ⟨some 103, _, _, _, _, _⟩) (v := undef) rfl (by kernel_rfl) (by kernel_rfl) (by kernel_rfl) (fun _ _ _ h => h) (Or.inr ⟨by kernel_rfl, rfl⟩) (by assumption) ?_
    try simp only [Act.put, List.setIfInBounds_toArray, List.set_cons_zero, List.set_cons_succ]
    refine wpAnyH_take (i := 13) (oi := ⟨some 104, _, _, _, _, _⟩) (v := undef) rfl (by kernel_rfl) (by kernel_rfl) (by kernel_rfl) (fun _ _ _ h => h) (Or.inr ⟨by kernel_rfl, rfl⟩) (by assumption) ?_
    try simp only [Act.put, List.setIfInBounds_toArray, List.set_cons_zero, List.set_cons_succ]
    refine wpAnyH_take (i := 14) (oi := ⟨some 105, _, _, _, _, _⟩) (v := ?vh40) rfl (by kernel_rfl) (by kernel_rfl) (by kernel_rfl) (fun _ _ _ h => h) (Or.inl ⟨by kernel_rfl, ?hy40⟩) (by assumption) ?rest40
    case hy40 => (intro w hSw; (try dsimp only at hSw); go_simp; try with_reducible rfl)
    try simp only [Act.put, List.setIfInBounds_toArray, List.set_cons_zero, List.set_cons_succ]
    refine wpAnyH_ready (rs := [15]) (by kernel_rfl) (by simp) ?_
    refine AllReadyH.cons rfl (fun K hK => ?_) AllReadyH.nil
    go_simp
    refine hK.out _ _ (sp_put k1 (by simp)) (fun hHeld => ?_)
    clear hK K
    try simp only [Act.put, List.setIfInBounds_toArray, List.set_cons_zero, List.set_cons_succ]
    refine wpAnyH_ready (rs := [16]) (by kernel_rfl) (by simp) ?_
    refine AllReadyH.cons rfl (fun K hK => ?_) AllReadyH.nil
    go_simp
    refine hK.out _ _ (sp_put k1 (by simp)) (fun hHeld => ?_)
    clear hK K
    try simp only [Act.put, List.setIfInBounds_toArray, List.set_cons_zero, List.set_cons_succ]
    refine wpAnyH_done (by kernel_rfl) ?_ _
    refine NoPanic.normal ?_
    go_wp2_with fail
    exact bodyPost_ret (v := .tuple #[.agg #[.int .u64 (overI su x), .int .u64 (overI su y), .int .i64 16], .bool false]) (by simp [results, Tryd.results11, go_sem, z0, z1, z2]) rfl ⟨rfl, below_put3 b1 (by omega) b1.size _ _ _⟩
set_option maxHeartbeats 2000000 in
theorem line_5t (x y : Nat) (su ii nn : Bool) (w : World) (hx : x < B64) (hy : y < B64) : Calls Tryd.prog 11 #[.agg (spC ⟨x, y, su, ii, nn, true⟩), .int .i64 5] w (TPB w (⟨overI su x, overI su y, 16⟩, true && !(zerB x && zerB y))) := by
  obtain ⟨k1, k2, b1⟩ := kb_two 33 36 w (spC ⟨x, y, su, ii, nn, true⟩) #[.int .u64 0, .int .u64 0, .int .i64 0]
  have kx := kind_zer x
  have ky := kind_zer y
  have OZ := Lib.hid (fun b w' h => overZero_any ⟨x, y, su, ii, nn, true⟩ b w' h)
  generalize zerB x = zx at *
  generalize zerB y = zy at *
  cases zx <;> cases zy
  all_goals
    go_enter Tryd.func11, Tryd.ntmps11
    go_upto_region 23 with fail
    clear kx ky
    generalize (w.alloc _).alloc _ = w1 at *
    have k1 := k1.drew
    have k2 := k2.drew
    have b1 := b1.drew
    go_region_held3 (fun w' => w'.cell? ⟨w.heap.size, 0, none⟩ = some (.int .u64 (x : Int)) ∧ w'.cell? ⟨w.heap.size, 1, none⟩ = some (.int .u64 (y : Int)) ∧ w'.cell? ⟨w.heap.size, 2, none⟩ = some (.int .i64 (kindN x : Int)) ∧ w'.cell? ⟨w.heap.size, 3, none⟩ = some (.int .i64 (kindN y : Int)) ∧ w'.cell? ⟨w.heap.size, 4, none⟩ = some (.int .u64 (sgI (sgB x))) ∧ w'.cell? ⟨w.heap.size, 5, none⟩ = some (.int .u64 (sgI (sgB y))) ∧ w'.cell? ⟨w.heap.size, 6, none⟩ = some (.int .u64 (sgI su)) ∧ w'.cell? ⟨w.heap.size, 7, none⟩ = some (.bool ii) ∧ w'.cell? ⟨w.heap.size, 8, none⟩ = some (.bool nn) ∧ w'.cell? ⟨w.heap.size, 9, none⟩ = some (.bool true))
      (first | with_reducible exact sp_put k1 (by simp) | with_reducible exact sp_drew k1 (by simp) | with_reducible exact sp_all k1 | exact sp_all k1)
      (first
        | (go_at_call 33; refine (OZ.out _ _ (by first | exact hx | exact hy)).mono ?_; rintro e' w2 ⟨rfl, bb⟩; have k1 := k1.adv bb; have k2 := k2.adv bb; have b1 := below_step b1 bb)
        | (go_at_call 32; refine (cpole_any _ _ _).mono ?_; rintro e' w2 ⟨rfl, bb⟩; have k1 := k1.adv bb; have k2 := k2.adv bb; have b1 := below_step b1 bb; have f0 := k2.fr 0; have f1 := k2.fr 1; have f2 := k2.fr 2; have z0 := k2.at_ 0 (v := .int .u64 0) rfl; have z1 := k2.at_ 1 (v := .int .u64 0) rfl; have z2 := k2.at_ 2 (v := .int .i64 0) rfl))
  all_goals go_wp2_with fail
  · exact bodyPost_ret (v := .tuple #[.agg #[.int .u64 (overI su x), .int .u64 (overI su y), .int .i64 16], .bool true]) (by simp [results, Tryd.results11, go_sem, z0, z1, z2]) rfl ⟨rfl, below_put3 b1 (by omega) b1.size _ _ _⟩
  · exact bodyPost_ret (v := .tuple #[.agg #[.int .u64 (overI su x), .int .u64 (overI su y), .int .i64 16], .bool true]) (by simp [results, Tryd.results11, go_sem, z0, z1, z2]) rfl ⟨rfl, below_put3 b1 (by omega) b1.size _ _ _⟩
  · exact bodyPost_ret (v := .tuple #[.agg #[.int .u64 (overI su x), .int .u64 (overI su y), .int .i64 16], .bool true]) (by simp [results, Tryd.results11, go_sem, z0, z1, z2]) rfl ⟨rfl, below_put3 b1 (by omega) b1.size _ _ _⟩
  · exact bodyPost_ret (v := .tuple #[.agg #[.int .u64 (overI su x), .int .u64 (overI su y), .int .i64 16], .bool false]) (by simp [results, Tryd.results11, go_sem, z0, z1, z2]) rfl ⟨rfl, below_put3 b1 (by omega) b1.size _ _ _⟩
set_option maxHeartbeats 2000000 in
theorem line_no (tag : Int) (p : Sp) (w : World) (h2 : tag ≠ 2) (h3 : tag ≠ 3) (h0 : tag ≠ 0) (h1 : tag ≠ 1) (h6 : tag ≠ 6) (h7 : tag ≠ 7) (h8 : tag ≠ 8) (h17 : tag ≠ 17) (h20 : tag ≠ 20) (h5 : tag ≠ 5) : Calls Tryd.prog 11 #[.agg (spC p), .int .i64 tag] w (TPB w (TW.zero, false)) := by
  have g2 : (tag == 2) = false := by simp [h2]
  have g3 : (tag == 3) = false := by simp [h3]
  have g0 : (tag == 0) = false := by simp [h0]
  have g1 : (tag == 1) = false := by simp [h1]
  have g6 : (tag == 6) = false := by simp [h6]
  have g7 : (tag == 7) = false := by simp [h7]
  have g8 : (tag == 8) = false := by simp [h8]
  have g17 : (tag == 17) = false := by simp [h17]
  have g20 : (tag == 20) = false := by simp [h20]
  have g5 : (tag == 5) = false := by simp [h5]
  clear h2 h3 h0 h1 h6 h7 h8 h17 h20 h5
  go_enter Tryd.func11, Tryd.ntmps11
  go_wp2_with fail
  exact bodyPost_ret (v := .tuple #[.agg #[.int .u64 0, .int .u64 0, .int .i64 0], .bool false]) (by simp [results, Tryd.results11, go_sem]) rfl ⟨rfl, below_step (alloc_bel w _) (alloc_bel _ _)⟩
/-- What the table's lines tell. -/
theorem line_any (tag : Int) (p : Sp) (w : World) (hx : p.x < B64) (hy : p.y < B64) : Calls Tryd.prog 11 #[.agg (spC p), .int .i64 tag] w (TPB w (lineN tag p)) := by
  by_cases h2 : tag = 2
  · subst h2
    exact line_2 p w hx hy
  by_cases h3 : tag = 3
  · subst h3
    exact line_3 p w hx hy
  by_cases h0 : tag = 0
  · subst h0
    exact line_0 p w
  by_cases h1 : tag = 1
  · subst h1
    exact line_1 p w
  by_cases h6 : tag = 6
  · subst h6
    exact line_6 p w
  by_cases h7 : tag = 7
  · subst h7
    exact line_7 p w
  by_cases h8 : tag = 8
  · subst h8
    exact line_8 p w
  by_cases h17 : tag = 17
  · subst h17
    exact line_17 p w
  by_cases h20 : tag = 20
  · subst h20
    exact line_20 p w
  by_cases h5 : tag = 5
  · subst h5
    obtain ⟨x, y, su, ii, nn, s⟩ := p
    have hl : lineN 5 ⟨x, y, su, ii, nn, s⟩ = (⟨overI su x, overI su y, 16⟩, s && !(zerB x && zerB y)) := by
      unfold lineN
      rw [if_neg (by decide), if_neg (by decide), if_neg (by decide), if_neg (by decide), if_neg (by decide), if_neg (by decide), if_neg (by decide), if_neg (by decide), if_neg (by decide), if_pos rfl]
    rw [hl]
    cases s
    · exact line_5f x y su ii nn w hx hy
    · exact line_5t x y su ii nn w hx hy
  have hl : lineN tag p = (TW.zero, false) := by
    unfold lineN
    rw [if_neg h2, if_neg h3, if_neg h0, if_neg h1, if_neg h6, if_neg h7, if_neg h8, if_neg h17, if_neg h20, if_neg h5]
  rw [hl]
  exact line_no tag p w h2 h3 h0 h1 h6 h7 h8 h17 h20 h5
end Go.Proofs.YtembfhepinfmnaaDoor
