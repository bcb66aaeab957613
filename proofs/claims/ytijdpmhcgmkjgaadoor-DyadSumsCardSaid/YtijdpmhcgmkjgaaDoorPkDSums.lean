/-
  volvellelaw02.DyadSums answers true, whatever it is given.
-/
import Derived.Deep.RegionHeld3
import Derived.Test.YtijdpmhcgmkjgaaDoorPkDy13
namespace Go.Proofs.YtijdpmhcgmkjgaaDoor
open Go.RowKit

theorem sumD_m (ok : Bool) (l : DL) (k : Nat) : (sumD ok l k).m < B64 ^ 256 := by
  unfold sumD
  split
  · split
    · exact mkD_m_bits _ _ _
    · exact mkD_m_bits _ _ _
  · exact Nat.pow_pos B64_pos

set_option maxRecDepth 8000 in
set_option maxHeartbeats 8000000 in
theorem sums_any (L : Option Addr) (k cp : Nat) (l : DL) (w : World) (h : Ls w L k cp l) (hk : k ≤ 9223372036854775807) (hlen : ∀ j, j < k → l.n j ≤ 9223372036854775807) (hT : Tab w) :
    Calls Tryd.prog 5 #[.slice L k cp] w (TruePost w) := by
  have HLEN := Lib.hid hlen
  have AW := Lib.hid (awake_any w hT)
  clear hlen
  go_enter Tryd.func5, Tryd.ntmps5
  go_wp2_with fail
  refine AW.out.mono ?_
  rintro e' w1 ⟨rfl, bel⟩
  clear AW
  by_cases h10 : 10 < k
  · have h10' : (10 : Int) < (k : Int) := by omega
    have bF := bel
    go_wp2_with fail
    go_ret
    exact ⟨rfl, bF⟩
  · have h10' : ¬ (10 : Int) < (k : Int) := by omega
    have FW := Lib.hid (few_any L k cp l w1 (h.below bel) hk HLEN.out)
    go_wp2_with fail
    refine FW.out.mono ?_
    rintro e' w2 ⟨rfl, b⟩
    replace bel := below_step bel b
    clear FW b
    by_cases hf : fewL l k = true
    rotate_left
    · have hf' : fewL l k = false := by simpa using hf
      rw [hf']
      have bF := bel
      go_wp2_with fail
      go_ret
      exact ⟨rfl, bF⟩
    · rw [hf]
      have FL := Lib.hid (fun j hj => few1_true (fewL_true hf j hj))
      have SU := Lib.hid (fun w' (h' : Below w.heap.size w w') => (sum_any L k cp l w' (h.below h') (by omega) (fun j hj => by have := FL.out j hj; omega) (hT.below h')).mono fun _ _ h => h.dp)
      have RS := Lib.hid (fun w' (h' : Below w.heap.size w w') => (rsum_any L k cp l w' (h.below h') (by omega) (fun j hj => by have := FL.out j hj; omega) (hT.below h') (fun j hj => by have := FL.out j hj; omega)).mono fun _ _ h => h.dp)
      have hm := Lib.hid (sumD_m (allP l k) l k)
      generalize sumD (allP l k) l k = r at *
      clear hf
      go_wp2_with fail
      refine (SU.out _ bel).mono ?_
      rintro e' w3 ⟨A1, p1, c1, rfl, m1, b⟩
      replace bel := below_step bel b
      clear SU b
      go_wp2_with fail
      have b := alloc_bel w3 (cd3 (.bool r.neg) (.slice A1 p1 c1) (.int .i64 r.e))
      have k1 := K3.made w3 (.bool r.neg) (.slice A1 p1 c1) (.int .i64 r.e)
      replace bel := below_step bel b
      replace m1 := m1.below b
      clear b
      generalize w3.alloc (cd3 (.bool r.neg) (.slice A1 p1 c1) (.int .i64 r.e)) = w4 at *
      refine (RS.out _ bel).mono ?_
      rintro e' w5 ⟨A2, p2, c2, rfl, m2, b⟩
      replace bel := below_step bel b
      replace m1 := m1.below b
      replace k1 := k1.adv b
      clear RS b
      obtain ⟨q0, q1, q2, q3⟩ := k1.cell
      go_wp2_with fail
      have b := alloc_bel w5 (cd3 (.bool r.neg) (.slice A2 p2 c2) (.int .i64 r.e))
      refine (both_any r.neg r.ok r.e _ (m1.below b) (m2.below b) 256 (by omega) hm.out).mono ?_
      replace bel := below_step bel b
      generalize w5.alloc (cd3 (.bool r.neg) (.slice A2 p2 c2) (.int .i64 r.e)) = w6 at *
      rintro e' w7 ⟨rfl, b'⟩
      replace bel := below_step bel b'
      clear b b' k1 m1 m2 q0 q1 q2 q3 hm
      go_wp2_with fail
      go_loopw [7] (fun s7 wr => ∃ i : Nat, i ≤ k ∧ s7 = .int .i64 (i : Int) ∧ Below w.heap.size w wr) (fun s7 _ => k - (intOf s7).toNat)
      case atStart => exact ⟨0, Nat.zero_le _, rfl, bel⟩
      case round =>
        clear bel
        obtain ⟨i, hi, rfl, bel⟩ := hrel
        by_cases hlt : i + 1 < k
        · obtain ⟨ad, rfl, hb, hc⟩ := h.2.1 (by omega)
          obtain ⟨I, hI⟩ : ∃ I : Nat, Hid (I = i + 1) := ⟨_, Lib.hid rfl⟩
          have hI1 : (i : Int) + 1 = (I : Int) := by have := hI.out; omega
          have hwI : IntKind.i64.wrap ((i : Int) + 1) = (I : Int) := by rw [wrap_id (by omega) (by omega)]; exact hI1
          have hwI2 : IntKind.i64.wrap (I : Int) = (I : Int) := by have := hI.out; exact wrap_id (by omega) (by omega)
          have hI0 : (0 : Int) ≤ (I : Int) := by omega
          have hIk : I < k := by have := hI.out; omega
          have hlt1 : (I : Int) < (k : Int) := by omega
          have hlt2 : (i : Int) < (k : Int) := by omega
          have cc := hc i (by omega)
          have cd := hc I hIk
          have HC : Hid (∀ w', Below w.heap.size w w' → (w'.cell? (ad.add (i * 3)) = some (.bool (l.ng i)) ∧ w'.cell? ⟨(ad.add (i * 3)).block, (ad.add (i * 3)).off + 1, none⟩ = some (.slice (l.A i) (l.n i) (l.c i)) ∧ w'.cell? ⟨(ad.add (i * 3)).block, (ad.add (i * 3)).off + 2, none⟩ = some (.int .i64 (l.e i))) ∧
              (w'.cell? (ad.add (I * 3)) = some (.bool (l.ng I)) ∧ w'.cell? ⟨(ad.add (I * 3)).block, (ad.add (I * 3)).off + 1, none⟩ = some (.slice (l.A I) (l.n I) (l.c I)) ∧ w'.cell? ⟨(ad.add (I * 3)).block, (ad.add (I * 3)).off + 2, none⟩ = some (.int .i64 (l.e I)))) := Lib.hid (fun w' h' =>
            ⟨⟨(h'.cell (p := ad.add (i * 3)) (by rw [block_of_add]; exact hb)).trans cc.1, (h'.cell (p := ⟨(ad.add (i * 3)).block, (ad.add (i * 3)).off + 1, none⟩) (by simp only [block_of_add]; exact hb)).trans cc.2.1, (h'.cell (p := ⟨(ad.add (i * 3)).block, (ad.add (i * 3)).off + 2, none⟩) (by simp only [block_of_add]; exact hb)).trans cc.2.2⟩,
              ⟨(h'.cell (p := ad.add (I * 3)) (by rw [block_of_add]; exact hb)).trans cd.1, (h'.cell (p := ⟨(ad.add (I * 3)).block, (ad.add (I * 3)).off + 1, none⟩) (by simp only [block_of_add]; exact hb)).trans cd.2.1, (h'.cell (p := ⟨(ad.add (I * 3)).block, (ad.add (I * 3)).off + 2, none⟩) (by simp only [block_of_add]; exact hb)).trans cd.2.2⟩⟩)
          have f1 := FL.out i (by omega)
          have f2 := FL.out I hIk
          have MU := Lib.hid (fun w' (h' : Below w.heap.size w w') => (dmul_any (l.ng i) (l.ng I) (l.A i) (l.A I) (l.n i) (l.c i) (l.n I) (l.c I) (l.x i) (l.x I) (l.e i) (l.e I) w' ((h.2.2 i (by omega)).below h') ((h.2.2 I hIk).below h') (by omega) (by omega) (hT.below h')).mono fun _ _ h => h.dp)
          have RM := Lib.hid (fun w' (h' : Below w.heap.size w w') => (rmul2_any (l.ng i) (l.ng I) (l.A i) (l.A I) (l.n i) (l.c i) (l.n I) (l.c I) (l.x i) (l.x I) (l.e i) (l.e I) w' ((h.2.2 i (by omega)).below h') ((h.2.2 I hIk).below h') (by omega) (by omega) (hT.below h')).mono fun _ _ h => h.dp)
          have hs := Lib.hid (mulD_m (plainB (l.ng i) (l.n i) (l.x i) (l.e i) && plainB (l.ng I) (l.n I) (l.x I) (l.e I)) (l.ng i) (l.ng I) (vs B64 (l.x i) (l.n i)) (vs B64 (l.x I) (l.n I)) (l.e i) (l.e I))
          generalize mulD (plainB (l.ng i) (l.n i) (l.x i) (l.e i) && plainB (l.ng I) (l.n I) (l.x I) (l.e I)) (l.ng i) (l.ng I) (vs B64 (l.x i) (l.n i)) (vs B64 (l.x I) (l.n I)) (l.e i) (l.e I) = s at *
          clear cc cd hc f1 f2
          go_wp2_with fail
          have BD1 : Below w.heap.size w wr.drew := bel.drew
          have BD1a : Below w.heap.size w (wr.drew.alloc (cd3 (.bool false) (.slice none 0 0) (.int .i64 0))) := below_step BD1 (alloc_bel _ _)
          have hsz1 : w.heap.size ≤ wr.heap.size := bel.size
          have HS1 := HC.out _ BD1
          go_region_held3 (fun w' => (w'.cell? (ad.add (i * 3)) = some (.bool (l.ng i)) ∧ w'.cell? ⟨(ad.add (i * 3)).block, (ad.add (i * 3)).off + 1, none⟩ = some (.slice (l.A i) (l.n i) (l.c i)) ∧ w'.cell? ⟨(ad.add (i * 3)).block, (ad.add (i * 3)).off + 2, none⟩ = some (.int .i64 (l.e i))) ∧
              (w'.cell? (ad.add (I * 3)) = some (.bool (l.ng I)) ∧ w'.cell? ⟨(ad.add (I * 3)).block, (ad.add (I * 3)).off + 1, none⟩ = some (.slice (l.A I) (l.n I) (l.c I)) ∧ w'.cell? ⟨(ad.add (I * 3)).block, (ad.add (I * 3)).off + 2, none⟩ = some (.int .i64 (l.e I))))
            (first | exact HS1 | exact HC.out _ (below_step BD1 b1) | exact HC.out _ (below_step BD1a b1) | exact HC.out _ BD1a | exact HC.out _ (below_step (below_step BD1 b1) (alloc_bel _ _)) | exact HC.out _ (below_only (below_step BD1a b1) (only_put3 _ _ _ _ _) hsz1))
            (first | (go_at_call 23; refine (MU.out _ (by first | exact BD1 | exact BD1a)).mono ?_; rintro e' v1 ⟨A1, p1, c1, rfl, n1, b1⟩; first | (have KZ1 : K3 v1 wr.heap.size (.bool false) (.slice none 0 0) (.int .i64 0) := (K3.made wr.drew (.bool false) (.slice none 0 0) (.int .i64 0)).adv b1; obtain ⟨kf0, kf1, kf2⟩ := KZ1.frozen; obtain ⟨kc0, kc1, kc2, kc3⟩ := KZ1.cell) | skip))
          all_goals (go_wp2_with fail)
          · skip
            have bZ := alloc_bel v1 (cd3 (.bool s.neg) (.slice A1 p1 c1) (.int .i64 s.e))
            have k1 := K3.made v1 (.bool s.neg) (.slice A1 p1 c1) (.int .i64 s.e)
            replace bel := below_step (below_step BD1 b1) bZ
            replace n1 := n1.below bZ
            clear bZ b1 BD1 BD1a hsz1 HS1
            generalize v1.alloc (cd3 (.bool s.neg) (.slice A1 p1 c1) (.int .i64 s.e)) = y1 at *
            generalize v1.heap.size = g1 at *
            clear v1
            have BD2 : Below w.heap.size w y1.drew := bel.drew
            have BD2a : Below w.heap.size w (y1.drew.alloc (cd3 (.bool false) (.slice none 0 0) (.int .i64 0))) := below_step BD2 (alloc_bel _ _)
            have hsz2 : w.heap.size ≤ y1.heap.size := bel.size
            have HS2 := HC.out _ BD2
            go_region_held3 (fun w' => (w'.cell? (ad.add (i * 3)) = some (.bool (l.ng i)) ∧ w'.cell? ⟨(ad.add (i * 3)).block, (ad.add (i * 3)).off + 1, none⟩ = some (.slice (l.A i) (l.n i) (l.c i)) ∧ w'.cell? ⟨(ad.add (i * 3)).block, (ad.add (i * 3)).off + 2, none⟩ = some (.int .i64 (l.e i))) ∧
                (w'.cell? (ad.add (I * 3)) = some (.bool (l.ng I)) ∧ w'.cell? ⟨(ad.add (I * 3)).block, (ad.add (I * 3)).off + 1, none⟩ = some (.slice (l.A I) (l.n I) (l.c I)) ∧ w'.cell? ⟨(ad.add (I * 3)).block, (ad.add (I * 3)).off + 2, none⟩ = some (.int .i64 (l.e I))))
              (first | exact HS2 | exact HC.out _ (below_step BD2 b2) | exact HC.out _ (below_step BD2a b2) | exact HC.out _ BD2a | exact HC.out _ (below_step (below_step BD2 b2) (alloc_bel _ _)) | exact HC.out _ (below_only (below_step BD2a b2) (only_put3 _ _ _ _ _) hsz2))
              (first | (go_at_call 24; refine (RM.out _ (by first | exact BD2 | exact BD2a)).mono ?_; rintro e' v2 ⟨A2, p2, c2, rfl, n2, b2⟩; first | (have KZ2 : K3 v2 y1.heap.size (.bool false) (.slice none 0 0) (.int .i64 0) := (K3.made y1.drew (.bool false) (.slice none 0 0) (.int .i64 0)).adv b2; obtain ⟨kf0, kf1, kf2⟩ := KZ2.frozen; obtain ⟨kc0, kc1, kc2, kc3⟩ := KZ2.cell) | skip))
            · skip
              have bZ := alloc_bel v2 (cd3 (.bool s.neg) (.slice A2 p2 c2) (.int .i64 s.e))
              have k2 := K3.made v2 (.bool s.neg) (.slice A2 p2 c2) (.int .i64 s.e)
              replace bel := below_step (below_step BD2 b2) bZ
              replace n2 := n2.below bZ
              have k1x := (K3.adv (k1.drew) b2).adv bZ
              have n1x := (((n1.below (Below.refl _ y1).drew).below b2).below bZ)
              clear k1 n1
              clear bZ b2 BD2 BD2a hsz2 HS2
              generalize v2.alloc (cd3 (.bool s.neg) (.slice A2 p2 c2) (.int .i64 s.e)) = y2 at *
              generalize v2.heap.size = g2 at *
              clear v2
              obtain ⟨q0, q1, q2, q3⟩ := k1x.cell
              obtain ⟨r0, r1, r2, r3⟩ := k2.cell
              go_wp2_with fail
              refine (both_any s.neg s.ok s.e _ n1x n2 256 (by omega) hs.out).mono ?_
              rintro e' y3 ⟨rfl, b⟩
              replace bel := below_step bel b
              clear b k1x k2 n1x n2 q0 q1 q2 q3 r0 r1 r2 r3
              go_wp2_with fail
              go_roundw
              case rel => exact ⟨I, by omega, by go_num, bel⟩
              case measure => have := hI.out; simp [intOf]; omega
            · skip
              have o : Only v2 ((((v2).setCell ⟨y1.heap.size, 0, none⟩ (.bool s.neg)).setCell ⟨y1.heap.size, 1, none⟩ (.slice A2 p2 c2)).setCell ⟨y1.heap.size, 2, none⟩ (.int .i64 s.e)) (y1.heap.size) := only_put3 _ _ _ _ _
              have k2 : K3 ((((v2).setCell ⟨y1.heap.size, 0, none⟩ (.bool s.neg)).setCell ⟨y1.heap.size, 1, none⟩ (.slice A2 p2 c2)).setCell ⟨y1.heap.size, 2, none⟩ (.int .i64 s.e)) (y1.heap.size) (.bool s.neg) (.slice A2 p2 c2) (.int .i64 s.e) := KZ2.put _ _ _
              replace bel := below_only (below_step BD2a b2) o hsz2
              replace n2 := num_only n2 KZ2 o
              have hne : g1 ≠ y1.heap.size := by have := k1.2; omega
              have k1x := ((K3.adv (k1.drew) (alloc_bel _ (cd3 (.bool false) (.slice none 0 0) (.int .i64 0)))).adv b2).only o hne
              have n1x := num_only (((n1.below (Below.refl _ y1).drew).below (alloc_bel _ (cd3 (.bool false) (.slice none 0 0) (.int .i64 0)))).below b2) KZ2 o
              clear k1 n1 hne
              clear o KZ2 kf0 kf1 kf2 kc0 kc1 kc2 kc3 b2 BD2 BD2a hsz2 HS2
              generalize (((v2).setCell ⟨y1.heap.size, 0, none⟩ (.bool s.neg)).setCell ⟨y1.heap.size, 1, none⟩ (.slice A2 p2 c2)).setCell ⟨y1.heap.size, 2, none⟩ (.int .i64 s.e) = y2 at *
              generalize y1.heap.size = g2 at *
              clear v2
              obtain ⟨q0, q1, q2, q3⟩ := k1x.cell
              obtain ⟨r0, r1, r2, r3⟩ := k2.cell
              go_wp2_with fail
              refine (both_any s.neg s.ok s.e _ n1x n2 256 (by omega) hs.out).mono ?_
              rintro e' y3 ⟨rfl, b⟩
              replace bel := below_step bel b
              clear b k1x k2 n1x n2 q0 q1 q2 q3 r0 r1 r2 r3
              go_wp2_with fail
              go_roundw
              case rel => exact ⟨I, by omega, by go_num, bel⟩
              case measure => have := hI.out; simp [intOf]; omega
          · skip
            have o : Only v1 ((((v1).setCell ⟨wr.heap.size, 0, none⟩ (.bool s.neg)).setCell ⟨wr.heap.size, 1, none⟩ (.slice A1 p1 c1)).setCell ⟨wr.heap.size, 2, none⟩ (.int .i64 s.e)) (wr.heap.size) := only_put3 _ _ _ _ _
            have k1 : K3 ((((v1).setCell ⟨wr.heap.size, 0, none⟩ (.bool s.neg)).setCell ⟨wr.heap.size, 1, none⟩ (.slice A1 p1 c1)).setCell ⟨wr.heap.size, 2, none⟩ (.int .i64 s.e)) (wr.heap.size) (.bool s.neg) (.slice A1 p1 c1) (.int .i64 s.e) := KZ1.put _ _ _
            replace bel := below_only (below_step BD1a b1) o hsz1
            replace n1 := num_only n1 KZ1 o
            clear o KZ1 kf0 kf1 kf2 kc0 kc1 kc2 kc3 b1 BD1 BD1a hsz1 HS1
            generalize (((v1).setCell ⟨wr.heap.size, 0, none⟩ (.bool s.neg)).setCell ⟨wr.heap.size, 1, none⟩ (.slice A1 p1 c1)).setCell ⟨wr.heap.size, 2, none⟩ (.int .i64 s.e) = y1 at *
            generalize wr.heap.size = g1 at *
            clear v1
            have BD2 : Below w.heap.size w y1.drew := bel.drew
            have BD2a : Below w.heap.size w (y1.drew.alloc (cd3 (.bool false) (.slice none 0 0) (.int .i64 0))) := below_step BD2 (alloc_bel _ _)
            have hsz2 : w.heap.size ≤ y1.heap.size := bel.size
            have HS2 := HC.out _ BD2
            go_region_held3 (fun w' => (w'.cell? (ad.add (i * 3)) = some (.bool (l.ng i)) ∧ w'.cell? ⟨(ad.add (i * 3)).block, (ad.add (i * 3)).off + 1, none⟩ = some (.slice (l.A i) (l.n i) (l.c i)) ∧ w'.cell? ⟨(ad.add (i * 3)).block, (ad.add (i * 3)).off + 2, none⟩ = some (.int .i64 (l.e i))) ∧
                (w'.cell? (ad.add (I * 3)) = some (.bool (l.ng I)) ∧ w'.cell? ⟨(ad.add (I * 3)).block, (ad.add (I * 3)).off + 1, none⟩ = some (.slice (l.A I) (l.n I) (l.c I)) ∧ w'.cell? ⟨(ad.add (I * 3)).block, (ad.add (I * 3)).off + 2, none⟩ = some (.int .i64 (l.e I))))
              (first | exact HS2 | exact HC.out _ (below_step BD2 b2) | exact HC.out _ (below_step BD2a b2) | exact HC.out _ BD2a | exact HC.out _ (below_step (below_step BD2 b2) (alloc_bel _ _)) | exact HC.out _ (below_only (below_step BD2a b2) (only_put3 _ _ _ _ _) hsz2))
              (first | (go_at_call 24; refine (RM.out _ (by first | exact BD2 | exact BD2a)).mono ?_; rintro e' v2 ⟨A2, p2, c2, rfl, n2, b2⟩; first | (have KZ2 : K3 v2 y1.heap.size (.bool false) (.slice none 0 0) (.int .i64 0) := (K3.made y1.drew (.bool false) (.slice none 0 0) (.int .i64 0)).adv b2; obtain ⟨kf0, kf1, kf2⟩ := KZ2.frozen; obtain ⟨kc0, kc1, kc2, kc3⟩ := KZ2.cell) | skip))
            · skip
              have bZ := alloc_bel v2 (cd3 (.bool s.neg) (.slice A2 p2 c2) (.int .i64 s.e))
              have k2 := K3.made v2 (.bool s.neg) (.slice A2 p2 c2) (.int .i64 s.e)
              replace bel := below_step (below_step BD2 b2) bZ
              replace n2 := n2.below bZ
              have k1x := (K3.adv (k1.drew) b2).adv bZ
              have n1x := (((n1.below (Below.refl _ y1).drew).below b2).below bZ)
              clear k1 n1
              clear bZ b2 BD2 BD2a hsz2 HS2
              generalize v2.alloc (cd3 (.bool s.neg) (.slice A2 p2 c2) (.int .i64 s.e)) = y2 at *
              generalize v2.heap.size = g2 at *
              clear v2
              obtain ⟨q0, q1, q2, q3⟩ := k1x.cell
              obtain ⟨r0, r1, r2, r3⟩ := k2.cell
              go_wp2_with fail
              refine (both_any s.neg s.ok s.e _ n1x n2 256 (by omega) hs.out).mono ?_
              rintro e' y3 ⟨rfl, b⟩
              replace bel := below_step bel b
              clear b k1x k2 n1x n2 q0 q1 q2 q3 r0 r1 r2 r3
              go_wp2_with fail
              go_roundw
              case rel => exact ⟨I, by omega, by go_num, bel⟩
              case measure => have := hI.out; simp [intOf]; omega
            · skip
              have o : Only v2 ((((v2).setCell ⟨y1.heap.size, 0, none⟩ (.bool s.neg)).setCell ⟨y1.heap.size, 1, none⟩ (.slice A2 p2 c2)).setCell ⟨y1.heap.size, 2, none⟩ (.int .i64 s.e)) (y1.heap.size) := only_put3 _ _ _ _ _
              have k2 : K3 ((((v2).setCell ⟨y1.heap.size, 0, none⟩ (.bool s.neg)).setCell ⟨y1.heap.size, 1, none⟩ (.slice A2 p2 c2)).setCell ⟨y1.heap.size, 2, none⟩ (.int .i64 s.e)) (y1.heap.size) (.bool s.neg) (.slice A2 p2 c2) (.int .i64 s.e) := KZ2.put _ _ _
              replace bel := below_only (below_step BD2a b2) o hsz2
              replace n2 := num_only n2 KZ2 o
              have hne : g1 ≠ y1.heap.size := by have := k1.2; omega
              have k1x := ((K3.adv (k1.drew) (alloc_bel _ (cd3 (.bool false) (.slice none 0 0) (.int .i64 0)))).adv b2).only o hne
              have n1x := num_only (((n1.below (Below.refl _ y1).drew).below (alloc_bel _ (cd3 (.bool false) (.slice none 0 0) (.int .i64 0)))).below b2) KZ2 o
              clear k1 n1 hne
              clear o KZ2 kf0 kf1 kf2 kc0 kc1 kc2 kc3 b2 BD2 BD2a hsz2 HS2
              generalize (((v2).setCell ⟨y1.heap.size, 0, none⟩ (.bool s.neg)).setCell ⟨y1.heap.size, 1, none⟩ (.slice A2 p2 c2)).setCell ⟨y1.heap.size, 2, none⟩ (.int .i64 s.e) = y2 at *
              generalize y1.heap.size = g2 at *
              clear v2
              obtain ⟨q0, q1, q2, q3⟩ := k1x.cell
              obtain ⟨r0, r1, r2, r3⟩ := k2.cell
              go_wp2_with fail
              refine (both_any s.neg s.ok s.e _ n1x n2 256 (by omega) hs.out).mono ?_
              rintro e' y3 ⟨rfl, b⟩
              replace bel := below_step bel b
              clear b k1x k2 n1x n2 q0 q1 q2 q3 r0 r1 r2 r3
              go_wp2_with fail
              go_roundw
              case rel => exact ⟨I, by omega, by go_num, bel⟩
              case measure => have := hI.out; simp [intOf]; omega
        · have hlt1 : ¬ (i : Int) + 1 < (k : Int) := by omega
          go_wp2_with fail
          go_ret
          exact ⟨rfl, bel⟩
end Go.Proofs.YtijdpmhcgmkjgaaDoor
