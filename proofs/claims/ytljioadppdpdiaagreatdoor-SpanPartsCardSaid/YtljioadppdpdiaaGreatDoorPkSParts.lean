/-
  The law SpanParts.
-/
import Derived.Test.YtljioadppdpdiaaGreatDoorPkSp8
import Derived.Test.YtljioadppdpdiaaGreatDoorPkSp13
import Derived.Test.YtljioadppdpdiaaGreatDoorPkSRDiv
import Derived.Test.YtljioadppdpdiaaGreatDoorPkSRoot
namespace Go.Proofs.YtljioadppdpdiaaGreatDoor
open Go.RowKit

set_option maxRecDepth 8000 in
set_option maxHeartbeats 8000000 in
theorem parts_any (p : Int) (bad na nb' : Bool) (A B : Option Addr) (n c m d : Nat) (x y : Nat → Nat) (ea eb : Int) (na2 nb2 : Bool) (A2 B2 : Option Addr) (n2 c2 m2 d2 : Nat) (x2 y2 : Nat → Nat) (ea2 eb2 : Int) (w : World) (ha : Sl w A n c x) (hb : Sl w B m d y) (hn : n ≤ 9223372036854775807) (hm : m ≤ 9223372036854775807) (ha2 : Sl w A2 n2 c2 x2) (hb2 : Sl w B2 m2 d2 y2) (hn2 : n2 ≤ 9223372036854775807) (hm2 : m2 ≤ 9223372036854775807) (hT : Tab w) :
    Calls Tryz.prog 4 #[.agg #[.int .i64 p, .bool bad], spv na A n c ea nb' B m d eb, spv na2 A2 n2 c2 ea2 nb2 B2 m2 d2 eb2] w (TruePost w) := by
  have b1 := below_step (below_step (alloc_bel w (ck2 (.int .i64 p) (.bool bad))) (alloc_bel _ (co6 (.bool na) (.slice A n c) (.int .i64 ea) (.bool nb') (.slice B m d) (.int .i64 eb)))) (alloc_bel _ (co6 (.bool na2) (.slice A2 n2 c2) (.int .i64 ea2) (.bool nb2) (.slice B2 m2 d2) (.int .i64 eb2)))
  have kA := (KC.made 28 (w.alloc (ck2 (.int .i64 p) (.bool bad))) #[.bool na, .slice A n c, .int .i64 ea, .bool nb', .slice B m d, .int .i64 eb]).adv (alloc_bel _ (co6 (.bool na2) (.slice A2 n2 c2) (.int .i64 ea2) (.bool nb2) (.slice B2 m2 d2) (.int .i64 eb2)))
  have kB := KC.made 28 ((w.alloc (ck2 (.int .i64 p) (.bool bad))).alloc (co6 (.bool na) (.slice A n c) (.int .i64 ea) (.bool nb') (.slice B m d) (.int .i64 eb))) #[.bool na2, .slice A2 n2 c2, .int .i64 ea2, .bool nb2, .slice B2 m2 d2, .int .i64 eb2]
  have kK := ((KC.made 23 w #[.int .i64 p, .bool bad]).adv (alloc_bel _ (co6 (.bool na) (.slice A n c) (.int .i64 ea) (.bool nb') (.slice B m d) (.int .i64 eb)))).adv (alloc_bel _ (co6 (.bool na2) (.slice A2 n2 c2) (.int .i64 ea2) (.bool nb2) (.slice B2 m2 d2) (.int .i64 eb2)))
  rw [show ((w.alloc (ck2 (.int .i64 p) (.bool bad))).alloc (co6 (.bool na) (.slice A n c) (.int .i64 ea) (.bool nb') (.slice B m d) (.int .i64 eb))).heap.size = w.heap.size + 1 + 1 by simp] at kB
  rw [show (w.alloc (ck2 (.int .i64 p) (.bool bad))).heap.size = w.heap.size + 1 by simp] at kA
  go_enter Tryz.func4, Tryz.ntmps4
  go_wp2_with fail
  generalize ((w.alloc (ck2 (.int .i64 p) (.bool bad))).alloc (co6 (.bool na) (.slice A n c) (.int .i64 ea) (.bool nb') (.slice B m d) (.int .i64 eb))).alloc (co6 (.bool na2) (.slice A2 n2 c2) (.int .i64 ea2) (.bool nb2) (.slice B2 m2 d2) (.int .i64 eb2)) = w1 at *
  refine (awake3 w1 (hT.below b1)).mono ?_
  rintro e' w2 ⟨rfl, b2⟩
  have B2' := below_step b1 b2
  have kA2 := kA.adv b2
  have kB2 := kB.adv b2
  have kK2 := kK.adv b2
  clear b1 b2 kA kB kK
  have FW := few3_any (some ⟨w2.heap.size, 0, none⟩) 2 2 _ _ (sls_two na nb' na2 nb2 A B A2 B2 n c m d n2 c2 m2 d2 x y x2 y2 ea eb ea2 eb2 w2 (ha.below B2') (hb.below B2') (ha2.below B2') (hb2.below B2')) (by omega) (fun j hj => by
    have : j = 0 ∨ j = 1 := by omega
    rcases this with rfl | rfl
    · exact ⟨hn, hm⟩
    · exact ⟨hn2, hm2⟩)
  rw [few_two] at FW
  have HFW := Lib.hid FW
  clear FW
  have i0 := kA2.at_ 0 _ rfl
  have i1 := kA2.at_ 1 _ rfl
  have i2 := kA2.at_ 2 _ rfl
  have i3 := kA2.at_ 3 _ rfl
  have i4 := kA2.at_ 4 _ rfl
  have i5 := kA2.at_ 5 _ rfl
  have j0 := kB2.at_ 0 _ rfl
  have j1 := kB2.at_ 1 _ rfl
  have j2 := kB2.at_ 2 _ rfl
  have j3 := kB2.at_ 3 _ rfl
  have j4 := kB2.at_ 4 _ rfl
  have j5 := kB2.at_ 5 _ rfl
  go_wp2_with fail
  refine HFW.out.mono ?_
  have b3 := alloc_bel w2 (co12 (.bool na) (.slice A n c) (.int .i64 ea) (.bool nb') (.slice B m d) (.int .i64 eb) (.bool na2) (.slice A2 n2 c2) (.int .i64 ea2) (.bool nb2) (.slice B2 m2 d2) (.int .i64 eb2))
  have kA3 := kA2.adv b3
  have kB3 := kB2.adv b3
  have kK3 := kK2.adv b3
  have B3 := below_step B2' b3
  clear i0 i1 i2 i3 i4 i5 j0 j1 j2 j3 j4 j5 HFW kA2 kB2 kK2 B2' b3
  generalize w2.alloc (co12 (.bool na) (.slice A n c) (.int .i64 ea) (.bool nb') (.slice B m d) (.int .i64 eb) (.bool na2) (.slice A2 n2 c2) (.int .i64 ea2) (.bool nb2) (.slice B2 m2 d2) (.int .i64 eb2)) = w3 at *
  rintro e' w4 ⟨rfl, b4⟩
  have kA4 := kA3.adv b4
  have kB4 := kB3.adv b4
  have kK4 := kK3.adv b4
  have B4 := below_step B3 b4
  clear kA3 kB3 kK3 B3 b4
  by_cases hf : (few3 n m ea eb && few3 n2 m2 ea2 eb2) = true
  rotate_left
  · have hf' : (few3 n m ea eb && few3 n2 m2 ea2 eb2) = false := by simpa using hf
    rw [hf']
    go_wp2_with fail
    go_ret
    exact ⟨rfl, B4⟩
  rw [hf]
  have hff : few3 n m ea eb = true ∧ few3 n2 m2 ea2 eb2 = true := by simpa using hf
  have hfw := few3_true hff.1
  have hfw2 := few3_true hff.2
  clear hf hff
  have k0 := kK4.at_ 0 _ rfl
  have k1 := kK4.at_ 1 _ rfl
  go_wp2_with fail
  refine (fit_any p bad w4).mono ?_
  rintro e' w5 ⟨rfl, b5⟩
  have kA5 := kA4.adv b5
  have kB5 := kB4.adv b5
  have kK5 := kK4.adv b5
  have B5 := below_step B4 b5
  clear kA4 kB4 kK4 B4 b5 k0 k1
  by_cases hf : fitK p = true
  rotate_left
  · have hf' : fitK p = false := by simpa using hf
    rw [hf']
    go_wp2_with fail
    go_ret
    exact ⟨rfl, B5⟩
  rw [hf]
  have hfp : p ≤ 500 ∨ 8192 < p := by
    unfold fitK at hf
    simpa using hf
  clear hf
  have k0 := kK5.at_ 0 _ rfl
  have k1 := kK5.at_ 1 _ rfl
  have hzA := kA5.2
  have hzB := kB5.2
  have hwz := B5.size
  by_cases h3 : p ≤ 300
  rotate_left
  by_cases h8 : p ≤ 8192
  · have e1 : decide (300 < p) = true := decide_eq_true (by omega)
    have e2 : decide (p ≤ 8192) = true := decide_eq_true h8
    have e3 : (300 : Int) < p := by omega
    go_wp2_with fail
    go_ret
    exact ⟨rfl, B5⟩
  have e1 : decide (300 < p) = true := decide_eq_true (by omega)
  have e2 : decide (p ≤ 8192) = false := decide_eq_false h8
  have e3 : (300 : Int) < p := by omega
  rotate_left
  have e1 : decide (300 < p) = false := decide_eq_false (by omega)
  have e2 : True := trivial
  have e3 : ¬ (300 : Int) < p := by omega
  have h8 : True := trivial
  all_goals (
    have hfp : p ≤ 600 ∨ 8192 < p := by omega
    clear h3
    go_wp2_with fail
    refine (works_any p bad w5).mono ?_
    rintro e' w6 ⟨g1, h1, rfl, hW1, hV1, hne1, hg1, hh1, b6⟩
    have kA6 := kA5.adv b6
    have kB6 := kB5.adv b6
    have kK6 := kK5.adv b6
    have B6 := below_step B5 b6
    have hz6 := b6.size
    have hl6 := hW1.2
    have hm6 := hV1.2
    clear k0 k1 kA5 kB5 kK5 b6
    have k0 := kK6.at_ 0 _ rfl
    have k1 := kK6.at_ 1 _ rfl
    go_wp2_with fail
    refine (works_any p bad w6).mono ?_
    rintro e' w7 ⟨g2, h2, rfl, hW2, hV2, hne2, hg2, hh2, b7⟩
    have kA7 := kA6.adv b7
    have kB7 := kB6.adv b7
    have kK7 := kK6.adv b7
    have B7 := below_step B6 b7
    have hz7 := b7.size
    have hl7 := hW2.2
    have hm7 := hV2.2
    have hW1 := hW1.below b7
    have hV1 := hV1.below b7
    clear k0 k1 kA6 kB6 kK6 b7
    have hzA := kA7.2
    have hzB := kB7.2
    have hz5 := B5.size
    clear e1 e2 e3 h8
    have D0 : Hid (∀ w', Below w.heap.size w w' → DIn w' A n c ⟨plainB na n x ea, na, vs B64 x n, ea⟩) := Lib.hid (fun w' h => DIn.raw (ha.below h) (by omega))
    obtain ⟨lo, hr0⟩ : ∃ r : DR, r = ⟨plainB na n x ea, na, vs B64 x n, ea⟩ := ⟨_, rfl⟩
    rw [← hr0] at D0
    have el0 : na = lo.neg := by rw [hr0]
    have ee0 : ea = lo.e := by rw [hr0]
    have BD0 : Hid (lo.ok = true → Bd lo ∧ PlainR lo) := Lib.hid (fun h => bd_few (D0.out w (Below.refl _ w)) (by omega) (by rw [hr0]; simp only; omega) (by rw [hr0]; simp only; omega) h)
    have D1 : Hid (∀ w', Below w.heap.size w w' → DIn w' B m d ⟨plainB nb' m y eb, nb', vs B64 y m, eb⟩) := Lib.hid (fun w' h => DIn.raw (hb.below h) (by omega))
    obtain ⟨hi, hr1⟩ : ∃ r : DR, r = ⟨plainB nb' m y eb, nb', vs B64 y m, eb⟩ := ⟨_, rfl⟩
    rw [← hr1] at D1
    have el1 : nb' = hi.neg := by rw [hr1]
    have ee1 : eb = hi.e := by rw [hr1]
    have BD1 : Hid (hi.ok = true → Bd hi ∧ PlainR hi) := Lib.hid (fun h => bd_few (D1.out w (Below.refl _ w)) (by omega) (by rw [hr1]; simp only; omega) (by rw [hr1]; simp only; omega) h)
    have D2 : Hid (∀ w', Below w.heap.size w w' → DIn w' A2 n2 c2 ⟨plainB na2 n2 x2 ea2, na2, vs B64 x2 n2, ea2⟩) := Lib.hid (fun w' h => DIn.raw (ha2.below h) (by omega))
    obtain ⟨lo', hr2⟩ : ∃ r : DR, r = ⟨plainB na2 n2 x2 ea2, na2, vs B64 x2 n2, ea2⟩ := ⟨_, rfl⟩
    rw [← hr2] at D2
    have el2 : na2 = lo'.neg := by rw [hr2]
    have ee2 : ea2 = lo'.e := by rw [hr2]
    have BD2 : Hid (lo'.ok = true → Bd lo' ∧ PlainR lo') := Lib.hid (fun h => bd_few (D2.out w (Below.refl _ w)) (by omega) (by rw [hr2]; simp only; omega) (by rw [hr2]; simp only; omega) h)
    have D3 : Hid (∀ w', Below w.heap.size w w' → DIn w' B2 m2 d2 ⟨plainB nb2 m2 y2 eb2, nb2, vs B64 y2 m2, eb2⟩) := Lib.hid (fun w' h => DIn.raw (hb2.below h) (by omega))
    obtain ⟨hi', hr3⟩ : ∃ r : DR, r = ⟨plainB nb2 m2 y2 eb2, nb2, vs B64 y2 m2, eb2⟩ := ⟨_, rfl⟩
    rw [← hr3] at D3
    have el3 : nb2 = hi'.neg := by rw [hr3]
    have ee3 : eb2 = hi'.e := by rw [hr3]
    have BD3 : Hid (hi'.ok = true → Bd hi' ∧ PlainR hi') := Lib.hid (fun h => bd_few (D3.out w (Below.refl _ w)) (by omega) (by rw [hr3]; simp only; omega) (by rw [hr3]; simp only; omega) h)
    have HTab : Hid (∀ w', Below w.heap.size w w' → Tab w') := Lib.hid (fun w' h => hT.below h)
    clear hr0 hr1 hr2 hr3 ha hb ha2 hb2 hfw hfw2 hn hm hn2 hm2 hT
    subst el0 ee0 el1 ee1 el2 ee2 el3 ee3
    have L : L2 w g1 h1 p bad bad w7 [(28, w.heap.size + 1, #[.bool lo.neg, .slice A n c, .int .i64 lo.e, .bool hi.neg, .slice B m d, .int .i64 hi.e]), (28, w.heap.size + 1 + 1, #[.bool lo'.neg, .slice A2 n2 c2, .int .i64 lo'.e, .bool hi'.neg, .slice B2 m2 d2, .int .i64 hi'.e])] [] := ⟨B7, hW1, hV1, by omega, by omega, hne1, ⟨⟨kA7, by omega, by omega⟩, ⟨kB7, by omega, by omega⟩, trivial⟩, trivial⟩
    have L := (L.blk (T := 37) (a := g2) (cs := #[.int .i64 p, .bool bad]) hW2 (by omega) (by omega)).blk (T := 38) (a := h2) (cs := #[.int .i64 p, .bool bad]) hV2 (by omega) (by omega)
    clear hW1 hV1 hW2 hV2 kA7 kB7 kK7 B5 B6 B7
    obtain ⟨r1, hr1⟩ : ∃ r, r = divC p bad lo hi lo' hi' := ⟨_, rfl⟩
    have G1 : SGood r1 := by rw [hr1]; exact sgood_div
    have HV1 : Hid (∀ w', Below w.heap.size w w' → Wk 37 w' g1 p bad → Calls Tryz.prog 16 #[.pointer (some ⟨g1, 0, none⟩), spv lo.neg A n c lo.e hi.neg B m d hi.e, spv lo'.neg A2 n2 c2 lo'.e hi'.neg B2 m2 d2 hi'.e] w' (SPost 37 w' g1 p r1)) := Lib.hid (fun w' b k' => by rw [hr1]; exact div_any g1 p bad w' k' (D0.out w' b) (D1.out w' b) (D2.out w' b) (D3.out w' b) (HTab.out w' b))
    have HR1 : Hid (∀ w', Below w.heap.size w w' → Wk 38 w' h1 p bad → Calls Tryz.prog 17 #[.pointer (some ⟨h1, 0, none⟩), spv lo.neg A n c lo.e hi.neg B m d hi.e, spv lo'.neg A2 n2 c2 lo'.e hi'.neg B2 m2 d2 hi'.e] w' (SPost 38 w' h1 p r1)) := Lib.hid (fun w' b k' => by
      rw [hr1, ← divR_eq hfp (fun h => by
        obtain ⟨_, _, R1, R2⟩ := bad2_false h
        exact ⟨⟨(BD0.out R1.l).1, (BD1.out R1.h).1⟩, ⟨(BD2.out R2.l).1, (BD3.out R2.h).1⟩⟩)]
      exact rsdiv_any h1 p bad w' k' (D0.out w' b) (D1.out w' b) (D2.out w' b) (D3.out w' b) (HTab.out w' b))
    obtain ⟨r2, hr2⟩ : ∃ r, r = rootS p bad lo hi := ⟨_, rfl⟩
    have G2 : SGood r2 := by rw [hr2]; exact sgood_two (plIf_rootI _ _ _) (plIf_rootI _ _ _)
    have HV2 : Hid (∀ w', Below w.heap.size w w' → Wk 37 w' g2 p bad → Calls Tryz.prog 18 #[.pointer (some ⟨g2, 0, none⟩), spv lo.neg A n c lo.e hi.neg B m d hi.e] w' (SPost 37 w' g2 p r2)) := Lib.hid (fun w' b k' => by rw [hr2]; exact sroot_any g2 p bad w' k' (D0.out w' b) (D1.out w' b) (HTab.out w' b))
    have HR2 : Hid (∀ w', Below w.heap.size w w' → Wk 38 w' h2 p bad → Calls Tryz.prog 19 #[.pointer (some ⟨h2, 0, none⟩), spv lo.neg A n c lo.e hi.neg B m d hi.e] w' (SPost 38 w' h2 p r2)) := Lib.hid (fun w' b k' => by
      rw [hr2]
      exact rsroot_any h2 p bad w' k' (D0.out w' b) (D1.out w' b) (HTab.out w' b))
    clear hr1 hr2 D0 D1 D2 D3 BD0 BD1 BD2 BD3 HTab
    go_upto_region 7 with fail
    skip
    have HC : Hid (∀ w', KC 28 w' (w.heap.size + 1) #[.bool lo.neg, .slice A n c, .int .i64 lo.e, .bool hi.neg, .slice B m d, .int .i64 hi.e] → KC 28 w' (w.heap.size + 1 + 1) #[.bool lo'.neg, .slice A2 n2 c2, .int .i64 lo'.e, .bool hi'.neg, .slice B2 m2 d2, .int .i64 hi'.e] → w'.cell? ⟨w.heap.size + 1, 0, none⟩ = some (.bool lo.neg) ∧ w'.cell? ⟨w.heap.size + 1, 1, none⟩ = some (.slice A n c) ∧ w'.cell? ⟨w.heap.size + 1, 2, none⟩ = some (.int .i64 lo.e) ∧ w'.cell? ⟨w.heap.size + 1, 3, none⟩ = some (.bool hi.neg) ∧ w'.cell? ⟨w.heap.size + 1, 4, none⟩ = some (.slice B m d) ∧ w'.cell? ⟨w.heap.size + 1, 5, none⟩ = some (.int .i64 hi.e) ∧ w'.cell? ⟨w.heap.size + 1 + 1, 0, none⟩ = some (.bool lo'.neg) ∧ w'.cell? ⟨w.heap.size + 1 + 1, 1, none⟩ = some (.slice A2 n2 c2) ∧ w'.cell? ⟨w.heap.size + 1 + 1, 2, none⟩ = some (.int .i64 lo'.e) ∧ w'.cell? ⟨w.heap.size + 1 + 1, 3, none⟩ = some (.bool hi'.neg) ∧ w'.cell? ⟨w.heap.size + 1 + 1, 4, none⟩ = some (.slice B2 m2 d2) ∧ w'.cell? ⟨w.heap.size + 1 + 1, 5, none⟩ = some (.int .i64 hi'.e)) := Lib.hid (fun w' a b => ⟨a.at_ 0 _ rfl, a.at_ 1 _ rfl, a.at_ 2 _ rfl, a.at_ 3 _ rfl, a.at_ 4 _ rfl, a.at_ 5 _ rfl, b.at_ 0 _ rfl, b.at_ 1 _ rfl, b.at_ 2 _ rfl, b.at_ 3 _ rfl, b.at_ 4 _ rfl, b.at_ 5 _ rfl⟩)
    have LD := L.drew
    clear L
    refine wp_region_held_drew (S := fun w' => w'.cell? ⟨w.heap.size + 1, 0, none⟩ = some (.bool lo.neg) ∧ w'.cell? ⟨w.heap.size + 1, 1, none⟩ = some (.slice A n c) ∧ w'.cell? ⟨w.heap.size + 1, 2, none⟩ = some (.int .i64 lo.e) ∧ w'.cell? ⟨w.heap.size + 1, 3, none⟩ = some (.bool hi.neg) ∧ w'.cell? ⟨w.heap.size + 1, 4, none⟩ = some (.slice B m d) ∧ w'.cell? ⟨w.heap.size + 1, 5, none⟩ = some (.int .i64 hi.e) ∧ w'.cell? ⟨w.heap.size + 1 + 1, 0, none⟩ = some (.bool lo'.neg) ∧ w'.cell? ⟨w.heap.size + 1 + 1, 1, none⟩ = some (.slice A2 n2 c2) ∧ w'.cell? ⟨w.heap.size + 1 + 1, 2, none⟩ = some (.int .i64 lo'.e) ∧ w'.cell? ⟨w.heap.size + 1 + 1, 3, none⟩ = some (.bool hi'.neg) ∧ w'.cell? ⟨w.heap.size + 1 + 1, 4, none⟩ = some (.slice B2 m2 d2) ∧ w'.cell? ⟨w.heap.size + 1 + 1, 5, none⟩ = some (.int .i64 hi'.e)) (by kernel_rfl) (HC.out _ LD.ks.2.2.1.1 LD.ks.2.2.2.1.1) (fun hHeld => ?_)
    refine wpAnyH_take (i := 0) (oi := ⟨some 43, _, _, _, _, _⟩) (v := ?_) rfl (by kernel_rfl) (by kernel_rfl) (by kernel_rfl) (fun _ _ _ h => h) (Or.inl ⟨by rfl, ?_⟩) (by assumption) ?_
    rotate_left
    · intro w hSw
      try dsimp only at hSw
      first | (go_simp; done) | (go_simp; with_reducible rfl)
    try simp only [Act.put, List.setIfInBounds_toArray, List.set_cons_zero, List.set_cons_succ]
    refine wpAnyH_take (i := 1) (oi := ⟨some 44, _, _, _, _, _⟩) (v := ?_) rfl (by kernel_rfl) (by kernel_rfl) (by kernel_rfl) (fun _ _ _ h => h) (Or.inl ⟨by rfl, ?_⟩) (by assumption) ?_
    rotate_left
    · intro w hSw
      try dsimp only at hSw
      first | (go_simp; done) | (go_simp; with_reducible rfl)
    try simp only [Act.put, List.setIfInBounds_toArray, List.set_cons_zero, List.set_cons_succ]
    refine wpAnyH_take (i := 2) (oi := ⟨some 45, _, _, _, _, _⟩) (v := ?_) rfl (by kernel_rfl) (by kernel_rfl) (by kernel_rfl) (fun _ _ _ h => h) (Or.inl ⟨by rfl, ?_⟩) (by assumption) ?_
    rotate_left
    · intro w hSw
      try dsimp only at hSw
      first | (go_simp; done) | (go_simp; with_reducible rfl)
    try simp only [Act.put, List.setIfInBounds_toArray, List.set_cons_zero, List.set_cons_succ]
    refine wpAnyH_take (i := 4) (oi := ⟨some 47, _, _, _, _, _⟩) (v := ?_) rfl (by kernel_rfl) (by kernel_rfl) (by kernel_rfl) (fun _ _ _ h => h) (Or.inl ⟨by rfl, ?_⟩) (by assumption) ?_
    rotate_left
    · intro w hSw
      try dsimp only at hSw
      first | (go_simp; done) | (go_simp; with_reducible rfl)
    try simp only [Act.put, List.setIfInBounds_toArray, List.set_cons_zero, List.set_cons_succ]
    refine wpAnyH_take (i := 5) (oi := ⟨some 48, _, _, _, _, _⟩) (v := ?_) rfl (by kernel_rfl) (by kernel_rfl) (by kernel_rfl) (fun _ _ _ h => h) (Or.inl ⟨by rfl, ?_⟩) (by assumption) ?_
    rotate_left
    · intro w hSw
      try dsimp only at hSw
      first | (go_simp; done) | (go_simp; with_reducible rfl)
    try simp only [Act.put, List.setIfInBounds_toArray, List.set_cons_zero, List.set_cons_succ]
    refine wpAnyH_take (i := 6) (oi := ⟨some 49, _, _, _, _, _⟩) (v := ?_) rfl (by kernel_rfl) (by kernel_rfl) (by kernel_rfl) (fun _ _ _ h => h) (Or.inl ⟨by rfl, ?_⟩) (by assumption) ?_
    rotate_left
    · intro w hSw
      try dsimp only at hSw
      first | (go_simp; done) | (go_simp; with_reducible rfl)
    try simp only [Act.put, List.setIfInBounds_toArray, List.set_cons_zero, List.set_cons_succ]
    refine wpAnyH_ready (rs := [3]) (by kernel_rfl) (by simp) ?_
    refine AllReadyH.cons (o := ⟨some 46, _, _, _, _, _⟩) rfl (fun K hK => ?_) AllReadyH.nil
    go_simp
    refine (HV1.out _ LD.bel LD.W).mono ?_
    rintro e' v11 ⟨X1, x1, y1, Y1, s1, t1, rfl, N1, N2, hW1, o1⟩
    have LA1 := ((LD.callW o1 hW1).num N2).num N1
    clear N1 N2 hW1 o1 LD HV1
    go_wp2_with fail
    refine hK.out _ _ (HC.out _ LA1.ks.2.2.1.1 LA1.ks.2.2.2.1.1) (fun hHeld' => ?_)
    clear hK K hHeld
    have hHeld := hHeld'
    clear hHeld'
    try simp only [Act.put, List.setIfInBounds_toArray, List.set_cons_zero, List.set_cons_succ]
    refine wpAnyH_ready (rs := [7]) (by kernel_rfl) (by simp) ?_
    refine AllReadyH.cons (o := ⟨some 50, _, _, _, _, _⟩) rfl (fun K hK => ?_) AllReadyH.nil
    go_simp
    refine (HR1.out _ LA1.bel LA1.V).mono ?_
    rintro e' v12 ⟨U1, u1_, v1_, V1, a1, b1, rfl, N3, N4, hV2, o2⟩
    have LX1 := ((LA1.callV o2 hV2).num N4).num N3
    clear N3 N4 hV2 o2 LA1 HR1
    go_wp2_with fail
    refine hK.out _ _ (HC.out _ LX1.ks.2.2.1.1 LX1.ks.2.2.2.1.1) (fun hHeld' => ?_)
    clear hK K hHeld
    have hHeld := hHeld'
    clear hHeld'
    try simp only [Act.put, List.setIfInBounds_toArray, List.set_cons_zero, List.set_cons_succ]
    refine wpAnyH_ready (rs := [8]) (by kernel_rfl) (by simp) ?_
    refine AllReadyH.cons (o := ⟨some 51, _, _, _, _, _⟩) rfl (fun K hK => ?_) AllReadyH.nil
    go_simp
    refine (same_span r1.lo r1.hi X1 Y1 U1 V1 x1 y1 s1 t1 u1_ v1_ a1 b1 _ LX1.ns.2.2.1 LX1.ns.2.2.2.1 LX1.ns.1 LX1.ns.2.1 G1.lo_small G1.hi_small).mono ?_
    rintro e' v13 ⟨rfl, b3⟩
    have LY1 := LX1.below b3
    clear b3 LX1
    go_wp2_with fail
    refine hK.out _ _ (HC.out _ LY1.ks.2.2.1.1 LY1.ks.2.2.2.1.1) (fun hHeld' => ?_)
    clear hK K hHeld
    have hHeld := hHeld'
    clear hHeld'
    try simp only [Act.put, List.setIfInBounds_toArray, List.set_cons_zero, List.set_cons_succ]
    refine held_more (S' := fun w' => w'.cell? ⟨g1, 1, none⟩ = some (.bool r1.bad) ∧ w'.cell? ⟨h1, 1, none⟩ = some (.bool r1.bad) ∧ w'.cell? ⟨w.heap.size + 1, 0, none⟩ = some (.bool lo.neg) ∧ w'.cell? ⟨w.heap.size + 1, 1, none⟩ = some (.slice A n c) ∧ w'.cell? ⟨w.heap.size + 1, 2, none⟩ = some (.int .i64 lo.e) ∧ w'.cell? ⟨w.heap.size + 1, 3, none⟩ = some (.bool hi.neg) ∧ w'.cell? ⟨w.heap.size + 1, 4, none⟩ = some (.slice B m d) ∧ w'.cell? ⟨w.heap.size + 1, 5, none⟩ = some (.int .i64 hi.e) ∧ w'.cell? ⟨w.heap.size + 1 + 1, 0, none⟩ = some (.bool lo'.neg) ∧ w'.cell? ⟨w.heap.size + 1 + 1, 1, none⟩ = some (.slice A2 n2 c2) ∧ w'.cell? ⟨w.heap.size + 1 + 1, 2, none⟩ = some (.int .i64 lo'.e) ∧ w'.cell? ⟨w.heap.size + 1 + 1, 3, none⟩ = some (.bool hi'.neg) ∧ w'.cell? ⟨w.heap.size + 1 + 1, 4, none⟩ = some (.slice B2 m2 d2) ∧ w'.cell? ⟨w.heap.size + 1 + 1, 5, none⟩ = some (.int .i64 hi'.e)) (fun w h => h.2.2) _ _ _ _ ?_
    have hHeld2 : (fun w' => w'.cell? ⟨g1, 1, none⟩ = some (.bool r1.bad) ∧ w'.cell? ⟨h1, 1, none⟩ = some (.bool r1.bad) ∧ w'.cell? ⟨w.heap.size + 1, 0, none⟩ = some (.bool lo.neg) ∧ w'.cell? ⟨w.heap.size + 1, 1, none⟩ = some (.slice A n c) ∧ w'.cell? ⟨w.heap.size + 1, 2, none⟩ = some (.int .i64 lo.e) ∧ w'.cell? ⟨w.heap.size + 1, 3, none⟩ = some (.bool hi.neg) ∧ w'.cell? ⟨w.heap.size + 1, 4, none⟩ = some (.slice B m d) ∧ w'.cell? ⟨w.heap.size + 1, 5, none⟩ = some (.int .i64 hi.e) ∧ w'.cell? ⟨w.heap.size + 1 + 1, 0, none⟩ = some (.bool lo'.neg) ∧ w'.cell? ⟨w.heap.size + 1 + 1, 1, none⟩ = some (.slice A2 n2 c2) ∧ w'.cell? ⟨w.heap.size + 1 + 1, 2, none⟩ = some (.int .i64 lo'.e) ∧ w'.cell? ⟨w.heap.size + 1 + 1, 3, none⟩ = some (.bool hi'.neg) ∧ w'.cell? ⟨w.heap.size + 1 + 1, 4, none⟩ = some (.slice B2 m2 d2) ∧ w'.cell? ⟨w.heap.size + 1 + 1, 5, none⟩ = some (.int .i64 hi'.e)) v13 := ⟨(show KC 37 _ g1 #[.int .i64 p, .bool r1.bad] from LY1.W).at_ 1 _ rfl, (show KC 38 _ h1 #[.int .i64 p, .bool r1.bad] from LY1.V).at_ 1 _ rfl, HC.out _ LY1.ks.2.2.1.1 LY1.ks.2.2.2.1.1⟩
    clear hHeld
    have hHeld := hHeld2
    clear hHeld2
    have LN2 : L2 w g2 h2 p bad bad v13 [(28, w.heap.size + 1, #[.bool lo.neg, .slice A n c, .int .i64 lo.e, .bool hi.neg, .slice B m d, .int .i64 hi.e]), (28, w.heap.size + 1 + 1, #[.bool lo'.neg, .slice A2 n2 c2, .int .i64 lo'.e, .bool hi'.neg, .slice B2 m2 d2, .int .i64 hi'.e]), (38, h1, #[.int .i64 p, .bool r1.bad]), (37, g1, #[.int .i64 p, .bool r1.bad])] [] := ⟨LY1.bel, LY1.ks.2.1.1, LY1.ks.1.1, by omega, by omega, hne2, ⟨⟨LY1.ks.2.2.1.1, by omega, by omega⟩, ⟨⟨LY1.ks.2.2.2.1.1, by omega, by omega⟩, ⟨⟨LY1.V, by omega, by omega⟩, ⟨⟨LY1.W, by omega, by omega⟩, trivial⟩⟩⟩⟩, trivial⟩
    clear LY1
    refine wpAnyH_take (i := 9) (oi := ⟨some 52, _, _, _, _, _⟩) (v := ?_) rfl (by kernel_rfl) (by kernel_rfl) (by kernel_rfl) (fun _ _ _ h => h) (Or.inl ⟨by rfl, ?_⟩) (by assumption) ?_
    rotate_left
    · intro w hSw
      try dsimp only at hSw
      first | (go_simp; done) | (go_simp; with_reducible rfl)
    try simp only [Act.put, List.setIfInBounds_toArray, List.set_cons_zero, List.set_cons_succ]
    refine wpAnyH_take (i := 10) (oi := ⟨some 53, _, _, _, _, _⟩) (v := ?_) rfl (by kernel_rfl) (by kernel_rfl) (by kernel_rfl) (fun _ _ _ h => h) (Or.inl ⟨by rfl, ?_⟩) (by assumption) ?_
    rotate_left
    · intro w hSw
      try dsimp only at hSw
      first | (go_simp; done) | (go_simp; with_reducible rfl)
    try simp only [Act.put, List.setIfInBounds_toArray, List.set_cons_zero, List.set_cons_succ]
    refine wpAnyH_take (i := 11) (oi := ⟨some 54, _, _, _, _, _⟩) (v := ?_) rfl (by kernel_rfl) (by kernel_rfl) (by kernel_rfl) (fun _ _ _ h => h) (Or.inl ⟨by rfl, ?_⟩) (by assumption) ?_
    rotate_left
    · intro w hSw
      try dsimp only at hSw
      first | (go_simp; done) | (go_simp; with_reducible rfl)
    try simp only [Act.put, List.setIfInBounds_toArray, List.set_cons_zero, List.set_cons_succ]
    refine wpAnyH_take (i := 12) (oi := ⟨some 55, _, _, _, _, _⟩) (v := ?_) rfl (by kernel_rfl) (by kernel_rfl) (by kernel_rfl) (fun _ _ _ h => h) (Or.inl ⟨by rfl, ?_⟩) (by assumption) ?_
    rotate_left
    · intro w hSw
      try dsimp only at hSw
      first | (go_simp; done) | (go_simp; with_reducible rfl)
    try simp only [Act.put, List.setIfInBounds_toArray, List.set_cons_zero, List.set_cons_succ]
    refine wpAnyH_take (i := 13) (oi := ⟨some 56, _, _, _, _, _⟩) (v := ?_) rfl (by kernel_rfl) (by kernel_rfl) (by kernel_rfl) (fun _ _ _ h => h) (Or.inl ⟨by rfl, ?_⟩) (by assumption) ?_
    rotate_left
    · intro w hSw
      try dsimp only at hSw
      first | (go_simp; done) | (go_simp; with_reducible rfl)
    try simp only [Act.put, List.setIfInBounds_toArray, List.set_cons_zero, List.set_cons_succ]
    refine wpAnyH_take (i := 14) (oi := ⟨some 57, _, _, _, _, _⟩) (v := ?_) rfl (by kernel_rfl) (by kernel_rfl) (by kernel_rfl) (fun _ _ _ h => h) (Or.inl ⟨by rfl, ?_⟩) (by assumption) ?_
    rotate_left
    · intro w hSw
      try dsimp only at hSw
      first | (go_simp; done) | (go_simp; with_reducible rfl)
    try simp only [Act.put, List.setIfInBounds_toArray, List.set_cons_zero, List.set_cons_succ]
    refine wpAnyH_take (i := 15) (oi := ⟨some 58, _, _, _, _, _⟩) (v := ?_) rfl (by kernel_rfl) (by kernel_rfl) (by kernel_rfl) (fun _ _ _ h => h) (Or.inl ⟨by rfl, ?_⟩) (by assumption) ?_
    rotate_left
    · intro w hSw
      try dsimp only at hSw
      first | (go_simp; done) | (go_simp; with_reducible rfl)
    try simp only [Act.put, List.setIfInBounds_toArray, List.set_cons_zero, List.set_cons_succ]
    refine wpAnyH_take (i := 16) (oi := ⟨some 59, _, _, _, _, _⟩) (v := ?_) rfl (by kernel_rfl) (by kernel_rfl) (by kernel_rfl) (fun _ _ _ h => h) (Or.inl ⟨by rfl, ?_⟩) (by assumption) ?_
    rotate_left
    · intro w hSw
      try dsimp only at hSw
      first | (go_simp; done) | (go_simp; with_reducible rfl)
    try simp only [Act.put, List.setIfInBounds_toArray, List.set_cons_zero, List.set_cons_succ]
    refine wpAnyH_take (i := 17) (oi := ⟨some 60, _, _, _, _, _⟩) (v := ?_) rfl (by kernel_rfl) (by kernel_rfl) (by kernel_rfl) (fun _ _ _ h => h) (Or.inl ⟨by rfl, ?_⟩) (by assumption) ?_
    rotate_left
    · intro w hSw
      try dsimp only at hSw
      first | (go_simp; done) | (go_simp; with_reducible rfl)
    try simp only [Act.put, List.setIfInBounds_toArray, List.set_cons_zero, List.set_cons_succ]
    refine wpAnyH_take (i := 18) (oi := ⟨some 61, _, _, _, _, _⟩) (v := ?_) rfl (by kernel_rfl) (by kernel_rfl) (by kernel_rfl) (fun _ _ _ h => h) (Or.inl ⟨by rfl, ?_⟩) (by assumption) ?_
    rotate_left
    · intro w hSw
      try dsimp only at hSw
      first | (go_simp; done) | (go_simp; with_reducible rfl)
    try simp only [Act.put, List.setIfInBounds_toArray, List.set_cons_zero, List.set_cons_succ]
    refine wpAnyH_take (i := 19) (oi := ⟨some 62, _, _, _, _, _⟩) (v := ?_) rfl (by kernel_rfl) (by kernel_rfl) (by kernel_rfl) (fun _ _ _ h => h) (Or.inl ⟨by rfl, ?_⟩) (by assumption) ?_
    rotate_left
    · intro w hSw
      try dsimp only at hSw
      first | (go_simp; done) | (go_simp; with_reducible rfl)
    try simp only [Act.put, List.setIfInBounds_toArray, List.set_cons_zero, List.set_cons_succ]
    refine wpAnyH_take (i := 20) (oi := ⟨some 63, _, _, _, _, _⟩) (v := ?_) rfl (by kernel_rfl) (by kernel_rfl) (by kernel_rfl) (fun _ _ _ h => h) (Or.inl ⟨by rfl, ?_⟩) (by assumption) ?_
    rotate_left
    · intro w hSw
      try dsimp only at hSw
      first | (go_simp; done) | (go_simp; with_reducible rfl)
    try simp only [Act.put, List.setIfInBounds_toArray, List.set_cons_zero, List.set_cons_succ]
    refine wpAnyH_take (i := 21) (oi := ⟨some 64, _, _, _, _, _⟩) (v := ?_) rfl (by kernel_rfl) (by kernel_rfl) (by kernel_rfl) (fun _ _ _ h => h) (Or.inl ⟨by rfl, ?_⟩) (by assumption) ?_
    rotate_left
    · intro w hSw
      try dsimp only at hSw
      first | (go_simp; done) | (go_simp; with_reducible rfl)
    try simp only [Act.put, List.setIfInBounds_toArray, List.set_cons_zero, List.set_cons_succ]
    refine wpAnyH_take (i := 22) (oi := ⟨some 65, _, _, _, _, _⟩) (v := ?_) rfl (by kernel_rfl) (by kernel_rfl) (by kernel_rfl) (fun _ _ _ h => h) (Or.inl ⟨by rfl, ?_⟩) (by assumption) ?_
    rotate_left
    · intro w hSw
      try dsimp only at hSw
      first | (go_simp; done) | (go_simp; with_reducible rfl)
    try simp only [Act.put, List.setIfInBounds_toArray, List.set_cons_zero, List.set_cons_succ]
    refine wpAnyH_take (i := 24) (oi := ⟨some 67, _, _, _, _, _⟩) (v := ?_) rfl (by kernel_rfl) (by kernel_rfl) (by kernel_rfl) (fun _ _ _ h => h) (Or.inl ⟨by rfl, ?_⟩) (by assumption) ?_
    rotate_left
    · intro w hSw
      try dsimp only at hSw
      first | (go_simp; done) | (go_simp; with_reducible rfl)
    try simp only [Act.put, List.setIfInBounds_toArray, List.set_cons_zero, List.set_cons_succ]
    refine wpAnyH_take (i := 25) (oi := ⟨some 68, _, _, _, _, _⟩) (v := ?_) rfl (by kernel_rfl) (by kernel_rfl) (by kernel_rfl) (fun _ _ _ h => h) (Or.inl ⟨by rfl, ?_⟩) (by assumption) ?_
    rotate_left
    · intro w hSw
      try dsimp only at hSw
      first | (go_simp; done) | (go_simp; with_reducible rfl)
    try simp only [Act.put, List.setIfInBounds_toArray, List.set_cons_zero, List.set_cons_succ]
    refine wpAnyH_ready (rs := [23]) (by kernel_rfl) (by simp) ?_
    refine AllReadyH.cons (o := ⟨some 66, _, _, _, _, _⟩) rfl (fun K hK => ?_) AllReadyH.nil
    go_simp
    refine (HV2.out _ LN2.bel LN2.W).mono ?_
    rintro e' v21 ⟨X2, x2, y2, Y2, s2, t2, rfl, N1, N2, hW1, o1⟩
    have LA2 := ((LN2.callW o1 hW1).num N2).num N1
    clear N1 N2 hW1 o1 LN2 HV2
    go_wp2_with fail
    refine hK.out _ _ (⟨(show KC 37 _ g1 #[.int .i64 p, .bool r1.bad] from LA2.ks.2.2.2.1.1).at_ 1 _ rfl, (show KC 38 _ h1 #[.int .i64 p, .bool r1.bad] from LA2.ks.2.2.1.1).at_ 1 _ rfl, HC.out _ LA2.ks.1.1 LA2.ks.2.1.1⟩) (fun hHeld' => ?_)
    clear hK K hHeld
    have hHeld := hHeld'
    clear hHeld'
    try simp only [Act.put, List.setIfInBounds_toArray, List.set_cons_zero, List.set_cons_succ]
    refine wpAnyH_ready (rs := [26]) (by kernel_rfl) (by simp) ?_
    refine AllReadyH.cons (o := ⟨some 69, _, _, _, _, _⟩) rfl (fun K hK => ?_) AllReadyH.nil
    go_simp
    refine (HR2.out _ LA2.bel LA2.V).mono ?_
    rintro e' v22 ⟨U2, u2_, v2_, V2, a2, b2, rfl, N3, N4, hV2, o2⟩
    have LX2 := ((LA2.callV o2 hV2).num N4).num N3
    clear N3 N4 hV2 o2 LA2 HR2
    go_wp2_with fail
    refine hK.out _ _ (⟨(show KC 37 _ g1 #[.int .i64 p, .bool r1.bad] from LX2.ks.2.2.2.1.1).at_ 1 _ rfl, (show KC 38 _ h1 #[.int .i64 p, .bool r1.bad] from LX2.ks.2.2.1.1).at_ 1 _ rfl, HC.out _ LX2.ks.1.1 LX2.ks.2.1.1⟩) (fun hHeld' => ?_)
    clear hK K hHeld
    have hHeld := hHeld'
    clear hHeld'
    try simp only [Act.put, List.setIfInBounds_toArray, List.set_cons_zero, List.set_cons_succ]
    refine wpAnyH_ready (rs := [27]) (by kernel_rfl) (by simp) ?_
    refine AllReadyH.cons (o := ⟨some 70, _, _, _, _, _⟩) rfl (fun K hK => ?_) AllReadyH.nil
    go_simp
    refine (same_span r2.lo r2.hi X2 Y2 U2 V2 x2 y2 s2 t2 u2_ v2_ a2 b2 _ LX2.ns.2.2.1 LX2.ns.2.2.2.1 LX2.ns.1 LX2.ns.2.1 G2.lo_small G2.hi_small).mono ?_
    rintro e' v23 ⟨rfl, b3⟩
    have LY2 := LX2.below b3
    clear b3 LX2
    go_wp2_with fail
    refine hK.out _ _ (⟨(show KC 37 _ g1 #[.int .i64 p, .bool r1.bad] from LY2.ks.2.2.2.1.1).at_ 1 _ rfl, (show KC 38 _ h1 #[.int .i64 p, .bool r1.bad] from LY2.ks.2.2.1.1).at_ 1 _ rfl, HC.out _ LY2.ks.1.1 LY2.ks.2.1.1⟩) (fun hHeld' => ?_)
    clear hK K hHeld
    have hHeld := hHeld'
    clear hHeld'
    try simp only [Act.put, List.setIfInBounds_toArray, List.set_cons_zero, List.set_cons_succ]
    refine held_more (S' := fun w' => w'.cell? ⟨g2, 1, none⟩ = some (.bool r2.bad) ∧ w'.cell? ⟨h2, 1, none⟩ = some (.bool r2.bad) ∧ w'.cell? ⟨g1, 1, none⟩ = some (.bool r1.bad) ∧ w'.cell? ⟨h1, 1, none⟩ = some (.bool r1.bad) ∧ w'.cell? ⟨w.heap.size + 1, 0, none⟩ = some (.bool lo.neg) ∧ w'.cell? ⟨w.heap.size + 1, 1, none⟩ = some (.slice A n c) ∧ w'.cell? ⟨w.heap.size + 1, 2, none⟩ = some (.int .i64 lo.e) ∧ w'.cell? ⟨w.heap.size + 1, 3, none⟩ = some (.bool hi.neg) ∧ w'.cell? ⟨w.heap.size + 1, 4, none⟩ = some (.slice B m d) ∧ w'.cell? ⟨w.heap.size + 1, 5, none⟩ = some (.int .i64 hi.e) ∧ w'.cell? ⟨w.heap.size + 1 + 1, 0, none⟩ = some (.bool lo'.neg) ∧ w'.cell? ⟨w.heap.size + 1 + 1, 1, none⟩ = some (.slice A2 n2 c2) ∧ w'.cell? ⟨w.heap.size + 1 + 1, 2, none⟩ = some (.int .i64 lo'.e) ∧ w'.cell? ⟨w.heap.size + 1 + 1, 3, none⟩ = some (.bool hi'.neg) ∧ w'.cell? ⟨w.heap.size + 1 + 1, 4, none⟩ = some (.slice B2 m2 d2) ∧ w'.cell? ⟨w.heap.size + 1 + 1, 5, none⟩ = some (.int .i64 hi'.e)) (fun w h => h.2.2) _ _ _ _ ?_
    have hHeld2 : (fun w' => w'.cell? ⟨g2, 1, none⟩ = some (.bool r2.bad) ∧ w'.cell? ⟨h2, 1, none⟩ = some (.bool r2.bad) ∧ w'.cell? ⟨g1, 1, none⟩ = some (.bool r1.bad) ∧ w'.cell? ⟨h1, 1, none⟩ = some (.bool r1.bad) ∧ w'.cell? ⟨w.heap.size + 1, 0, none⟩ = some (.bool lo.neg) ∧ w'.cell? ⟨w.heap.size + 1, 1, none⟩ = some (.slice A n c) ∧ w'.cell? ⟨w.heap.size + 1, 2, none⟩ = some (.int .i64 lo.e) ∧ w'.cell? ⟨w.heap.size + 1, 3, none⟩ = some (.bool hi.neg) ∧ w'.cell? ⟨w.heap.size + 1, 4, none⟩ = some (.slice B m d) ∧ w'.cell? ⟨w.heap.size + 1, 5, none⟩ = some (.int .i64 hi.e) ∧ w'.cell? ⟨w.heap.size + 1 + 1, 0, none⟩ = some (.bool lo'.neg) ∧ w'.cell? ⟨w.heap.size + 1 + 1, 1, none⟩ = some (.slice A2 n2 c2) ∧ w'.cell? ⟨w.heap.size + 1 + 1, 2, none⟩ = some (.int .i64 lo'.e) ∧ w'.cell? ⟨w.heap.size + 1 + 1, 3, none⟩ = some (.bool hi'.neg) ∧ w'.cell? ⟨w.heap.size + 1 + 1, 4, none⟩ = some (.slice B2 m2 d2) ∧ w'.cell? ⟨w.heap.size + 1 + 1, 5, none⟩ = some (.int .i64 hi'.e)) v23 := ⟨(show KC 37 _ g2 #[.int .i64 p, .bool r2.bad] from LY2.W).at_ 1 _ rfl, (show KC 38 _ h2 #[.int .i64 p, .bool r2.bad] from LY2.V).at_ 1 _ rfl, (show KC 37 _ g1 #[.int .i64 p, .bool r1.bad] from LY2.ks.2.2.2.1.1).at_ 1 _ rfl, (show KC 38 _ h1 #[.int .i64 p, .bool r1.bad] from LY2.ks.2.2.1.1).at_ 1 _ rfl, HC.out _ LY2.ks.1.1 LY2.ks.2.1.1⟩
    clear hHeld
    have hHeld := hHeld2
    clear hHeld2
    refine wpAnyH_take (i := 28) (oi := ⟨some 71, _, _, _, _, _⟩) (v := ?_) rfl (by kernel_rfl) (by kernel_rfl) (by kernel_rfl) (fun _ _ _ h => h) (Or.inl ⟨by rfl, ?_⟩) (by assumption) ?_
    rotate_left
    · intro w hSw
      try dsimp only at hSw
      first | (go_simp; done) | (go_simp; with_reducible rfl)
    try simp only [Act.put, List.setIfInBounds_toArray, List.set_cons_zero, List.set_cons_succ]
    refine wpAnyH_take (i := 29) (oi := ⟨some 72, _, _, _, _, _⟩) (v := ?_) rfl (by kernel_rfl) (by kernel_rfl) (by kernel_rfl) (fun _ _ _ h => h) (Or.inl ⟨by rfl, ?_⟩) (by assumption) ?_
    rotate_left
    · intro w hSw
      try dsimp only at hSw
      first | (go_simp; done) | (go_simp; with_reducible rfl)
    try simp only [Act.put, List.setIfInBounds_toArray, List.set_cons_zero, List.set_cons_succ]
    refine wpAnyH_take (i := 30) (oi := ⟨some 73, _, _, _, _, _⟩) (v := ?_) rfl (by kernel_rfl) (by kernel_rfl) (by kernel_rfl) (fun _ _ _ h => h) (Or.inl ⟨by rfl, ?_⟩) (by assumption) ?_
    rotate_left
    · intro w hSw
      try dsimp only at hSw
      first | (go_simp; done) | (go_simp; with_reducible rfl)
    try simp only [Act.put, List.setIfInBounds_toArray, List.set_cons_zero, List.set_cons_succ]
    refine wpAnyH_take (i := 31) (oi := ⟨some 74, _, _, _, _, _⟩) (v := ?_) rfl (by kernel_rfl) (by kernel_rfl) (by kernel_rfl) (fun _ _ _ h => h) (Or.inl ⟨by rfl, ?_⟩) (by assumption) ?_
    rotate_left
    · intro w hSw
      try dsimp only at hSw
      first | (go_simp; done) | (go_simp; with_reducible rfl)
    try simp only [Act.put, List.setIfInBounds_toArray, List.set_cons_zero, List.set_cons_succ]
    refine wpAnyH_take (i := 32) (oi := ⟨some 75, _, _, _, _, _⟩) (v := ?_) rfl (by kernel_rfl) (by kernel_rfl) (by kernel_rfl) (fun _ _ _ h => h) (Or.inl ⟨by rfl, ?_⟩) (by assumption) ?_
    rotate_left
    · intro w hSw
      try dsimp only at hSw
      first | (go_simp; done) | (go_simp; with_reducible rfl)
    try simp only [Act.put, List.setIfInBounds_toArray, List.set_cons_zero, List.set_cons_succ]
    refine wpAnyH_take (i := 33) (oi := ⟨some 76, _, _, _, _, _⟩) (v := ?_) rfl (by kernel_rfl) (by kernel_rfl) (by kernel_rfl) (fun _ _ _ h => h) (Or.inl ⟨by rfl, ?_⟩) (by assumption) ?_
    rotate_left
    · intro w hSw
      try dsimp only at hSw
      first | (go_simp; done) | (go_simp; with_reducible rfl)
    try simp only [Act.put, List.setIfInBounds_toArray, List.set_cons_zero, List.set_cons_succ]
    refine wpAnyH_take (i := 34) (oi := ⟨some 77, _, _, _, _, _⟩) (v := ?_) rfl (by kernel_rfl) (by kernel_rfl) (by kernel_rfl) (fun _ _ _ h => h) (Or.inl ⟨by rfl, ?_⟩) (by assumption) ?_
    rotate_left
    · intro w hSw
      try dsimp only at hSw
      first | (go_simp; done) | (go_simp; with_reducible rfl)
    try simp only [Act.put, List.setIfInBounds_toArray, List.set_cons_zero, List.set_cons_succ]
    refine wpAnyH_take (i := 35) (oi := ⟨some 78, _, _, _, _, _⟩) (v := ?_) rfl (by kernel_rfl) (by kernel_rfl) (by kernel_rfl) (fun _ _ _ h => h) (Or.inl ⟨by rfl, ?_⟩) (by assumption) ?_
    rotate_left
    · intro w hSw
      try dsimp only at hSw
      first | (go_simp; done) | (go_simp; with_reducible rfl)
    try simp only [Act.put, List.setIfInBounds_toArray, List.set_cons_zero, List.set_cons_succ]
    refine wpAnyH_take (i := 36) (oi := ⟨some 79, _, _, _, _, _⟩) (v := ?_) rfl (by kernel_rfl) (by kernel_rfl) (by kernel_rfl) (fun _ _ _ h => h) (Or.inl ⟨by rfl, ?_⟩) (by assumption) ?_
    rotate_left
    · intro w hSw
      try dsimp only at hSw
      first | (go_simp; done) | (go_simp; with_reducible rfl)
    try simp only [Act.put, List.setIfInBounds_toArray, List.set_cons_zero, List.set_cons_succ]
    refine wpAnyH_take (i := 37) (oi := ⟨some 80, _, _, _, _, _⟩) (v := ?_) rfl (by kernel_rfl) (by kernel_rfl) (by kernel_rfl) (fun _ _ _ h => h) (Or.inl ⟨by rfl, ?_⟩) (by assumption) ?_
    rotate_left
    · intro w hSw
      try dsimp only at hSw
      first | (go_simp; done) | (go_simp; with_reducible rfl)
    try simp only [Act.put, List.setIfInBounds_toArray, List.set_cons_zero, List.set_cons_succ]
    refine wpAnyH_take (i := 38) (oi := ⟨some 81, _, _, _, _, _⟩) (v := ?_) rfl (by kernel_rfl) (by kernel_rfl) (by kernel_rfl) (fun _ _ _ h => h) (Or.inl ⟨by rfl, ?_⟩) (by assumption) ?_
    rotate_left
    · intro w hSw
      try dsimp only at hSw
      first | (go_simp; done) | (go_simp; with_reducible rfl)
    try simp only [Act.put, List.setIfInBounds_toArray, List.set_cons_zero, List.set_cons_succ]
    refine wpAnyH_take (i := 39) (oi := ⟨some 82, _, _, _, _, _⟩) (v := ?_) rfl (by kernel_rfl) (by kernel_rfl) (by kernel_rfl) (fun _ _ _ h => h) (Or.inl ⟨by rfl, ?_⟩) (by assumption) ?_
    rotate_left
    · intro w hSw
      try dsimp only at hSw
      first | (go_simp; done) | (go_simp; with_reducible rfl)
    try simp only [Act.put, List.setIfInBounds_toArray, List.set_cons_zero, List.set_cons_succ]
    refine wpAnyH_take (i := 40) (oi := ⟨some 6, _, _, _, _, _⟩) (v := ?_) rfl (by kernel_rfl) (by kernel_rfl) (by kernel_rfl) (fun _ _ _ h => h) (Or.inl ⟨by rfl, ?_⟩) (by assumption) ?_
    rotate_left
    · intro w hSw
      try dsimp only at hSw
      first | (go_simp; done) | (go_simp; with_reducible rfl)
    try simp only [Act.put, List.setIfInBounds_toArray, List.set_cons_zero, List.set_cons_succ]
    refine wpAnyH_done (by kernel_rfl) ?_ _
    go_wp2_with fail
    go_ret
    exact ⟨rfl, LY2.bel⟩)
end Go.Proofs.YtljioadppdpdiaaGreatDoor
