/-
  The law SpanOthers.
-/
import Derived.Deep.CutBlock
import Derived.Test.YtadieepcpkpblaaDoorPkSp6
import Derived.Test.YtadieepcpkpblaaDoorPkSp5
import Derived.Test.YtadieepcpkpblaaDoorPkSp8
import Derived.Test.YtadieepcpkpblaaDoorPkSp4
namespace Go.Proofs.YtadieepcpkpblaaDoor
open Go.RowKit

set_option maxRecDepth 8000 in
set_option maxHeartbeats 8000000 in
theorem others_any (p : Int) (bad na nb' : Bool) (A B : Option Addr) (n c m d : Nat) (x y : Nat → Nat) (ea eb k : Int) (w : World) (ha : Sl w A n c x) (hb : Sl w B m d y) (hn : n ≤ 9223372036854775807) (hm : m ≤ 9223372036854775807) (hT : Tab w) (hk1 : -9223372036854775808 ≤ k) (hk2 : k ≤ 9223372036854775807) :
    Calls Tryd.prog 3 #[.agg #[.int .i64 p, .bool bad], spv na A n c ea nb' B m d eb, .int .i64 k] w (TruePost w) := by
  have b1 := below_step (alloc_bel w (ck2 (.int .i64 p) (.bool bad))) (alloc_bel _ (co6 (.bool na) (.slice A n c) (.int .i64 ea) (.bool nb') (.slice B m d) (.int .i64 eb)))
  have kA := KC.made 28 (w.alloc (ck2 (.int .i64 p) (.bool bad))) #[.bool na, .slice A n c, .int .i64 ea, .bool nb', .slice B m d, .int .i64 eb]
  rw [show (w.alloc (ck2 (.int .i64 p) (.bool bad))).heap.size = w.heap.size + 1 by simp] at kA
  have kK := (KC.made 23 w #[.int .i64 p, .bool bad]).adv (alloc_bel _ (co6 (.bool na) (.slice A n c) (.int .i64 ea) (.bool nb') (.slice B m d) (.int .i64 eb)))
  go_enter Tryd.func3, Tryd.ntmps3
  go_wp2_with fail
  generalize (w.alloc (ck2 (.int .i64 p) (.bool bad))).alloc (co6 (.bool na) (.slice A n c) (.int .i64 ea) (.bool nb') (.slice B m d) (.int .i64 eb)) = w1 at *
  refine (awake3 w1 (hT.below b1)).mono ?_
  rintro e' w2 ⟨rfl, b2⟩
  have B2 := below_step b1 b2
  have kA2 := kA.adv b2
  have kK2 := kK.adv b2
  clear b1 b2 kA kK
  have FW := few3_any (some ⟨w2.heap.size, 0, none⟩) 1 1 _ _ (sls_one na nb' A B n c m d x y ea eb w2 (ha.below B2) (hb.below B2)) (by omega) (fun j _ => ⟨hn, hm⟩)
  have hfe : few3L (one na nb' A B n c m d x y ea eb) 1 = few3 n m ea eb := by
    show (true && few3 n m ea eb) = few3 n m ea eb
    rw [Bool.true_and]
  rw [hfe] at FW
  have HFW := Lib.hid FW
  clear FW hfe
  have i0 := kA2.at_ 0 _ rfl
  have i1 := kA2.at_ 1 _ rfl
  have i2 := kA2.at_ 2 _ rfl
  have i3 := kA2.at_ 3 _ rfl
  have i4 := kA2.at_ 4 _ rfl
  have i5 := kA2.at_ 5 _ rfl
  go_wp2_with fail
  refine HFW.out.mono ?_
  have b3 := alloc_bel w2 (co6 (.bool na) (.slice A n c) (.int .i64 ea) (.bool nb') (.slice B m d) (.int .i64 eb))
  have kA3 := kA2.adv b3
  have kK3 := kK2.adv b3
  have B3 := below_step B2 b3
  clear i0 i1 i2 i3 i4 i5 HFW kA2 kK2 B2 b3
  generalize w2.alloc (co6 (.bool na) (.slice A n c) (.int .i64 ea) (.bool nb') (.slice B m d) (.int .i64 eb)) = w3 at *
  rintro e' w4 ⟨rfl, b4⟩
  have kA4 := kA3.adv b4
  have kK4 := kK3.adv b4
  have B4 := below_step B3 b4
  clear kA3 kK3 B3 b4
  by_cases hf : few3 n m ea eb = true
  rotate_left
  · have hf' : few3 n m ea eb = false := by simpa using hf
    rw [hf']
    go_wp2_with fail
    go_ret
    exact ⟨rfl, B4⟩
  rw [hf]
  have hfw := few3_true hf
  clear hf
  have k0 := kK4.at_ 0 _ rfl
  have k1 := kK4.at_ 1 _ rfl
  go_wp2_with fail
  refine (fit_any p bad w4).mono ?_
  rintro e' w5 ⟨rfl, b5⟩
  have kA5 := kA4.adv b5
  have kK5 := kK4.adv b5
  have B5 := below_step B4 b5
  clear kA4 kK4 B4 b5 k0 k1
  by_cases hf : fitK p = true
  rotate_left
  · have hf' : fitK p = false := by simpa using hf
    rw [hf']
    go_wp2_with fail
    go_ret
    exact ⟨rfl, B5⟩
  rw [hf]
  clear hf
  have k0 := kK5.at_ 0 _ rfl
  have k1 := kK5.at_ 1 _ rfl
  go_wp2_with fail
  refine (works_any p bad w5).mono ?_
  rintro e' w6 ⟨g, h, rfl, hW, hV, hgh, hg5, hh5, b6⟩
  have kA6 := kA5.adv b6
  have B6 := below_step B5 b6
  have hz5 := kA5.2
  have L0 : L2 w g h p bad bad w6 [(28, w.heap.size + 1, #[.bool na, .slice A n c, .int .i64 ea, .bool nb', .slice B m d, .int .i64 eb])] [] := ⟨B6, hW, hV, Nat.le_trans B5.size hg5, Nat.le_trans B5.size hh5, hgh, ⟨⟨kA6, by omega, by omega⟩, trivial⟩, trivial⟩
  clear kA5 kK5 B5 k0 k1 hW hV kA6 B6 b6 hz5 hg5 hh5 hgh
  have da : Hid (∀ w', Below w.heap.size w w' → DIn w' A n c ⟨plainB na n x ea, na, vs B64 x n, ea⟩) := Lib.hid (fun w' h => DIn.raw (ha.below h) (by omega))
  have db : Hid (∀ w', Below w.heap.size w w' → DIn w' B m d ⟨plainB nb' m y eb, nb', vs B64 y m, eb⟩) := Lib.hid (fun w' h => DIn.raw (hb.below h) (by omega))
  obtain ⟨lo, hlo⟩ : ∃ r : DR, r = ⟨plainB na n x ea, na, vs B64 x n, ea⟩ := ⟨_, rfl⟩
  obtain ⟨hi, hhi⟩ : ∃ r : DR, r = ⟨plainB nb' m y eb, nb', vs B64 y m, eb⟩ := ⟨_, rfl⟩
  rw [← hlo] at da
  rw [← hhi] at db
  have el : na = lo.neg := by rw [hlo]
  have el2 : ea = lo.e := by rw [hlo]
  have eh : nb' = hi.neg := by rw [hhi]
  have eh2 : eb = hi.e := by rw [hhi]
  have HTab : Hid (∀ w', Below w.heap.size w w' → Tab w') := Lib.hid (fun w' h => hT.below h)
  clear hlo hhi ha hb hfw hn hm hT
  subst el el2 eh eh2
  have P1 : Hid (lo.ok = true → PlainR lo) := Lib.hid (fun h => (da.out w (Below.refl _ w)).plain h)
  have P2 : Hid (hi.ok = true → PlainR hi) := Lib.hid (fun h => (db.out w (Below.refl _ w)).plain h)
  go_wp2_with fail
  go_loopw [29] (fun s29 wr => ∃ i : Nat, i ≤ 6 ∧ s29 = .int .i64 (i : Int) ∧ ∃ bd, L2 w g h p bd bd wr [(28, w.heap.size + 1, #[.bool lo.neg, .slice A n c, .int .i64 lo.e, .bool hi.neg, .slice B m d, .int .i64 hi.e])] []) (fun s29 _ => 6 - (intOf s29).toNat)
  case atStart => exact ⟨0, by omega, rfl, bad, L0⟩
  case round =>
    clear L0
    obtain ⟨i, hi6, rfl, bd, L⟩ := hrel
    by_cases hlt : i < 6
    · skip
      have hlt' : (i : Int) < 6 := by omega
      have LA : L2 w g h p bd bd ((wr.alloc z6).alloc z6) [(28, wr.heap.size + 1, zs), (28, wr.heap.size, zs), (28, w.heap.size + 1, #[.bool lo.neg, .slice A n c, .int .i64 lo.e, .bool hi.neg, .slice B m d, .int .i64 hi.e])] [] := by
        have := (L.alloc 28 zs).alloc 28 zs
        rw [show (wr.alloc (.cells zs 28)).heap.size = wr.heap.size + 1 by simp] at this
        exact this
      have hs0 : w.heap.size + 1 < wr.heap.size := L.ks.1.1.2
      clear L
      go_upto_block 2 with fail
      generalize (wr.alloc z6).alloc z6 = y at *
      generalize wr.heap.size = s0 at *
      clear wr
      go_cut [] (fun wx => ∃ r A1 n1 c1 B1 m1 d1 A2 n2 c2 B2 m2 d2, SGood r ∧ L2 w g h p r.bad r.bad wx [(28, s0 + 1, #[.bool r.lo.neg, .slice A2 n2 c2, .int .i64 r.lo.e, .bool r.hi.neg, .slice B2 m2 d2, .int .i64 r.hi.e]), (28, s0, #[.bool r.lo.neg, .slice A1 n1 c1, .int .i64 r.lo.e, .bool r.hi.neg, .slice B1 m1 d1, .int .i64 r.hi.e]), (28, w.heap.size + 1, #[.bool lo.neg, .slice A n c, .int .i64 lo.e, .bool hi.neg, .slice B m d, .int .i64 hi.e])] [(.slice A2 n2 c2, r.lo.m), (.slice B2 m2 d2, r.hi.m), (.slice A1 n1 c1, r.lo.m), (.slice B1 m1 d1, r.hi.m)])
      case first =>
        have hcs : i = 0 ∨ i = 1 ∨ i = 2 ∨ i = 3 ∨ i = 4 ∨ i = 5 := by omega
        clear hlt hlt' hi6
        rcases hcs with rfl | rfl | rfl | rfl | rfl | rfl
        · skip
          obtain ⟨r, hr⟩ : ∃ r, r = negS p bd lo hi := ⟨_, rfl⟩
          have G : SGood r := by rw [hr]; exact sgood_two (plIf_negI P2.out) (plIf_negI P1.out)
          have HV : Hid (∀ w', Below w.heap.size w w' → Wk 41 w' g p bd → Calls Tryd.prog 8 #[.pointer (some ⟨g, 0, none⟩), spv lo.neg A n c lo.e hi.neg B m d hi.e] w' (SPost 41 w' g p r)) := Lib.hid (fun w' b k' => by rw [hr]; exact neg_I g p bd w' k' (da.out w' b) (db.out w' b) (HTab.out w' b))
          have HR : Hid (∀ w', Below w.heap.size w w' → Wk 42 w' h p bd → Calls Tryd.prog 9 #[.pointer (some ⟨h, 0, none⟩), spv lo.neg A n c lo.e hi.neg B m d hi.e] w' (SPost 42 w' h p r)) := Lib.hid (fun w' b k' => by rw [hr]; exact rneg_I h p bd w' k' (da.out w' b) (db.out w' b) (HTab.out w' b))
          clear hr da db HTab P1 P2
          go_upto_region 12 with fail
          have LD := LA.drew
          clear LA
          have i0 := LD.ks.2.2.1.1.at_ 0 _ rfl
          have i1 := LD.ks.2.2.1.1.at_ 1 _ rfl
          have i2 := LD.ks.2.2.1.1.at_ 2 _ rfl
          have i3 := LD.ks.2.2.1.1.at_ 3 _ rfl
          have i4 := LD.ks.2.2.1.1.at_ 4 _ rfl
          have i5 := LD.ks.2.2.1.1.at_ 5 _ rfl
          go_region_with (first
              | (go_at_call 8; refine (HV.out _ LD.bel LD.W).mono ?_; rintro e' v1 ⟨A1, n1, c1, B1, m1, d1, rfl, N1, N2, hW1, o1⟩; have L1 := ((LD.callW o1 hW1).num N2).num N1; have j0 := L1.ks.2.2.1.1.at_ 0 _ rfl; have j1 := L1.ks.2.2.1.1.at_ 1 _ rfl; have j2 := L1.ks.2.2.1.1.at_ 2 _ rfl; have j3 := L1.ks.2.2.1.1.at_ 3 _ rfl; have j4 := L1.ks.2.2.1.1.at_ 4 _ rfl; have j5 := L1.ks.2.2.1.1.at_ 5 _ rfl)
              | (go_at_call 9; refine (HR.out _ L1.bel L1.V).mono ?_; rintro e' v2 ⟨A2, n2, c2, B2, m2, d2, rfl, N3, N4, hV2, o2⟩; have L9 := ((L1.callV o2 hV2).num N4).num N3; have t0 := L9.ks.1.1.at_ 0 _ rfl; have t1 := L9.ks.1.1.at_ 1 _ rfl; have t2 := L9.ks.1.1.at_ 2 _ rfl; have t3 := L9.ks.1.1.at_ 3 _ rfl; have t4 := L9.ks.1.1.at_ 4 _ rfl; have t5 := L9.ks.1.1.at_ 5 _ rfl; have tf0 := L9.ks.1.1.fr 0; have tf1 := L9.ks.1.1.fr 1; have tf2 := L9.ks.1.1.fr 2; have tf3 := L9.ks.1.1.fr 3; have tf4 := L9.ks.1.1.fr 4; have tf5 := L9.ks.1.1.fr 5; have s0 := L9.ks.2.1.1.at_ 0 _ rfl; have s1 := L9.ks.2.1.1.at_ 1 _ rfl; have s2 := L9.ks.2.1.1.at_ 2 _ rfl; have s3 := L9.ks.2.1.1.at_ 3 _ rfl; have s4 := L9.ks.2.1.1.at_ 4 _ rfl; have s5 := L9.ks.2.1.1.at_ 5 _ rfl; have sf0 := L9.ks.2.1.1.fr 0; have sf1 := L9.ks.2.1.1.fr 1; have sf2 := L9.ks.2.1.1.fr 2; have sf3 := L9.ks.2.1.1.fr 3; have sf4 := L9.ks.2.1.1.fr 4; have sf5 := L9.ks.2.1.1.fr 5))
          all_goals (
            go_wp2_with fail
            go_meet
            exact ⟨r, A1, n1, c1, B1, m1, d1, A2, n2, c2, B2, m2, d2, G, L9.put2 (by omega) (by omega) (by omega) ⟨by omega, trivial⟩ ⟨by omega, trivial⟩ _ _ _ _ _ _ _ _ _ _ _ _⟩)
        · skip
          obtain ⟨r, hr⟩ : ∃ r, r = outS p bd lo hi := ⟨_, rfl⟩
          have G : SGood r := by rw [hr]; exact sgood_two (plIf_cutI _ _ _) (plIf_cutI _ _ _)
          have HV : Hid (∀ w', Below w.heap.size w w' → Wk 41 w' g p bd → Calls Tryd.prog 10 #[.pointer (some ⟨g, 0, none⟩), spv lo.neg A n c lo.e hi.neg B m d hi.e] w' (SPost 41 w' g p r)) := Lib.hid (fun w' b k' => by rw [hr]; exact sout_any g p bd w' k' (da.out w' b) (db.out w' b) (HTab.out w' b))
          have HR : Hid (∀ w', Below w.heap.size w w' → Wk 42 w' h p bd → Calls Tryd.prog 11 #[.pointer (some ⟨h, 0, none⟩), spv lo.neg A n c lo.e hi.neg B m d hi.e] w' (SPost 42 w' h p r)) := Lib.hid (fun w' b k' => by rw [hr]; exact rout_any h p bd w' k' (da.out w' b) (db.out w' b) (HTab.out w' b))
          clear hr da db HTab P1 P2
          go_upto_region 14 with fail
          have LD := LA.drew
          clear LA
          have i0 := LD.ks.2.2.1.1.at_ 0 _ rfl
          have i1 := LD.ks.2.2.1.1.at_ 1 _ rfl
          have i2 := LD.ks.2.2.1.1.at_ 2 _ rfl
          have i3 := LD.ks.2.2.1.1.at_ 3 _ rfl
          have i4 := LD.ks.2.2.1.1.at_ 4 _ rfl
          have i5 := LD.ks.2.2.1.1.at_ 5 _ rfl
          go_region_with (first
              | (go_at_call 10; refine (HV.out _ LD.bel LD.W).mono ?_; rintro e' v1 ⟨A1, n1, c1, B1, m1, d1, rfl, N1, N2, hW1, o1⟩; have L1 := ((LD.callW o1 hW1).num N2).num N1; have j0 := L1.ks.2.2.1.1.at_ 0 _ rfl; have j1 := L1.ks.2.2.1.1.at_ 1 _ rfl; have j2 := L1.ks.2.2.1.1.at_ 2 _ rfl; have j3 := L1.ks.2.2.1.1.at_ 3 _ rfl; have j4 := L1.ks.2.2.1.1.at_ 4 _ rfl; have j5 := L1.ks.2.2.1.1.at_ 5 _ rfl)
              | (go_at_call 11; refine (HR.out _ L1.bel L1.V).mono ?_; rintro e' v2 ⟨A2, n2, c2, B2, m2, d2, rfl, N3, N4, hV2, o2⟩; have L9 := ((L1.callV o2 hV2).num N4).num N3; have t0 := L9.ks.1.1.at_ 0 _ rfl; have t1 := L9.ks.1.1.at_ 1 _ rfl; have t2 := L9.ks.1.1.at_ 2 _ rfl; have t3 := L9.ks.1.1.at_ 3 _ rfl; have t4 := L9.ks.1.1.at_ 4 _ rfl; have t5 := L9.ks.1.1.at_ 5 _ rfl; have tf0 := L9.ks.1.1.fr 0; have tf1 := L9.ks.1.1.fr 1; have tf2 := L9.ks.1.1.fr 2; have tf3 := L9.ks.1.1.fr 3; have tf4 := L9.ks.1.1.fr 4; have tf5 := L9.ks.1.1.fr 5; have s0 := L9.ks.2.1.1.at_ 0 _ rfl; have s1 := L9.ks.2.1.1.at_ 1 _ rfl; have s2 := L9.ks.2.1.1.at_ 2 _ rfl; have s3 := L9.ks.2.1.1.at_ 3 _ rfl; have s4 := L9.ks.2.1.1.at_ 4 _ rfl; have s5 := L9.ks.2.1.1.at_ 5 _ rfl; have sf0 := L9.ks.2.1.1.fr 0; have sf1 := L9.ks.2.1.1.fr 1; have sf2 := L9.ks.2.1.1.fr 2; have sf3 := L9.ks.2.1.1.fr 3; have sf4 := L9.ks.2.1.1.fr 4; have sf5 := L9.ks.2.1.1.fr 5))
          all_goals (
            go_wp2_with fail
            go_meet
            exact ⟨r, A1, n1, c1, B1, m1, d1, A2, n2, c2, B2, m2, d2, G, L9.put2 (by omega) (by omega) (by omega) ⟨by omega, trivial⟩ ⟨by omega, trivial⟩ _ _ _ _ _ _ _ _ _ _ _ _⟩)
        · skip
          obtain ⟨r, hr⟩ : ∃ r, r = numS p bd k := ⟨_, rfl⟩
          have G : SGood r := by rw [hr]; exact sgood_num hk1 hk2
          have HV : Hid (∀ w', Below w.heap.size w w' → Wk 41 w' g p bd → Calls Tryd.prog 12 #[.pointer (some ⟨g, 0, none⟩), .int .i64 k] w' (SPost 41 w' g p r)) := Lib.hid (fun w' b k' => by rw [hr]; exact num_any k g p bd w' k' (HTab.out w' b) hk1 hk2)
          have HR : Hid (∀ w', Below w.heap.size w w' → Wk 42 w' h p bd → Calls Tryd.prog 13 #[.pointer (some ⟨h, 0, none⟩), .int .i64 k] w' (SPost 42 w' h p r)) := Lib.hid (fun w' b k' => by rw [hr]; exact rnum_any k h p bd w' k' (HTab.out w' b) hk1 hk2)
          clear hr da db HTab P1 P2
          go_wp2_with fail
          refine (HV.out _ LA.bel LA.W).mono ?_
          rintro e' v1 ⟨A1, n1, c1, B1, m1, d1, rfl, N1, N2, hW1, o1⟩
          have L1 := ((LA.callW o1 hW1).num N2).num N1
          clear LA HV N1 N2 hW1 o1
          go_wp2_with fail
          refine (HR.out _ L1.bel L1.V).mono ?_
          rintro e' v2 ⟨A2, n2, c2, B2, m2, d2, rfl, N3, N4, hV2, o2⟩
          have L9 := ((L1.callV o2 hV2).num N4).num N3
          clear L1 HR N3 N4 hV2 o2
          have t0 := L9.ks.1.1.at_ 0 _ rfl
          have t1 := L9.ks.1.1.at_ 1 _ rfl
          have t2 := L9.ks.1.1.at_ 2 _ rfl
          have t3 := L9.ks.1.1.at_ 3 _ rfl
          have t4 := L9.ks.1.1.at_ 4 _ rfl
          have t5 := L9.ks.1.1.at_ 5 _ rfl
          have tf0 := L9.ks.1.1.fr 0
          have tf1 := L9.ks.1.1.fr 1
          have tf2 := L9.ks.1.1.fr 2
          have tf3 := L9.ks.1.1.fr 3
          have tf4 := L9.ks.1.1.fr 4
          have tf5 := L9.ks.1.1.fr 5
          have s0 := L9.ks.2.1.1.at_ 0 _ rfl
          have s1 := L9.ks.2.1.1.at_ 1 _ rfl
          have s2 := L9.ks.2.1.1.at_ 2 _ rfl
          have s3 := L9.ks.2.1.1.at_ 3 _ rfl
          have s4 := L9.ks.2.1.1.at_ 4 _ rfl
          have s5 := L9.ks.2.1.1.at_ 5 _ rfl
          have sf0 := L9.ks.2.1.1.fr 0
          have sf1 := L9.ks.2.1.1.fr 1
          have sf2 := L9.ks.2.1.1.fr 2
          have sf3 := L9.ks.2.1.1.fr 3
          have sf4 := L9.ks.2.1.1.fr 4
          have sf5 := L9.ks.2.1.1.fr 5
          all_goals (
            go_wp2_with fail
            go_meet
            exact ⟨r, A1, n1, c1, B1, m1, d1, A2, n2, c2, B2, m2, d2, G, L9.put2 (by omega) (by omega) (by omega) ⟨by omega, trivial⟩ ⟨by omega, trivial⟩ _ _ _ _ _ _ _ _ _ _ _ _⟩)
        · skip
          obtain ⟨x, hx⟩ : ∃ x, x = numS p bd k := ⟨_, rfl⟩
          have GX : SGood x := by rw [hx]; exact sgood_num hk1 hk2
          obtain ⟨r, hr⟩ : ∃ r, r = hullS p x.bad lo hi x.lo x.hi := ⟨_, rfl⟩
          have G : SGood r := by rw [hr]; exact sgood_hull P1.out P2.out (fun _ => plainR_of GX.l2) (fun _ => plainR_of GX.h2)
          have HV : Hid (∀ w', Below w.heap.size w w' → Wk 41 w' g p bd → Calls Tryd.prog 12 #[.pointer (some ⟨g, 0, none⟩), .int .i64 k] w' (SPost 41 w' g p x)) := Lib.hid (fun w' b k' => by rw [hx]; exact num_any k g p bd w' k' (HTab.out w' b) hk1 hk2)
          have HR : Hid (∀ w', Below w.heap.size w w' → Wk 42 w' h p bd → Calls Tryd.prog 13 #[.pointer (some ⟨h, 0, none⟩), .int .i64 k] w' (SPost 42 w' h p x)) := Lib.hid (fun w' b k' => by rw [hx]; exact rnum_any k h p bd w' k' (HTab.out w' b) hk1 hk2)
          have HV2 : Hid (∀ w' X1 x1 y1 X2 x2 y2, Below w.heap.size w w' → Wk 41 w' g p x.bad → Num w' (.slice X1 x1 y1) x.lo.m → Num w' (.slice X2 x2 y2) x.hi.m → Calls Tryd.prog 14 #[.pointer (some ⟨g, 0, none⟩), spv lo.neg A n c lo.e hi.neg B m d hi.e, spv x.lo.neg X1 x1 y1 x.lo.e x.hi.neg X2 x2 y2 x.hi.e] w' (SPost 41 w' g p r)) := Lib.hid (fun w' X1 x1 y1 X2 x2 y2 b k' N1 N2 => by rw [hr]; exact hull_any g p x.bad w' k' (da.out w' b) (db.out w' b) (DIn.of_num N1 GX.l2 GX.l1) (DIn.of_num N2 GX.h2 GX.h1))
          have HR2 : Hid (∀ w' X1 x1 y1 X2 x2 y2, Below w.heap.size w w' → Wk 42 w' h p x.bad → Num w' (.slice X1 x1 y1) x.lo.m → Num w' (.slice X2 x2 y2) x.hi.m → Calls Tryd.prog 15 #[.pointer (some ⟨h, 0, none⟩), spv lo.neg A n c lo.e hi.neg B m d hi.e, spv x.lo.neg X1 x1 y1 x.lo.e x.hi.neg X2 x2 y2 x.hi.e] w' (SPost 42 w' h p r)) := Lib.hid (fun w' X1 x1 y1 X2 x2 y2 b k' N1 N2 => by rw [hr]; exact rhull_any h p x.bad w' k' (da.out w' b) (db.out w' b) (DIn.of_num N1 GX.l2 GX.l1) (DIn.of_num N2 GX.h2 GX.h1))
          clear hr hx da db HTab P1 P2 GX
          go_upto_region 18 with fail
          have LD := LA.drew
          clear LA
          have i0 := LD.ks.2.2.1.1.at_ 0 _ rfl
          have i1 := LD.ks.2.2.1.1.at_ 1 _ rfl
          have i2 := LD.ks.2.2.1.1.at_ 2 _ rfl
          have i3 := LD.ks.2.2.1.1.at_ 3 _ rfl
          have i4 := LD.ks.2.2.1.1.at_ 4 _ rfl
          have i5 := LD.ks.2.2.1.1.at_ 5 _ rfl
          go_region_with (first
              | (go_at_call 12; refine (HV.out _ LD.bel LD.W).mono ?_; rintro e' v1 ⟨X1, x1, y1, X2, x2, y2, rfl, N1, N2, hW1, o1⟩; have L1 := LD.callW o1 hW1; have j0 := L1.ks.2.2.1.1.at_ 0 _ rfl; have j1 := L1.ks.2.2.1.1.at_ 1 _ rfl; have j2 := L1.ks.2.2.1.1.at_ 2 _ rfl; have j3 := L1.ks.2.2.1.1.at_ 3 _ rfl; have j4 := L1.ks.2.2.1.1.at_ 4 _ rfl; have j5 := L1.ks.2.2.1.1.at_ 5 _ rfl)
              | (go_at_call 14; refine (HV2.out _ _ _ _ _ _ _ L1.bel L1.W N1 N2).mono ?_; rintro e' v2 ⟨A1, n1, c1, B1, m1, d1, rfl, N3, N4, hW2, o2⟩; have L3 := ((L1.callW o2 hW2).num N4).num N3; have u0 := L3.ks.2.2.1.1.at_ 0 _ rfl; have u1 := L3.ks.2.2.1.1.at_ 1 _ rfl; have u2 := L3.ks.2.2.1.1.at_ 2 _ rfl; have u3 := L3.ks.2.2.1.1.at_ 3 _ rfl; have u4 := L3.ks.2.2.1.1.at_ 4 _ rfl; have u5 := L3.ks.2.2.1.1.at_ 5 _ rfl)
              | (go_at_call 13; refine (HR.out _ L3.bel L3.V).mono ?_; rintro e' v3 ⟨Y1, p1, q1, Y2, p2, q2, rfl, N5, N6, hV3, o3⟩; have L4 := L3.callV o3 hV3; have z0 := L4.ks.2.2.1.1.at_ 0 _ rfl; have z1 := L4.ks.2.2.1.1.at_ 1 _ rfl; have z2 := L4.ks.2.2.1.1.at_ 2 _ rfl; have z3 := L4.ks.2.2.1.1.at_ 3 _ rfl; have z4 := L4.ks.2.2.1.1.at_ 4 _ rfl; have z5 := L4.ks.2.2.1.1.at_ 5 _ rfl)
              | (go_at_call 15; refine (HR2.out _ _ _ _ _ _ _ L4.bel L4.V N5 N6).mono ?_; rintro e' v4 ⟨A2, n2, c2, B2, m2, d2, rfl, N7, N8, hV4, o4⟩; have L9 := ((L4.callV o4 hV4).num N8).num N7; have t0 := L9.ks.1.1.at_ 0 _ rfl; have t1 := L9.ks.1.1.at_ 1 _ rfl; have t2 := L9.ks.1.1.at_ 2 _ rfl; have t3 := L9.ks.1.1.at_ 3 _ rfl; have t4 := L9.ks.1.1.at_ 4 _ rfl; have t5 := L9.ks.1.1.at_ 5 _ rfl; have tf0 := L9.ks.1.1.fr 0; have tf1 := L9.ks.1.1.fr 1; have tf2 := L9.ks.1.1.fr 2; have tf3 := L9.ks.1.1.fr 3; have tf4 := L9.ks.1.1.fr 4; have tf5 := L9.ks.1.1.fr 5; have s0 := L9.ks.2.1.1.at_ 0 _ rfl; have s1 := L9.ks.2.1.1.at_ 1 _ rfl; have s2 := L9.ks.2.1.1.at_ 2 _ rfl; have s3 := L9.ks.2.1.1.at_ 3 _ rfl; have s4 := L9.ks.2.1.1.at_ 4 _ rfl; have s5 := L9.ks.2.1.1.at_ 5 _ rfl; have sf0 := L9.ks.2.1.1.fr 0; have sf1 := L9.ks.2.1.1.fr 1; have sf2 := L9.ks.2.1.1.fr 2; have sf3 := L9.ks.2.1.1.fr 3; have sf4 := L9.ks.2.1.1.fr 4; have sf5 := L9.ks.2.1.1.fr 5))
          all_goals (
            go_wp2_with fail
            go_meet
            exact ⟨r, A1, n1, c1, B1, m1, d1, A2, n2, c2, B2, m2, d2, G, L9.put2 (by omega) (by omega) (by omega) ⟨by omega, trivial⟩ ⟨by omega, trivial⟩ _ _ _ _ _ _ _ _ _ _ _ _⟩)
        · skip
          obtain ⟨r, hr⟩ : ∃ r, r = ptI p bd hi := ⟨_, rfl⟩
          have G : SGood r := by rw [hr]; exact sgood_pt P2.out
          have HV : Hid (∀ w', Below w.heap.size w w' → Wk 41 w' g p bd → Calls Tryd.prog 16 #[.pointer (some ⟨g, 0, none⟩), dyv hi.neg B m d hi.e] w' (SPost 41 w' g p r)) := Lib.hid (fun w' b k' => by rw [hr]; exact point_I g p bd w' k' (db.out w' b))
          have HR : Hid (∀ w', Below w.heap.size w w' → Wk 42 w' h p bd → Calls Tryd.prog 17 #[.pointer (some ⟨h, 0, none⟩), dyv hi.neg B m d hi.e] w' (SPost 42 w' h p r)) := Lib.hid (fun w' b k' => by rw [hr]; exact rpoint_I h p bd w' k' (db.out w' b))
          clear hr da db HTab P1 P2
          go_upto_region 20 with fail
          have LD := LA.drew
          clear LA
          have i0 := LD.ks.2.2.1.1.at_ 0 _ rfl
          have i1 := LD.ks.2.2.1.1.at_ 1 _ rfl
          have i2 := LD.ks.2.2.1.1.at_ 2 _ rfl
          have i3 := LD.ks.2.2.1.1.at_ 3 _ rfl
          have i4 := LD.ks.2.2.1.1.at_ 4 _ rfl
          have i5 := LD.ks.2.2.1.1.at_ 5 _ rfl
          go_region_with (first
              | (go_at_call 16; refine (HV.out _ LD.bel LD.W).mono ?_; rintro e' v1 ⟨A1, n1, c1, B1, m1, d1, rfl, N1, N2, hW1, o1⟩; have L1 := ((LD.callW o1 hW1).num N2).num N1; have j0 := L1.ks.2.2.1.1.at_ 0 _ rfl; have j1 := L1.ks.2.2.1.1.at_ 1 _ rfl; have j2 := L1.ks.2.2.1.1.at_ 2 _ rfl; have j3 := L1.ks.2.2.1.1.at_ 3 _ rfl; have j4 := L1.ks.2.2.1.1.at_ 4 _ rfl; have j5 := L1.ks.2.2.1.1.at_ 5 _ rfl)
              | (go_at_call 17; refine (HR.out _ L1.bel L1.V).mono ?_; rintro e' v2 ⟨A2, n2, c2, B2, m2, d2, rfl, N3, N4, hV2, o2⟩; have L9 := ((L1.callV o2 hV2).num N4).num N3; have t0 := L9.ks.1.1.at_ 0 _ rfl; have t1 := L9.ks.1.1.at_ 1 _ rfl; have t2 := L9.ks.1.1.at_ 2 _ rfl; have t3 := L9.ks.1.1.at_ 3 _ rfl; have t4 := L9.ks.1.1.at_ 4 _ rfl; have t5 := L9.ks.1.1.at_ 5 _ rfl; have tf0 := L9.ks.1.1.fr 0; have tf1 := L9.ks.1.1.fr 1; have tf2 := L9.ks.1.1.fr 2; have tf3 := L9.ks.1.1.fr 3; have tf4 := L9.ks.1.1.fr 4; have tf5 := L9.ks.1.1.fr 5; have s0 := L9.ks.2.1.1.at_ 0 _ rfl; have s1 := L9.ks.2.1.1.at_ 1 _ rfl; have s2 := L9.ks.2.1.1.at_ 2 _ rfl; have s3 := L9.ks.2.1.1.at_ 3 _ rfl; have s4 := L9.ks.2.1.1.at_ 4 _ rfl; have s5 := L9.ks.2.1.1.at_ 5 _ rfl; have sf0 := L9.ks.2.1.1.fr 0; have sf1 := L9.ks.2.1.1.fr 1; have sf2 := L9.ks.2.1.1.fr 2; have sf3 := L9.ks.2.1.1.fr 3; have sf4 := L9.ks.2.1.1.fr 4; have sf5 := L9.ks.2.1.1.fr 5))
          all_goals (
            go_wp2_with fail
            go_meet
            exact ⟨r, A1, n1, c1, B1, m1, d1, A2, n2, c2, B2, m2, d2, G, L9.put2 (by omega) (by omega) (by omega) ⟨by omega, trivial⟩ ⟨by omega, trivial⟩ _ _ _ _ _ _ _ _ _ _ _ _⟩)
        · skip
          obtain ⟨r, hr⟩ : ∃ r, r = scaleS p bd lo hi k := ⟨_, rfl⟩
          have G : SGood r := by rw [hr]; exact sgood_two (plIf_mk _ _ _) (plIf_mk _ _ _)
          have HV : Hid (∀ w', Below w.heap.size w w' → Wk 41 w' g p bd → Calls Tryd.prog 18 #[.pointer (some ⟨g, 0, none⟩), spv lo.neg A n c lo.e hi.neg B m d hi.e, .int .i64 k] w' (SPost 41 w' g p r)) := Lib.hid (fun w' b k' => by rw [hr]; exact scale_any g p bd k w' k' (da.out w' b) (db.out w' b) (HTab.out w' b) hk1 hk2)
          have HR : Hid (∀ w', Below w.heap.size w w' → Wk 42 w' h p bd → Calls Tryd.prog 19 #[.pointer (some ⟨h, 0, none⟩), spv lo.neg A n c lo.e hi.neg B m d hi.e, .int .i64 k] w' (SPost 42 w' h p r)) := Lib.hid (fun w' b k' => by rw [hr]; exact rscale_any h p bd k w' k' (da.out w' b) (db.out w' b) (HTab.out w' b) hk1 hk2)
          clear hr da db HTab P1 P2
          go_upto_region 22 with fail
          have LD := LA.drew
          clear LA
          have i0 := LD.ks.2.2.1.1.at_ 0 _ rfl
          have i1 := LD.ks.2.2.1.1.at_ 1 _ rfl
          have i2 := LD.ks.2.2.1.1.at_ 2 _ rfl
          have i3 := LD.ks.2.2.1.1.at_ 3 _ rfl
          have i4 := LD.ks.2.2.1.1.at_ 4 _ rfl
          have i5 := LD.ks.2.2.1.1.at_ 5 _ rfl
          go_region_with (first
              | (go_at_call 18; refine (HV.out _ LD.bel LD.W).mono ?_; rintro e' v1 ⟨A1, n1, c1, B1, m1, d1, rfl, N1, N2, hW1, o1⟩; have L1 := ((LD.callW o1 hW1).num N2).num N1; have j0 := L1.ks.2.2.1.1.at_ 0 _ rfl; have j1 := L1.ks.2.2.1.1.at_ 1 _ rfl; have j2 := L1.ks.2.2.1.1.at_ 2 _ rfl; have j3 := L1.ks.2.2.1.1.at_ 3 _ rfl; have j4 := L1.ks.2.2.1.1.at_ 4 _ rfl; have j5 := L1.ks.2.2.1.1.at_ 5 _ rfl)
              | (go_at_call 19; refine (HR.out _ L1.bel L1.V).mono ?_; rintro e' v2 ⟨A2, n2, c2, B2, m2, d2, rfl, N3, N4, hV2, o2⟩; have L9 := ((L1.callV o2 hV2).num N4).num N3; have t0 := L9.ks.1.1.at_ 0 _ rfl; have t1 := L9.ks.1.1.at_ 1 _ rfl; have t2 := L9.ks.1.1.at_ 2 _ rfl; have t3 := L9.ks.1.1.at_ 3 _ rfl; have t4 := L9.ks.1.1.at_ 4 _ rfl; have t5 := L9.ks.1.1.at_ 5 _ rfl; have tf0 := L9.ks.1.1.fr 0; have tf1 := L9.ks.1.1.fr 1; have tf2 := L9.ks.1.1.fr 2; have tf3 := L9.ks.1.1.fr 3; have tf4 := L9.ks.1.1.fr 4; have tf5 := L9.ks.1.1.fr 5; have s0 := L9.ks.2.1.1.at_ 0 _ rfl; have s1 := L9.ks.2.1.1.at_ 1 _ rfl; have s2 := L9.ks.2.1.1.at_ 2 _ rfl; have s3 := L9.ks.2.1.1.at_ 3 _ rfl; have s4 := L9.ks.2.1.1.at_ 4 _ rfl; have s5 := L9.ks.2.1.1.at_ 5 _ rfl; have sf0 := L9.ks.2.1.1.fr 0; have sf1 := L9.ks.2.1.1.fr 1; have sf2 := L9.ks.2.1.1.fr 2; have sf3 := L9.ks.2.1.1.fr 3; have sf4 := L9.ks.2.1.1.fr 4; have sf5 := L9.ks.2.1.1.fr 5))
          all_goals (
            go_wp2_with fail
            go_meet
            exact ⟨r, A1, n1, c1, B1, m1, d1, A2, n2, c2, B2, m2, d2, G, L9.put2 (by omega) (by omega) (by omega) ⟨by omega, trivial⟩ ⟨by omega, trivial⟩ _ _ _ _ _ _ _ _ _ _ _ _⟩)
      case rest =>
        clear LA
        obtain ⟨r, A1, n1, c1, B1, m1, d1, A2, n2, c2, B2, m2, d2, G, L⟩ := hcut
        have SM : Hid (∀ w', L2 w g h p r.bad r.bad w' [(28, s0 + 1, #[.bool r.lo.neg, .slice A2 n2 c2, .int .i64 r.lo.e, .bool r.hi.neg, .slice B2 m2 d2, .int .i64 r.hi.e]), (28, s0, #[.bool r.lo.neg, .slice A1 n1 c1, .int .i64 r.lo.e, .bool r.hi.neg, .slice B1 m1 d1, .int .i64 r.hi.e]), (28, w.heap.size + 1, #[.bool lo.neg, .slice A n c, .int .i64 lo.e, .bool hi.neg, .slice B m d, .int .i64 hi.e])] [(.slice A2 n2 c2, r.lo.m), (.slice B2 m2 d2, r.hi.m), (.slice A1 n1 c1, r.lo.m), (.slice B1 m1 d1, r.hi.m)] → Calls Tryd.prog 20 #[spv r.lo.neg A1 n1 c1 r.lo.e r.hi.neg B1 m1 d1 r.hi.e, spv r.lo.neg A2 n2 c2 r.lo.e r.hi.neg B2 m2 d2 r.hi.e] w' (TruePost w')) := Lib.hid (fun w' l => same_span r.lo r.hi A1 B1 A2 B2 n1 c1 m1 d1 n2 c2 m2 d2 w' l.ns.2.2.1 l.ns.2.2.2.1 l.ns.1 l.ns.2.1 G.lo_small G.hi_small)
        have hbb : (r.bad != r.bad) = false := by simp
        have HC : Hid (∀ w', L2 w g h p r.bad r.bad w' [(28, s0 + 1, #[.bool r.lo.neg, .slice A2 n2 c2, .int .i64 r.lo.e, .bool r.hi.neg, .slice B2 m2 d2, .int .i64 r.hi.e]), (28, s0, #[.bool r.lo.neg, .slice A1 n1 c1, .int .i64 r.lo.e, .bool r.hi.neg, .slice B1 m1 d1, .int .i64 r.hi.e]), (28, w.heap.size + 1, #[.bool lo.neg, .slice A n c, .int .i64 lo.e, .bool hi.neg, .slice B m d, .int .i64 hi.e])] [(.slice A2 n2 c2, r.lo.m), (.slice B2 m2 d2, r.hi.m), (.slice A1 n1 c1, r.lo.m), (.slice B1 m1 d1, r.hi.m)] → w'.cell? ⟨s0, 0, none⟩ = some (.bool r.lo.neg) ∧ w'.cell? ⟨s0, 1, none⟩ = some (.slice A1 n1 c1) ∧ w'.cell? ⟨s0, 2, none⟩ = some (.int .i64 r.lo.e) ∧ w'.cell? ⟨s0, 3, none⟩ = some (.bool r.hi.neg) ∧ w'.cell? ⟨s0, 4, none⟩ = some (.slice B1 m1 d1) ∧ w'.cell? ⟨s0, 5, none⟩ = some (.int .i64 r.hi.e) ∧ w'.cell? ⟨s0 + 1, 0, none⟩ = some (.bool r.lo.neg) ∧ w'.cell? ⟨s0 + 1, 1, none⟩ = some (.slice A2 n2 c2) ∧ w'.cell? ⟨s0 + 1, 2, none⟩ = some (.int .i64 r.lo.e) ∧ w'.cell? ⟨s0 + 1, 3, none⟩ = some (.bool r.hi.neg) ∧ w'.cell? ⟨s0 + 1, 4, none⟩ = some (.slice B2 m2 d2) ∧ w'.cell? ⟨s0 + 1, 5, none⟩ = some (.int .i64 r.hi.e) ∧ w'.cell? ⟨g, 1, none⟩ = some (.bool r.bad) ∧ w'.cell? ⟨h, 1, none⟩ = some (.bool r.bad)) := Lib.hid (fun w' h' => ⟨h'.ks.2.1.1.at_ 0 _ rfl, h'.ks.2.1.1.at_ 1 _ rfl, h'.ks.2.1.1.at_ 2 _ rfl, h'.ks.2.1.1.at_ 3 _ rfl, h'.ks.2.1.1.at_ 4 _ rfl, h'.ks.2.1.1.at_ 5 _ rfl, h'.ks.1.1.at_ 0 _ rfl, h'.ks.1.1.at_ 1 _ rfl, h'.ks.1.1.at_ 2 _ rfl, h'.ks.1.1.at_ 3 _ rfl, h'.ks.1.1.at_ 4 _ rfl, h'.ks.1.1.at_ 5 _ rfl, h'.W.cell.2, h'.V.cell.2⟩)
        have LD := L.drew
        clear L
        have XS := HC.out _ LD
        go_wp2_with fail
        go_region_held3 (fun w' => w'.cell? ⟨s0, 0, none⟩ = some (.bool r.lo.neg) ∧ w'.cell? ⟨s0, 1, none⟩ = some (.slice A1 n1 c1) ∧ w'.cell? ⟨s0, 2, none⟩ = some (.int .i64 r.lo.e) ∧ w'.cell? ⟨s0, 3, none⟩ = some (.bool r.hi.neg) ∧ w'.cell? ⟨s0, 4, none⟩ = some (.slice B1 m1 d1) ∧ w'.cell? ⟨s0, 5, none⟩ = some (.int .i64 r.hi.e) ∧ w'.cell? ⟨s0 + 1, 0, none⟩ = some (.bool r.lo.neg) ∧ w'.cell? ⟨s0 + 1, 1, none⟩ = some (.slice A2 n2 c2) ∧ w'.cell? ⟨s0 + 1, 2, none⟩ = some (.int .i64 r.lo.e) ∧ w'.cell? ⟨s0 + 1, 3, none⟩ = some (.bool r.hi.neg) ∧ w'.cell? ⟨s0 + 1, 4, none⟩ = some (.slice B2 m2 d2) ∧ w'.cell? ⟨s0 + 1, 5, none⟩ = some (.int .i64 r.hi.e) ∧ w'.cell? ⟨g, 1, none⟩ = some (.bool r.bad) ∧ w'.cell? ⟨h, 1, none⟩ = some (.bool r.bad))
          (first | with_reducible exact HC.out _ LB | with_reducible exact XS)
          (first | (go_at_call 20; refine (SM.out _ LD).mono ?_; rintro e' v1 ⟨rfl, b1⟩; have LB := LD.below b1))
        go_wp2_with fail
        go_roundw
        case rel => exact ⟨i + 1, by omega, by go_num, r.bad, ((LB.drop rfl).drop rfl).forget⟩
        case measure => simp [intOf]; omega
    · skip
      obtain rfl : i = 6 := by omega
      clear hlt hi6
      go_wp2_with fail
      refine (fail_any g p bd wr L.W).mono ?_
      rintro e' w7 ⟨rfl, hW7, o7⟩
      have L7 := L.callW o7 hW7
      clear L hW7 o7
      go_wp2_with fail
      refine (fail_nil w7).mono ?_
      rintro e' w8 ⟨rfl, rfl⟩
      have HN : Hid (∀ w', Below w.heap.size w w' → Wk 41 w' g p true → Calls Tryd.prog 12 #[.pointer (some ⟨g, 0, none⟩), .int .i64 1] w' (fun e w2 => ∃ A n c B m d, e = .returned (spv false A n c 0 false B m d 0) ∧ Num w2 (.slice A n c) 0 ∧ Num w2 (.slice B m d) 0 ∧ Wk 41 w2 g p true ∧ Only w' w2 g)) := Lib.hid (fun w' b k' => num_any 1 g p true w' k' (HTab.out w' b) (by omega) (by omega))
      have HZ : Hid (∀ w', Below w.heap.size w w' → Calls Tryd.prog 12 #[.pointer none, .int .i64 1] w' (ZeroP w')) := Lib.hid (fun w' b => num_one_nil w' (HTab.out w' b))
      have HS : Hid (∀ w' A n c B m d, Num w' (.slice A n c) 0 → Num w' (.slice B m d) 0 → Calls Tryd.prog 20 #[spv false A n c 0 false B m d 0, spz] w' (TruePost w')) := Lib.hid (fun w' A n c B m d h1 h2 => same_span DR.zero DR.zero A B none none n c m d 0 0 0 0 w' h1 h2 (num_nil w') (num_nil w') sgood_no.lo_small sgood_no.hi_small)
      have HG : Hid (∀ w', Below w.heap.size w w' → Calls Tryd.prog 22 #[spv lo.neg A n c lo.e hi.neg B m d hi.e] w' fun o w2 => o = .returned (.int .i64 (signI lo hi)) ∧ Below w'.heap.size w' w2) := Lib.hid (fun w' b => sign_I w' (da.out w' b) (db.out w' b))
      have HG2 : Hid (∀ w', Below w.heap.size w w' → Calls Tryd.prog 23 #[spv lo.neg A n c lo.e hi.neg B m d hi.e] w' fun o w2 => o = .returned (.int .i64 (signI lo hi)) ∧ Below w'.heap.size w' w2) := Lib.hid (fun w' b => rsign_I w' (da.out w' b) (db.out w' b))
      generalize signI lo hi = sg at *
      have hss : (sg == sg) = true := by simp
      have HC : Hid (∀ w' ns, L2 w g h p true bd w' [(28, w.heap.size + 1, #[.bool lo.neg, .slice A n c, .int .i64 lo.e, .bool hi.neg, .slice B m d, .int .i64 hi.e])] ns → w'.cell? ⟨w.heap.size + 1, 0, none⟩ = some (.bool lo.neg) ∧ w'.cell? ⟨w.heap.size + 1, 1, none⟩ = some (.slice A n c) ∧ w'.cell? ⟨w.heap.size + 1, 2, none⟩ = some (.int .i64 lo.e) ∧ w'.cell? ⟨w.heap.size + 1, 3, none⟩ = some (.bool hi.neg) ∧ w'.cell? ⟨w.heap.size + 1, 4, none⟩ = some (.slice B m d) ∧ w'.cell? ⟨w.heap.size + 1, 5, none⟩ = some (.int .i64 hi.e) ∧ w'.cell? ⟨g, 1, none⟩ = some (.bool true)) := Lib.hid (fun w' ns h' => ⟨h'.ks.1.1.at_ 0 _ rfl, h'.ks.1.1.at_ 1 _ rfl, h'.ks.1.1.at_ 2 _ rfl, h'.ks.1.1.at_ 3 _ rfl, h'.ks.1.1.at_ 4 _ rfl, h'.ks.1.1.at_ 5 _ rfl, h'.W.cell.2⟩)
      have LC := L7.drew
      clear L7 da db P1 P2
      have XS := HC.out _ _ LC
      go_wp2_with fail
      go_region_held3 (fun w' => w'.cell? ⟨w.heap.size + 1, 0, none⟩ = some (.bool lo.neg) ∧ w'.cell? ⟨w.heap.size + 1, 1, none⟩ = some (.slice A n c) ∧ w'.cell? ⟨w.heap.size + 1, 2, none⟩ = some (.int .i64 lo.e) ∧ w'.cell? ⟨w.heap.size + 1, 3, none⟩ = some (.bool hi.neg) ∧ w'.cell? ⟨w.heap.size + 1, 4, none⟩ = some (.slice B m d) ∧ w'.cell? ⟨w.heap.size + 1, 5, none⟩ = some (.int .i64 hi.e) ∧ w'.cell? ⟨g, 1, none⟩ = some (.bool true))
        (first | with_reducible exact HC.out _ _ LC | with_reducible exact XS)
        (first
          | (go_at_call_of 12 (Value.pointer none); refine (HZ.out _ LC.bel).mono ?_; rintro e' v1 ⟨rfl, b1⟩; have LQ := LC.below b1; clear LC; have LC := LQ; clear LQ; clear b1)
          | (go_at_call 12; refine (HN.out _ LC.bel LC.W).mono ?_; rintro e' v1 ⟨A1, n1, c1, B1, m1, d1, rfl, N1, N2, hW1, o1⟩; have LQ := ((LC.callW o1 hW1).num N2).num N1; clear LC; have LC := LQ; clear LQ; clear N1 N2 hW1 o1)
          | (go_at_call 20; refine (HS.out _ _ _ _ _ _ _ (by first | exact num_nil _ | exact LC.ns.1) (by first | exact num_nil _ | exact LC.ns.2.1)).mono ?_; rintro e' v1 ⟨rfl, b1⟩; have LQ := LC.below b1; clear LC; have LC := LQ; clear LQ; clear b1)
          | (go_at_call 22; refine (HG.out _ LC.bel).mono ?_; rintro e' v1 ⟨rfl, b1⟩; have LQ := LC.below b1; clear LC; have LC := LQ; clear LQ; clear b1)
          | (go_at_call 23; refine (HG2.out _ LC.bel).mono ?_; rintro e' v1 ⟨rfl, b1⟩; have LQ := LC.below b1; clear LC; have LC := LQ; clear LQ; clear b1))
      go_wp2_with fail
      go_ret
      exact ⟨rfl, LC.bel⟩
end Go.Proofs.YtadieepcpkpblaaDoor
