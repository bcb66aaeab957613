/-
  The law SeriesNest.
-/
import Derived.Test.YtmadojejafbpjaaGreatDoorPkSp13
import Derived.Test.YtmadojejafbpjaaGreatDoorPkSRDiv
import Derived.Test.YtmadojejafbpjaaGreatDoorPkSe5
import Derived.Test.YtmadojejafbpjaaGreatDoorPkSe7
namespace Go.Proofs.YtmadojejafbpjaaGreatDoor
open Go.RowKit

/-- The law's state: two calcs and a work of the reference. -/
structure L3 (w wi : World) (g h k : Nat) (p q : Int) (bg bh bk : Bool) (ns : List (Value × Nat)) : Prop where
  bel : Below w.heap.size w wi
  G : Wk 34 wi g p bg
  H : Wk 34 wi h q bh
  K : Wk 41 wi k p bk
  g1 : w.heap.size ≤ g
  h1 : w.heap.size ≤ h
  k1 : w.heap.size ≤ k
  gh : g ≠ h
  gk : g ≠ k
  hk : h ≠ k
  ns : NS wi ns
section
variable {w wi wj : World} {g h k : Nat} {p q : Int} {bg bh bk b' : Bool} {ns : List (Value × Nat)}
theorem L3.callG (L : L3 w wi g h k p q bg bh bk ns) (o : Only wi wj g) (W : Wk 34 wj g p b') : L3 w wj g h k p q b' bh bk ns :=
  ⟨below_only L.bel o L.g1, W, L.H.only o (Ne.symm L.gh), L.K.only o (Ne.symm L.gk), L.g1, L.h1, L.k1, L.gh, L.gk, L.hk, L.ns.wk L.G o⟩
theorem L3.callH (L : L3 w wi g h k p q bg bh bk ns) (o : Only wi wj h) (W : Wk 34 wj h q b') : L3 w wj g h k p q bg b' bk ns :=
  ⟨below_only L.bel o L.h1, L.G.only o L.gh, W, L.K.only o (Ne.symm L.hk), L.g1, L.h1, L.k1, L.gh, L.gk, L.hk, L.ns.wk L.H o⟩
theorem L3.callK (L : L3 w wi g h k p q bg bh bk ns) (o : Only wi wj k) (W : Wk 41 wj k p b') : L3 w wj g h k p q bg bh b' ns :=
  ⟨below_only L.bel o L.k1, L.G.only o L.gk, L.H.only o L.hk, W, L.g1, L.h1, L.k1, L.gh, L.gk, L.hk, L.ns.wk L.K o⟩
theorem L3.below (L : L3 w wi g h k p q bg bh bk ns) (b : Below wi.heap.size wi wj) : L3 w wj g h k p q bg bh bk ns :=
  ⟨below_step L.bel b, L.G.below b, L.H.below b, L.K.below b, L.g1, L.h1, L.k1, L.gh, L.gk, L.hk, L.ns.adv b⟩
theorem L3.drew (L : L3 w wi g h k p q bg bh bk ns) : L3 w wi.drew g h k p q bg bh bk ns := L.below (Below.refl _ wi).drew
theorem L3.num (L : L3 w wi g h k p q bg bh bk ns) {v : Value} {V : Nat} (n : Num wi v V) : L3 w wi g h k p q bg bh bk ((v, V) :: ns) := ⟨L.bel, L.G, L.H, L.K, L.g1, L.h1, L.k1, L.gh, L.gk, L.hk, n, L.ns⟩
theorem L3.drop {x : Value × Nat} (L : L3 w wi g h k p q bg bh bk (x :: ns)) : L3 w wi g h k p q bg bh bk ns := ⟨L.bel, L.G, L.H, L.K, L.g1, L.h1, L.k1, L.gh, L.gk, L.hk, L.ns.2⟩
end
set_option maxRecDepth 8000 in
set_option maxHeartbeats 8000000 in
theorem nest_any (p q n : Int) (w : World) (hn1 : -9223372036854775808 ≤ n) (hn2 : n ≤ 9223372036854775807) (hT : Tab w) :
    Calls Tryz.prog 5 #[.int .i64 p, .int .i64 q, .int .i64 n] w (TruePost w) := by
  have AW := Lib.hid (awake4 w hT)
  have HT := Lib.hid hT
  clear hT
  go_enter Tryz.func5, Tryz.ntmps5
  go_wp2_with fail
  refine AW.out.mono ?_
  clear AW
  rintro e' w1 ⟨rfl, b1⟩
  have HB1 := Lib.hid b1
  clear b1
  by_cases c1 : p < 16
  · have c1' : decide (p < 16) = true := decide_eq_true c1
    go_wp2_with fail
    go_ret
    exact ⟨rfl, HB1.out⟩
  have c1' : decide (p < 16) = false := decide_eq_false c1
  by_cases c2 : 600 < p
  · have c2' : decide (600 < p) = true := decide_eq_true c2
    go_wp2_with fail
    go_ret
    exact ⟨rfl, HB1.out⟩
  have c2' : decide (600 < p) = false := decide_eq_false c2
  by_cases c3 : q < 16
  · have c3' : decide (q < 16) = true := decide_eq_true c3
    go_wp2_with fail
    go_ret
    exact ⟨rfl, HB1.out⟩
  have c3' : decide (q < 16) = false := decide_eq_false c3
  by_cases c4 : 600 < q
  · have c4' : decide (600 < q) = true := decide_eq_true c4
    go_wp2_with fail
    go_ret
    exact ⟨rfl, HB1.out⟩
  have c4' : decide (600 < q) = false := decide_eq_false c4
  go_wp2_with fail
  refine (calc_any p false w1).mono ?_
  rintro e' w2 ⟨g, rfl, hG, hg, b2⟩
  have HB2 := Lib.hid (below_step HB1.out b2)
  have hg' : w.heap.size ≤ g := Nat.le_trans HB1.out.size hg
  clear hg b2
  go_wp2_with fail
  refine (calc_any q false w2).mono ?_
  rintro e' w3 ⟨h, rfl, hH, hh, b3⟩
  have HB3 := Lib.hid (below_step HB2.out b3)
  have hgl := hG.2
  have hh' : w.heap.size ≤ h := Nat.le_trans HB2.out.size hh
  have hG3 := hG.below b3
  have hgh : g ≠ h := by omega
  clear hG hh b3
  have hk' : w.heap.size ≤ w3.heap.size := HB3.out.size
  have hK4 : Wk 41 (w3.alloc (.cells #[.int .i64 p, .bool false] 41)) w3.heap.size p false := KC.made 41 w3 #[.int .i64 p, .bool false]
  have b4 := alloc_bel w3 (.cells #[.int .i64 p, .bool false] 41)
  have hgk : g ≠ w3.heap.size := Nat.ne_of_lt hG3.2
  have hhk : h ≠ w3.heap.size := Nat.ne_of_lt hH.2
  have L : L3 w (w3.alloc (.cells #[.int .i64 p, .bool false] 41)) g h w3.heap.size p q false false false [] := ⟨below_step HB3.out b4, hG3.below b4, hH.below b4, hK4, hg', hh', hk', hgh, hgk, hhk, trivial⟩
  clear hG3 hH hK4 b4 HB1 HB2 HB3 hgl
  go_upto_region 7 with fail
  generalize w3.alloc (.cells #[.int .i64 p, .bool false] 41) = w4 at *
  clear c1' c2' c3' c4'
  obtain ⟨P, rfl⟩ : ∃ P : Nat, p = (P : Int) := ⟨p.toNat, by omega⟩
  obtain ⟨Q, rfl⟩ : ∃ Q : Nat, q = (Q : Int) := ⟨q.toNat, by omega⟩
  have hP1 : 16 ≤ P := by omega
  have hP2 : P ≤ 600 := by omega
  have hQ1 : 16 ≤ Q := by omega
  have hQ2 : Q ≤ 600 := by omega
  clear c1 c2 c3 c4
  have XP := pi_at hP1 hP2
  have XQ := pi_at hQ1 hQ2
  have YP := ln_at hP1 hP2
  have YQ := ln_at hQ1 hQ2
  unfold chkPi at XP XQ
  unfold chkLn at YP YQ
  simp only [Bool.and_eq_true] at XP XQ YP YQ
  obtain ⟨⟨x1, x2⟩, _⟩ := XP
  obtain ⟨⟨x3, x4⟩, _⟩ := XQ
  obtain ⟨⟨y1, y2⟩, _⟩ := YP
  obtain ⟨⟨y3, y4⟩, _⟩ := YQ
  have GP := hold_good x2
  have GQ := hold_good x4
  have JP := hold_good y2
  have JQ := hold_good y4
  have m1 := good_meet GP GQ
  have m2 := good_meet GQ GP
  have m3 := good_meet JP JQ
  have m4 := good_meet JQ JP
  obtain ⟨a, e1, e2, e3, e4⟩ := num_ok (p := (P : Int)) (n := n) (by omega) (by omega) hn1 hn2
  have e5 := num_seven (p := (P : Int)) (by omega) (by omega)
  obtain ⟨f1, f2, f3⟩ := div_ok (p := (P : Int)) (r := a) (by omega) (by omega) e2 e3 e4
  have HTab : Hid (∀ w', Below w.heap.size w w' → Tab w') := Lib.hid (fun w' b => HT.out.below b)
  have P1 : Hid (∀ w', Below w.heap.size w w' → Wk 34 w' g (P : Int) false → Calls Tryz.prog 8 #[.pointer (some ⟨g, 0, none⟩)] w' (SPost 34 w' g (P : Int) (piR P))) := Lib.hid (fun w' b k => pi_any g P w' hP1 hP2 x1 k (HTab.out w' b))
  have P2 : Hid (∀ w', Below w.heap.size w w' → Wk 34 w' h (Q : Int) false → Calls Tryz.prog 8 #[.pointer (some ⟨h, 0, none⟩)] w' (SPost 34 w' h (Q : Int) (piR Q))) := Lib.hid (fun w' b k => pi_any h Q w' hQ1 hQ2 x3 k (HTab.out w' b))
  have P3 : Hid (∀ w', Below w.heap.size w w' → Wk 34 w' g (P : Int) false → Calls Tryz.prog 13 #[.pointer (some ⟨g, 0, none⟩)] w' (SPost 34 w' g (P : Int) (lnR P))) := Lib.hid (fun w' b k => ln_any g P w' hP1 hP2 y1 k (HTab.out w' b))
  have P4 : Hid (∀ w', Below w.heap.size w w' → Wk 34 w' h (Q : Int) false → Calls Tryz.prog 13 #[.pointer (some ⟨h, 0, none⟩)] w' (SPost 34 w' h (Q : Int) (lnR Q))) := Lib.hid (fun w' b k => ln_any h Q w' hQ1 hQ2 y3 k (HTab.out w' b))
  have GPH := Lib.hid GP
  have GQH := Lib.hid GQ
  have JPH := Lib.hid JP
  have JQH := Lib.hid JQ
  have gp := GP.bad
  have gq := GQ.bad
  have jp := JP.bad
  have jq := JQ.bad
  generalize piR P = rp at *
  generalize piR Q = rq at *
  generalize lnR P = lp at *
  generalize lnR Q = lq at *
  have M1 : Hid (∀ w' A n c B m d A' n' c' B' m' d', Num w' (.slice A n c) rp.lo.m → Num w' (.slice B m d) rp.hi.m → Num w' (.slice A' n' c') rq.lo.m → Num w' (.slice B' m' d') rq.hi.m → Calls Tryz.prog 15 #[spv rp.lo.neg A n c rp.lo.e rp.hi.neg B m d rp.hi.e, spv rq.lo.neg A' n' c' rq.lo.e rq.hi.neg B' m' d' rq.hi.e] w' (TruePost w')) := Lib.hid (fun w' A n c B m d A' n' c' B' m' d' k1 k2 k3 k4 => meet_yes w' (DIn.of_num k1 GPH.out.good.l2 GPH.out.good.l1) (DIn.of_num k2 GPH.out.good.h2 GPH.out.good.h1) (DIn.of_num k3 GQH.out.good.l2 GQH.out.good.l1) (DIn.of_num k4 GQH.out.good.h2 GQH.out.good.h1) GPH.out.good.l1 GPH.out.good.h1 GQH.out.good.l1 GQH.out.good.h1 m1 m2)
  have M2 : Hid (∀ w' A n c B m d A' n' c' B' m' d', Num w' (.slice A n c) lp.lo.m → Num w' (.slice B m d) lp.hi.m → Num w' (.slice A' n' c') lq.lo.m → Num w' (.slice B' m' d') lq.hi.m → Calls Tryz.prog 15 #[spv lp.lo.neg A n c lp.lo.e lp.hi.neg B m d lp.hi.e, spv lq.lo.neg A' n' c' lq.lo.e lq.hi.neg B' m' d' lq.hi.e] w' (TruePost w')) := Lib.hid (fun w' A n c B m d A' n' c' B' m' d' k1 k2 k3 k4 => meet_yes w' (DIn.of_num k1 JPH.out.good.l2 JPH.out.good.l1) (DIn.of_num k2 JPH.out.good.h2 JPH.out.good.h1) (DIn.of_num k3 JQH.out.good.l2 JQH.out.good.l1) (DIn.of_num k4 JQH.out.good.h2 JQH.out.good.h1) JPH.out.good.l1 JPH.out.good.h1 JQH.out.good.l1 JQH.out.good.h1 m3 m4)
  obtain ⟨dv, hdv⟩ : ∃ r, r = divC (P : Int) false a a seven seven := ⟨_, rfl⟩
  rw [← hdv] at f1 f2 f3
  have N1 : Hid (∀ w', Below w.heap.size w w' → Wk 34 w' g (P : Int) false → Calls Tryz.prog 17 #[.pointer (some ⟨g, 0, none⟩), .int .i64 n] w' (SPost 34 w' g (P : Int) ⟨false, a, a⟩)) := Lib.hid (fun w' b k => by rw [← e1]; exact num_any n g (P : Int) false w' k (HTab.out w' b) hn1 hn2)
  have N2 : Hid (∀ w', Below w.heap.size w w' → Wk 34 w' g (P : Int) false → Calls Tryz.prog 17 #[.pointer (some ⟨g, 0, none⟩), .int .i64 7] w' (SPost 34 w' g (P : Int) ⟨false, seven, seven⟩)) := Lib.hid (fun w' b k => by rw [← e5]; exact num_any 7 g (P : Int) false w' k (HTab.out w' b) (by omega) (by omega))
  have N3 : Hid (∀ w' A n c B m d A' n' c' B' m' d', Below w.heap.size w w' → Wk 34 w' g (P : Int) false → Num w' (.slice A n c) a.m → Num w' (.slice B m d) a.m → Num w' (.slice A' n' c') 7 → Num w' (.slice B' m' d') 7 → Calls Tryz.prog 16 #[.pointer (some ⟨g, 0, none⟩), spv a.neg A n c a.e a.neg B m d a.e, spv false A' n' c' 0 false B' m' d' 0] w' (SPost 34 w' g (P : Int) dv)) := Lib.hid (fun w' A n c B m d A' n' c' B' m' d' b k k1 k2 k3 k4 => by
    rw [hdv]
    exact div_any (lo := a) (hi := a) (lo' := seven) (hi' := seven) g (P : Int) false w' k (DIn.of_num k1 e3.pl e2) (DIn.of_num k2 e3.pl e2) (DIn.of_num k3 (by decide +kernel) rfl) (DIn.of_num k4 (by decide +kernel) rfl) (HTab.out w' b))
  have N4 : Hid (∀ w', Below w.heap.size w w' → Wk 41 w' w3.heap.size (P : Int) false → Calls Tryz.prog 19 #[.pointer (some ⟨w3.heap.size, 0, none⟩), .int .i64 n] w' (SPost 41 w' w3.heap.size (P : Int) ⟨false, a, a⟩)) := Lib.hid (fun w' b k => by rw [← e1]; exact rnum_any n w3.heap.size (P : Int) false w' k (HTab.out w' b) hn1 hn2)
  have N5 : Hid (∀ w', Below w.heap.size w w' → Wk 41 w' w3.heap.size (P : Int) false → Calls Tryz.prog 19 #[.pointer (some ⟨w3.heap.size, 0, none⟩), .int .i64 7] w' (SPost 41 w' w3.heap.size (P : Int) ⟨false, seven, seven⟩)) := Lib.hid (fun w' b k => by rw [← e5]; exact rnum_any 7 w3.heap.size (P : Int) false w' k (HTab.out w' b) (by omega) (by omega))
  have N6 : Hid (∀ w' A n c B m d A' n' c' B' m' d', Below w.heap.size w w' → Wk 41 w' w3.heap.size (P : Int) false → Num w' (.slice A n c) a.m → Num w' (.slice B m d) a.m → Num w' (.slice A' n' c') 7 → Num w' (.slice B' m' d') 7 → Calls Tryz.prog 18 #[.pointer (some ⟨w3.heap.size, 0, none⟩), spv a.neg A n c a.e a.neg B m d a.e, spv false A' n' c' 0 false B' m' d' 0] w' (SPost 41 w' w3.heap.size (P : Int) dv)) := Lib.hid (fun w' A n c B m d A' n' c' B' m' d' b k k1 k2 k3 k4 => by
    rw [← f2]
    exact rsdiv_any (lo := a) (hi := a) (lo' := seven) (hi' := seven) w3.heap.size (P : Int) false w' k (DIn.of_num k1 e3.pl e2) (DIn.of_num k2 e3.pl e2) (DIn.of_num k3 (by decide +kernel) rfl) (DIn.of_num k4 (by decide +kernel) rfl) (HTab.out w' b))
  have F1 := Lib.hid f1
  have F3 := Lib.hid f3
  have gpH := Lib.hid gp
  have gqH := Lib.hid gq
  have jpH := Lib.hid jp
  have jqH := Lib.hid jq
  clear x1 x2 x3 x4 y1 y2 y3 y4 GP GQ JP JQ m1 m2 m3 m4 e1 e2 e3 e4 e5 f1 f2 f3 hdv gp gq jp jq HT HTab hP1 hP2 hQ1 hQ2 hn1 hn2 hgk hhk hgh hg' hh' hk' GPH GQH JPH JQH
  try simp only [List.append_eq, List.cons_append, List.nil_append]
  have LD := L.drew
  clear L
  refine wp_region_held_drew (S := fun _ => True) (by kernel_rfl) True.intro (fun hHeld => ?_)
  refine wpAnyH_take (i := 0) (oi := ⟨some 33, _, _, _, _, _⟩) (v := ?_) rfl (by kernel_rfl) (by kernel_rfl) (by kernel_rfl) (fun _ _ _ h => h) (Or.inl ⟨by rfl, ?_⟩) True.intro ?_
  rotate_left
  · intro w hSw
    try dsimp only at hSw
    first | (go_simp; done) | (go_simp; with_reducible rfl)
  try simp only [Act.put, List.setIfInBounds_toArray, List.set_cons_zero, List.set_cons_succ]
  refine wpAnyH_take (i := 2) (oi := ⟨some 35, _, _, _, _, _⟩) (v := ?_) rfl (by kernel_rfl) (by kernel_rfl) (by kernel_rfl) (fun _ _ _ h => h) (Or.inl ⟨by rfl, ?_⟩) True.intro ?_
  rotate_left
  · intro w hSw
    try dsimp only at hSw
    first | (go_simp; done) | (go_simp; with_reducible rfl)
  try simp only [Act.put, List.setIfInBounds_toArray, List.set_cons_zero, List.set_cons_succ]
  refine wpAnyH_ready (rs := [1]) (by kernel_rfl) (by simp) ?_
  refine AllReadyH.cons (o := ⟨some 34, _, _, _, _, _⟩) rfl (fun K hK => ?_) AllReadyH.nil
  go_simp
  refine (P1.out _ LD.bel LD.G).mono ?_
  rintro e' v1 ⟨X1, x1, y1, Y1, s1, t_1, rfl, Na, Nb, hWx, ox⟩
  have LX1 := ((LD.callG ox hWx).num Nb).num Na
  rw [gpH.out] at LX1
  clear Na Nb hWx ox LD
  go_wp2_with fail
  refine hK.out _ _ True.intro (fun hHeld' => ?_)
  clear hK K hHeld
  have hHeld := hHeld'
  clear hHeld'
  try simp only [Act.put, List.setIfInBounds_toArray, List.set_cons_zero, List.set_cons_succ]
  refine wpAnyH_ready (rs := [3]) (by kernel_rfl) (by simp) ?_
  refine AllReadyH.cons (o := ⟨some 36, _, _, _, _, _⟩) rfl (fun K hK => ?_) AllReadyH.nil
  go_simp
  refine (P2.out _ LX1.bel LX1.H).mono ?_
  rintro e' v3 ⟨X3, x3, y3, Y3, s3, t_3, rfl, Na, Nb, hWx, ox⟩
  have LX3 := ((LX1.callH ox hWx).num Nb).num Na
  rw [gqH.out] at LX3
  clear Na Nb hWx ox LX1
  go_wp2_with fail
  refine hK.out _ _ True.intro (fun hHeld' => ?_)
  clear hK K hHeld
  have hHeld := hHeld'
  clear hHeld'
  try simp only [Act.put, List.setIfInBounds_toArray, List.set_cons_zero, List.set_cons_succ]
  refine wpAnyH_ready (rs := [4]) (by kernel_rfl) (by simp) ?_
  refine AllReadyH.cons (o := ⟨some 37, _, _, _, _, _⟩) rfl (fun K hK => ?_) AllReadyH.nil
  go_simp
  refine (M1.out _ _ _ _ _ _ _ _ _ _ _ _ _ (LX3.ns.2.2.1) (LX3.ns.2.2.2.1) (LX3.ns.1) (LX3.ns.2.1)).mono ?_
  rintro e' v4 ⟨rfl, bx⟩
  have LX4 := LX3.below bx
  clear bx LX3
  go_wp2_with fail
  refine hK.out _ _ True.intro (fun hHeld' => ?_)
  clear hK K hHeld
  have hHeld := hHeld'
  clear hHeld'
  try simp only [Act.put, List.setIfInBounds_toArray, List.set_cons_zero, List.set_cons_succ]
  refine wpAnyH_take (i := 5) (oi := ⟨some 38, _, _, _, _, _⟩) (v := ?_) rfl (by kernel_rfl) (by kernel_rfl) (by kernel_rfl) (fun _ _ _ h => h) (Or.inl ⟨by rfl, ?_⟩) True.intro ?_
  rotate_left
  · intro w hSw
    try dsimp only at hSw
    first | (go_simp; done) | (go_simp; with_reducible rfl)
  try simp only [Act.put, List.setIfInBounds_toArray, List.set_cons_zero, List.set_cons_succ]
  refine wpAnyH_take (i := 6) (oi := ⟨some 39, _, _, _, _, _⟩) (v := ?_) rfl (by kernel_rfl) (by kernel_rfl) (by kernel_rfl) (fun _ _ _ h => h) (Or.inl ⟨by rfl, ?_⟩) True.intro ?_
  rotate_left
  · intro w hSw
    try dsimp only at hSw
    first | (go_simp; done) | (go_simp; with_reducible rfl)
  try simp only [Act.put, List.setIfInBounds_toArray, List.set_cons_zero, List.set_cons_succ]
  refine wpAnyH_take (i := 8) (oi := ⟨some 41, _, _, _, _, _⟩) (v := ?_) rfl (by kernel_rfl) (by kernel_rfl) (by kernel_rfl) (fun _ _ _ h => h) (Or.inl ⟨by rfl, ?_⟩) True.intro ?_
  rotate_left
  · intro w hSw
    try dsimp only at hSw
    first | (go_simp; done) | (go_simp; with_reducible rfl)
  try simp only [Act.put, List.setIfInBounds_toArray, List.set_cons_zero, List.set_cons_succ]
  refine wpAnyH_ready (rs := [7]) (by kernel_rfl) (by simp) ?_
  refine AllReadyH.cons (o := ⟨some 40, _, _, _, _, _⟩) rfl (fun K hK => ?_) AllReadyH.nil
  go_simp
  refine (P3.out _ LX4.bel LX4.G).mono ?_
  rintro e' v7 ⟨X7, x7, y7, Y7, s7, t_7, rfl, Na, Nb, hWx, ox⟩
  have LX7 := ((LX4.callG ox hWx).num Nb).num Na
  rw [jpH.out] at LX7
  clear Na Nb hWx ox LX4
  go_wp2_with fail
  refine hK.out _ _ True.intro (fun hHeld' => ?_)
  clear hK K hHeld
  have hHeld := hHeld'
  clear hHeld'
  try simp only [Act.put, List.setIfInBounds_toArray, List.set_cons_zero, List.set_cons_succ]
  refine wpAnyH_ready (rs := [9]) (by kernel_rfl) (by simp) ?_
  refine AllReadyH.cons (o := ⟨some 42, _, _, _, _, _⟩) rfl (fun K hK => ?_) AllReadyH.nil
  go_simp
  refine (P4.out _ LX7.bel LX7.H).mono ?_
  rintro e' v9 ⟨X9, x9, y9, Y9, s9, t_9, rfl, Na, Nb, hWx, ox⟩
  have LX9 := ((LX7.callH ox hWx).num Nb).num Na
  rw [jqH.out] at LX9
  clear Na Nb hWx ox LX7
  go_wp2_with fail
  refine hK.out _ _ True.intro (fun hHeld' => ?_)
  clear hK K hHeld
  have hHeld := hHeld'
  clear hHeld'
  try simp only [Act.put, List.setIfInBounds_toArray, List.set_cons_zero, List.set_cons_succ]
  refine wpAnyH_ready (rs := [10]) (by kernel_rfl) (by simp) ?_
  refine AllReadyH.cons (o := ⟨some 43, _, _, _, _, _⟩) rfl (fun K hK => ?_) AllReadyH.nil
  go_simp
  refine (M2.out _ _ _ _ _ _ _ _ _ _ _ _ _ (LX9.ns.2.2.1) (LX9.ns.2.2.2.1) (LX9.ns.1) (LX9.ns.2.1)).mono ?_
  rintro e' v10 ⟨rfl, bx⟩
  have LX10 := LX9.below bx
  clear bx LX9
  go_wp2_with fail
  refine hK.out _ _ True.intro (fun hHeld' => ?_)
  clear hK K hHeld
  have hHeld := hHeld'
  clear hHeld'
  try simp only [Act.put, List.setIfInBounds_toArray, List.set_cons_zero, List.set_cons_succ]
  refine wpAnyH_take (i := 11) (oi := ⟨some 44, _, _, _, _, _⟩) (v := ?_) rfl (by kernel_rfl) (by kernel_rfl) (by kernel_rfl) (fun _ _ _ h => h) (Or.inl ⟨by rfl, ?_⟩) True.intro ?_
  rotate_left
  · intro w hSw
    try dsimp only at hSw
    first | (go_simp; done) | (go_simp; with_reducible rfl)
  try simp only [Act.put, List.setIfInBounds_toArray, List.set_cons_zero, List.set_cons_succ]
  refine wpAnyH_take (i := 12) (oi := ⟨some 45, _, _, _, _, _⟩) (v := ?_) rfl (by kernel_rfl) (by kernel_rfl) (by kernel_rfl) (fun _ _ _ h => h) (Or.inl ⟨by rfl, ?_⟩) True.intro ?_
  rotate_left
  · intro w hSw
    try dsimp only at hSw
    first | (go_simp; done) | (go_simp; with_reducible rfl)
  try simp only [Act.put, List.setIfInBounds_toArray, List.set_cons_zero, List.set_cons_succ]
  refine wpAnyH_take (i := 13) (oi := ⟨some 46, _, _, _, _, _⟩) (v := ?_) rfl (by kernel_rfl) (by kernel_rfl) (by kernel_rfl) (fun _ _ _ h => h) (Or.inl ⟨by rfl, ?_⟩) True.intro ?_
  rotate_left
  · intro w hSw
    try dsimp only at hSw
    first | (go_simp; done) | (go_simp; with_reducible rfl)
  try simp only [Act.put, List.setIfInBounds_toArray, List.set_cons_zero, List.set_cons_succ]
  refine wpAnyH_take (i := 14) (oi := ⟨some 47, _, _, _, _, _⟩) (v := ?_) rfl (by kernel_rfl) (by kernel_rfl) (by kernel_rfl) (fun _ _ _ h => h) (Or.inl ⟨by rfl, ?_⟩) True.intro ?_
  rotate_left
  · intro w hSw
    try dsimp only at hSw
    first | (go_simp; done) | (go_simp; with_reducible rfl)
  try simp only [Act.put, List.setIfInBounds_toArray, List.set_cons_zero, List.set_cons_succ]
  refine wpAnyH_take (i := 15) (oi := ⟨some 48, _, _, _, _, _⟩) (v := ?_) rfl (by kernel_rfl) (by kernel_rfl) (by kernel_rfl) (fun _ _ _ h => h) (Or.inl ⟨by rfl, ?_⟩) True.intro ?_
  rotate_left
  · intro w hSw
    try dsimp only at hSw
    first | (go_simp; done) | (go_simp; with_reducible rfl)
  try simp only [Act.put, List.setIfInBounds_toArray, List.set_cons_zero, List.set_cons_succ]
  refine wpAnyH_take (i := 16) (oi := ⟨some 49, _, _, _, _, _⟩) (v := ?_) rfl (by kernel_rfl) (by kernel_rfl) (by kernel_rfl) (fun _ _ _ h => h) (Or.inl ⟨by rfl, ?_⟩) True.intro ?_
  rotate_left
  · intro w hSw
    try dsimp only at hSw
    first | (go_simp; done) | (go_simp; with_reducible rfl)
  try simp only [Act.put, List.setIfInBounds_toArray, List.set_cons_zero, List.set_cons_succ]
  refine wpAnyH_take (i := 17) (oi := ⟨some 50, _, _, _, _, _⟩) (v := ?_) rfl (by kernel_rfl) (by kernel_rfl) (by kernel_rfl) (fun _ _ _ h => h) (Or.inl ⟨by rfl, ?_⟩) True.intro ?_
  rotate_left
  · intro w hSw
    try dsimp only at hSw
    first | (go_simp; done) | (go_simp; with_reducible rfl)
  try simp only [Act.put, List.setIfInBounds_toArray, List.set_cons_zero, List.set_cons_succ]
  refine wpAnyH_take (i := 18) (oi := ⟨some 51, _, _, _, _, _⟩) (v := ?_) rfl (by kernel_rfl) (by kernel_rfl) (by kernel_rfl) (fun _ _ _ h => h) (Or.inl ⟨by rfl, ?_⟩) True.intro ?_
  rotate_left
  · intro w hSw
    try dsimp only at hSw
    first | (go_simp; done) | (go_simp; with_reducible rfl)
  try simp only [Act.put, List.setIfInBounds_toArray, List.set_cons_zero, List.set_cons_succ]
  refine wpAnyH_take (i := 19) (oi := ⟨some 52, _, _, _, _, _⟩) (v := ?_) rfl (by kernel_rfl) (by kernel_rfl) (by kernel_rfl) (fun _ _ _ h => h) (Or.inl ⟨by rfl, ?_⟩) True.intro ?_
  rotate_left
  · intro w hSw
    try dsimp only at hSw
    first | (go_simp; done) | (go_simp; with_reducible rfl)
  try simp only [Act.put, List.setIfInBounds_toArray, List.set_cons_zero, List.set_cons_succ]
  refine wpAnyH_take (i := 21) (oi := ⟨some 54, _, _, _, _, _⟩) (v := ?_) rfl (by kernel_rfl) (by kernel_rfl) (by kernel_rfl) (fun _ _ _ h => h) (Or.inl ⟨by rfl, ?_⟩) True.intro ?_
  rotate_left
  · intro w hSw
    try dsimp only at hSw
    first | (go_simp; done) | (go_simp; with_reducible rfl)
  try simp only [Act.put, List.setIfInBounds_toArray, List.set_cons_zero, List.set_cons_succ]
  refine wpAnyH_take (i := 22) (oi := ⟨some 55, _, _, _, _, _⟩) (v := ?_) rfl (by kernel_rfl) (by kernel_rfl) (by kernel_rfl) (fun _ _ _ h => h) (Or.inl ⟨by rfl, ?_⟩) True.intro ?_
  rotate_left
  · intro w hSw
    try dsimp only at hSw
    first | (go_simp; done) | (go_simp; with_reducible rfl)
  try simp only [Act.put, List.setIfInBounds_toArray, List.set_cons_zero, List.set_cons_succ]
  refine wpAnyH_take (i := 23) (oi := ⟨some 56, _, _, _, _, _⟩) (v := ?_) rfl (by kernel_rfl) (by kernel_rfl) (by kernel_rfl) (fun _ _ _ h => h) (Or.inl ⟨by rfl, ?_⟩) True.intro ?_
  rotate_left
  · intro w hSw
    try dsimp only at hSw
    first | (go_simp; done) | (go_simp; with_reducible rfl)
  try simp only [Act.put, List.setIfInBounds_toArray, List.set_cons_zero, List.set_cons_succ]
  refine wpAnyH_take (i := 26) (oi := ⟨some 59, _, _, _, _, _⟩) (v := ?_) rfl (by kernel_rfl) (by kernel_rfl) (by kernel_rfl) (fun _ _ _ h => h) (Or.inl ⟨by rfl, ?_⟩) True.intro ?_
  rotate_left
  · intro w hSw
    try dsimp only at hSw
    first | (go_simp; done) | (go_simp; with_reducible rfl)
  try simp only [Act.put, List.setIfInBounds_toArray, List.set_cons_zero, List.set_cons_succ]
  refine wpAnyH_take (i := 27) (oi := ⟨some 60, _, _, _, _, _⟩) (v := ?_) rfl (by kernel_rfl) (by kernel_rfl) (by kernel_rfl) (fun _ _ _ h => h) (Or.inl ⟨by rfl, ?_⟩) True.intro ?_
  rotate_left
  · intro w hSw
    try dsimp only at hSw
    first | (go_simp; done) | (go_simp; with_reducible rfl)
  try simp only [Act.put, List.setIfInBounds_toArray, List.set_cons_zero, List.set_cons_succ]
  refine wpAnyH_take (i := 28) (oi := ⟨some 61, _, _, _, _, _⟩) (v := ?_) rfl (by kernel_rfl) (by kernel_rfl) (by kernel_rfl) (fun _ _ _ h => h) (Or.inl ⟨by rfl, ?_⟩) True.intro ?_
  rotate_left
  · intro w hSw
    try dsimp only at hSw
    first | (go_simp; done) | (go_simp; with_reducible rfl)
  try simp only [Act.put, List.setIfInBounds_toArray, List.set_cons_zero, List.set_cons_succ]
  refine wpAnyH_take (i := 30) (oi := ⟨some 63, _, _, _, _, _⟩) (v := ?_) rfl (by kernel_rfl) (by kernel_rfl) (by kernel_rfl) (fun _ _ _ h => h) (Or.inl ⟨by rfl, ?_⟩) True.intro ?_
  rotate_left
  · intro w hSw
    try dsimp only at hSw
    first | (go_simp; done) | (go_simp; with_reducible rfl)
  try simp only [Act.put, List.setIfInBounds_toArray, List.set_cons_zero, List.set_cons_succ]
  refine wpAnyH_ready (rs := [20]) (by kernel_rfl) (by simp) ?_
  refine AllReadyH.cons (o := ⟨some 53, _, _, _, _, _⟩) rfl (fun K hK => ?_) AllReadyH.nil
  go_simp
  refine (N1.out _ LX10.bel LX10.G).mono ?_
  rintro e' v20 ⟨X20, x20, y20, Y20, s20, t_20, rfl, Na, Nb, hWx, ox⟩
  have LX20 := ((LX10.callG ox hWx).num Nb).num Na
  clear Na Nb hWx ox LX10
  go_wp2_with fail
  refine hK.out _ _ True.intro (fun hHeld' => ?_)
  clear hK K hHeld
  have hHeld := hHeld'
  clear hHeld'
  try simp only [Act.put, List.setIfInBounds_toArray, List.set_cons_zero, List.set_cons_succ]
  refine wpAnyH_ready (rs := [24]) (by kernel_rfl) (by simp) ?_
  refine AllReadyH.cons (o := ⟨some 57, _, _, _, _, _⟩) rfl (fun K hK => ?_) AllReadyH.nil
  go_simp
  refine (N2.out _ LX20.bel LX20.G).mono ?_
  rintro e' v24 ⟨X24, x24, y24, Y24, s24, t_24, rfl, Na, Nb, hWx, ox⟩
  have LX24 := ((LX20.callG ox hWx).num Nb).num Na
  clear Na Nb hWx ox LX20
  go_wp2_with fail
  refine hK.out _ _ True.intro (fun hHeld' => ?_)
  clear hK K hHeld
  have hHeld := hHeld'
  clear hHeld'
  try simp only [Act.put, List.setIfInBounds_toArray, List.set_cons_zero, List.set_cons_succ]
  refine wpAnyH_ready (rs := [25]) (by kernel_rfl) (by simp) ?_
  refine AllReadyH.cons (o := ⟨some 58, _, _, _, _, _⟩) rfl (fun K hK => ?_) AllReadyH.nil
  go_simp
  refine (N3.out _ _ _ _ _ _ _ _ _ _ _ _ _ LX24.bel LX24.G (LX24.ns.2.2.1) (LX24.ns.2.2.2.1) (LX24.ns.1) (LX24.ns.2.1)).mono ?_
  rintro e' v25 ⟨X25, x25, y25, Y25, s25, t_25, rfl, Na, Nb, hWx, ox⟩
  have LX25 := ((LX24.callG ox hWx).num Nb).num Na
  rw [F1.out] at LX25
  clear Na Nb hWx ox LX24
  go_wp2_with fail
  refine hK.out _ _ True.intro (fun hHeld' => ?_)
  clear hK K hHeld
  have hHeld := hHeld'
  clear hHeld'
  try simp only [Act.put, List.setIfInBounds_toArray, List.set_cons_zero, List.set_cons_succ]
  refine wpAnyH_ready (rs := [29]) (by kernel_rfl) (by simp) ?_
  refine AllReadyH.cons (o := ⟨some 62, _, _, _, _, _⟩) rfl (fun K hK => ?_) AllReadyH.nil
  go_simp
  refine (N4.out _ LX25.bel LX25.K).mono ?_
  rintro e' v29 ⟨X29, x29, y29, Y29, s29, t_29, rfl, Na, Nb, hWx, ox⟩
  have LX29 := ((LX25.callK ox hWx).num Nb).num Na
  clear Na Nb hWx ox LX25
  go_wp2_with fail
  refine hK.out _ _ True.intro (fun hHeld' => ?_)
  clear hK K hHeld
  have hHeld := hHeld'
  clear hHeld'
  try simp only [Act.put, List.setIfInBounds_toArray, List.set_cons_zero, List.set_cons_succ]
  refine wpAnyH_ready (rs := [31]) (by kernel_rfl) (by simp) ?_
  refine AllReadyH.cons (o := ⟨some 64, _, _, _, _, _⟩) rfl (fun K hK => ?_) AllReadyH.nil
  go_simp
  refine (N5.out _ LX29.bel LX29.K).mono ?_
  rintro e' v31 ⟨X31, x31, y31, Y31, s31, t_31, rfl, Na, Nb, hWx, ox⟩
  have LX31 := ((LX29.callK ox hWx).num Nb).num Na
  clear Na Nb hWx ox LX29
  go_wp2_with fail
  refine hK.out _ _ True.intro (fun hHeld' => ?_)
  clear hK K hHeld
  have hHeld := hHeld'
  clear hHeld'
  try simp only [Act.put, List.setIfInBounds_toArray, List.set_cons_zero, List.set_cons_succ]
  refine wpAnyH_ready (rs := [32]) (by kernel_rfl) (by simp) ?_
  refine AllReadyH.cons (o := ⟨some 65, _, _, _, _, _⟩) rfl (fun K hK => ?_) AllReadyH.nil
  go_simp
  refine (N6.out _ _ _ _ _ _ _ _ _ _ _ _ _ LX31.bel LX31.K (LX31.ns.2.2.1) (LX31.ns.2.2.2.1) (LX31.ns.1) (LX31.ns.2.1)).mono ?_
  rintro e' v32 ⟨X32, x32, y32, Y32, s32, t_32, rfl, Na, Nb, hWx, ox⟩
  have LX32 := ((LX31.callK ox hWx).num Nb).num Na
  rw [F1.out] at LX32
  clear Na Nb hWx ox LX31
  go_wp2_with fail
  refine hK.out _ _ True.intro (fun hHeld' => ?_)
  clear hK K hHeld
  have hHeld := hHeld'
  clear hHeld'
  try simp only [Act.put, List.setIfInBounds_toArray, List.set_cons_zero, List.set_cons_succ]
  refine wpAnyH_ready (rs := [33]) (by kernel_rfl) (by simp) ?_
  refine AllReadyH.cons (o := ⟨some 66, _, _, _, _, _⟩) rfl (fun K hK => ?_) AllReadyH.nil
  go_simp
  refine (same_span dv.lo dv.hi X25 Y25 X32 Y32 x25 y25 s25 t_25 x32 y32 s32 t_32 _ (LX32.ns.2.2.2.2.2.2.1) (LX32.ns.2.2.2.2.2.2.2.1) (LX32.ns.1) (LX32.ns.2.1) F3.out.lo_small F3.out.hi_small).mono ?_
  rintro e' v33 ⟨rfl, bx⟩
  have LX33 := LX32.below bx
  clear bx LX32
  go_wp2_with fail
  refine hK.out _ _ True.intro (fun hHeld' => ?_)
  clear hK K hHeld
  have hHeld := hHeld'
  clear hHeld'
  try simp only [Act.put, List.setIfInBounds_toArray, List.set_cons_zero, List.set_cons_succ]
  refine held_more (S' := fun w' => w'.cell? ⟨g, 1, none⟩ = some (.bool false) ∧ w'.cell? ⟨h, 1, none⟩ = some (.bool false)) (fun w h => True.intro) _ _ _ _ ?_
  have hHeld2 : (fun w' => w'.cell? ⟨g, 1, none⟩ = some (.bool false) ∧ w'.cell? ⟨h, 1, none⟩ = some (.bool false)) v33 := ⟨LX33.G.cell.2, LX33.H.cell.2⟩
  clear hHeld
  have hHeld := hHeld2
  clear hHeld2
  refine wpAnyH_take (i := 34) (oi := ⟨some 67, _, _, _, _, _⟩) (v := ?_) rfl (by kernel_rfl) (by kernel_rfl) (by kernel_rfl) (fun _ _ _ h => h) (Or.inl ⟨by rfl, ?_⟩) (by assumption) ?_
  rotate_left
  · intro w hSw
    try dsimp only at hSw
    first | (go_simp; done) | (go_simp; with_reducible rfl)
  try simp only [Act.put, List.setIfInBounds_toArray, List.set_cons_zero, List.set_cons_succ]
  refine wpAnyH_take (i := 35) (oi := ⟨some 68, _, _, _, _, _⟩) (v := ?_) rfl (by kernel_rfl) (by kernel_rfl) (by kernel_rfl) (fun _ _ _ h => h) (Or.inl ⟨by rfl, ?_⟩) (by assumption) ?_
  rotate_left
  · intro w hSw
    try dsimp only at hSw
    first | (go_simp; done) | (go_simp; with_reducible rfl)
  try simp only [Act.put, List.setIfInBounds_toArray, List.set_cons_zero, List.set_cons_succ]
  refine wpAnyH_take (i := 36) (oi := ⟨some 69, _, _, _, _, _⟩) (v := ?_) rfl (by kernel_rfl) (by kernel_rfl) (by kernel_rfl) (fun _ _ _ h => h) (Or.inl ⟨by rfl, ?_⟩) (by assumption) ?_
  rotate_left
  · intro w hSw
    try dsimp only at hSw
    first | (go_simp; done) | (go_simp; with_reducible rfl)
  try simp only [Act.put, List.setIfInBounds_toArray, List.set_cons_zero, List.set_cons_succ]
  refine wpAnyH_take (i := 37) (oi := ⟨some 70, _, _, _, _, _⟩) (v := ?_) rfl (by kernel_rfl) (by kernel_rfl) (by kernel_rfl) (fun _ _ _ h => h) (Or.inl ⟨by rfl, ?_⟩) (by assumption) ?_
  rotate_left
  · intro w hSw
    try dsimp only at hSw
    first | (go_simp; done) | (go_simp; with_reducible rfl)
  try simp only [Act.put, List.setIfInBounds_toArray, List.set_cons_zero, List.set_cons_succ]
  refine wpAnyH_take (i := 38) (oi := ⟨some 71, _, _, _, _, _⟩) (v := ?_) rfl (by kernel_rfl) (by kernel_rfl) (by kernel_rfl) (fun _ _ _ h => h) (Or.inl ⟨by rfl, ?_⟩) (by assumption) ?_
  rotate_left
  · intro w hSw
    try dsimp only at hSw
    first | (go_simp; done) | (go_simp; with_reducible rfl)
  try simp only [Act.put, List.setIfInBounds_toArray, List.set_cons_zero, List.set_cons_succ]
  refine wpAnyH_take (i := 39) (oi := ⟨some 72, _, _, _, _, _⟩) (v := ?_) rfl (by kernel_rfl) (by kernel_rfl) (by kernel_rfl) (fun _ _ _ h => h) (Or.inl ⟨by rfl, ?_⟩) (by assumption) ?_
  rotate_left
  · intro w hSw
    try dsimp only at hSw
    first | (go_simp; done) | (go_simp; with_reducible rfl)
  try simp only [Act.put, List.setIfInBounds_toArray, List.set_cons_zero, List.set_cons_succ]
  refine wpAnyH_take (i := 40) (oi := ⟨some 73, _, _, _, _, _⟩) (v := ?_) rfl (by kernel_rfl) (by kernel_rfl) (by kernel_rfl) (fun _ _ _ h => h) (Or.inl ⟨by rfl, ?_⟩) (by assumption) ?_
  rotate_left
  · intro w hSw
    try dsimp only at hSw
    first | (go_simp; done) | (go_simp; with_reducible rfl)
  try simp only [Act.put, List.setIfInBounds_toArray, List.set_cons_zero, List.set_cons_succ]
  refine wpAnyH_take (i := 41) (oi := ⟨some 74, _, _, _, _, _⟩) (v := ?_) rfl (by kernel_rfl) (by kernel_rfl) (by kernel_rfl) (fun _ _ _ h => h) (Or.inl ⟨by rfl, ?_⟩) (by assumption) ?_
  rotate_left
  · intro w hSw
    try dsimp only at hSw
    first | (go_simp; done) | (go_simp; with_reducible rfl)
  try simp only [Act.put, List.setIfInBounds_toArray, List.set_cons_zero, List.set_cons_succ]
  refine wpAnyH_take (i := 42) (oi := ⟨some 75, _, _, _, _, _⟩) (v := ?_) rfl (by kernel_rfl) (by kernel_rfl) (by kernel_rfl) (fun _ _ _ h => h) (Or.inl ⟨by rfl, ?_⟩) (by assumption) ?_
  rotate_left
  · intro w hSw
    try dsimp only at hSw
    first | (go_simp; done) | (go_simp; with_reducible rfl)
  try simp only [Act.put, List.setIfInBounds_toArray, List.set_cons_zero, List.set_cons_succ]
  refine wpAnyH_take (i := 43) (oi := ⟨some 76, _, _, _, _, _⟩) (v := ?_) rfl (by kernel_rfl) (by kernel_rfl) (by kernel_rfl) (fun _ _ _ h => h) (Or.inl ⟨by rfl, ?_⟩) (by assumption) ?_
  rotate_left
  · intro w hSw
    try dsimp only at hSw
    first | (go_simp; done) | (go_simp; with_reducible rfl)
  try simp only [Act.put, List.setIfInBounds_toArray, List.set_cons_zero, List.set_cons_succ]
  refine wpAnyH_take (i := 44) (oi := ⟨some 77, _, _, _, _, _⟩) (v := ?_) rfl (by kernel_rfl) (by kernel_rfl) (by kernel_rfl) (fun _ _ _ h => h) (Or.inl ⟨by rfl, ?_⟩) (by assumption) ?_
  rotate_left
  · intro w hSw
    try dsimp only at hSw
    first | (go_simp; done) | (go_simp; with_reducible rfl)
  try simp only [Act.put, List.setIfInBounds_toArray, List.set_cons_zero, List.set_cons_succ]
  refine wpAnyH_take (i := 45) (oi := ⟨some 78, _, _, _, _, _⟩) (v := ?_) rfl (by kernel_rfl) (by kernel_rfl) (by kernel_rfl) (fun _ _ _ h => h) (Or.inl ⟨by rfl, ?_⟩) (by assumption) ?_
  rotate_left
  · intro w hSw
    try dsimp only at hSw
    first | (go_simp; done) | (go_simp; with_reducible rfl)
  try simp only [Act.put, List.setIfInBounds_toArray, List.set_cons_zero, List.set_cons_succ]
  refine wpAnyH_take (i := 46) (oi := ⟨some 79, _, _, _, _, _⟩) (v := ?_) rfl (by kernel_rfl) (by kernel_rfl) (by kernel_rfl) (fun _ _ _ h => h) (Or.inl ⟨by rfl, ?_⟩) (by assumption) ?_
  rotate_left
  · intro w hSw
    try dsimp only at hSw
    first | (go_simp; done) | (go_simp; with_reducible rfl)
  try simp only [Act.put, List.setIfInBounds_toArray, List.set_cons_zero, List.set_cons_succ]
  refine wpAnyH_take (i := 47) (oi := ⟨some 80, _, _, _, _, _⟩) (v := ?_) rfl (by kernel_rfl) (by kernel_rfl) (by kernel_rfl) (fun _ _ _ h => h) (Or.inl ⟨by rfl, ?_⟩) (by assumption) ?_
  rotate_left
  · intro w hSw
    try dsimp only at hSw
    first | (go_simp; done) | (go_simp; with_reducible rfl)
  try simp only [Act.put, List.setIfInBounds_toArray, List.set_cons_zero, List.set_cons_succ]
  refine wpAnyH_take (i := 48) (oi := ⟨some 81, _, _, _, _, _⟩) (v := ?_) rfl (by kernel_rfl) (by kernel_rfl) (by kernel_rfl) (fun _ _ _ h => h) (Or.inl ⟨by rfl, ?_⟩) (by assumption) ?_
  rotate_left
  · intro w hSw
    try dsimp only at hSw
    first | (go_simp; done) | (go_simp; with_reducible rfl)
  try simp only [Act.put, List.setIfInBounds_toArray, List.set_cons_zero, List.set_cons_succ]
  refine wpAnyH_take (i := 49) (oi := ⟨some 82, _, _, _, _, _⟩) (v := ?_) rfl (by kernel_rfl) (by kernel_rfl) (by kernel_rfl) (fun _ _ _ h => h) (Or.inl ⟨by rfl, ?_⟩) (by assumption) ?_
  rotate_left
  · intro w hSw
    try dsimp only at hSw
    first | (go_simp; done) | (go_simp; with_reducible rfl)
  try simp only [Act.put, List.setIfInBounds_toArray, List.set_cons_zero, List.set_cons_succ]
  refine wpAnyH_take (i := 50) (oi := ⟨some 83, _, _, _, _, _⟩) (v := ?_) rfl (by kernel_rfl) (by kernel_rfl) (by kernel_rfl) (fun _ _ _ h => h) (Or.inl ⟨by rfl, ?_⟩) (by assumption) ?_
  rotate_left
  · intro w hSw
    try dsimp only at hSw
    first | (go_simp; done) | (go_simp; with_reducible rfl)
  try simp only [Act.put, List.setIfInBounds_toArray, List.set_cons_zero, List.set_cons_succ]
  refine wpAnyH_take (i := 51) (oi := ⟨some 6, _, _, _, _, _⟩) (v := ?_) rfl (by kernel_rfl) (by kernel_rfl) (by kernel_rfl) (fun _ _ _ h => h) (Or.inl ⟨by rfl, ?_⟩) (by assumption) ?_
  rotate_left
  · intro w hSw
    try dsimp only at hSw
    first | (go_simp; done) | (go_simp; with_reducible rfl)
  try simp only [Act.put, List.setIfInBounds_toArray, List.set_cons_zero, List.set_cons_succ]
  refine wpAnyH_done (by kernel_rfl) ?_ _
  go_wp2_with fail
  go_ret
  exact ⟨rfl, LX33.bel⟩
end Go.Proofs.YtmadojejafbpjaaGreatDoor
