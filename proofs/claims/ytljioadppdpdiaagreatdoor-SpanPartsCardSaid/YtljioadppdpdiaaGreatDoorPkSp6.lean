/-
  Hull of the code.
  volvelleref03's least: of a list of dyads the least, or the greatest.
  Hull of the reference.
-/
import Derived.Test.YtljioadppdpdiaaGreatDoorPkDy9
import Derived.Test.YtljioadppdpdiaaGreatDoorPkDy11
import Derived.Test.YtljioadppdpdiaaGreatDoorPkDy13
import Derived.Test.YtljioadppdpdiaaGreatDoorPkSp3
namespace Go.Proofs.YtljioadppdpdiaaGreatDoor
open Go.RowKit

/-- The order of two dyads as they are handed in. -/
def cmpI2 (r s : DR) : Int := cmpD (r.ok && s.ok) r.neg s.neg r.m s.m r.e s.e
def belowI (r s : DR) : Bool := decide (cmpI2 r s < 0)
theorem cmpN_anti (a b : Nat) : cmpN a b = - cmpN b a := by
  rcases Nat.lt_trichotomy a b with h | h | h
  · rw [cmpN_lt h, cmpN_gt h]
  · subst h; rw [cmpN_eq]; rfl
  · rw [cmpN_lt h, cmpN_gt h]; rfl
theorem cmpI2_anti (r s : DR) : cmpI2 r s = - cmpI2 s r := by
  unfold cmpI2 cmpD
  rw [Bool.and_comm]
  cases s.ok && r.ok
  · rfl
  · simp only [if_true]
    unfold ordD sizeC
    rw [cmpN_anti (onE r.m r.e s.e)]
    cases r.neg <;> cases s.neg <;> simp
theorem isbelow_I {r s : DR} {A B : Option Addr} {n c m d : Nat} (w : World) (ha : DIn w A n c r) (hb : DIn w B m d s) :
    Calls Tryz.prog 65 #[dyv r.neg A n c r.e, dyv s.neg B m d s.e] w fun o w' => o = .returned (.bool (belowI r s)) ∧ Below w.heap.size w w' := by
  obtain ⟨x, a1, a2, a3, a4⟩ := ha
  obtain ⟨y, b1, b2, b3, b4⟩ := hb
  have := isbelow_any r.neg s.neg A B n c m d x y r.e s.e w a1 b1 a2 b2
  unfold belowI cmpI2
  rw [a3, a4, b3, b4]
  exact this
def pickS (b : Bool) (r s : DR) : DR := if b then r else s
def hullS (p : Int) (bad : Bool) (lo hi lo' hi' : DR) : SRes := if bad2 p bad lo hi lo' hi' then SRes.no else ⟨false, pickS (belowI lo' lo) lo' lo, pickS (belowI hi hi') hi' hi⟩
theorem sgood_hull {p : Int} {bad : Bool} {lo hi lo' hi' : DR} (h1 : lo.ok = true → PlainR lo) (h2 : hi.ok = true → PlainR hi) (h3 : lo'.ok = true → PlainR lo') (h4 : hi'.ok = true → PlainR hi') : SGood (hullS p bad lo hi lo' hi') := by
  unfold hullS
  cases hb : bad2 p bad lo hi lo' hi'
  · obtain ⟨_, _, r1, r2⟩ := bad2_false hb
    have e1 : pickS (belowI lo' lo) lo' lo = lo' ∨ pickS (belowI lo' lo) lo' lo = lo := by unfold pickS; split <;> simp
    have e2 : pickS (belowI hi hi') hi' hi = hi' ∨ pickS (belowI hi hi') hi' hi = hi := by unfold pickS; split <;> simp
    have p1 := (h1 r1.l).pl
    have p2 := (h2 r1.h).pl
    have p3 := (h3 r2.l).pl
    have p4 := (h4 r2.h).pl
    rcases e1 with e1 | e1 <;> rcases e2 with e2 | e2 <;> simp only [Bool.false_eq_true, if_false, e1, e2]
    · exact ⟨r2.l, p3, r2.h, p4⟩
    · exact ⟨r2.l, p3, r1.h, p2⟩
    · exact ⟨r1.l, p1, r2.h, p4⟩
    · exact ⟨r1.l, p1, r1.h, p2⟩
  · exact sgood_no
abbrev put3h (w : World) (g : Nat) (a b c : Value) : World := ((w.setCell ⟨g, 3, none⟩ a).setCell ⟨g, 4, none⟩ b).setCell ⟨g, 5, none⟩ c
theorem only_put3h (w : World) (g : Nat) (a b c : Value) : Only w (put3h w g a b c) g := (((Only.refl w g).set_ 3 a).set_ 4 b).set_ 5 c
theorem kc_putLo {T : TypeId} {w : World} {g : Nat} {a b c d e f : Value} (h : KC T w g #[a, b, c, d, e, f]) (x y z : Value) : KC T (put3 w g x y z) g #[x, y, z, d, e, f] := by
  obtain ⟨h1, h2⟩ := h
  refine ⟨?_, by simpa [put3, World.setCell] using h2⟩
  simp [World.setCell, Array.getElem?_modify, h1]
theorem kc_putHi {T : TypeId} {w : World} {g : Nat} {a b c d e f : Value} (h : KC T w g #[a, b, c, d, e, f]) (x y z : Value) : KC T (put3h w g x y z) g #[a, b, c, x, y, z] := by
  obtain ⟨h1, h2⟩ := h
  refine ⟨?_, by simpa [put3h, World.setCell] using h2⟩
  simp [World.setCell, Array.getElem?_modify, h1]
end Go.Proofs.YtljioadppdpdiaaGreatDoor

namespace Go.Proofs.YtljioadppdpdiaaGreatDoor
open Go.RowKit

/-- The order of two dyads of a list; is one better than another; the best of the first ones. -/
def cmpL (l : DL) (a b : Nat) : Int := cmpD (plainB (l.ng a) (l.n a) (l.x a) (l.e a) && plainB (l.ng b) (l.n b) (l.x b) (l.e b)) (l.ng a) (l.ng b) (vs B64 (l.x a) (l.n a)) (vs B64 (l.x b) (l.n b)) (l.e a) (l.e b)
def betterL (l : DL) (most : Bool) (a b : Nat) : Bool := if most then decide (0 < cmpL l a b) else decide (cmpL l a b < 0)
def bestL (l : DL) (most : Bool) : Nat → Nat
  | 0 => 0
  | i + 1 => if betterL l most (i + 1) (bestL l most i) then i + 1 else bestL l most i
theorem bestL_le (l : DL) (most : Bool) (i : Nat) : bestL l most i ≤ i := by
  induction i with
  | zero => exact Nat.le_refl _
  | succ i ih => unfold bestL; split <;> omega
def LeastP (w : World) (l : DL) (J : Nat) (e : Ending) (w' : World) : Prop := e = .returned (dyv (l.ng J) (l.A J) (l.n J) (l.c J) (l.e J)) ∧ Below w.heap.size w w'
/-- What the loop keeps: the place of the answer, the best one so far. -/
structure LB (w wr : World) (gr gb : Nat) (l : DL) (b : Nat) : Prop where
  bel : Below w.heap.size w wr
  kr : KC 26 wr gr zd
  kb : KC 26 wr gb #[.bool (l.ng b), .slice (l.A b) (l.n b) (l.c b), .int .i64 (l.e b)]
  ne : gr ≠ gb
  lo : w.heap.size ≤ gb
theorem LB.adv {w wr w2 : World} {gr gb : Nat} {l : DL} {b : Nat} (h : LB w wr gr gb l b) (hb : Below wr.heap.size wr w2) : LB w w2 gr gb l b := ⟨below_step h.bel hb, h.kr.adv hb, h.kb.adv hb, h.ne, h.lo⟩
theorem LB.put {w wr : World} {gr gb : Nat} {l : DL} {b : Nat} (h : LB w wr gr gb l b) (b' : Nat) : LB w (put3 wr gb (.bool (l.ng b')) (.slice (l.A b') (l.n b') (l.c b')) (.int .i64 (l.e b'))) gr gb l b' :=
  ⟨below_only h.bel (only_put3 _ _ _ _ _) h.lo, h.kr.only (only_put3 _ _ _ _ _) h.ne, h.kb.put3 _ _ _, h.ne, h.lo⟩

set_option maxRecDepth 8000 in
set_option maxHeartbeats 4000000 in
theorem least_any (L : Option Addr) (k cp : Nat) (l : DL) (most : Bool) (w : World) (h : Ls w L k cp l) (hk0 : 0 < k) (hk : k ≤ 1000) (hlen : ∀ j, j < k → l.n j ≤ 400000) :
    Calls Tryz.prog 34 #[.slice L k cp, .bool most] w (LeastP w l (bestL l most (k - 1))) := by
  have HLEN := Lib.hid hlen
  clear hlen
  obtain ⟨ad, rfl, hb, hc⟩ := h.2.1 hk0
  have HSL := Lib.hid h.2.2
  have HCL : Hid (∀ i, i < k → ∀ w', Below w.heap.size w w' → w'.cell? (ad.add (i * 3)) = some (.bool (l.ng i)) ∧ w'.cell? ⟨(ad.add (i * 3)).block, (ad.add (i * 3)).off + 1, none⟩ = some (.slice (l.A i) (l.n i) (l.c i)) ∧ w'.cell? ⟨(ad.add (i * 3)).block, (ad.add (i * 3)).off + 2, none⟩ = some (.int .i64 (l.e i))) := Lib.hid (fun i hi w' h' =>
    ⟨(h'.cell (p := ad.add (i * 3)) (by rw [block_of_add]; exact hb)).trans (hc i hi).1, (h'.cell (p := ⟨(ad.add (i * 3)).block, (ad.add (i * 3)).off + 1, none⟩) (by simp only [block_of_add]; exact hb)).trans (hc i hi).2.1, (h'.cell (p := ⟨(ad.add (i * 3)).block, (ad.add (i * 3)).off + 2, none⟩) (by simp only [block_of_add]; exact hb)).trans (hc i hi).2.2⟩)
  clear h hc
  have b0 := alloc_bel w (cd3 (.bool false) (.slice none 0 0) (.int .i64 0))
  obtain ⟨d0, d1, d2⟩ := HCL.out 0 hk0 _ b0
  rw [Nat.zero_mul, show ad.add 0 = ad from by simp [Addr.add]] at d0 d1 d2
  have hk0' : (0 : Int) < (k : Int) := by omega
  go_enter Tryz.func34, Tryz.ntmps34
  go_wp2_with fail
  have L0 : LB w ((w.alloc (cd3 (.bool false) (.slice none 0 0) (.int .i64 0))).alloc (cd3 (.bool (l.ng 0)) (.slice (l.A 0) (l.n 0) (l.c 0)) (.int .i64 (l.e 0)))) w.heap.size (w.heap.size + 1) l 0 := by
    have k2 := KC.made 26 (w.alloc (cd3 (.bool false) (.slice none 0 0) (.int .i64 0))) #[.bool (l.ng 0), .slice (l.A 0) (l.n 0) (l.c 0), .int .i64 (l.e 0)]
    rw [show (w.alloc (cd3 (.bool false) (.slice none 0 0) (.int .i64 0))).heap.size = w.heap.size + 1 by simp] at k2
    exact ⟨below_step b0 (alloc_bel _ _), (KC.made 26 w zd).adv (alloc_bel _ _), k2, by omega, by omega⟩
  generalize (w.alloc (cd3 (.bool false) (.slice none 0 0) (.int .i64 0))).alloc (cd3 (.bool (l.ng 0)) (.slice (l.A 0) (l.n 0) (l.c 0)) (.int .i64 (l.e 0))) = w1 at *
  clear d0 d1 d2 b0
  go_loopw [6] (fun s6 wr => ∃ j : Nat, j + 1 ≤ k ∧ s6 = .int .i64 ((j + 1 : Nat) : Int) ∧ LB w wr w.heap.size (w.heap.size + 1) l (bestL l most j)) (fun s6 _ => k - (intOf s6).toNat)
  case atStart => exact ⟨0, by omega, rfl, L0⟩
  case round =>
    clear L0
    obtain ⟨j, hj, rfl, LR⟩ := hrel
    obtain ⟨I, hI⟩ : ∃ I : Nat, I = j + 1 := ⟨_, rfl⟩
    rw [← hI]
    have hI1 : 1 ≤ I := by omega
    by_cases hlt : I < k
    · have hlt' : (I : Int) < (k : Int) := by omega
      have hI0 : (0 : Int) ≤ (I : Int) := by omega
      have HBJ := Lib.hid (show bestL l most I = if betterL l most I (bestL l most j) then I else bestL l most j by rw [hI, bestL])
      have hjb := bestL_le l most j
      generalize bestL l most j = b at *
      have hbk : b < k := by omega
      have f1 := HLEN.out I hlt
      have f2 := HLEN.out b hbk
      have CM : Hid (∀ w', Below w.heap.size w w' → Calls Tryz.prog 64 #[dyv (l.ng I) (l.A I) (l.n I) (l.c I) (l.e I), dyv (l.ng b) (l.A b) (l.n b) (l.c b) (l.e b)] w' (CmpP w' (cmpL l I b) (plainB (l.ng I) (l.n I) (l.x I) (l.e I) && plainB (l.ng b) (l.n b) (l.x b) (l.e b)))) := Lib.hid (fun w' h' =>
        rcmpD_any (l.ng I) (l.ng b) (l.A I) (l.A b) (l.n I) (l.c I) (l.n b) (l.c b) (l.x I) (l.x b) (l.e I) (l.e b) w' ((HSL.out I hlt).below h') ((HSL.out b hbk).below h') f1 f2)
      have HB1 := Lib.hid (show betterL l most I b = if most then decide (0 < cmpL l I b) else decide (cmpL l I b < 0) from rfl)
      generalize cmpL l I b = z at *
      generalize (plainB (l.ng I) (l.n I) (l.x I) (l.e I) && plainB (l.ng b) (l.n b) (l.x b) (l.e b)) = ok at *
      generalize betterL l most I b = bt at *
      have HC : Hid (∀ w', LB w w' w.heap.size (w.heap.size + 1) l b → (w'.cell? (ad.add (I * 3)) = some (.bool (l.ng I)) ∧ w'.cell? ⟨(ad.add (I * 3)).block, (ad.add (I * 3)).off + 1, none⟩ = some (.slice (l.A I) (l.n I) (l.c I)) ∧ w'.cell? ⟨(ad.add (I * 3)).block, (ad.add (I * 3)).off + 2, none⟩ = some (.int .i64 (l.e I))) ∧
          w'.cell? ⟨w.heap.size + 1, 0, none⟩ = some (.bool (l.ng b)) ∧ w'.cell? ⟨w.heap.size + 1, 1, none⟩ = some (.slice (l.A b) (l.n b) (l.c b)) ∧ w'.cell? ⟨w.heap.size + 1, 2, none⟩ = some (.int .i64 (l.e b))) := Lib.hid (fun w' h' =>
        ⟨HCL.out I hlt w' h'.bel, h'.kb.at_ 0 _ rfl, h'.kb.at_ 1 _ rfl, h'.kb.at_ 2 _ rfl⟩)
      have LD := LR.adv (Below.refl _ wr).drew
      have X1 := HC.out _ LD
      clear hI hjb
      go_wp2_with fail
      go_region_held3 (fun w' => (w'.cell? (ad.add (I * 3)) = some (.bool (l.ng I)) ∧ w'.cell? ⟨(ad.add (I * 3)).block, (ad.add (I * 3)).off + 1, none⟩ = some (.slice (l.A I) (l.n I) (l.c I)) ∧ w'.cell? ⟨(ad.add (I * 3)).block, (ad.add (I * 3)).off + 2, none⟩ = some (.int .i64 (l.e I))) ∧
          w'.cell? ⟨w.heap.size + 1, 0, none⟩ = some (.bool (l.ng b)) ∧ w'.cell? ⟨w.heap.size + 1, 1, none⟩ = some (.slice (l.A b) (l.n b) (l.c b)) ∧ w'.cell? ⟨w.heap.size + 1, 2, none⟩ = some (.int .i64 (l.e b)))
        (first | exact X1 | exact HC.out _ L2)
        (first | (go_at_call 64; refine (CM.out _ LD.bel).mono ?_; rintro e' w2 ⟨rfl, b2⟩; have L2 := LD.adv b2))
      clear X1 LD LR b2
      obtain ⟨⟨a0, a1, a2⟩, c0, c1, c2⟩ := HC.out _ L2
      have q0 := L2.kb.fr 0
      have q1 := L2.kb.fr 1
      have q2 := L2.kb.fr 2
      have hwI : IntKind.i64.wrap ((I : Int) + 1) = ((I + 1 : Nat) : Int) := by rw [wrap_id (by omega) (by omega)]; omega
      cases bt
      · have HB2 := Lib.hid (HBJ.out.trans (if_neg (by decide)))
        clear HBJ
        cases most
        · have hz : decide (z < 0) = false := by simpa using HB1.out.symm
          clear HB1
          go_wp2_with fail
          go_roundw
          case rel => exact ⟨I, by omega, by go_num, by rw [HB2.out]; exact L2⟩
          case measure => simp [intOf]; omega
        · have hz : decide (0 < z) = false := by simpa using HB1.out.symm
          clear HB1
          go_wp2_with fail
          go_roundw
          case rel => exact ⟨I, by omega, by go_num, by rw [HB2.out]; exact L2⟩
          case measure => simp [intOf]; omega
      · have HB2 := Lib.hid (HBJ.out.trans (if_pos rfl))
        have L3 := L2.put I
        clear HBJ
        cases most
        · have hz : decide (z < 0) = true := by simpa using HB1.out.symm
          clear HB1
          go_wp2_with fail
          go_roundw
          case rel => exact ⟨I, by omega, by go_num, by rw [HB2.out]; exact L3⟩
          case measure => simp [intOf]; omega
        · have hz : decide (0 < z) = true := by simpa using HB1.out.symm
          clear HB1
          go_wp2_with fail
          go_roundw
          case rel => exact ⟨I, by omega, by go_num, by rw [HB2.out]; exact L3⟩
          case measure => simp [intOf]; omega
    · obtain rfl : I = k := by omega
      obtain rfl : j = I - 1 := by omega
      have hlt' : ¬ (I : Int) < (I : Int) := by omega
      clear hI
      generalize bestL l most (I - 1) = b at *
      have c0 := LR.kb.at_ 0 _ rfl
      have c1 := LR.kb.at_ 1 _ rfl
      have c2 := LR.kb.at_ 2 _ rfl
      have kP := LR.kr.put3 (.bool (l.ng b)) (.slice (l.A b) (l.n b) (l.c b)) (.int .i64 (l.e b))
      have bP := below_only LR.bel (only_put3 wr w.heap.size (.bool (l.ng b)) (.slice (l.A b) (l.n b) (l.c b)) (.int .i64 (l.e b))) (Nat.le_refl _)
      have r0 := LR.kr.at_ 0 _ rfl
      have r1 := LR.kr.at_ 1 _ rfl
      have r2 := LR.kr.at_ 2 _ rfl
      have q0 := LR.kr.fr 0
      have q1 := LR.kr.fr 1
      have q2 := LR.kr.fr 2
      go_wp2_with fail
      exact bodyPost_ret (v := dyv (l.ng b) (l.A b) (l.n b) (l.c b) (l.e b)) (by simp [results, Tryz.results34, go_sem, r0, r1, r2]) rfl ⟨rfl, bP⟩
end Go.Proofs.YtljioadppdpdiaaGreatDoor

namespace Go.Proofs.YtljioadppdpdiaaGreatDoor
open Go.RowKit

/-- A list of two dyads in memory. -/
def LS2 (w : World) (L : Option Addr) (r s : DR) (A B : Option Addr) (n c m d : Nat) : Prop :=
  ∃ x y, (r.m = vs B64 x n ∧ r.ok = plainB r.neg n x r.e ∧ n ≤ 400000) ∧ (s.m = vs B64 y m ∧ s.ok = plainB s.neg m y s.e ∧ m ≤ 400000) ∧ Ls w L 2 2 (pairD r.neg s.neg A B n m c d x y r.e s.e)
theorem LS2.below {w w' : World} {L : Option Addr} {r s : DR} {A B : Option Addr} {n c m d : Nat} (h : LS2 w L r s A B n c m d) (b : Below w.heap.size w w') : LS2 w' L r s A B n c m d := by
  obtain ⟨x, y, h1, h2, h3⟩ := h
  exact ⟨x, y, h1, h2, h3.below b⟩
theorem LS2.made {w : World} {r s : DR} {A B : Option Addr} {n c m d : Nat} (ha : DIn w A n c r) (hb : DIn w B m d s) : LS2 (w.alloc (c6 r.neg s.neg A B n m c d r.e s.e)) (some ⟨w.heap.size, 0, none⟩) r s A B n c m d := by
  obtain ⟨x, a1, a2, a3, a4⟩ := ha
  obtain ⟨y, b1, b2, b3, b4⟩ := hb
  exact ⟨x, y, ⟨a3, a4, a2⟩, ⟨b3, b4, b2⟩, pair_ls _ _ _ _ _ _ _ _ x y _ _ w a1 b1⟩
theorem least2 {r s : DR} {L A B : Option Addr} {n c m d : Nat} (most : Bool) (w : World) (h : LS2 w L r s A B n c m d) (hr : r.ok = true) (hs : s.ok = true) :
    Calls Tryz.prog 34 #[.slice L 2 2, .bool most] w (DOne w (pickS (if most then belowI r s else belowI s r) s r)) := by
  obtain ⟨x, y, ⟨a3, a4, a2⟩, ⟨b3, b4, b2⟩, h3⟩ := h
  refine (least_any L 2 2 _ most w h3 (by omega) (by omega) (fun j hj => ?_)).mono ?_
  · have : j = 0 ∨ j = 1 := by omega
    rcases this with rfl | rfl
    · exact a2
    · exact b2
  · rintro e w' ⟨rfl, b⟩
    have hz : cmpL (pairD r.neg s.neg A B n m c d x y r.e s.e) 1 0 = cmpI2 s r := by unfold cmpL cmpI2 pairD; rw [a3, a4, b3, b4]; rfl
    have hB : bestL (pairD r.neg s.neg A B n m c d x y r.e s.e) most (2 - 1) = if (if most then belowI r s else belowI s r) then 1 else 0 := by
      show bestL _ most 1 = _
      unfold bestL bestL betterL
      rw [hz]
      cases most
      · rfl
      · have : decide (0 < cmpI2 s r) = belowI r s := by unfold belowI; rw [cmpI2_anti r s]; simp
        simp only [if_true, this]
    rw [hB]
    have ls0 := h3.2.2 0 (by omega)
    have ls1 := h3.2.2 1 (by omega)
    have P0 : PlainF r.neg n x r.e := plain_facts (by rw [← a4]; exact hr)
    have P1 : PlainF s.neg m y s.e := plain_facts (by rw [← b4]; exact hs)
    cases (if most then belowI r s else belowI s r)
    · refine ⟨A, n, c, rfl, ?_, b⟩
      unfold pickS
      rw [if_neg (by decide), a3]
      exact P0.num (Sl.below ls0 b)
    · refine ⟨B, m, d, rfl, ?_, b⟩
      unfold pickS
      rw [if_pos rfl, b3]
      exact P1.num (Sl.below ls1 b)
end Go.Proofs.YtljioadppdpdiaaGreatDoor
