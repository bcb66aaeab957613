/-
  dyad.Over: a quotient, to so many bits.
  dyad.Neg and volvelleref02.Neg.
-/
import Derived.Test.YtodjldhppbbhdaaGreatDoorPlSerGDy2
namespace Go.Proofs.YtodjldhppbbhdaaGreatDoor
open Go.RowKit

/-- The document's answer for a quotient: with r bits more of a than needed. -/
def quoD (na nb' : Bool) (Va Vb : Nat) (ea eb : Int) (r p : Nat) (up : Bool) : DR :=
  cutD (na != nb') (Va * 2 ^ r / Vb) (ea - eb - (r : Int)) (decide (Va * 2 ^ r % Vb ≠ 0)) p up
def overD (ok : Bool) (na nb' : Bool) (Va Vb : Nat) (ea eb : Int) (p : Int) (up : Bool) : DR :=
  if ok then quoD na nb' Va Vb ea eb (p.toNat + nb Vb - nb Va) p.toNat up else DR.no

end Go.Proofs.YtodjldhppbbhdaaGreatDoor

namespace Go.Proofs.YtodjldhppbbhdaaGreatDoor
open Go.RowKit

/-- The document's answer for the other sign. -/
def negD (p neg : Bool) (n V : Nat) (e : Int) : DR := if p then (if n = 0 then DR.zero else ⟨true, !neg, V, e⟩) else DR.no

theorem Blk3.set0 {w : World} {g : Nat} {a b c : Value} (h : Blk3 w g a b c) (u : Value) : Blk3 (w.setCell ⟨g, 0, none⟩ u) g u b c := by
  unfold Blk3 at *
  simp [World.setCell, Array.getElem?_modify, h]
theorem Blk3.set1 {w : World} {g : Nat} {a b c : Value} (h : Blk3 w g a b c) (u : Value) : Blk3 (w.setCell ⟨g, 1, none⟩ u) g a u c := by
  unfold Blk3 at *
  simp [World.setCell, Array.getElem?_modify, h]
theorem Blk3.other {w : World} {g g' i : Nat} {a b c : Value} (h : Blk3 w g' a b c) (u : Value) (hne : g' ≠ g) : Blk3 (w.setCell ⟨g, i, none⟩ u) g' a b c :=
  (Below.heap_setCell w _ u g' (by simpa using hne)).trans h
theorem Num.set1 {w : World} {v : Value} {V g i : Nat} {x y z : Value} (h : Num w v V) (hb : Blk3 w g x y z) (hx : NotU x) (hy : NotU y) (hz : NotU z) (u : Value) : Num (w.setCell ⟨g, i, none⟩ u) v V := by
  obtain ⟨A, n, cp, f, hv, hs, hc, he⟩ := h
  exact ⟨A, n, cp, f, hv, hs.only ((Only.refl w g).set_ i u) (hs.apart hb hx hy hz), hc, he⟩
theorem Sl.set1 {w : World} {A : Option Addr} {n c g i : Nat} {f : Nat → Nat} {x y z : Value} (hs : Sl w A n c f) (hb : Blk3 w g x y z) (hx : NotU x) (hy : NotU y) (hz : NotU z) (u : Value) : Sl (w.setCell ⟨g, i, none⟩ u) A n c f :=
  hs.only ((Only.refl w g).set_ i u) (hs.apart hb hx hy hz)
theorem F2.set0 {w w1 : World} {na : Bool} {A : Option Addr} {n c : Nat} {ea : Int} (h : F2 w w1 na A n c ea) (u : Bool) : F2 w (w1.setCell ⟨w.heap.size, 0, none⟩ (.bool u)) u A n c ea := by
  have b : Below w.heap.size w (w1.setCell ⟨w.heap.size, 0, none⟩ (.bool u)) := Only.below h.bel ((Only.refl w1 w.heap.size).set_ 0 _) h.bel.size (Nat.le_refl _)
  have hs := h.sz
  refine ⟨b, h.ka.set0 _, h.kr.other _ (by omega), by simpa [World.setCell] using hs, ?_⟩
  have ht := h.tab
  exact ⟨by simpa [World.setCell] using ht.1, fun j hj => by
    rw [World.cell?_of_block (Below.heap_setCell w1 _ _ _ ?_)]
    · exact ht.2 j hj
    · intro he
      have h0 := ht.2 0 (by decide)
      have k := h.ka
      unfold Blk3 at k
      simp at he
      rw [← he] at k
      simp [World.cell?, k] at h0⟩

set_option maxHeartbeats 2000000 in
theorem neg_any (neg : Bool) (A : Option Addr) (n c : Nat) (x : Nat → Nat) (e : Int) (w : World) (ha : Sl w A n c x) (hn : n ≤ 400000) (hT : Tab w) :
    Calls Tryz.prog 66 #[dyv neg A n c e] w (DPost w (negD (plainB neg n x e) neg n (vs B64 x n) e)) := by
  have S := F2.start w neg A n c e hT
  go_enter Tryz.func66, Tryz.ntmps66
  go_wp2_with fail
  generalize (w.alloc (.cells #[.bool neg, .slice A n c, .int .i64 e] 27)).alloc (.cells #[.bool false, .slice none 0 0, .int .i64 0] 27) = w1 at *
  refine (plain_any neg A n c x e w1 (ha.below S.bel) hn).mono ?_
  rintro e' w2 ⟨rfl, b⟩
  have F := S.adv b
  clear S b
  obtain ⟨ca0, ca1, ca2⟩ := F.ka.cell
  obtain ⟨cr0, cr1, cr2⟩ := F.kr.cell
  obtain ⟨fr0, fr1, fr2⟩ := F.kr.frozen
  by_cases hp : plainB neg n x e = true
  · have PF := plain_facts hp
    have hcn := Lib.hid PF.cn
    clear PF
    rw [hp]
    go_wp2_with fail
    refine (isZero_any neg A n c e w2 (by omega)).mono ?_
    rintro e' w3 ⟨rfl, b⟩
    have G := F.adv b
    clear F b ca0 ca1 ca2 cr0 cr1 cr2 fr0 fr1 fr2
    obtain ⟨ca0, ca1, ca2⟩ := G.ka.cell
    obtain ⟨cr0, cr1, cr2⟩ := G.kr.cell
    obtain ⟨fr0, fr1, fr2⟩ := G.kr.frozen
    by_cases hn0 : n = 0
    · rw [show decide (n = 0) = true by simp [hn0]]
      have hd := Lib.hid (show negD (plainB neg n x e) neg n (vs B64 x n) e = DR.zero by rw [hp]; simp [negD, hn0])
      go_wp2_with fail
      rw [hd.out]
      refine bodyPost_ret (v := .tuple #[.agg #[.bool false, .slice none 0 0, .int .i64 0], .bool true]) (by simp [results, Tryz.results66, go_sem, cr0, cr1, cr2]) rfl ⟨_, rfl, num_nil _, below_put3 G.bel (by omega) G.bel.size _ _ _⟩
    · rw [show decide (n = 0) = false by simp [hn0]]
      have hd := Lib.hid (show negD (plainB neg n x e) neg n (vs B64 x n) e = ⟨true, !neg, vs B64 x n, e⟩ by rw [hp]; simp [negD, hn0])
      have sA := ha.below G.bel
      have nA : Num w3 (.slice A n c) (vs B64 x n) := ⟨A, n, c, x, rfl, sA, hcn.out, rfl⟩
      go_wp2_with fail
      rw [hd.out]
      refine bodyPost_ret (v := .tuple #[.agg #[.bool (!neg), .slice A n c, .int .i64 e], .bool true]) (by simp [results, Tryz.results66, go_sem, cr0, cr1, cr2]) rfl
        ⟨_, rfl, Num.put3 nA G.kr (notU_bool _) (notU_slice _ _ _) (notU_int _) _ _ _, below_put3 G.bel (by omega) G.bel.size _ _ _⟩
  · have hp' : plainB neg n x e = false := by simpa using hp
    rw [hp']
    have hd := Lib.hid (show negD (plainB neg n x e) neg n (vs B64 x n) e = DR.no by rw [hp']; simp [negD])
    go_wp2_with fail
    rw [hd.out]
    refine bodyPost_ret (v := .tuple #[.agg #[.bool false, .slice none 0 0, .int .i64 0], .bool false]) (by simp [results, Tryz.results66, go_sem, cr0, cr1, cr2]) rfl ⟨_, rfl, num_nil _, below_put3 F.bel (by omega) F.bel.size _ _ _⟩

set_option maxHeartbeats 2000000 in
theorem rneg_any (neg : Bool) (A : Option Addr) (n c : Nat) (x : Nat → Nat) (e : Int) (w : World) (ha : Sl w A n c x) (hn : n ≤ 400000) (hT : Tab w) :
    Calls Tryz.prog 44 #[dyv neg A n c e] w (DPost w (negD (plainB neg n x e) neg n (vs B64 x n) e)) := by
  have S := F2.start w neg A n c e hT
  go_enter Tryz.func44, Tryz.ntmps44
  go_wp2_with fail
  generalize (w.alloc (.cells #[.bool neg, .slice A n c, .int .i64 e] 27)).alloc (.cells #[.bool false, .slice none 0 0, .int .i64 0] 27) = w1 at *
  refine (rplain_any neg A n c x e w1 (ha.below S.bel) hn).mono ?_
  rintro e' w2 ⟨rfl, b⟩
  have F := S.adv b
  clear S b
  obtain ⟨ca0, ca1, ca2⟩ := F.ka.cell
  obtain ⟨fa0, fa1, fa2⟩ := F.ka.frozen
  obtain ⟨cr0, cr1, cr2⟩ := F.kr.cell
  obtain ⟨fr0, fr1, fr2⟩ := F.kr.frozen
  by_cases hp : plainB neg n x e = true
  · have PF := plain_facts hp
    have hz := Lib.hid PF.zero
    clear PF
    rw [hp]
    by_cases hn0 : n = 0
    · subst hn0
      obtain ⟨rfl, rfl⟩ := hz.out rfl
      have hd := Lib.hid (show negD (plainB false 0 x 0) false 0 (vs B64 x 0) 0 = ⟨true, false, vs B64 x 0, 0⟩ by rw [hp]; rfl)
      have TR := Lib.hid (rtrim_any A 0 c x w2 (ha.below F.bel) (by omega))
      go_wp2_with fail
      refine TR.out.mono ?_
      rintro e' w3 ⟨v3, rfl, n3, b⟩
      have G := F.adv b
      clear F b TR
      obtain ⟨A3, p3, c3, f3, rfl, m3⟩ := n3
      have n3 : Num w3 (.slice A3 p3 c3) (vs B64 x 0) := ⟨A3, p3, c3, f3, rfl, m3⟩
      have hsz := G.sz
      have ka3 := G.ka.set1 (.slice A3 p3 c3)
      have kr3 := G.kr.other (g := w.heap.size) (i := 1) (.slice A3 p3 c3) (by omega)
      have n4 := n3.set1 (i := 1) G.ka (notU_bool _) (notU_slice _ _ _) (notU_int _) (.slice A3 p3 c3)
      have bel3 : Below w.heap.size w (w3.setCell ⟨w.heap.size, 1, none⟩ (.slice A3 p3 c3)) := Only.below G.bel ((Only.refl w3 w.heap.size).set_ 1 _) G.bel.size (Nat.le_refl _)
      have hs3 : w.heap.size ≤ (w3.setCell ⟨w.heap.size, 1, none⟩ (.slice A3 p3 c3)).heap.size := bel3.size
      obtain ⟨ga0, ga1, ga2⟩ := G.ka.cell
      obtain ⟨ha0, ha1, ha2⟩ := G.ka.frozen
      obtain ⟨xa0, xa1, xa2⟩ := ka3.cell
      obtain ⟨xr0, xr1, xr2⟩ := kr3.cell
      obtain ⟨yr0, yr1, yr2⟩ := kr3.frozen
      go_wp2_with fail
      rw [hd.out]
      refine bodyPost_ret (v := .tuple #[.agg #[.bool false, .slice A3 p3 c3, .int .i64 0], .bool true]) (by simp [results, Tryz.results44, go_sem, xr0, xr1, xr2]) rfl
        ⟨_, rfl, Num.put3 n4 kr3 (notU_bool _) (notU_slice _ _ _) (notU_int _) _ _ _, below_put3 bel3 (by omega) hs3 _ _ _⟩
    · have hn1 : (0 : Int) < (n : Int) := by omega
      have hd := Lib.hid (show negD (plainB neg n x e) neg n (vs B64 x n) e = ⟨true, !neg, vs B64 x n, e⟩ by rw [hp]; simp [negD, hn0])
      have F' := F.set0 (!neg)
      have TR := Lib.hid (rtrim_any A n c x _ (ha.below F'.bel) (by omega))
      go_wp2_with fail
      clear F ca0 ca1 ca2 cr0 cr1 cr2 fa0 fa1 fa2 fr0 fr1 fr2
      have F := F'
      clear F'
      generalize w2.setCell ⟨w.heap.size, 0, none⟩ (.bool (!neg)) = w2 at *
      refine TR.out.mono ?_
      rintro e' w3 ⟨v3, rfl, n3, b⟩
      have G := F.adv b
      clear F b TR
      obtain ⟨A3, p3, c3, f3, rfl, m3⟩ := n3
      have n3 : Num w3 (.slice A3 p3 c3) (vs B64 x n) := ⟨A3, p3, c3, f3, rfl, m3⟩
      have hsz := G.sz
      have ka3 := G.ka.set1 (.slice A3 p3 c3)
      have kr3 := G.kr.other (g := w.heap.size) (i := 1) (.slice A3 p3 c3) (by omega)
      have n4 := n3.set1 (i := 1) G.ka (notU_bool _) (notU_slice _ _ _) (notU_int _) (.slice A3 p3 c3)
      have bel3 : Below w.heap.size w (w3.setCell ⟨w.heap.size, 1, none⟩ (.slice A3 p3 c3)) := Only.below G.bel ((Only.refl w3 w.heap.size).set_ 1 _) G.bel.size (Nat.le_refl _)
      have hs3 : w.heap.size ≤ (w3.setCell ⟨w.heap.size, 1, none⟩ (.slice A3 p3 c3)).heap.size := bel3.size
      obtain ⟨ga0, ga1, ga2⟩ := G.ka.cell
      obtain ⟨ha0, ha1, ha2⟩ := G.ka.frozen
      obtain ⟨xa0, xa1, xa2⟩ := ka3.cell
      obtain ⟨xr0, xr1, xr2⟩ := kr3.cell
      obtain ⟨yr0, yr1, yr2⟩ := kr3.frozen
      go_wp2_with fail
      rw [hd.out]
      refine bodyPost_ret (v := .tuple #[.agg #[.bool (!neg), .slice A3 p3 c3, .int .i64 e], .bool true]) (by simp [results, Tryz.results44, go_sem, xr0, xr1, xr2]) rfl
        ⟨_, rfl, Num.put3 n4 kr3 (notU_bool _) (notU_slice _ _ _) (notU_int _) _ _ _, below_put3 bel3 (by omega) hs3 _ _ _⟩
  · have hp' : plainB neg n x e = false := by simpa using hp
    rw [hp']
    have hd := Lib.hid (show negD (plainB neg n x e) neg n (vs B64 x n) e = DR.no by rw [hp']; simp [negD])
    go_wp2_with fail
    rw [hd.out]
    refine bodyPost_ret (v := .tuple #[.agg #[.bool false, .slice none 0 0, .int .i64 0], .bool false]) (by simp [results, Tryz.results44, go_sem, cr0, cr1, cr2]) rfl ⟨_, rfl, num_nil _, below_put3 F.bel (by omega) F.bel.size _ _ _⟩
end Go.Proofs.YtodjldhppbbhdaaGreatDoor
