/-
  dyad.Cmp and volvelleref02.Cmp: the order of two dyads.
  dyad.Cmp.
-/
import Derived.Test.YtembfhepinfmnaaDoorPlPGDy2
import Derived.Test.YtembfhepinfmnaaDoorPlPGDy8
namespace Go.Proofs.YtembfhepinfmnaaDoor
open Go.RowKit

/-- Both on one exponent, as naturals. -/
def onE (V : Nat) (e o : Int) : Nat := V * 2 ^ (e - min e o).toNat
/-- The order of two sizes; of two dyads. -/
def sizeC (Va Vb : Nat) (ea eb : Int) : Int := cmpN (onE Va ea eb) (onE Vb eb ea)
def ordD (na nb' : Bool) (Va Vb : Nat) (ea eb : Int) : Int := if na = nb' then (if na then - sizeC Va Vb ea eb else sizeC Va Vb ea eb) else (if na then -1 else 1)
def cmpD (ok na nb' : Bool) (Va Vb : Nat) (ea eb : Int) : Int := if ok then ordD na nb' Va Vb ea eb else 0

theorem onE_lt {Va Vb : Nat} {ea eb : Int} (hb : 0 < Vb) (h : ea + (nb Va : Int) < eb + (nb Vb : Int)) : onE Va ea eb < onE Vb eb ea := by
  unfold onE
  have h1 : Va * 2 ^ (ea - min ea eb).toNat < 2 ^ nb Va * 2 ^ (ea - min ea eb).toNat := Nat.mul_lt_mul_of_pos_right (nb_lt Va) (Nat.two_pow_pos _)
  have h2 : 2 ^ (nb Vb - 1) * 2 ^ (eb - min eb ea).toNat ≤ Vb * 2 ^ (eb - min eb ea).toNat := Nat.mul_le_mul_right _ (nb_ge hb)
  rw [← Nat.pow_add] at h1 h2
  have h3 := nb_pos hb
  have h4 : 2 ^ (nb Va + (ea - min ea eb).toNat) ≤ 2 ^ (nb Vb - 1 + (eb - min eb ea).toNat) := Nat.pow_le_pow_right (by omega) (by omega)
  omega
/-- cmp.Compare of any two ints. -/
def cmpI (a b : Int) : Int := if a < b then -1 else if b < a then 1 else 0
theorem compare_z (a b : Int) (w : World) : Calls Tryd.prog 50 #[.int .i64 a, .int .i64 b] w fun e w' => e = .returned (.int .i64 (cmpI a b)) ∧ w' = w := by
  unfold cmpI
  rcases Int.lt_trichotomy a b with h | rfl | h
  · rw [if_pos h]
    go_enter Tryd.func50, Tryd.ntmps50
    go_wp2
    go_ret
    exact ⟨rfl, rfl⟩
  · rw [if_neg (by omega), if_neg (by omega)]
    go_enter Tryd.func50, Tryd.ntmps50
    go_wp2
    go_ret
    exact ⟨rfl, rfl⟩
  · have h2 : ¬ a < b := by omega
    rw [if_neg h2, if_pos h]
    go_enter Tryd.func50, Tryd.ntmps50
    go_wp2
    go_ret
    exact ⟨rfl, rfl⟩

/-- The world of a call with two dyads, and no place for an answer. -/
structure FA (w w1 : World) (na : Bool) (A : Option Addr) (n c : Nat) (ea : Int) (nb' : Bool) (B : Option Addr) (m d : Nat) (eb : Int) : Prop where
  bel : Below w.heap.size w w1
  ka : Blk3 w1 w.heap.size (.bool na) (.slice A n c) (.int .i64 ea)
  kb : Blk3 w1 (w.heap.size + 1) (.bool nb') (.slice B m d) (.int .i64 eb)
  sz : w.heap.size + 2 ≤ w1.heap.size
section
variable {w w1 w2 : World} {na nb' : Bool} {A B : Option Addr} {n c m d : Nat} {ea eb : Int}
theorem FA.adv (h : FA w w1 na A n c ea nb' B m d eb) (b : Below w1.heap.size w1 w2) : FA w w2 na A n c ea nb' B m d eb := by
  have := h.sz
  exact ⟨h.bel.trans (b.mono h.bel.size), h.ka.below b (by omega), h.kb.below b (by omega), Nat.le_trans h.sz b.size⟩
theorem FA.drew (h : FA w w1 na A n c ea nb' B m d eb) : FA w w1.drew na A n c ea nb' B m d eb := ⟨h.bel.drew, h.ka, h.kb, h.sz⟩
theorem FA.six (h : FA w w1 na A n c ea nb' B m d eb) : Six w w1 na A n c ea nb' B m d eb := ⟨h.ka.cell, h.kb.cell⟩
end
theorem FA.start (w : World) (na : Bool) (A : Option Addr) (n c : Nat) (ea : Int) (nb' : Bool) (B : Option Addr) (m d : Nat) (eb : Int) :
    FA w ((w.alloc (.cells #[.bool na, .slice A n c, .int .i64 ea] 52)).alloc (.cells #[.bool nb', .slice B m d, .int .i64 eb] 52)) na A n c ea nb' B m d eb := by
  have bA : Below w.heap.size w (w.alloc (.cells #[.bool na, .slice A n c, .int .i64 ea] 52)) := (Below.refl _ w).alloc (Nat.le_refl _) _
  have bB := bA.alloc bA.size (.cells #[.bool nb', .slice B m d, .int .i64 eb] 52)
  have ka := (Blk3.made w (.bool na) (.slice A n c) (.int .i64 ea)).below ((Below.refl (w.heap.size + 1) _).alloc (by simp) (.cells #[.bool nb', .slice B m d, .int .i64 eb] 52)) (by simp)
  have kb := Blk3.made (w.alloc (.cells #[.bool na, .slice A n c, .int .i64 ea] 52)) (.bool nb') (.slice B m d) (.int .i64 eb)
  rw [show (w.alloc (.cells #[.bool na, .slice A n c, .int .i64 ea] 52)).heap.size = w.heap.size + 1 by simp] at kb
  exact ⟨bB, ka, kb, by simp⟩

theorem topN {A : Option Addr} {n c V : Nat} (neg : Bool) (e : Int) (w : World) (h : Num w (.slice A n c) V) (hV : nb V ≤ 16384) (he1 : -262144 ≤ e) (he2 : e ≤ 262144) :
    Calls Tryd.prog 59 #[dyv neg A n c e] w (IP w (e + (nb V : Int))) := by
  obtain ⟨A, n, c, f, hh, hs, hn, _, rfl⟩ := h.raw 256 (by omega)
  cases hh
  exact top_any neg A n c f e w hs (by omega) (by omega) (by omega)

set_option maxHeartbeats 4000000 in
theorem sizes_any (na nb' : Bool) (A B : Option Addr) (n c m d Va Vb : Nat) (ea eb : Int) (w : World) (ha : Num w (.slice A n c) Va) (hb : Num w (.slice B m d) Vb) (hVa : nb Va ≤ 16384) (hVb : nb Vb ≤ 16384)
    (ea1 : -262144 ≤ ea) (ea2 : ea ≤ 262144) (eb1 : -262144 ≤ eb) (eb2 : eb ≤ 262144) (h0 : (0 < Va ∧ 0 < Vb) ∨ (Va = 0 ∧ Vb = 0 ∧ ea = 0 ∧ eb = 0)) :
    Calls Tryd.prog 51 #[dyv na A n c ea, dyv nb' B m d eb] w (IP w (sizeC Va Vb ea eb)) := by
  have S := FA.start w na A n c ea nb' B m d eb
  obtain ⟨ta, hta⟩ : ∃ t : Int, Hid (t = ea + (nb Va : Int)) := ⟨_, Lib.hid rfl⟩
  obtain ⟨tb, htb⟩ : ∃ t : Int, Hid (t = eb + (nb Vb : Int)) := ⟨_, Lib.hid rfl⟩
  have TA : Hid (∀ w', Below w.heap.size w w' → Calls Tryd.prog 59 #[.agg #[.bool na, .slice A n c, .int .i64 ea]] w' (IP w' ta)) := Lib.hid (fun w' h => by
    rw [hta.out]; exact topN na ea w' (ha.below h) hVa ea1 ea2)
  have TB : Hid (∀ w', Below w.heap.size w w' → Calls Tryd.prog 59 #[.agg #[.bool nb', .slice B m d, .int .i64 eb]] w' (IP w' tb)) := Lib.hid (fun w' h => by
    rw [htb.out]; exact topN nb' eb w' (hb.below h) hVb eb1 eb2)
  have HLT : Hid (ta < tb → sizeC Va Vb ea eb = -1) := Lib.hid (fun h => cmpN_lt (onE_lt (by
    rcases h0 with h0 | h0
    · exact h0.2
    · obtain ⟨rfl, rfl, rfl, rfl⟩ := h0; have := hta.out; have := htb.out; omega) (by rw [← hta.out, ← htb.out]; exact h)))
  have HGT : Hid (tb < ta → sizeC Va Vb ea eb = 1) := Lib.hid (fun h => cmpN_gt (onE_lt (by
    rcases h0 with h0 | h0
    · exact h0.1
    · obtain ⟨rfl, rfl, rfl, rfl⟩ := h0; have := hta.out; have := htb.out; omega) (by rw [← hta.out, ← htb.out]; exact h)))
  have HEQ : Hid (ta = tb → ea - eb ≤ 16384 ∧ eb - ea ≤ 16384) := Lib.hid (fun h => by have := hta.out; have := htb.out; omega)
  have hta' : -300000 ≤ ta ∧ ta ≤ 300000 := by have := hta.out; omega
  have htb' : -300000 ≤ tb ∧ tb ≤ 300000 := by have := htb.out; omega
  go_enter Tryd.func51, Tryd.ntmps51
  go_wp2_with fail
  generalize (w.alloc (.cells #[.bool na, .slice A n c, .int .i64 ea] 52)).alloc (.cells #[.bool nb', .slice B m d, .int .i64 eb] 52) = w1 at *
  have SX := S.drew.six
  unfold Six at SX
  go_region_held3 (fun w' => (w'.cell? ⟨w.heap.size, 0, none⟩ = some (.bool na) ∧ w'.cell? ⟨w.heap.size, 1, none⟩ = some (.slice A n c) ∧ w'.cell? ⟨w.heap.size, 2, none⟩ = some (.int .i64 ea)) ∧
      (w'.cell? ⟨w.heap.size + 1, 0, none⟩ = some (.bool nb') ∧ w'.cell? ⟨w.heap.size + 1, 1, none⟩ = some (.slice B m d) ∧ w'.cell? ⟨w.heap.size + 1, 2, none⟩ = some (.int .i64 eb)))
    (first | exact S3.six | exact S2.six | exact SX)
    (first
      | (go_at_call_of 59 (Value.slice A n c); refine (TA.out _ S.drew.bel).mono ?_; rintro e' w2 ⟨rfl, b⟩; have S2 := S.drew.adv b; clear b)
      | (go_at_call_of 59 (Value.slice B m d); refine (TB.out _ S2.bel).mono ?_; rintro e' w3 ⟨rfl, b⟩; have S3 := S2.adv b; clear b))
  clear S S2 SX
  by_cases ht : ta = tb
  · subst ht
    obtain ⟨d1, d2⟩ := HEQ.out rfl
    have htt : (ta != ta) = false := by simp
    obtain ⟨cc0, cc1⟩ := S3.six
    obtain ⟨ca0, ca1, ca2⟩ := cc0
    obtain ⟨cb0, cb1, cb2⟩ := cc1
    by_cases hlt : ea < eb
    · obtain ⟨k, hk⟩ : ∃ k : Nat, eb - ea = (k : Int) := ⟨(eb - ea).toNat, by omega⟩
      have hw : IntKind.i64.wrap (eb - ea) = (k : Int) := by rw [wrap_id (by omega) (by omega), hk]
      have HRES : Hid (cmpN Va (Vb * 2 ^ k) = sizeC Va Vb ea eb) := Lib.hid (by
        unfold sizeC onE
        rw [show (ea - min ea eb).toNat = 0 by omega, show (eb - min eb ea).toNat = k by omega, Nat.pow_zero, Nat.mul_one])
      have SH : Hid (∀ w', Below w.heap.size w w' → Calls Tryd.prog 61 #[.slice B m d, .int .i64 (k : Int)] w' (NP w' (Vb * 2 ^ k))) := Lib.hid (fun w' h => shlN w' (hb.below h) (by omega) (by omega))
      have hnb : Hid (nb (Vb * 2 ^ k) ≤ 40000) := Lib.hid (by
        rcases Nat.eq_zero_or_pos Vb with h | h
        · rw [h, Nat.zero_mul, nb_zero]; omega
        · rw [nb_mul_pow h]; omega)
      clear hk
      go_wp2_with fail
      go_region_held3 (fun w' => (w'.cell? ⟨w.heap.size, 1, none⟩ = some (.slice A n c) ∧ w'.cell? ⟨w.heap.size, 2, none⟩ = some (.int .i64 ea)) ∧
          (w'.cell? ⟨w.heap.size + 1, 1, none⟩ = some (.slice B m d) ∧ w'.cell? ⟨w.heap.size + 1, 2, none⟩ = some (.int .i64 eb)))
        (first | exact ⟨S5.six.1.2, S5.six.2.2⟩ | exact ⟨S4.six.1.2, S4.six.2.2⟩ | exact ⟨⟨ca1, ca2⟩, ⟨cb1, cb2⟩⟩)
        (first
          | (go_at_call 61; refine (SH.out _ S3.drew.bel).mono ?_; rintro e' w4 ⟨A4, p4, c4, rfl, n4, b⟩; have S4 := S3.drew.adv b; clear b)
          | (go_at_call 60; refine (cmpNN w4 (ha.below S4.bel) n4 (by omega) (by have := hnb.out; omega)).mono ?_; rintro e' w5 ⟨rfl, b⟩; have S5 := S4.adv b; clear b))
      all_goals (go_wp2_with fail)
      go_ret
      exact ⟨by rw [HRES.out]; rfl, S5.bel⟩
    · obtain ⟨k, hk⟩ : ∃ k : Nat, ea - eb = (k : Int) := ⟨(ea - eb).toNat, by omega⟩
      have hw : IntKind.i64.wrap (ea - eb) = (k : Int) := by rw [wrap_id (by omega) (by omega), hk]
      have HRES : Hid (cmpN (Va * 2 ^ k) Vb = sizeC Va Vb ea eb) := Lib.hid (by
        unfold sizeC onE
        rw [show (eb - min eb ea).toNat = 0 by omega, show (ea - min ea eb).toNat = k by omega, Nat.pow_zero, Nat.mul_one])
      have SH : Hid (∀ w', Below w.heap.size w w' → Calls Tryd.prog 61 #[.slice A n c, .int .i64 (k : Int)] w' (NP w' (Va * 2 ^ k))) := Lib.hid (fun w' h => shlN w' (ha.below h) (by omega) (by omega))
      have hnb : Hid (nb (Va * 2 ^ k) ≤ 40000) := Lib.hid (by
        rcases Nat.eq_zero_or_pos Va with h | h
        · rw [h, Nat.zero_mul, nb_zero]; omega
        · rw [nb_mul_pow h]; omega)
      clear hk
      go_wp2_with fail
      go_region_held3 (fun w' => (w'.cell? ⟨w.heap.size, 1, none⟩ = some (.slice A n c) ∧ w'.cell? ⟨w.heap.size, 2, none⟩ = some (.int .i64 ea)) ∧
          (w'.cell? ⟨w.heap.size + 1, 1, none⟩ = some (.slice B m d) ∧ w'.cell? ⟨w.heap.size + 1, 2, none⟩ = some (.int .i64 eb)))
        (first | exact ⟨S5.six.1.2, S5.six.2.2⟩ | exact ⟨S4.six.1.2, S4.six.2.2⟩ | exact ⟨⟨ca1, ca2⟩, ⟨cb1, cb2⟩⟩)
        (first
          | (go_at_call 61; refine (SH.out _ S3.drew.bel).mono ?_; rintro e' w4 ⟨A4, p4, c4, rfl, n4, b⟩; have S4 := S3.drew.adv b; clear b)
          | (go_at_call 60; refine (cmpNN w4 n4 (hb.below S4.bel) (by have := hnb.out; omega) (by omega)).mono ?_; rintro e' w5 ⟨rfl, b⟩; have S5 := S4.adv b; clear b))
      all_goals (go_wp2_with fail)
      go_ret
      exact ⟨by rw [HRES.out]; rfl, S5.bel⟩
  · have htt : (ta != tb) = true := by simpa using ht
    have HRES : Hid (cmpI ta tb = sizeC Va Vb ea eb) := Lib.hid (by
      unfold cmpI
      rcases Int.lt_or_gt_of_ne ht with h | h
      · rw [if_pos h, HLT.out h]
      · rw [if_neg (by omega), if_pos h, HGT.out h])
    have SX := S3.drew.six
    unfold Six at SX
    go_wp2_with fail
    go_region_held3 (fun w' => (w'.cell? ⟨w.heap.size, 0, none⟩ = some (.bool na) ∧ w'.cell? ⟨w.heap.size, 1, none⟩ = some (.slice A n c) ∧ w'.cell? ⟨w.heap.size, 2, none⟩ = some (.int .i64 ea)) ∧
        (w'.cell? ⟨w.heap.size + 1, 0, none⟩ = some (.bool nb') ∧ w'.cell? ⟨w.heap.size + 1, 1, none⟩ = some (.slice B m d) ∧ w'.cell? ⟨w.heap.size + 1, 2, none⟩ = some (.int .i64 eb)))
      (first | exact S5.six | exact S4.six | exact SX)
      (first
        | (go_at_call_of 59 (Value.slice A n c); refine (TA.out _ S3.drew.bel).mono ?_; rintro e' w4 ⟨rfl, b⟩; have S4 := S3.drew.adv b; clear b)
        | (go_at_call_of 59 (Value.slice B m d); refine (TB.out _ S4.bel).mono ?_; rintro e' w5 ⟨rfl, b⟩; have S5 := S4.adv b; clear b)
        | (go_at_call 50; refine (compare_z ta tb w5).mono ?_; rintro e' w6 ⟨rfl, rfl⟩))
    all_goals (go_wp2_with fail)
    go_ret
    exact ⟨by rw [HRES.out]; rfl, S5.bel⟩
end Go.Proofs.YtembfhepinfmnaaDoor

namespace Go.Proofs.YtembfhepinfmnaaDoor
open Go.RowKit

theorem onE_pos {V : Nat} {e o : Int} (h : 0 < V) : 0 < onE V e o := Nat.mul_pos h (Nat.two_pow_pos _)
theorem onE_zero (e o : Int) : onE 0 e o = 0 := Nat.zero_mul _
theorem sizeC_range (Va Vb : Nat) (ea eb : Int) : sizeC Va Vb ea eb = -1 ∨ sizeC Va Vb ea eb = 0 ∨ sizeC Va Vb ea eb = 1 := by
  unfold sizeC cmpN
  split
  · exact .inl rfl
  · split
    · exact .inr (.inr rfl)
    · exact .inr (.inl rfl)
/-- By signs that differ, and by those that are the same. -/
theorem ord_ne {na nb' : Bool} {n m Va Vb : Nat} {ea eb : Int} (ha : 0 < n ↔ 0 < Va) (hb : 0 < m ↔ 0 < Vb) (za : n = 0 → na = false) (zb : m = 0 → nb' = false) (h : sgn n na ≠ sgn m nb') : cmpI (sgn n na) (sgn m nb') = ordD na nb' Va Vb ea eb := by
  unfold sgn at *
  rcases Nat.eq_zero_or_pos n with hn | hn
  · obtain rfl := za hn
    obtain rfl : Va = 0 := by omega
    rcases Nat.eq_zero_or_pos m with hm | hm
    · simp [hn, hm] at h
    · have h1 : 0 < Vb := by omega
      have h2 : ¬ m = 0 := by omega
      cases nb'
      · have h3 : sizeC 0 Vb ea eb = -1 := cmpN_lt (by rw [onE_zero]; exact onE_pos h1)
        simp [hn, h2, cmpI, ordD, h3]
      · simp [hn, h2, cmpI, ordD]
  · have h1 : 0 < Va := by omega
    have h2 : ¬ n = 0 := by omega
    rcases Nat.eq_zero_or_pos m with hm | hm
    · obtain rfl := zb hm
      obtain rfl : Vb = 0 := by omega
      cases na
      · have h3 : sizeC Va 0 ea eb = 1 := cmpN_gt (by rw [onE_zero]; exact onE_pos h1)
        simp [hm, h2, cmpI, ordD, h3]
      · simp [hm, h2, cmpI, ordD]
    · have h4 : ¬ m = 0 := by omega
      cases na <;> cases nb' <;> simp [h2, h4, cmpI, ordD] at h ⊢
theorem ord_eq {na nb' : Bool} {n m Va Vb : Nat} {ea eb : Int} (ha : 0 < n ↔ 0 < Va) (hb : 0 < m ↔ 0 < Vb) (za : n = 0 → na = false ∧ ea = 0) (zb : m = 0 → nb' = false ∧ eb = 0) (h : sgn n na = sgn m nb') :
    sgn n na * sizeC Va Vb ea eb = ordD na nb' Va Vb ea eb ∧ ((0 < Va ∧ 0 < Vb) ∨ (Va = 0 ∧ Vb = 0 ∧ ea = 0 ∧ eb = 0)) := by
  unfold sgn at *
  rcases Nat.eq_zero_or_pos n with hn | hn
  · obtain ⟨rfl, rfl⟩ := za hn
    obtain rfl : Va = 0 := by omega
    rcases Nat.eq_zero_or_pos m with hm | hm
    · obtain ⟨rfl, rfl⟩ := zb hm
      obtain rfl : Vb = 0 := by omega
      refine ⟨?_, .inr ⟨rfl, rfl, rfl, rfl⟩⟩
      have h3 : sizeC 0 0 0 0 = 0 := by unfold sizeC; rw [onE_zero, cmpN_eq]
      simp [hn, ordD, h3]
    · have h4 : ¬ m = 0 := by omega
      cases nb' <;> simp [hn, h4] at h
  · have h1 : 0 < Va := by omega
    have h2 : ¬ n = 0 := by omega
    rcases Nat.eq_zero_or_pos m with hm | hm
    · cases na <;> simp [hm, h2] at h
    · have h4 : ¬ m = 0 := by omega
      refine ⟨?_, .inl ⟨h1, by omega⟩⟩
      cases na <;> cases nb' <;> simp [h2, h4, ordD] at h ⊢

def CmpP (w : World) (z : Int) (ok : Bool) (e : Ending) (w' : World) : Prop := e = .returned (.tuple #[.int .i64 z, .bool ok]) ∧ Below w.heap.size w w'

set_option maxHeartbeats 4000000 in
theorem dcmp_wide (na nb' : Bool) (A B : Option Addr) (n c m d : Nat) (x y : Nat → Nat) (ea eb : Int) (w : World) (ha : Sl w A n c x) (hb : Sl w B m d y) (hn : n ≤ 70368744177664) (hm : m ≤ 70368744177664) :
    Calls Tryd.prog 45 #[dyv na A n c ea, dyv nb' B m d eb] w
      (CmpP w (cmpD (plainB na n x ea && plainB nb' m y eb) na nb' (vs B64 x n) (vs B64 y m) ea eb) (plainB na n x ea && plainB nb' m y eb)) := by
  have S := FA.start w na A n c ea nb' B m d eb
  go_enter Tryd.func45, Tryd.ntmps45
  go_wp2_with fail
  generalize (w.alloc (.cells #[.bool na, .slice A n c, .int .i64 ea] 52)).alloc (.cells #[.bool nb', .slice B m d, .int .i64 eb] 52) = w1 at *
  refine (plain_wide na A n c x ea w1 (ha.below S.bel) hn).mono ?_
  rintro e' w2 ⟨rfl, b⟩
  have F2 := S.adv b
  clear S b
  by_cases hpa : plainB na n x ea = true
  · rw [hpa]
    obtain ⟨cb0, cb1, cb2⟩ := F2.kb.cell
    go_wp2_with fail
    refine (plain_wide nb' B m d y eb w2 (hb.below F2.bel) hm).mono ?_
    rintro e' w3 ⟨rfl, b⟩
    have F3' := F2.adv b
    clear F2 b cb0 cb1 cb2
    by_cases hpb : plainB nb' m y eb = true
    · rw [hpb]
      have PA := plain_facts hpa
      have PB := plain_facts hpb
      have ea1 := PA.e1
      have ea2 := PA.e2
      have eb1 := PB.e1
      have eb2 := PB.e2
      have ba := PA.bits
      have bb := PB.bits
      have NA := PA.num ha
      have NB := PB.num hb
      obtain ⟨sa, hsa⟩ : ∃ s, Hid (sgn n na = s) := ⟨_, Lib.hid rfl⟩
      obtain ⟨sb, hsb⟩ : ∃ s, Hid (sgn m nb' = s) := ⟨_, Lib.hid rfl⟩
      have HNE : Hid (sa ≠ sb → cmpI sa sb = ordD na nb' (vs B64 x n) (vs B64 y m) ea eb) := Lib.hid (fun h => by
        rw [← hsa.out, ← hsb.out] at h ⊢
        exact ord_ne PA.pos PB.pos (fun h => (PA.zero h).2) (fun h => (PB.zero h).2) h)
      have HEQ : Hid (sa = sb → sa * sizeC (vs B64 x n) (vs B64 y m) ea eb = ordD na nb' (vs B64 x n) (vs B64 y m) ea eb ∧ ((0 < vs B64 x n ∧ 0 < vs B64 y m) ∨ (vs B64 x n = 0 ∧ vs B64 y m = 0 ∧ ea = 0 ∧ eb = 0))) := Lib.hid (fun h => by
        rw [← hsa.out, ← hsb.out] at h
        rw [← hsa.out]
        exact ord_eq PA.pos PB.pos (fun h => (PA.zero h).symm) (fun h => (PB.zero h).symm) h)
      have HYES := Lib.hid (show cmpD (plainB na n x ea && plainB nb' m y eb) na nb' (vs B64 x n) (vs B64 y m) ea eb = ordD na nb' (vs B64 x n) (vs B64 y m) ea eb by rw [hpa, hpb]; rfl)
      have HOK := Lib.hid (show (plainB na n x ea && plainB nb' m y eb) = true by rw [hpa, hpb]; rfl)
      have hs1 : -1 ≤ sa ∧ sa ≤ 1 := by
        rw [← hsa.out]; unfold sgn
        split
        · omega
        · split <;> omega
      have SA : Hid (∀ w', Calls Tryd.prog 49 #[.agg #[.bool na, .slice A n c, .int .i64 ea]] w' (IP w' sa)) := Lib.hid (fun w' => by
        rw [← hsa.out]; exact sign_wide na A n c ea w' (by omega))
      have SB : Hid (∀ w', Calls Tryd.prog 49 #[.agg #[.bool nb', .slice B m d, .int .i64 eb]] w' (IP w' sb)) := Lib.hid (fun w' => by
        rw [← hsb.out]; exact sign_wide nb' B m d eb w' (by omega))
      clear hpa hpb PA PB hsa hsb
      generalize vs B64 x n = Va at *
      generalize vs B64 y m = Vb at *
      have SX := F3'.drew.six
      unfold Six at SX
      go_wp2_with fail
      go_region_held3 (fun w' => (w'.cell? ⟨w.heap.size, 0, none⟩ = some (.bool na) ∧ w'.cell? ⟨w.heap.size, 1, none⟩ = some (.slice A n c) ∧ w'.cell? ⟨w.heap.size, 2, none⟩ = some (.int .i64 ea)) ∧
          (w'.cell? ⟨w.heap.size + 1, 0, none⟩ = some (.bool nb') ∧ w'.cell? ⟨w.heap.size + 1, 1, none⟩ = some (.slice B m d) ∧ w'.cell? ⟨w.heap.size + 1, 2, none⟩ = some (.int .i64 eb)))
        (first | exact S5.six | exact S4.six | exact SX)
        (first
          | (go_at_call_of 49 (Value.slice A n c); refine (SA.out _).mono ?_; rintro e' w4 ⟨rfl, b⟩; have S4 := F3'.drew.adv b; clear b)
          | (go_at_call_of 49 (Value.slice B m d); refine (SB.out _).mono ?_; rintro e' w5 ⟨rfl, b⟩; have S5 := S4.adv b; clear b))
      clear F3' S4 SX
      have SX := S5.drew.six
      unfold Six at SX
      by_cases hs : sa = sb
      · obtain ⟨hm1, hcase⟩ := HEQ.out hs
        subst hs
        have hss : (sa != sa) = false := by simp
        have hrg := sizeC_range Va Vb ea eb
        have SZ : Hid (∀ w', Below w.heap.size w w' → Calls Tryd.prog 51 #[.agg #[.bool na, .slice A n c, .int .i64 ea], .agg #[.bool nb', .slice B m d, .int .i64 eb]] w' (IP w' (sizeC Va Vb ea eb))) := Lib.hid (fun w' h =>
          sizes_any na nb' A B n c m d Va Vb ea eb w' (NA.below h) (NB.below h) ba bb ea1 ea2 eb1 eb2 hcase)
        have HM := Lib.hid hm1
        clear hm1 hcase HEQ HNE
        generalize sizeC Va Vb ea eb = cs at *
        generalize ordD na nb' Va Vb ea eb = r at *
        have hr : IntKind.i64.wrap (sa * cs) = r := by
          rw [← HM.out]
          have h3 : -1 ≤ sa * cs ∧ sa * cs ≤ 1 := by
            rcases hrg with h | h | h <;> rw [h] <;> omega
          exact wrap_id (by omega) (by omega)
        clear hrg
        go_wp2_with fail
        go_region_held3 (fun w' => (w'.cell? ⟨w.heap.size, 0, none⟩ = some (.bool na) ∧ w'.cell? ⟨w.heap.size, 1, none⟩ = some (.slice A n c) ∧ w'.cell? ⟨w.heap.size, 2, none⟩ = some (.int .i64 ea)) ∧
            (w'.cell? ⟨w.heap.size + 1, 0, none⟩ = some (.bool nb') ∧ w'.cell? ⟨w.heap.size + 1, 1, none⟩ = some (.slice B m d) ∧ w'.cell? ⟨w.heap.size + 1, 2, none⟩ = some (.int .i64 eb)))
          (first | exact S7.six | exact S6.six | exact SX)
          (first
            | (go_at_call_of 49 (Value.slice A n c); refine (SA.out _).mono ?_; rintro e' w6 ⟨rfl, b⟩; have S6 := S5.drew.adv b; clear b)
            | (go_at_call 51; refine (SZ.out _ S6.bel).mono ?_; rintro e' w7 ⟨rfl, b⟩; have S7 := S6.adv b; clear b))
        all_goals (go_wp2_with fail)
        go_ret2
        exact ⟨by rw [HYES.out, HOK.out]; rfl, S7.bel⟩
      · have hss : (sa != sb) = true := by simpa using hs
        have HM := Lib.hid (HNE.out hs)
        clear HEQ HNE
        generalize ordD na nb' Va Vb ea eb = r at *
        go_wp2_with fail
        go_region_held3 (fun w' => (w'.cell? ⟨w.heap.size, 0, none⟩ = some (.bool na) ∧ w'.cell? ⟨w.heap.size, 1, none⟩ = some (.slice A n c) ∧ w'.cell? ⟨w.heap.size, 2, none⟩ = some (.int .i64 ea)) ∧
            (w'.cell? ⟨w.heap.size + 1, 0, none⟩ = some (.bool nb') ∧ w'.cell? ⟨w.heap.size + 1, 1, none⟩ = some (.slice B m d) ∧ w'.cell? ⟨w.heap.size + 1, 2, none⟩ = some (.int .i64 eb)))
          (first | exact S7.six | exact S6.six | exact SX)
          (first
            | (go_at_call_of 49 (Value.slice A n c); refine (SA.out _).mono ?_; rintro e' w6 ⟨rfl, b⟩; have S6 := S5.drew.adv b; clear b)
            | (go_at_call_of 49 (Value.slice B m d); refine (SB.out _).mono ?_; rintro e' w7 ⟨rfl, b⟩; have S7 := S6.adv b; clear b)
            | (go_at_call 50; refine (compare_z sa sb w7).mono ?_; rintro e' w8 ⟨rfl, rfl⟩))
        all_goals (go_wp2_with fail)
        go_ret2
        exact ⟨by rw [HYES.out, HOK.out, HM.out]; rfl, S7.bel⟩
    · have hpb' : plainB nb' m y eb = false := by simpa using hpb
      have HNO := Lib.hid (show (plainB na n x ea && plainB nb' m y eb) = false by rw [hpb']; simp)
      have B3 := F3'.bel
      rw [hpb']
      go_wp2_with fail
      go_ret2
      exact ⟨by rw [HNO.out]; rfl, B3⟩
  · have hpa' : plainB na n x ea = false := by simpa using hpa
    have HNO := Lib.hid (show (plainB na n x ea && plainB nb' m y eb) = false by rw [hpa']; simp)
    have B3 := F2.bel
    rw [hpa']
    go_wp2_with fail
    go_ret2
    exact ⟨by rw [HNO.out]; rfl, B3⟩
theorem dcmp_any (na nb' : Bool) (A B : Option Addr) (n c m d : Nat) (x y : Nat → Nat) (ea eb : Int) (w : World) (ha : Sl w A n c x) (hb : Sl w B m d y) (hn : n ≤ 400000) (hm : m ≤ 400000) :
    Calls Tryd.prog 45 #[dyv na A n c ea, dyv nb' B m d eb] w
      (CmpP w (cmpD (plainB na n x ea && plainB nb' m y eb) na nb' (vs B64 x n) (vs B64 y m) ea eb) (plainB na n x ea && plainB nb' m y eb)) := dcmp_wide na nb' A B n c m d x y ea eb w ha hb (by omega) (by omega)
end Go.Proofs.YtembfhepinfmnaaDoor
