/-
  volvelleref02: wide, add.
  The reference's sum, one number after the other, in plain numbers.
  volvelleref02: Mul, Sum.
-/
import Derived.BigQuiet
import Derived.Test.YtljioadppdpdiaaGreatDoorPkDy3
import Derived.Test.YtljioadppdpdiaaGreatDoorPkDy5
import Derived.Test.YtljioadppdpdiaaGreatDoorPkDy8
import Derived.Test.YtljioadppdpdiaaGreatDoorPkDy9
import Derived.Test.YtljioadppdpdiaaGreatDoorPkDy7
import Derived.Test.YtljioadppdpdiaaGreatDoorPkDy10
import Derived.Test.YtljioadppdpdiaaGreatDoorPkDy11
import Derived.Test.YtljioadppdpdiaaGreatDoorPkDy12
namespace Go.Proofs.YtljioadppdpdiaaGreatDoor
open Go.RowKit

/-- The canonical form of V times 2 to the e, whatever its size. -/
def wdD (neg : Bool) (V : Nat) (e : Int) : DR := if V = 0 then .zero else ⟨true, neg, od V, e + (v2 V : Int)⟩
theorem wdD_zero (neg : Bool) (e : Int) : wdD neg 0 e = .zero := rfl
theorem wdD_pow (neg : Bool) (V z : Nat) (e : Int) : wdD neg (V * 2 ^ z) (e - (z : Int)) = wdD neg V e := by
  unfold wdD
  rcases Nat.eq_zero_or_pos V with h | h
  · subst h; simp
  · obtain ⟨h1, h2⟩ := od_pow V z h
    have h3 : ¬ V * 2 ^ z = 0 := by have := Nat.mul_pos h (Nat.two_pow_pos z); omega
    rw [h1, h2, if_neg h3, if_neg (by omega : ¬ V = 0)]
    rw [show e - (z : Int) + ((v2 V + z : Nat) : Int) = e + (v2 V : Int) by omega]
/-- .. and where it is plain, it is what Make answers. -/
theorem mkD_wd (neg : Bool) (V : Nat) (e : Int) : mkD neg V e = if plainV (wdD neg V e).neg (wdD neg V e).m (wdD neg V e).e then wdD neg V e else DR.no := by
  unfold mkD wdD
  rcases Nat.eq_zero_or_pos V with h | h
  · subst h; rfl
  · obtain ⟨g1, g2⟩ := od_spec h
    have hp := od_pos h
    have h0 : ¬ V = 0 := by omega
    simp only [h0, if_false]
    unfold plainV
    rw [if_neg (show ¬ od V = 0 by omega), show decide (od V % 2 = 1) = true by simp [g2], Bool.true_and]
    by_cases hc : nb (od V) ≤ MB ∧ fitE (e + (v2 V : Int))
    · rw [if_pos hc]; simp [hc.1, hc.2]
    · rw [if_neg hc]
      have : (decide (nb (od V) ≤ MB) && decide (fitE (e + (v2 V : Int)))) = false := by simpa using fun h1 h2 => hc ⟨h1, h2⟩
      rw [this]; simp
def DOne (w : World) (r : DR) (e : Ending) (w' : World) : Prop := ∃ A p c, e = .returned (.agg #[.bool r.neg, .slice A p c, .int .i64 r.e]) ∧ Num w' (.slice A p c) r.m ∧ Below w.heap.size w w'
theorem v2_lt_nb {V : Nat} (h : 0 < V) : v2 V < nb V := by
  obtain ⟨g1, g2⟩ := od_spec h
  have e1 : 1 * 2 ^ v2 V ≤ od V * 2 ^ v2 V := Nat.mul_le_mul_right _ (od_pos h)
  have e2 := nb_lt V
  exact (Nat.pow_lt_pow_iff_right (by omega : 1 < 2)).1 (by omega)

set_option maxRecDepth 8000 in
set_option maxHeartbeats 4000000 in
theorem wide_any (neg : Bool) (A : Option Addr) (n c V : Nat) (e : Int) (w : World) (ha : Num w (.slice A n c) V) (hV : nb V ≤ 1000000) (hT : Tab w) (he1 : -1000000000 ≤ e) (he2 : e ≤ 1000000000) :
    Calls Tryz.prog 91 #[.bool neg, .slice A n c, .int .i64 e] w (DOne w (wdD neg V e)) := by
  have S := F1.start w hT
  have TR := Lib.hid (rtrimN _ (ha.below S.bel) (by omega))
  go_enter Tryz.func91, Tryz.ntmps91
  go_wp2_with fail
  generalize w.alloc (.cells #[.bool false, .slice none 0 0, .int .i64 0] 26) = w1 at *
  refine TR.out.mono ?_
  rintro e' w2 ⟨B, p, d, rfl, n2, b⟩
  have F := S.adv b S.sz
  clear S b TR ha
  have lp := n2.len 15625 (by omega)
  obtain ⟨_, _, _, f, hh, sf, cf, ef⟩ := id n2
  cases hh
  obtain ⟨cr0, cr1, cr2⟩ := F.kr.cell
  obtain ⟨fr0, fr1, fr2⟩ := F.kr.frozen
  rcases Nat.eq_zero_or_pos V with h0 | h0
  · subst h0
    obtain rfl : p = 0 := vs_eq_zero B64_pos cf ef
    go_wp2_with fail
    rw [wdD_zero]
    refine bodyPost_ret (v := .agg #[.bool false, .slice none 0 0, .int .i64 0]) (by simp [results, Tryz.results91, go_sem, cr0, cr1, cr2]) rfl ⟨none, 0, 0, rfl, num_nil _, below_put3 F.bel (by omega) F.bel.size _ _ _⟩
  · have hp0 : p ≠ 0 := fun e => by subst e; rw [vs_zero] at ef; omega
    have hpb : ((p : Int) == 0) = false := by simp; omega
    have hvp : v2 V < 64 * p := v2_lt h0 (by rw [← ef]; exact vs_lt sf.small)
    have hvn := v2_lt_nb h0
    have BIT : Hid (∀ z, z ≤ v2 V → f (z / 64) / 2 ^ (z % 64) % 2 = if z < v2 V then 0 else 1) := Lib.hid (fun z hz => by
      rw [bit_at f p z sf.small (by omega), ef]; exact even_iff h0 hz)
    have HYES : Hid (wdD neg V e = ⟨true, neg, V / 2 ^ v2 V, e + (v2 V : Int)⟩) := Lib.hid (by unfold wdD; rw [if_neg (by omega)]; rfl)
    obtain ⟨Z, hZ⟩ : ∃ Z, Hid (Z = v2 V) := ⟨_, Lib.hid rfl⟩
    rw [← hZ.out] at hvp BIT HYES hvn
    go_wp2_with fail
    go_loop [8] (fun s8 => ∃ z : Nat, z ≤ Z ∧ s8 = .int .i64 (z : Int)) (fun s8 => Z - (intOf s8).toNat)
    case atStart => exact ⟨0, Nat.zero_le _, rfl⟩
    case round =>
      obtain ⟨z, hz, rfl⟩ := hrel
      obtain ⟨ad, rfl, hab, hx64, hcell⟩ := sf.at_ (k := z / 64) (by omega)
      have hbit := BIT.out z hz
      obtain ⟨q, hq⟩ : ∃ q : Nat, (z : Int) / 64 = (q : Int) ∧ Hid (q = z / 64) := ⟨z / 64, by omega, Lib.hid rfl⟩
      obtain ⟨r, hr⟩ : ∃ r : Nat, (z : Int) % 64 = (r : Int) ∧ Hid (r = z % 64) := ⟨z % 64, by omega, Lib.hid rfl⟩
      obtain ⟨hq1, hq2⟩ := hq
      obtain ⟨hr1, hr2⟩ := hr
      have hr64 : r < 64 := by have := hr2.out; omega
      have hqp : q < p := by have := hq2.out; omega
      rw [← hq2.out] at hcell hx64 hbit
      rw [← hr2.out] at hbit
      have hsh := shr_word (f q) r
      generalize f q = y at *
      have hrem : ((y / 2 ^ r : Nat) : Int) % 2 = ((y / 2 ^ r % 2 : Nat) : Int) := by omega
      rw [hbit] at hrem
      generalize y / 2 ^ r = y2 at *
      clear hbit
      by_cases hlt : z < Z
      · rw [if_pos hlt] at hrem
        go_wp2_with fail
        go_round
        case rel => exact ⟨z + 1, by omega, by go_num⟩
        case measure => simp [intOf]; omega
      · rw [if_neg hlt] at hrem
        obtain rfl : z = Z := by omega
        have hzn : z ≤ 1000000 := by omega
        have SR := Lib.hid (rshrN (s := z) w2 n2 (by omega) (by omega))
        clear hlt hz BIT hZ hvn
        go_wp2_with fail
        refine SR.out.mono ?_
        rintro e' w9 ⟨A9, p9, c9, rfl, n9, b9⟩
        have F9 := F.adv b9 F.sz
        clear b9 F SR cr0 cr1 cr2 fr0 fr1 fr2
        obtain ⟨cF0, cF1, cF2⟩ := F9.kr.cell
        obtain ⟨fF0, fF1, fF2⟩ := F9.kr.frozen
        go_wp2_with fail
        rw [HYES.out]
        refine bodyPost_ret (v := .agg #[.bool neg, .slice A9 p9 c9, .int .i64 (e + (z : Int))]) (by simp [results, Tryz.results91, go_sem, cF0, cF1, cF2]) rfl
          ⟨A9, p9, c9, rfl, n9.put3 F9.kr (notU_bool _) (notU_slice _ _ _) (notU_int _) _ _ _, below_put3 F9.bel (by omega) F9.bel.size _ _ _⟩

theorem nb_add {X Y K : Nat} (h1 : nb X ≤ K) (h2 : nb Y ≤ K) : nb (X + Y) ≤ K + 1 := by
  refine (nb_le_iff _ _).2 ?_
  have h1 := (nb_le_iff X K).1 h1
  have h2 := (nb_le_iff Y K).1 h2
  rw [Nat.pow_succ]
  omega
/-- The sum of two, whatever its size. -/
def addD (na nb' : Bool) (Va Vb : Nat) (ea eb : Int) : DR :=
  if 0 < sideX Va Vb ea eb ∧ 0 < sideY Va Vb ea eb ∧ na ≠ nb' then
    (if sideY Va Vb ea eb ≤ sideX Va Vb ea eb then wdD na (sideX Va Vb ea eb - sideY Va Vb ea eb) (sideE Va Vb ea eb) else wdD nb' (sideY Va Vb ea eb - sideX Va Vb ea eb) (sideE Va Vb ea eb))
  else wdD (na || (decide (sideX Va Vb ea eb = 0) && nb')) (sideX Va Vb ea eb + sideY Va Vb ea eb) (sideE Va Vb ea eb)

set_option maxRecDepth 8000 in
set_option maxHeartbeats 4000000 in
theorem add2_any (na nb' : Bool) (A B : Option Addr) (n c m d Va Vb : Nat) (ea eb : Int) (w : World) (ha : Num w (.slice A n c) Va) (hb : Num w (.slice B m d) Vb) (hVa : nb Va ≤ 1000000) (hVb : nb Vb ≤ 1000000)
    (ea1 : -400000 ≤ ea) (ea2 : ea ≤ 600000) (eb1 : -400000 ≤ eb) (eb2 : eb ≤ 600000) (hX9 : nb (sideX Va Vb ea eb) ≤ 900000) (hY9 : nb (sideY Va Vb ea eb) ≤ 900000) (hT : Tab w) :
    Calls Tryz.prog 52 #[dyv na A n c ea, dyv nb' B m d eb] w (DOne w (addD na nb' Va Vb ea eb)) := by
  have S := F3.start w na A n c ea nb' B m d eb hT
  have SD := Lib.hid (sides_any na nb' A B n c m d Va Vb ea eb _ (ha.below S.bel) (hb.below S.bel) hVa hVb ea1 ea2 eb1 eb2)
  have hE : -400000 ≤ sideE Va Vb ea eb ∧ sideE Va Vb ea eb ≤ 600000 := by
    unfold sideE
    split
    · omega
    · split <;> omega
  go_enter Tryz.func52, Tryz.ntmps52
  go_wp2_with fail
  generalize ((w.alloc (.cells #[.bool na, .slice A n c, .int .i64 ea] 26)).alloc (.cells #[.bool nb', .slice B m d, .int .i64 eb] 26)).alloc (.cells #[.bool false, .slice none 0 0, .int .i64 0] 26) = w1 at *
  refine SD.out.mono ?_
  rintro e' w2 ⟨A4, p4, c4, A5, p5, c5, rfl, n4, n5, b⟩
  have F := S.adv b
  clear S b SD ha hb hVa hVb ea1 ea2 eb1 eb2 hT
  have HD : Hid (addD na nb' Va Vb ea eb = addD na nb' Va Vb ea eb) := Lib.hid rfl
  have HA : Hid (∀ X Y E, sideX Va Vb ea eb = X → sideY Va Vb ea eb = Y → sideE Va Vb ea eb = E → addD na nb' Va Vb ea eb = if 0 < X ∧ 0 < Y ∧ na ≠ nb' then (if Y ≤ X then wdD na (X - Y) E else wdD nb' (Y - X) E) else wdD (na || (decide (X = 0) && nb')) (X + Y) E) := Lib.hid (fun X Y E h1 h2 h3 => by subst h1; subst h2; subst h3; rfl)
  generalize hX : sideX Va Vb ea eb = X at *
  generalize hY : sideY Va Vb ea eb = Y at *
  generalize hEE : sideE Va Vb ea eb = E at *
  have HADD := Lib.hid (HA.out X Y E rfl rfl rfl)
  clear HA hX hY hEE HD
  generalize addD na nb' Va Vb ea eb = R at *
  have lx := n4.len 14063 (by omega)
  have ly := n5.len 14063 (by omega)
  have zx := n4.empty
  have zy := n5.empty
  have AD := Lib.hid (raddN w2 n4 n5 (by omega) (by omega))
  have hsum : nb (X + Y) ≤ 900001 := nb_add hX9 hY9
  go_wp2_with fail
  refine AD.out.mono ?_
  rintro e' w3 ⟨A6, p6, c6, rfl, n6, b⟩
  have F3' := F.adv b
  have n43 := n4.below b
  have n53 := n5.below b
  clear F b AD n4 n5
  obtain ⟨ca0, ca1, ca2⟩ := F3'.ka.cell
  obtain ⟨cb0, cb1, cb2⟩ := F3'.kb.cell
  by_cases hx0 : p4 = 0
  · have hX0 := zx.1 hx0
    subst hX0
    subst hx0
    rw [Nat.zero_add] at n6 hsum
    cases na
    · skip
      have HYES := Lib.hid (HADD.out.trans (show _ = wdD nb' (Y) E by simp))
      have WI := Lib.hid (wide_any nb' A6 p6 c6 (Y) E w3 n6 (by omega) F3'.tab (by omega) (by omega))
      clear HADD n43 n53
      go_wp2_with fail
      refine WI.out.mono ?_
      rintro e' w9 ⟨A9, p9, c9, rfl, n9, b9⟩
      have F9 := F3'.adv b9
      clear b9 F3' ca0 ca1 ca2 cb0 cb1 cb2 WI
      obtain ⟨cF0, cF1, cF2⟩ := F9.kr.cell
      obtain ⟨fF0, fF1, fF2⟩ := F9.kr.frozen
      generalize wdD nb' (Y) E = r at *
      go_wp2_with fail
      rw [HYES.out]
      refine bodyPost_ret (v := .agg #[.bool r.neg, .slice A9 p9 c9, .int .i64 r.e]) (by simp [results, Tryz.results52, go_sem, cF0, cF1, cF2]) rfl
        ⟨A9, p9, c9, rfl, n9.put3 F9.kr (notU_bool _) (notU_slice _ _ _) (notU_int _) _ _ _, below_put3 F9.bel (by omega) F9.bel.size _ _ _⟩
    · skip
      have HYES := Lib.hid (HADD.out.trans (show _ = wdD true (Y) E by simp))
      have WI := Lib.hid (wide_any true A6 p6 c6 (Y) E w3 n6 (by omega) F3'.tab (by omega) (by omega))
      clear HADD n43 n53
      go_wp2_with fail
      refine WI.out.mono ?_
      rintro e' w9 ⟨A9, p9, c9, rfl, n9, b9⟩
      have F9 := F3'.adv b9
      clear b9 F3' ca0 ca1 ca2 cb0 cb1 cb2 WI
      obtain ⟨cF0, cF1, cF2⟩ := F9.kr.cell
      obtain ⟨fF0, fF1, fF2⟩ := F9.kr.frozen
      generalize wdD true (Y) E = r at *
      go_wp2_with fail
      rw [HYES.out]
      refine bodyPost_ret (v := .agg #[.bool r.neg, .slice A9 p9 c9, .int .i64 r.e]) (by simp [results, Tryz.results52, go_sem, cF0, cF1, cF2]) rfl
        ⟨A9, p9, c9, rfl, n9.put3 F9.kr (notU_bool _) (notU_slice _ _ _) (notU_int _) _ _ _, below_put3 F9.bel (by omega) F9.bel.size _ _ _⟩
  · have hX0 : 0 < X := by
      rcases Nat.eq_zero_or_pos X with h | h
      · exact absurd (zx.2 h) hx0
      · exact h
    have hxb : ((p4 : Int) == 0) = false := by simp; omega
    have hx1 : (0 : Int) < (p4 : Int) := by omega
    have HNG : Hid ((na || (decide (X = 0) && nb')) = na) := Lib.hid (by rw [show decide (X = 0) = false by simp; omega]; simp)
    by_cases hy0 : p5 = 0
    · have hY0 := zy.1 hy0
      subst hY0
      subst hy0
      rw [Nat.add_zero] at n6 hsum
      have HRES : Hid (R = wdD na X E) := Lib.hid (HADD.out.trans (by rw [if_neg (by omega), HNG.out, Nat.add_zero]))
      clear HNG
      cases na
      · have HYES := HRES
        have WI := Lib.hid (wide_any false A6 p6 c6 (X) E w3 n6 (by omega) F3'.tab (by omega) (by omega))
        clear HADD n43 n53 HRES
        go_wp2_with fail
        refine WI.out.mono ?_
        rintro e' w9 ⟨A9, p9, c9, rfl, n9, b9⟩
        have F9 := F3'.adv b9
        clear b9 F3' ca0 ca1 ca2 cb0 cb1 cb2 WI
        obtain ⟨cF0, cF1, cF2⟩ := F9.kr.cell
        obtain ⟨fF0, fF1, fF2⟩ := F9.kr.frozen
        generalize wdD false (X) E = r at *
        go_wp2_with fail
        rw [HYES.out]
        refine bodyPost_ret (v := .agg #[.bool r.neg, .slice A9 p9 c9, .int .i64 r.e]) (by simp [results, Tryz.results52, go_sem, cF0, cF1, cF2]) rfl
          ⟨A9, p9, c9, rfl, n9.put3 F9.kr (notU_bool _) (notU_slice _ _ _) (notU_int _) _ _ _, below_put3 F9.bel (by omega) F9.bel.size _ _ _⟩
      · have HYES := HRES
        have WI := Lib.hid (wide_any true A6 p6 c6 (X) E w3 n6 (by omega) F3'.tab (by omega) (by omega))
        clear HADD n43 n53 HRES
        go_wp2_with fail
        refine WI.out.mono ?_
        rintro e' w9 ⟨A9, p9, c9, rfl, n9, b9⟩
        have F9 := F3'.adv b9
        clear b9 F3' ca0 ca1 ca2 cb0 cb1 cb2 WI
        obtain ⟨cF0, cF1, cF2⟩ := F9.kr.cell
        obtain ⟨fF0, fF1, fF2⟩ := F9.kr.frozen
        generalize wdD true (X) E = r at *
        go_wp2_with fail
        rw [HYES.out]
        refine bodyPost_ret (v := .agg #[.bool r.neg, .slice A9 p9 c9, .int .i64 r.e]) (by simp [results, Tryz.results52, go_sem, cF0, cF1, cF2]) rfl
          ⟨A9, p9, c9, rfl, n9.put3 F9.kr (notU_bool _) (notU_slice _ _ _) (notU_int _) _ _ _, below_put3 F9.bel (by omega) F9.bel.size _ _ _⟩
    · have hY0 : 0 < Y := by
        rcases Nat.eq_zero_or_pos Y with h | h
        · exact absurd (zy.2 h) hy0
        · exact h
      have hy1 : (0 : Int) < (p5 : Int) := by omega
      by_cases hs : na = nb'
      · subst hs
        have HRES : Hid (R = wdD na (X + Y) E) := Lib.hid (HADD.out.trans (by rw [if_neg (fun h => h.2.2 rfl), HNG.out]))
        have hss : (na != na) = false := by simp
        clear HNG
        cases na
        · have HYES := HRES
          have WI := Lib.hid (wide_any false A6 p6 c6 (X + Y) E w3 n6 (by omega) F3'.tab (by omega) (by omega))
          clear HADD n43 n53 HRES
          go_wp2_with fail
          refine WI.out.mono ?_
          rintro e' w9 ⟨A9, p9, c9, rfl, n9, b9⟩
          have F9 := F3'.adv b9
          clear b9 F3' ca0 ca1 ca2 cb0 cb1 cb2 WI
          obtain ⟨cF0, cF1, cF2⟩ := F9.kr.cell
          obtain ⟨fF0, fF1, fF2⟩ := F9.kr.frozen
          generalize wdD false (X + Y) E = r at *
          go_wp2_with fail
          rw [HYES.out]
          refine bodyPost_ret (v := .agg #[.bool r.neg, .slice A9 p9 c9, .int .i64 r.e]) (by simp [results, Tryz.results52, go_sem, cF0, cF1, cF2]) rfl
            ⟨A9, p9, c9, rfl, n9.put3 F9.kr (notU_bool _) (notU_slice _ _ _) (notU_int _) _ _ _, below_put3 F9.bel (by omega) F9.bel.size _ _ _⟩
        · have HYES := HRES
          have WI := Lib.hid (wide_any true A6 p6 c6 (X + Y) E w3 n6 (by omega) F3'.tab (by omega) (by omega))
          clear HADD n43 n53 HRES
          go_wp2_with fail
          refine WI.out.mono ?_
          rintro e' w9 ⟨A9, p9, c9, rfl, n9, b9⟩
          have F9 := F3'.adv b9
          clear b9 F3' ca0 ca1 ca2 cb0 cb1 cb2 WI
          obtain ⟨cF0, cF1, cF2⟩ := F9.kr.cell
          obtain ⟨fF0, fF1, fF2⟩ := F9.kr.frozen
          generalize wdD true (X + Y) E = r at *
          go_wp2_with fail
          rw [HYES.out]
          refine bodyPost_ret (v := .agg #[.bool r.neg, .slice A9 p9 c9, .int .i64 r.e]) (by simp [results, Tryz.results52, go_sem, cF0, cF1, cF2]) rfl
            ⟨A9, p9, c9, rfl, n9.put3 F9.kr (notU_bool _) (notU_slice _ _ _) (notU_int _) _ _ _, below_put3 F9.bel (by omega) F9.bel.size _ _ _⟩
      · have hss : (na != nb') = true := by simpa using hs
        have HRES : Hid (R = if Y ≤ X then wdD na (X - Y) E else wdD nb' (Y - X) E) := Lib.hid (HADD.out.trans (by rw [if_pos ⟨hX0, hY0, hs⟩]))
        have CM := Lib.hid (rcmpNN w3 n43 n53 (by omega) (by omega))
        clear HNG HADD n6
        cases na
        · obtain rfl : nb' = true := by cases nb' <;> simp at hs ⊢
          clear hs
          go_wp2_with fail
          refine CM.out.mono ?_
          rintro e' w4 ⟨rfl, b⟩
          have F4 := F3'.adv b
          have n44 := n43.below b
          have n54 := n53.below b
          clear F3' b CM n43 n53 ca0 ca1 ca2 cb0 cb1 cb2
          obtain ⟨ca0, ca1, ca2⟩ := F4.ka.cell
          obtain ⟨cb0, cb1, cb2⟩ := F4.kb.cell
          by_cases hle : Y ≤ X
          · have hc : (0 : Int) ≤ cmpN X Y := by unfold cmpN; rw [if_neg (by omega)]; split <;> omega
            have HYES := Lib.hid (HRES.out.trans (if_pos hle))
            have SB := Lib.hid (rsubN w4 n44 n54 (by omega) (by omega) hle)
            generalize cmpN X Y = cc at *
            clear HRES
            go_wp2_with fail
            refine SB.out.mono ?_
            rintro e' w5 ⟨A7, p7, c7, rfl, n7, b⟩
            have F5 := F4.adv b
            clear F4 b SB n44 n54 ca0 ca1 ca2 cb0 cb1 cb2
            obtain ⟨ca0, ca1, ca2⟩ := F5.ka.cell
            have WI := Lib.hid (wide_any false A7 p7 c7 (X - Y) E w5 n7 (by have := nb_mono (Nat.sub_le X Y); omega) F5.tab (by omega) (by omega))
            go_wp2_with fail
            refine WI.out.mono ?_
            rintro e' w9 ⟨A9, p9, c9, rfl, n9, b9⟩
            have F9 := F5.adv b9
            clear b9 F5 ca0 ca1 ca2 WI
            obtain ⟨cF0, cF1, cF2⟩ := F9.kr.cell
            obtain ⟨fF0, fF1, fF2⟩ := F9.kr.frozen
            generalize wdD false (X - Y) E = r at *
            go_wp2_with fail
            rw [HYES.out]
            refine bodyPost_ret (v := .agg #[.bool r.neg, .slice A9 p9 c9, .int .i64 r.e]) (by simp [results, Tryz.results52, go_sem, cF0, cF1, cF2]) rfl
              ⟨A9, p9, c9, rfl, n9.put3 F9.kr (notU_bool _) (notU_slice _ _ _) (notU_int _) _ _ _, below_put3 F9.bel (by omega) F9.bel.size _ _ _⟩
          · have hc : ¬ (0 : Int) ≤ cmpN X Y := by unfold cmpN; rw [if_pos (by omega)]; omega
            have HYES := Lib.hid (HRES.out.trans (if_neg hle))
            have SB := Lib.hid (rsubN w4 n54 n44 (by omega) (by omega) (by omega))
            generalize cmpN X Y = cc at *
            clear HRES
            go_wp2_with fail
            refine SB.out.mono ?_
            rintro e' w5 ⟨A7, p7, c7, rfl, n7, b⟩
            have F5 := F4.adv b
            clear F4 b SB n44 n54 ca0 ca1 ca2 cb0 cb1 cb2
            obtain ⟨cb0, cb1, cb2⟩ := F5.kb.cell
            have WI := Lib.hid (wide_any true A7 p7 c7 (Y - X) E w5 n7 (by have := nb_mono (Nat.sub_le Y X); omega) F5.tab (by omega) (by omega))
            go_wp2_with fail
            refine WI.out.mono ?_
            rintro e' w9 ⟨A9, p9, c9, rfl, n9, b9⟩
            have F9 := F5.adv b9
            clear b9 F5 cb0 cb1 cb2 WI
            obtain ⟨cF0, cF1, cF2⟩ := F9.kr.cell
            obtain ⟨fF0, fF1, fF2⟩ := F9.kr.frozen
            generalize wdD true (Y - X) E = r at *
            go_wp2_with fail
            rw [HYES.out]
            refine bodyPost_ret (v := .agg #[.bool r.neg, .slice A9 p9 c9, .int .i64 r.e]) (by simp [results, Tryz.results52, go_sem, cF0, cF1, cF2]) rfl
              ⟨A9, p9, c9, rfl, n9.put3 F9.kr (notU_bool _) (notU_slice _ _ _) (notU_int _) _ _ _, below_put3 F9.bel (by omega) F9.bel.size _ _ _⟩
        · obtain rfl : nb' = false := by cases nb' <;> simp at hs ⊢
          clear hs
          go_wp2_with fail
          refine CM.out.mono ?_
          rintro e' w4 ⟨rfl, b⟩
          have F4 := F3'.adv b
          have n44 := n43.below b
          have n54 := n53.below b
          clear F3' b CM n43 n53 ca0 ca1 ca2 cb0 cb1 cb2
          obtain ⟨ca0, ca1, ca2⟩ := F4.ka.cell
          obtain ⟨cb0, cb1, cb2⟩ := F4.kb.cell
          by_cases hle : Y ≤ X
          · have hc : (0 : Int) ≤ cmpN X Y := by unfold cmpN; rw [if_neg (by omega)]; split <;> omega
            have HYES := Lib.hid (HRES.out.trans (if_pos hle))
            have SB := Lib.hid (rsubN w4 n44 n54 (by omega) (by omega) hle)
            generalize cmpN X Y = cc at *
            clear HRES
            go_wp2_with fail
            refine SB.out.mono ?_
            rintro e' w5 ⟨A7, p7, c7, rfl, n7, b⟩
            have F5 := F4.adv b
            clear F4 b SB n44 n54 ca0 ca1 ca2 cb0 cb1 cb2
            obtain ⟨ca0, ca1, ca2⟩ := F5.ka.cell
            have WI := Lib.hid (wide_any true A7 p7 c7 (X - Y) E w5 n7 (by have := nb_mono (Nat.sub_le X Y); omega) F5.tab (by omega) (by omega))
            go_wp2_with fail
            refine WI.out.mono ?_
            rintro e' w9 ⟨A9, p9, c9, rfl, n9, b9⟩
            have F9 := F5.adv b9
            clear b9 F5 ca0 ca1 ca2 WI
            obtain ⟨cF0, cF1, cF2⟩ := F9.kr.cell
            obtain ⟨fF0, fF1, fF2⟩ := F9.kr.frozen
            generalize wdD true (X - Y) E = r at *
            go_wp2_with fail
            rw [HYES.out]
            refine bodyPost_ret (v := .agg #[.bool r.neg, .slice A9 p9 c9, .int .i64 r.e]) (by simp [results, Tryz.results52, go_sem, cF0, cF1, cF2]) rfl
              ⟨A9, p9, c9, rfl, n9.put3 F9.kr (notU_bool _) (notU_slice _ _ _) (notU_int _) _ _ _, below_put3 F9.bel (by omega) F9.bel.size _ _ _⟩
          · have hc : ¬ (0 : Int) ≤ cmpN X Y := by unfold cmpN; rw [if_pos (by omega)]; omega
            have HYES := Lib.hid (HRES.out.trans (if_neg hle))
            have SB := Lib.hid (rsubN w4 n54 n44 (by omega) (by omega) (by omega))
            generalize cmpN X Y = cc at *
            clear HRES
            go_wp2_with fail
            refine SB.out.mono ?_
            rintro e' w5 ⟨A7, p7, c7, rfl, n7, b⟩
            have F5 := F4.adv b
            clear F4 b SB n44 n54 ca0 ca1 ca2 cb0 cb1 cb2
            obtain ⟨cb0, cb1, cb2⟩ := F5.kb.cell
            have WI := Lib.hid (wide_any false A7 p7 c7 (Y - X) E w5 n7 (by have := nb_mono (Nat.sub_le Y X); omega) F5.tab (by omega) (by omega))
            go_wp2_with fail
            refine WI.out.mono ?_
            rintro e' w9 ⟨A9, p9, c9, rfl, n9, b9⟩
            have F9 := F5.adv b9
            clear b9 F5 cb0 cb1 cb2 WI
            obtain ⟨cF0, cF1, cF2⟩ := F9.kr.cell
            obtain ⟨fF0, fF1, fF2⟩ := F9.kr.frozen
            generalize wdD false (Y - X) E = r at *
            go_wp2_with fail
            rw [HYES.out]
            refine bodyPost_ret (v := .agg #[.bool r.neg, .slice A9 p9 c9, .int .i64 r.e]) (by simp [results, Tryz.results52, go_sem, cF0, cF1, cF2]) rfl
              ⟨A9, p9, c9, rfl, n9.put3 F9.kr (notU_bool _) (notU_slice _ _ _) (notU_int _) _ _ _, below_put3 F9.bel (by omega) F9.bel.size _ _ _⟩
end Go.Proofs.YtljioadppdpdiaaGreatDoor

namespace Go.Proofs.YtljioadppdpdiaaGreatDoor
open Go.RowKit

/-- What the numbers above 0 and those below are together. -/
def wdS (P M : Nat) (lo : Int) : DR := if M ≤ P then wdD false (P - M) lo else wdD true (M - P) lo
theorem wdS_form (P M : Nat) (lo : Int) : ∃ (sg : Bool) (U : Nat), wdS P M lo = wdD sg U lo ∧ (sg = false → P = M + U) ∧ (sg = true → M = P + U ∧ 0 < U) := by
  unfold wdS
  by_cases h : M ≤ P
  · rw [if_pos h]; exact ⟨false, P - M, rfl, fun _ => by omega, fun h => by cases h⟩
  · rw [if_neg h]; exact ⟨true, M - P, rfl, (fun h => by cases h), fun _ => by omega⟩
theorem wd_pos {sg : Bool} {U : Nat} {lo : Int} (h : 0 < U) : wdD sg U lo = ⟨true, sg, od U, lo + (v2 U : Int)⟩ := by
  unfold wdD; rw [if_neg (by omega)]
/-- One number more. -/
theorem add_step (P M : Nat) (lo : Int) (ng : Bool) (v : Nat) (e : Int) (hz : v = 0 → ng = false ∧ e = 0) (he : v = 0 ∨ lo ≤ e) :
    addD (wdS P M lo).neg ng (wdS P M lo).m v (wdS P M lo).e e = wdS (P + if ng = false then v * 2 ^ (e - lo).toNat else 0) (M + if ng = true then v * 2 ^ (e - lo).toNat else 0) lo := by
  obtain ⟨sg, U, hw, h1, h2⟩ := wdS_form P M lo
  rw [hw]
  rcases Nat.eq_zero_or_pos U with hU | hU
  · subst hU
    have hPM : P = M := by
      cases sg
      · exact h1 rfl
      · have := (h2 rfl).2; omega
    subst hPM
    rw [wdD_zero]
    unfold addD sideX sideY sideE
    simp only [DR.zero, if_true]
    rw [if_neg (by omega)]
    simp only [decide_true, Bool.true_and, Bool.false_or, Nat.zero_add]
    rcases Nat.eq_zero_or_pos v with hv | hv
    · obtain ⟨rfl, rfl⟩ := hz hv
      subst hv
      simp only [wdD_zero, Nat.zero_mul, Nat.add_zero, if_true]
      simp [wdS, wdD_zero]
    · have he' : lo ≤ e := by rcases he with h | h <;> omega
      obtain ⟨k, hk⟩ : ∃ k : Nat, e - lo = (k : Int) := ⟨(e - lo).toNat, by omega⟩
      have e1 := wdD_pow ng v k e
      rw [show e - (k : Int) = lo by omega] at e1
      rw [← e1, hk, Int.toNat_natCast]
      have hp := Nat.mul_pos hv (Nat.two_pow_pos k)
      unfold wdS
      cases ng
      · simp only [if_true, Bool.false_eq_true, if_false, Nat.add_zero]
        rw [if_pos (by omega), show P + v * 2 ^ k - P = v * 2 ^ k by omega]
      · simp only [if_true, Bool.true_eq_false, if_false, Nat.add_zero]
        rw [if_neg (by omega), show P + v * 2 ^ k - P = v * 2 ^ k by omega]
  · obtain ⟨g1, g2⟩ := od_spec hU
    have ho := od_pos hU
    rw [wd_pos hU]
    simp only
    rcases Nat.eq_zero_or_pos v with hv | hv
    · obtain ⟨rfl, rfl⟩ := hz hv
      subst hv
      unfold addD sideX sideY sideE
      have h0 : ¬ od U = 0 := by omega
      simp only [h0, if_false, if_true, Nat.zero_mul, Nat.add_zero, decide_false, Bool.false_and, Bool.or_false]
      rw [if_neg (fun h => by have := h.2.1; omega)]
      have e1 := wdD_pow sg (od U) (v2 U) (lo + (v2 U : Int))
      rw [← g1, show lo + (v2 U : Int) - (v2 U : Int) = lo by omega] at e1
      rw [← e1, ← hw]
      simp
    · have he' : lo ≤ e := by rcases he with h | h <;> omega
      obtain ⟨k, hk⟩ : ∃ k : Nat, e - lo = (k : Int) := ⟨(e - lo).toNat, by omega⟩
      obtain ⟨E, hE⟩ : ∃ E, E = min (lo + (v2 U : Int)) e := ⟨_, rfl⟩
      obtain ⟨t, ht⟩ : ∃ t : Nat, E - lo = (t : Int) := ⟨(E - lo).toNat, by omega⟩
      obtain ⟨X, hX⟩ : ∃ X, X = onE (od U) (lo + (v2 U : Int)) e := ⟨_, rfl⟩
      obtain ⟨Y, hY⟩ : ∃ Y, Y = onE v e (lo + (v2 U : Int)) := ⟨_, rfl⟩
      have hXt : X * 2 ^ t = U := by
        rw [hX, onE, ← hE, Nat.mul_assoc, ← Nat.pow_add, show (lo + (v2 U : Int) - E).toNat + t = v2 U by omega]
        exact g1.symm
      have hYt : Y * 2 ^ t = v * 2 ^ k := by
        rw [hY, onE, show min e (lo + (v2 U : Int)) = E by omega, Nat.mul_assoc, ← Nat.pow_add, show (e - E).toNat + t = k by omega]
      have hX0 : 0 < X := by rw [hX]; exact onE_pos ho
      have hY0 : 0 < Y := by rw [hY]; exact onE_pos hv
      have hA : addD sg ng (od U) v (lo + (v2 U : Int)) e = if sg ≠ ng then (if Y ≤ X then wdD sg (X - Y) E else wdD ng (Y - X) E) else wdD sg (X + Y) E := by
        have h0 : ¬ od U = 0 := by omega
        have h3 : ¬ v = 0 := by omega
        unfold addD sideX sideY sideE
        simp only [h0, h3, if_false]
        rw [← hX, ← hY, ← hE]
        have h4 : ¬ X = 0 := by omega
        simp [hX0, hY0, h4]
      have hwd : ∀ (s : Bool) (m : Nat), wdD s m E = wdD s (m * 2 ^ t) lo := fun s m => by
        have e1 := wdD_pow s m t E
        rw [show E - (t : Int) = lo by omega] at e1
        exact e1.symm
      rw [hA, hk, Int.toNat_natCast, ← hYt]
      have hle : Y ≤ X ↔ Y * 2 ^ t ≤ U := by
        rw [← hXt]
        exact ⟨fun h => Nat.mul_le_mul_right _ h, fun h => Nat.le_of_mul_le_mul_right h (Nat.two_pow_pos t)⟩
      have hYt0 := Nat.mul_pos hY0 (Nat.two_pow_pos t)
      have e1 : (X + Y) * 2 ^ t = U + Y * 2 ^ t := by rw [Nat.add_mul, hXt]
      have e2 : (X - Y) * 2 ^ t = U - Y * 2 ^ t := by rw [Nat.sub_mul, hXt]
      have e3 : (Y - X) * 2 ^ t = Y * 2 ^ t - U := by rw [Nat.sub_mul, hXt]
      rw [hwd, hwd, hwd, e1, e2, e3]
      generalize Y * 2 ^ t = y at *
      unfold wdS
      cases sg
      · have hP := h1 rfl
        cases ng
        · simp only [ne_eq, not_true_eq_false, if_false, if_true, Bool.false_eq_true, Nat.add_zero]
          rw [if_pos (by omega), show P + y - M = U + y by omega]
        · simp only [ne_eq, Bool.false_eq_true, Bool.true_eq_false, not_false_eq_true, if_true, if_false, Nat.add_zero]
          by_cases h5 : Y ≤ X
          · have h6 := hle.1 h5
            rw [if_pos h5, if_pos (by omega), show P - (M + y) = U - y by omega]
          · have h6 : ¬ y ≤ U := fun h => h5 (hle.2 h)
            rw [if_neg h5, if_neg (by omega), show M + y - P = y - U by omega]
      · obtain ⟨hM, _⟩ := h2 rfl
        cases ng
        · simp only [ne_eq, Bool.true_eq_false, Bool.false_eq_true, not_false_eq_true, if_true, if_false, Nat.add_zero]
          by_cases h5 : Y ≤ X
          · have h6 := hle.1 h5
            rw [if_pos h5]
            by_cases h7 : y = U
            · rw [if_pos (by omega), show U - y = 0 by omega, show P + y - M = 0 by omega, wdD_zero, wdD_zero]
            · rw [if_neg (by omega), show M - (P + y) = U - y by omega]
          · have h6 : ¬ y ≤ U := fun h => h5 (hle.2 h)
            rw [if_neg h5, if_pos (by omega), show P + y - M = y - U by omega]
        · simp only [ne_eq, not_true_eq_false, if_false, if_true, Bool.true_eq_false, Nat.add_zero]
          rw [if_neg (by omega), show M + y - P = U + y by omega]

/-- How wide the numbers lie. -/
theorem einv_ex (l : DL) (k : Nat) (hP : ∀ j, j < k → nb (l.v j) ≤ 16384) : ∃ lo hi en fd, EInv l k lo hi en fd := by
  induction k with
  | zero => exact ⟨0, 0, 0, false, EInv.start l⟩
  | succ k ih =>
    obtain ⟨lo, hi, en, fd, h⟩ := ih fun j hj => hP j (by omega)
    by_cases h0 : l.n k = 0
    · exact ⟨lo, hi, en, fd, h.zero h0⟩
    · cases fd
      · exact ⟨_, _, _, _, EInv.first h h0 (hP k (by omega))⟩
      · exact ⟨_, _, _, _, EInv.more h h0 (hP k (by omega))⟩
/-- Bounds of a sum under way. -/
theorem wdS_bound {P M K : Nat} {lo : Int} (hP : nb P ≤ K) (hM : nb M ≤ K) : nb (wdS P M lo).m ≤ K ∧ ((wdS P M lo).m = 0 → (wdS P M lo).e = 0 ∧ (wdS P M lo).neg = false) ∧ (0 < (wdS P M lo).m → lo ≤ (wdS P M lo).e ∧ (wdS P M lo).e ≤ lo + (K : Int)) ∧ (wdS P M lo).ok = true ∧
    ∀ t : Nat, 0 < (wdS P M lo).m → (wdS P M lo).e - lo = (t : Int) → nb ((wdS P M lo).m * 2 ^ t) ≤ K := by
  obtain ⟨sg, U, hw, h1, h2⟩ := wdS_form P M lo
  have hUK : nb U ≤ K := by
    cases sg
    · have := nb_mono (show U ≤ P by have := h1 rfl; omega); omega
    · have := nb_mono (show U ≤ M by have := (h2 rfl).1; omega); omega
  rw [hw]
  rcases Nat.eq_zero_or_pos U with hU | hU
  · subst hU
    rw [wdD_zero]
    exact ⟨by simp only [DR.zero]; rw [nb_zero]; omega, fun _ => ⟨rfl, rfl⟩, fun h => absurd h (by decide), rfl, fun _ h => absurd h (by decide)⟩
  · obtain ⟨g1, g2⟩ := od_spec hU
    have ho := od_pos hU
    have hv := v2_lt_nb hU
    rw [wd_pos hU]
    refine ⟨by simp only; have := nb_mono (od_le U); omega, fun h => by simp only at h; omega, fun _ => ⟨by simp only; omega, by simp only; omega⟩, rfl, fun t _ ht => ?_⟩
    simp only at ht ⊢
    obtain rfl : t = v2 U := by omega
    rw [← g1]; exact hUK
end Go.Proofs.YtljioadppdpdiaaGreatDoor

namespace Go.Proofs.YtljioadppdpdiaaGreatDoor
open Go.RowKit

set_option maxHeartbeats 4000000 in
theorem rmul2_any (na nb' : Bool) (A B : Option Addr) (n c m d : Nat) (x y : Nat → Nat) (ea eb : Int) (w : World) (ha : Sl w A n c x) (hb : Sl w B m d y) (hn : n ≤ 400000) (hm : m ≤ 400000) (hT : Tab w) :
    Calls Tryz.prog 32 #[dyv na A n c ea, dyv nb' B m d eb] w
      (DPost w (mulD (plainB na n x ea && plainB nb' m y eb) na nb' (vs B64 x n) (vs B64 y m) ea eb)) := by
  have S := F3.start w na A n c ea nb' B m d eb hT
  go_enter Tryz.func32, Tryz.ntmps32
  go_wp2_with fail
  generalize ((w.alloc (.cells #[.bool na, .slice A n c, .int .i64 ea] 26)).alloc (.cells #[.bool nb', .slice B m d, .int .i64 eb] 26)).alloc (.cells #[.bool false, .slice none 0 0, .int .i64 0] 26) = w1 at *
  refine (rplain_any na A n c x ea w1 (ha.below S.bel) hn).mono ?_
  rintro e' w2 ⟨rfl, b⟩
  have F2 := S.adv b
  clear S b
  by_cases hpa : plainB na n x ea = true
  · rw [hpa]
    obtain ⟨cb0, cb1, cb2⟩ := F2.kb.cell
    go_wp2_with fail
    refine (rplain_any nb' B m d y eb w2 (hb.below F2.bel) hm).mono ?_
    rintro e' w3 ⟨rfl, b⟩
    have F3' := F2.adv b
    clear F2 b cb0 cb1 cb2
    by_cases hpb : plainB nb' m y eb = true
    · rw [hpb]
      have HYES := Lib.hid (show mulD (plainB na n x ea && plainB nb' m y eb) na nb' (vs B64 x n) (vs B64 y m) ea eb = mkD (na != nb') (vs B64 x n * vs B64 y m) (ea + eb) by rw [hpa, hpb]; rfl)
      have PA := plain_facts hpa
      have PB := plain_facts hpb
      have ln := PA.len
      have lm := PB.len
      have ea1 := PA.e1
      have ea2 := PA.e2
      have eb1 := PB.e1
      have eb2 := PB.e2
      clear hpa hpb PA PB
      have KM : Hid (vs B64 x n * vs B64 y m < B64 ^ (n + m)) := Lib.hid (by
        rw [Nat.pow_add]; exact Nat.mul_lt_mul'' (vs_lt ha.small) (vs_lt hb.small))
      have MU : Hid (∀ w', Below w3.heap.size w3 w' → Calls Tryz.prog 62 #[.slice A n c, .slice B m d] w' fun e w'' => ∃ A6 p6 c6 f6, e = .returned (.slice A6 p6 c6) ∧ Sl w'' A6 p6 c6 f6 ∧ p6 ≤ n + m ∧ Hid (vs B64 f6 p6 = vs B64 x n * vs B64 y m) ∧ Below w3.heap.size w3 w'') := Lib.hid (fun w' h => by
        refine (rmul_any A B n m c d x y w' ((ha.below F3'.bel).below h) ((hb.below F3'.bel).below h) (by omega) (by omega)).mono ?_
        rintro e' w6 ⟨v6, rfl, n6, b⟩
        obtain ⟨A6, p6, c6, f6, rfl, q6, lp6, _, e6⟩ := n6.sl' KM.out
        exact ⟨A6, p6, c6, f6, rfl, q6, lp6, Lib.hid e6, h.trans (b.mono h.size)⟩)
      obtain ⟨r, hr⟩ : ∃ r, Hid (r = mkD (na != nb') (vs B64 x n * vs B64 y m) (ea + eb)) := ⟨_, Lib.hid rfl⟩
      have MK : Hid (∀ A6 p6 c6 f6 w', Sl w' A6 p6 c6 f6 → p6 ≤ n + m → Hid (vs B64 f6 p6 = vs B64 x n * vs B64 y m) → Tab w' → Calls Tryz.prog 61 #[.bool (na != nb'), .slice A6 p6 c6, .int .i64 (ea + eb)] w' fun e w'' => ∃ A7 p7 c7, e = .returned (.tuple #[.agg #[.bool r.neg, .slice A7 p7 c7, .int .i64 r.e], .bool r.ok]) ∧ Num w'' (.slice A7 p7 c7) r.m ∧ Below w'.heap.size w' w'') := Lib.hid (fun A6 p6 c6 f6 w' q6 lp6 E6 t6 => by
        refine (rmake_any (na != nb') A6 p6 c6 f6 (ea + eb) w' q6 (by omega) t6 (by omega) (by omega)).mono ?_
        rw [E6.out, ← hr.out]
        rintro e' w7 ⟨v7, rfl, n7, b7⟩
        obtain ⟨A7, p7, c7, f7, rfl, m7⟩ := n7
        exact ⟨A7, p7, c7, rfl, ⟨A7, p7, c7, f7, rfl, m7⟩, b7⟩)
      have G := F3'.drew
      have SX := G.six
      unfold Six at SX
      have hw1 : IntKind.i64.wrap (ea + eb) = ea + eb := wrap_id (by omega) (by omega)
      go_wp2_with fail
      go_region_held3 (fun w' => (w'.cell? ⟨w.heap.size, 0, none⟩ = some (.bool na) ∧ w'.cell? ⟨w.heap.size, 1, none⟩ = some (.slice A n c) ∧ w'.cell? ⟨w.heap.size, 2, none⟩ = some (.int .i64 ea)) ∧
          (w'.cell? ⟨w.heap.size + 1, 0, none⟩ = some (.bool nb') ∧ w'.cell? ⟨w.heap.size + 1, 1, none⟩ = some (.slice B m d) ∧ w'.cell? ⟨w.heap.size + 1, 2, none⟩ = some (.int .i64 eb)))
        (first | exact S7.put _ _ _ | exact S7 | exact S6 | exact SX)
        (first
          | (go_at_call 62; refine (MU.out _ ((Below.refl _ w3).drew)).mono ?_; rintro e' w6 ⟨A6, p6, c6, f6, rfl, q6, lp6, E6, b6⟩; have F6 := F3'.adv b6; have S6 := F6.six)
          | (go_at_call 61; refine (MK.out A6 p6 c6 f6 w6 q6 lp6 E6 F6.tab).mono ?_; rintro e' w7 ⟨A7, p7, c7, rfl, n7, b7⟩; have F7 := F6.adv b7; have S7 := F7.six; obtain ⟨cF0, cF1, cF2⟩ := F7.kr.cell; obtain ⟨fF0, fF1, fF2⟩ := F7.kr.frozen))
      all_goals (go_wp2_with fail)
      rw [HYES.out, ← hr.out]
      refine bodyPost_ret (v := .tuple #[.agg #[.bool r.neg, .slice A7 p7 c7, .int .i64 r.e], .bool r.ok]) (by simp [results, Tryz.results32, go_sem, cF0, cF1, cF2]) rfl
        ⟨_, rfl, n7.put3 F7.kr (notU_bool _) (notU_slice _ _ _) (notU_int _) _ _ _, below_put3 F7.bel (by omega) F7.bel.size _ _ _⟩
    · have hpb' : plainB nb' m y eb = false := by simpa using hpb
      rw [hpb']
      have HNO := Lib.hid (show mulD (plainB na n x ea && plainB nb' m y eb) na nb' (vs B64 x n) (vs B64 y m) ea eb = DR.no by rw [hpb']; simp [mulD])
      obtain ⟨cr0, cr1, cr2⟩ := F3'.kr.cell
      obtain ⟨fr0, fr1, fr2⟩ := F3'.kr.frozen
      go_wp2_with fail
      rw [HNO.out]
      refine bodyPost_ret (v := .tuple #[.agg #[.bool false, .slice none 0 0, .int .i64 0], .bool false]) (by simp [results, Tryz.results32, go_sem, cr0, cr1, cr2]) rfl ⟨_, rfl, num_nil _, below_put3 F3'.bel (by omega) F3'.bel.size _ _ _⟩
  · have hpa' : plainB na n x ea = false := by simpa using hpa
    rw [hpa']
    have HNO := Lib.hid (show mulD (plainB na n x ea && plainB nb' m y eb) na nb' (vs B64 x n) (vs B64 y m) ea eb = DR.no by rw [hpa']; simp [mulD])
    obtain ⟨cr0, cr1, cr2⟩ := F2.kr.cell
    obtain ⟨fr0, fr1, fr2⟩ := F2.kr.frozen
    go_wp2_with fail
    rw [HNO.out]
    refine bodyPost_ret (v := .tuple #[.agg #[.bool false, .slice none 0 0, .int .i64 0], .bool false]) (by simp [results, Tryz.results32, go_sem, cr0, cr1, cr2]) rfl ⟨_, rfl, num_nil _, below_put3 F2.bel (by omega) F2.bel.size _ _ _⟩


/-- Least and greatest exponent so far, as the reference keeps them. -/
def RInv (l : DL) (j : Nat) (lo hi : Int) (fd : Bool) : Prop := match ext l j with
  | none => fd = false ∧ lo = 0 ∧ hi = 0
  | some (a, b) => fd = true ∧ lo = a ∧ hi = b
theorem RInv.start (l : DL) : RInv l 0 0 0 false := ⟨rfl, rfl, rfl⟩
theorem RInv.zero {l : DL} {j : Nat} {lo hi : Int} {fd : Bool} (h : RInv l j lo hi fd) (h0 : l.n j = 0) : RInv l (j + 1) lo hi fd := by
  unfold RInv at *
  rw [ext, if_pos h0]; exact h
theorem RInv.first {l : DL} {j : Nat} {lo hi : Int} (h : RInv l j lo hi false) (h0 : l.n j ≠ 0) : RInv l (j + 1) (l.e j) (l.e j) true := by
  unfold RInv at *
  rw [ext, if_neg h0]
  cases he : ext l j with
  | none => exact ⟨rfl, rfl, rfl⟩
  | some p => rw [he] at h; obtain ⟨a, b⟩ := p; exact absurd h.1 (by decide)
theorem RInv.more {l : DL} {j : Nat} {lo hi : Int} (h : RInv l j lo hi true) (h0 : l.n j ≠ 0) : RInv l (j + 1) (min lo (l.e j)) (max hi (l.e j)) true := by
  unfold RInv at *
  rw [ext, if_neg h0]
  cases he : ext l j with
  | none => rw [he] at h; exact absurd h.1 (by decide)
  | some p => rw [he] at h; obtain ⟨a, b⟩ := p; obtain ⟨_, rfl, rfl⟩ := h; exact ⟨rfl, rfl, rfl⟩
theorem RInv.lohi {l : DL} {k : Nat} {lo hi : Int} {fd : Bool} (h : RInv l k lo hi fd) : lo = loOf l k ∧ hi = hiOf l k := by
  unfold RInv at h
  unfold loOf hiOf
  cases he : ext l k with
  | none => rw [he] at h; obtain ⟨_, rfl, rfl⟩ := h; exact ⟨rfl, rfl⟩
  | some p => rw [he] at h; obtain ⟨a, b⟩ := p; obtain ⟨_, rfl, rfl⟩ := h; exact ⟨rfl, rfl⟩
theorem F1.drewN {w w1 : World} (h : F1 w w1) (k : Nat) : F1 w (w1.drewN k) := ⟨below_drewN h.bel k, h.kr, h.sz, h.tab0⟩
theorem F1.drew {w w1 : World} (h : F1 w w1) : F1 w w1.drew := ⟨h.bel.drew, h.kr, h.sz, h.tab0⟩
theorem F1.only {w w1 w2 : World} {g : Nat} (h : F1 w w1) (o : Only w1 w2 g) (hg : w.heap.size + 1 ≤ g) : F1 w w2 :=
  ⟨below_only h.bel o (by omega), (o.block w.heap.size (by have := h.sz; omega) (by simp; omega)).trans h.kr, Nat.le_trans h.sz o.size, h.tab0⟩
theorem sum_plain (P M : Nat) (lo : Int) : (if M ≤ P then mkD false (P - M) lo else mkD true (M - P) lo) = if plainV (wdS P M lo).neg (wdS P M lo).m (wdS P M lo).e then wdS P M lo else DR.no := by
  unfold wdS
  by_cases h : M ≤ P
  · simp only [h, if_true]; exact mkD_wd _ _ _
  · simp only [h, if_false]; exact mkD_wd _ _ _
theorem K3.drewN {w : World} {g : Nat} {a b c : Value} (h : K3 w g a b c) (k : Nat) : K3 (w.drewN k) g a b c := h
theorem K3.drew {w : World} {g : Nat} {a b c : Value} (h : K3 w g a b c) : K3 w.drew g a b c := h

end Go.Proofs.YtljioadppdpdiaaGreatDoor
