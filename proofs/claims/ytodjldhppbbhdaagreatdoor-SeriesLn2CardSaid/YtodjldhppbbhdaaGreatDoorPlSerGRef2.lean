/-
  volvelleref01.Mul: the document's product.
  volvelleref01.times: digits by a digit; volvelleref01.guess: a digit that isn't too great.
  volvelleref01.guess: a digit that isn't too great.
  volvelleref01.DivMod: the document's quotient and remainder, digit by digit.
-/
import Derived.Test.YtodjldhppbbhdaaGreatDoorPlSerGNumbers
import Derived.Test.YtodjldhppbbhdaaGreatDoorPlSerGNat3
import Derived.Test.YtodjldhppbbhdaaGreatDoorPlSerGNat6
import Derived.Test.YtodjldhppbbhdaaGreatDoorPlSerGRef1
namespace Go.Proofs.YtodjldhppbbhdaaGreatDoor
open Go.RowKit

/-- k digits of one line of a product are done from off on; cy is carried. -/
def LineInv (t : TypeId) (w wr : World) (g N off a : Nat) (F y : Nat → Nat) (k cy : Nat) : Prop :=
  ∃ F', cy < 65536 ∧ Row t wr g N F' ∧ Only w wr g ∧ (∀ j, j < N → F' j < 65536) ∧ (∀ j, j < off ∨ off + k ≤ j → F' j = F j) ∧
    vs 65536 (fun j => F' (off + j)) k + cy * 65536 ^ k = vs 65536 (fun j => F (off + j)) k + vs 65536 (fun j => a * y j) k

theorem LineInv.step {t : TypeId} {w wr : World} {g N off a : Nat} {F F' y : Nat → Nat} {k cy s b : Nat} (hcy : cy < 65536) (hrow : Row t wr g N F') (hon : Only w wr g) (hd : ∀ j, j < N → F' j < 65536)
    (hag : ∀ j, j < off ∨ off + k ≤ j → F' j = F j) (hv : vs 65536 (fun j => F' (off + j)) k + cy * 65536 ^ k = vs 65536 (fun j => F (off + j)) k + vs 65536 (fun j => a * y j) k)
    (hs : F' (off + k) = s) (hb : y k = b) (ha' : a < 65536) (hb' : b < 65536) (hs' : s < 65536) :
    LineInv t w (wr.setCell ⟨g, off + k, none⟩ (.int .u64 (((s + a * b + cy) % 65536 : Nat) : Int))) g N off a F y (k + 1) ((s + a * b + cy) / 65536) := by
  have hm : a * b ≤ 65535 * 65535 := Nat.mul_le_mul (by omega) (by omega)
  have hr : (s + a * b + cy) % 65536 < B64 := by unfold B64; omega
  refine ⟨upd F' (off + k) ((s + a * b + cy) % 65536), by omega, hrow.set_ _ _ hr, hon.set_ _ _, fun j hj => ?_, fun j hj => ?_, ?_⟩
  · unfold upd; split
    · omega
    · exact hd j hj
  · rw [upd_other _ _ _ _ (by omega)]; exact hag j (by omega)
  · rw [vs_succ, vs_succ, vs_succ, upd_same]
    have e : vs 65536 (fun j => upd F' (off + k) ((s + a * b + cy) % 65536) (off + j)) k = vs 65536 (fun j => F' (off + j)) k := vs_congr fun j hj => upd_other _ _ _ _ (by omega)
    rw [e, ← hag (off + k) (by omega), hs, hb]
    exact step_add hv (by omega)

theorem LineInv.drewN {t : TypeId} {w wr : World} {g N off a : Nat} {F y : Nat → Nat} {k cy : Nat} (h : LineInv t w wr g N off a F y k cy) (n : Nat) : LineInv t w (wr.drewN n) g N off a F y k cy := by
  obtain ⟨F', h1, h2, h3, h4⟩ := h
  exact ⟨F', h1, h2, ⟨h3.os, h3.tape, h3.output, h3.size, h3.block⟩, h4⟩

/-- What holds when i digits of x are done. -/
def RMulInv (t : TypeId) (w wr : World) (g N q : Nat) (x y : Nat → Nat) (i : Nat) : Prop :=
  ∃ F, Row t wr g N F ∧ Below g w wr ∧ (∀ j, j < N → F j < 65536) ∧ vs 65536 F (i + q) = vs 65536 x i * vs 65536 y q ∧ ∀ j, i + q ≤ j → j < N → F j = 0

theorem rmul_round {t : TypeId} {w wr w3 : World} {g N q i a cy : Nat} {F x y : Nat → Nat} (hxi : x i = a) (hb : Below g w wr) (hg : g < wr.heap.size)
    (hv : vs 65536 F (i + q) = vs 65536 x i * vs 65536 y q) (hz : ∀ j, i + q ≤ j → j < N → F j = 0) (h : LineInv t wr w3 g N i a F y q cy) :
    RMulInv t w (w3.setCell ⟨g, i + q, none⟩ (.int .u64 ((cy : Nat) : Int))) g N q x y (i + 1) := by
  obtain ⟨F', h1, h2, h3, hd, h4, h5⟩ := h
  have hcy : cy < B64 := by unfold B64; omega
  refine ⟨upd F' (i + q) cy, h2.set_ _ _ hcy, (Only.below hb h3 (by omega) (Nat.le_refl _)).setCell (Nat.le_refl _) _, fun j hj => ?_, ?_, fun j hj hjN => ?_⟩
  · unfold upd; split
    · exact h1
    · exact hd j hj
  · have e1 : i + 1 + q = i + q + 1 := by omega
    rw [e1, vs_succ, upd_same, vs_upd_ge _ _ _ _ _ (Nat.le_refl _), vs_add, vs_succ, hxi, Nat.add_mul, ← hv, vs_add 65536 F]
    have e2 : vs 65536 F' i = vs 65536 F i := vs_congr fun j hj => h4 j (by omega)
    rw [vs_mul] at h5
    have e3 : 65536 ^ i * (vs 65536 (fun j => F' (i + j)) q + cy * 65536 ^ q) = 65536 ^ i * (vs 65536 (fun j => F (i + j)) q + a * vs 65536 y q) := by rw [h5]
    rw [Nat.mul_add, Nat.mul_add] at e3
    have e4 : cy * 65536 ^ (i + q) = 65536 ^ i * (cy * 65536 ^ q) := by rw [Nat.pow_add]; ac_rfl
    have e5 : a * 65536 ^ i * vs 65536 y q = 65536 ^ i * (a * vs 65536 y q) := by ac_rfl
    omega
  · rw [upd_other _ _ _ _ (by omega), h4 j (by omega)]; exact hz j (by omega) hjN

set_option maxHeartbeats 1000000 in
theorem rmul_any (A B : Option Addr) (n m c d : Nat) (x y : Nat → Nat) (w : World) (ha : Sl w A n c x) (hb : Sl w B m d y) (hn : n ≤ 100000) (hm : m ≤ 100000) :
    Calls Tryz.prog 94 #[.slice A n c, .slice B m d] w (NumPost w (vs B64 x n * vs B64 y m)) := by
  rw [← dg_val ha, ← dg_val hb]
  have D1 := Lib.hid (digits_any A n c x w ha (by omega))
  have D2 : Hid (∀ w1, Below w.heap.size w w1 → Calls Tryz.prog 100 #[.slice B m d] w1 (digitsPost w1 y m)) := Lib.hid fun w1 b1 => digits_any B m d y w1 (hb.below b1) (by omega)
  have l1 := tl_le (dg x) (4 * n)
  have l2 := tl_le (dg y) (4 * m)
  unfold digitsPost at D1 D2
  have G1 : Hid (∀ j, dg x j < 65536) := Lib.hid (dg_lt x)
  have G2 : Hid (∀ j, dg y j < 65536) := Lib.hid (dg_lt y)
  generalize dg x = X at *
  generalize dg y = Y at *
  generalize tl X (4 * n) = p at *
  generalize tl Y (4 * m) = q at *
  have hmk : ∀ u : World, (Instr.makeSlice 25 (.int .i64 ((p : Int) + (q : Int))) (.int .i64 ((p : Int) + (q : Int)))).run Tryz.prog u =
      .ok (.slice (some ⟨u.heap.size, 0, none⟩) (p + q) (p + q)) (u.alloc (.cells (madeCells #[.int .u64 0] (p + q)) 47)) := fun u => by
    have h := make_run (p + q) (by omega) u
    rw [Int.natCast_add] at h
    exact h
  go_enter Tryz.func94, Tryz.ntmps94
  go_wp2_with fail
  refine D1.out.mono ?_
  rintro e w1 ⟨A1, c3, rfl, s1, b1⟩
  go_wp2_with fail
  refine (D2.out w1 b1).mono ?_
  rintro e w2 ⟨A2, c4, rfl, s2, b2⟩
  have s1' := s1.below b2
  have b12 : Below w.heap.size w w2 := b1.trans (b2.mono b1.size)
  clear s1 b1 b2
  have h00 : RMulInv 47 w2 (w2.alloc (.cells (madeCells #[.int .u64 0] (p + q)) 47)) w2.heap.size (p + q) q X Y 0 :=
    ⟨_, Row.made 47 w2 (p + q), (Below.refl _ w2).alloc (Nat.le_refl _) _, fun _ _ => by omega, by
      rw [vs_zero, Nat.zero_mul, Nat.zero_add]
      have : ∀ k, vs 65536 (fun _ => 0) k = 0 := fun k => by induction k with | zero => rfl | succ k ih => rw [vs_succ, ih]; simp
      exact this q, fun _ _ _ => rfl⟩
  generalize hN : p + q = N at *
  have HN := Lib.hid hN
  have hN1 : p + q ≤ N := by omega
  have hN2 : N ≤ p + q := by omega
  clear hN
  go_wp2_with fail
  go_loopw [8] (fun s8 wr => ∃ i : Nat, i ≤ p ∧ s8 = .int .i64 (i : Int) ∧ RMulInv 47 w2 wr w2.heap.size N q X Y i) (fun s8 _ => p - (intOf s8).toNat)
  case atStart => exact ⟨0, Nat.zero_le _, rfl, h00⟩
  case round =>
    clear h00 hmk
    obtain ⟨i, hi, rfl, F, hrow, hbw, hd, hv, hz⟩ := hrel
    have hv' := Lib.hid hv
    have hz' := Lib.hid hz
    have hd' := Lib.hid hd
    clear hv hz hd
    by_cases hlt : i < p
    · obtain ⟨wo, rfl⟩ : ∃ wo : World, wo = wr := ⟨_, rfl⟩
      have g1 := G1.out i
      have xs := s1'.below hbw
      have ys := s2.below hbw
      obtain ⟨adx, hA1, hbx, _, hcx⟩ := xs.at_ hlt
      clear hbx
      generalize hXi : X i = a at *
      have HXi := Lib.hid hXi
      clear hXi
      subst hA1
      go_wp2_with fail
      go_loopw [9, 10] (fun s9 s10 wr => ∃ k cy : Nat, k ≤ q ∧ s10 = .int .i64 (k : Int) ∧ s9 = .int .u64 (cy : Int) ∧ LineInv 47 wo wr w2.heap.size N i a F Y k cy) (fun _ s10 _ => q - (intOf s10).toNat)
      case atStart => exact ⟨0, 0, Nat.zero_le _, rfl, rfl, F, by omega, hrow, Only.refl _ _, hd'.out, fun _ _ => rfl, by simp [vs_zero]⟩
      case round =>
        obtain ⟨k, cy, hk, rfl, rfl, F', hcy, hrow', hon, hdd, hag, hvv⟩ := hrel
        by_cases hkq : k < q
        · have hne : adx.block ≠ w2.heap.size := s1'.far (Nat.le_refl _) (by omega) adx rfl
          have hc1 : wr.cell? (adx.add i) = some (.int .u64 (a : Int)) := (World.cell?_of_block (hon.block _ (World.block_lt_of_cell? _ _ hcx) (by rw [block_of_add]; simpa using hne))).trans hcx
          obtain ⟨bd, rfl, hb2, _, hc2⟩ := (ys.only hon (s2.far (Nat.le_refl _))).at_ hkq
          have g2 := G2.out k
          have hrc := hrow'.cell (i := i + k) (by omega)
          have hrf := hrow'.frozen (i + k)
          have hs' := hdd (i + k) (by omega)
          have hst := Lib.hid (LineInv.step hcy hrow' hon hdd hag hvv rfl rfl g1 g2 hs')
          clear hag hvv hdd hcx hne
          generalize F' (i + k) = s at *
          generalize Y k = b at *
          have hpr : a * b ≤ 4294836225 := by have : a * b ≤ 65535 * 65535 := Nat.mul_le_mul (by omega) (by omega); omega
          have q5 : IntKind.u64.wrap ((a : Int) * (b : Int)) = ((a * b : Nat) : Int) := by rw [← Int.natCast_mul]; exact u64_nat _ (by omega)
          generalize a * b = pr at *
          have q6 : IntKind.u64.wrap ((s : Int) + (pr : Int)) = (s : Int) + (pr : Int) := IntWalk.u64_in _ (by omega)
          have q7 : IntKind.u64.wrap ((s : Int) + (pr : Int) + (cy : Int)) = (s : Int) + (pr : Int) + (cy : Int) := IntWalk.u64_in _ (by omega)
          have q1 : IntKind.i64.wrap ((i : Int) + (k : Int)) = (i : Int) + (k : Int) := IntWalk.i64_in _ (by omega)
          have q2 : 0 ≤ (i : Int) + (k : Int) := by omega
          have q3 : ((i : Int) + (k : Int)).toNat = i + k := by omega
          have q4 : (i : Int) + (k : Int) < (N : Int) := by omega
          go_wp2_with fail
          go_quiet (fail)
          clear q1 q2 q3 q4 q5 q6 q7
          have hrc' : (wr.drewN nq).cell? ⟨w2.heap.size, i + k, none⟩ = some (.int .u64 (s : Int)) := hrc
          have hrf' : (wr.drewN nq).frozen? ⟨w2.heap.size, i + k, none⟩ = false := hrf
          go_wp2_with fail
          go_roundw
          case rel => exact ⟨k + 1, (s + pr + cy) / 65536, by omega, by go_num, by go_num, hst.out.drewN nq⟩
          case measure => simp [intOf]; omega
        · obtain rfl : k = q := by omega
          have hrc := hrow'.cell (i := i + k) (by omega)
          have hrf := hrow'.frozen (i + k)
          have hfin := Lib.hid (rmul_round HXi.out hbw hrow.lt hv'.out hz'.out ⟨F', hcy, hrow', hon, hdd, hag, hvv⟩)
          clear hag hvv hdd
          go_wp2_with fail
          go_roundw
          case rel => exact ⟨i + 1, by omega, by go_num, hfin.out⟩
          case measure => simp [intOf]; omega
    · obtain rfl : i = p := by omega
      go_wp2_with fail
      refine (words_any _ N N F wr (hrow.sl0 N N (Nat.le_refl _) (Nat.le_refl _)) hd'.out (by omega)).mono ?_
      rintro e w5 ⟨v5, rfl, hnum, b5⟩
      rw [← HN.out, hv'.out] at hnum
      go_wp2_with fail
      go_ret
      exact ⟨v5, rfl, hnum, b12.trans ((hbw.trans (b5.mono hbw.size)).mono b12.size)⟩
end Go.Proofs.YtodjldhppbbhdaaGreatDoor

namespace Go.Proofs.YtodjldhppbbhdaaGreatDoor
open Go.RowKit

/-- k digits of y by d are done; cy is carried. -/
def TimesInv (F y : Nat → Nat) (d k cy : Nat) : Prop := (∀ j, j < k → F j < 65536) ∧ vs 65536 F k + cy * 65536 ^ k = vs 65536 y k * d
theorem carry_small {D V cy k Y d : Nat} (hD : 0 < D) (h : V + cy * D ^ k = Y * d) (hY : Y < D ^ k) (hd : d ≤ D) : cy < D := by
  have hp : 0 < D ^ k := Nat.pow_pos hD
  have h1 : Y * d ≤ Y * D := Nat.mul_le_mul_left _ hd
  have h2 : Y * D < D ^ k * D := Nat.mul_lt_mul_of_pos_right hY hD
  have h3 : cy * D ^ k < D * D ^ k := by rw [Nat.mul_comm D]; omega
  exact Nat.lt_of_mul_lt_mul_right h3
theorem TimesInv.carry {F y : Nat → Nat} {d k cy : Nat} (h : TimesInv F y d k cy) (hy : ∀ j, j < k → y j < 65536) (hd : d ≤ 65536) : cy < 65536 :=
  carry_small (D := 65536) (by omega) h.2 (vs_lt hy) hd
theorem TimesInv.step {F y : Nat → Nat} {d k cy b p : Nat} (h : TimesInv F y d k cy) (hb : y k = b) (hp : p = b * d) : TimesInv (upd F k ((p + cy) % 65536)) y d (k + 1) ((p + cy) / 65536) := by
  obtain ⟨h2, h3⟩ := h
  refine ⟨fun j hj => ?_, ?_⟩
  · unfold upd; split
    · omega
    · exact h2 j (by omega)
  · rw [vs_succ, vs_succ, upd_same, vs_upd_ge _ _ _ _ _ (Nat.le_refl _), hb, Nat.add_mul]
    have h4 := step_add (V := vs 65536 F k) (S := vs 65536 y k * d) (Y := 0) (s := p) (y := 0) (c := cy) (b := 65536) (n := k) (r := (p + cy) % 65536) (d := (p + cy) / 65536) (by omega) (by omega)
    rw [Nat.zero_mul] at h4
    have e : b * 65536 ^ k * d = p * 65536 ^ k := by rw [hp]; ac_rfl
    rw [e]
    omega

set_option maxHeartbeats 400000 in
theorem times_any (A : Option Addr) (n c : Nat) (y : Nat → Nat) (d : Nat) (w : World) (hs : Sl w A n c y) (hy : ∀ j, j < n → y j < 65536) (hn : n ≤ 500000) (hd : d ≤ 65536) :
    Calls Tryz.prog 110 #[.slice A n c, .int .u64 (d : Int)] w (DigPost w (n + 1) (vs 65536 y n * d)) := by
  have G := Lib.hid hy
  clear hy
  go_enter Tryz.func110, Tryz.ntmps110
  go_wp2_with fail
  go_loopw [5, 6, 7] (fun v s6 s7 wr => ∃ k cy F, k ≤ n ∧ s7 = .int .i64 ((k : Nat) : Int) ∧ s6 = .int .u64 ((cy : Nat) : Int) ∧ Own 47 wr w.heap.size v k F ∧ TimesInv F y d k cy ∧ Below w.heap.size w wr) (fun _ _ i _ => n - (intOf i).toNat)
  case atStart => exact ⟨0, 0, y, Nat.zero_le _, rfl, rfl, Own.nil _ _ _ _, ⟨fun j h => absurd h (by omega), by rw [vs_zero, Nat.zero_mul, Nat.zero_mul]⟩, Below.refl _ _⟩
  case round =>
    obtain ⟨k, cy, F, hk, rfl, rfl, hown, hinv, hbw⟩ := hrel
    have hcy := hinv.carry (fun j hj => G.out j (by omega)) hd
    by_cases hlt : k < n
    · obtain ⟨ad, rfl, hb1, _, hc1⟩ := (hs.below hbw).at_ hlt
      have g1 := G.out k hlt
      have hpb : y k * d ≤ 4294901760 := by have : y k * d ≤ 65535 * 65536 := Nat.mul_le_mul (by omega) (by omega); omega
      have em : IntKind.u64.wrap ((y k : Int) * (d : Int)) = ((y k * d : Nat) : Int) := by rw [← Int.natCast_mul]; exact u64_nat _ (by omega)
      have hst := Lib.hid (hinv.step rfl rfl)
      generalize y k * d = p at *
      generalize y k = b at *
      go_wp2_with (at_builtin; refine wpList_append_int rfl (.tmp 23) (.tmp 26) 25 rfl w.heap.size 47 Tryz.underlying25 info64 _ k F rfl hown ((p + cy) % 65536) _ (by omega) rfl (by unfold B64; omega) (by omega) hbw.size ?_; intro v1 w3 hown1 hbel)
      go_roundw
      case rel => exact ⟨k + 1, (p + cy) / 65536, _, by omega, by go_num, by go_num, hown1, hst.out, hbel _ _ (Nat.le_refl _) hbw⟩
      case measure => simp [intOf]; omega
    · obtain rfl : k = n := by omega
      have hfin : Hid (vs 65536 (upd F k cy) (k + 1) = vs 65536 y k * d) := Lib.hid (by rw [vs_succ, upd_same, vs_upd_ge _ _ _ _ _ (Nat.le_refl _), hinv.2])
      have hdig : Hid (∀ j, j < k + 1 → upd F k cy j < 65536) := Lib.hid (fun j hj => by
        unfold upd; split
        · omega
        · exact hinv.1 j (by omega))
      go_wp2_with (at_builtin; refine wpList_append_int rfl (.tmp 30) (.tmp 32) 25 rfl w.heap.size 47 Tryz.underlying25 info64 _ k F rfl hown cy _ rfl rfl (by unfold B64; omega) (by omega) hbw.size ?_; intro v1 w3 hown1 hbel)
      have hb3 := hbel _ _ (Nat.le_refl _) hbw
      obtain ⟨A3, c5, rfl, s3, _⟩ := hown1.sl
      refine (cut_any A3 (k + 1) c5 _ w3 s3 (by omega)).mono ?_
      rintro e w4 ⟨rfl, rfl⟩
      go_wp2_with fail
      go_ret
      have l := tl_le (upd F k cy) (k + 1)
      exact ⟨A3, _, c5, _, rfl, s3.take l, l, fun j hj => hdig.out j (by omega), tl_cn _ _, by rw [vs_tl, hfin.out], hb3⟩

/-- The digits that guess looks at: zeros where there are none. -/
def at0 (f : Nat → Nat) (n j : Nat) : Nat := if j < n then f j else 0
def RGuessPost (w : World) (L Y : Nat) (e : Ending) (w' : World) : Prop := ∃ g : Nat, e = .returned (.int .u64 (g : Int)) ∧ g ≤ 65535 ∧ g * Y ≤ L ∧ w = w'

theorem rguess_one {g o y0 l1 l0 L : Nat} (hg : g ≤ o / (y0 * 65536 + 1)) (ho : o = (l1 * 65536 + l0) * 65536) (hL : l1 * 65536 + l0 ≤ L) : g * y0 ≤ L := by
  have h1 : g * (y0 * 65536 + 1) ≤ o := Nat.le_trans (Nat.mul_le_mul_right _ hg) (Nat.div_mul_le_self _ _)
  rw [Nat.mul_add, ← Nat.mul_assoc] at h1
  omega
theorem rguess_two {g o top P Y L : Nat} (hg : g ≤ o / (top + 1)) (hY : Y ≤ (top + 1) * P) (hL : o * P ≤ L) : g * Y ≤ L := by
  have h1 : g * (top + 1) ≤ o := Nat.le_trans (Nat.mul_le_mul_right _ hg) (Nat.div_mul_le_self _ _)
  have h2 : g * Y ≤ g * ((top + 1) * P) := Nat.mul_le_mul_left _ hY
  have h3 : g * (top + 1) * P ≤ o * P := Nat.mul_le_mul_right _ h1
  rw [Nat.mul_assoc] at h3
  omega
end Go.Proofs.YtodjldhppbbhdaaGreatDoor

namespace Go.Proofs.YtodjldhppbbhdaaGreatDoor
open Go.RowKit

theorem vs_two' (f : Nat → Nat) : vs 65536 f 2 = f 1 * 65536 + f 0 := by
  simp only [vs, Nat.pow_zero, Nat.mul_one, Nat.zero_add, Nat.pow_one]
  omega

/-- What t digits from n downwards come to. -/
def ovr (f : Nat → Nat) (p n : Nat) : Nat → Nat
  | 0 => 0
  | t + 1 => ovr f p n t * 65536 + (if t ≤ n then at0 f p (n - t) else 0)
theorem at0_lt {f : Nat → Nat} {p : Nat} (h : ∀ j, j < p → f j < 65536) (j : Nat) : at0 f p j < 65536 := by
  unfold at0; split
  · exact h j (by assumption)
  · omega
theorem ovr_lt {f : Nat → Nat} {p n : Nat} (h : ∀ j, j < p → f j < 65536) : ovr f p n 0 = 0 ∧ ovr f p n 1 ≤ 65535 ∧ ovr f p n 2 ≤ 4294967295 ∧ ovr f p n 3 ≤ 281474976710655 := by
  have d : ∀ t, (if t ≤ n then at0 f p (n - t) else 0) < 65536 := fun t => by
    split
    · exact at0_lt h _
    · omega
  have d0 := d 0
  have d1 := d 1
  have d2 := d 2
  have e1 : ovr f p n 1 = ovr f p n 0 * 65536 + (if 0 ≤ n then at0 f p (n - 0) else 0) := rfl
  have e2 : ovr f p n 2 = ovr f p n 1 * 65536 + (if 1 ≤ n then at0 f p (n - 1) else 0) := rfl
  have e3 : ovr f p n 3 = ovr f p n 2 * 65536 + (if 2 ≤ n then at0 f p (n - 2) else 0) := rfl
  have e0 : ovr f p n 0 = 0 := rfl
  refine ⟨e0, by omega, by omega, by omega⟩

set_option maxHeartbeats 1000000 in
theorem rguess_walk (A B : Option Addr) (p n c d : Nat) (f y : Nat → Nat) (top : Nat) (w : World) (s1 : Sl w A p c f) (s2 : Sl w B n d y) (hf : ∀ j, j < p → f j < 65536) (hy : ∀ j, j < n → y j < 65536) (hn : 1 ≤ n) (hn' : n ≤ 900000) (hp' : p ≤ 900000)
    (htop : (n = 1 ∧ top = y 0 * 65536) ∨ (2 ≤ n ∧ top = y (n - 1) * 65536 + y (n - 2))) :
    Calls Tryz.prog 109 #[.slice A p c, .slice B n d] w fun e w' => e = .returned (.int .u64 ((min (ovr f p n 3 / (top + 1)) 65535 : Nat) : Int)) ∧ w = w' := by
  obtain ⟨o0, o1, o2, o3⟩ := ovr_lt (n := n) hf
  have HS : Hid (∀ t, ovr f p n (t + 1) = ovr f p n t * 65536 + (if t ≤ n then at0 f p (n - t) else 0)) := Lib.hid fun _ => rfl
  have G := Lib.hid hf
  clear hf
  have ho : Hid (∀ t, t ≤ 3 → ovr f p n t ≤ 281474976710655) := Lib.hid fun t ht => by
    have : t = 0 ∨ t = 1 ∨ t = 2 ∨ t = 3 := by omega
    rcases this with rfl | rfl | rfl | rfl <;> omega
  have ho2 : Hid (∀ t, t ≤ 2 → ovr f p n t ≤ 4294967295) := Lib.hid fun t ht => by
    have : t = 0 ∨ t = 1 ∨ t = 2 := by omega
    rcases this with rfl | rfl | rfl <;> omega
  have h00 : Hid (ovr f p n 0 = 0) := Lib.hid rfl
  clear o0 o1 o2
  have ht1 : top ≤ 4294967295 := by
    rcases htop with ⟨_, h⟩ | ⟨h1, h⟩
    · have := hy 0 (by omega); omega
    · have := hy (n - 1) (by omega); have := hy (n - 2) (by omega); omega
  have hle : ovr f p n 3 / (top + 1) ≤ ovr f p n 3 := Nat.div_le_self _ _
  have eq1 : IntKind.u64.wrap ((ovr f p n 3 : Int) / ((top : Int) + 1)) = ((ovr f p n 3 / (top + 1) : Nat) : Int) := by
    rw [show ((ovr f p n 3 : Int) / ((top : Int) + 1)) = ((ovr f p n 3 / (top + 1) : Nat) : Int) from rfl]; exact u64_nat _ (by omega)
  generalize ovr f p n 3 / (top + 1) = Q at *
  obtain ⟨bd, rfl, hb1, y1B, c1⟩ := s2.at_ (k := n - 1) (by omega)
  have y1 := hy (n - 1) (by omega)
  rcases htop with ⟨rfl, htop⟩ | ⟨h2, htop⟩
  · have HT := Lib.hid htop
    have et : ((y 0 : Int)) * 65536 = (top : Int) := by omega
    rw [show bd.add (1 - 1) = bd from by simp [Addr.add]] at c1
    clear htop
    go_enter Tryz.func109, Tryz.ntmps109
    go_wp2_with fail
    go_loop [7, 8] (fun s7 s8 => ∃ (t o : Nat) (i : Int), t ≤ 3 ∧ i ≤ (1 : Int) - (t : Int) ∧ (1 : Int) - (t : Int) ≤ i ∧ s8 = .int .i64 i ∧ s7 = .int .u64 (o : Int) ∧ Hid (o = ovr f p 1 t)) (fun _ s8 => (intOf s8 - ((1 : Int) - 3)).toNat)
    case atStart => exact ⟨0, 0, (1 : Int), by omega, by omega, by omega, rfl, rfl, h00⟩
    case round =>
      obtain ⟨t, o, i, ht, hi1, hi2, rfl, rfl, ho'⟩ := hrel
      by_cases ht3 : t < 3
      · have hob : o ≤ 4294967295 := by rw [ho'.out]; exact ho2.out t (by omega)
        have hnx := Lib.hid (HS.out t)
        by_cases hi0 : 0 ≤ i
        · obtain ⟨j, rfl⟩ := Int.eq_ofNat_of_zero_le hi0
          have hjt : j = 1 - t := by omega
          have htn : t ≤ 1 := by omega
          by_cases hjp : j < p
          · obtain ⟨ad, rfl, _, _, hcell⟩ := s1.at_ hjp
            have hfj := G.out j hjp
            have hval : Hid (ovr f p 1 (t + 1) = o * 65536 + f j) := Lib.hid (by rw [hnx.out, if_pos htn, ← hjt, ← ho'.out]; unfold at0; rw [if_pos hjp])
            generalize f j = z at *
            clear hjt
            go_wp2_with fail
            go_round
            case rel => exact ⟨t + 1, o * 65536 + z, (j : Int) - 1, by omega, by omega, by omega, rfl, by go_num, Lib.hid hval.out.symm⟩
            case measure => simp [intOf]; omega
          · have hval : Hid (ovr f p 1 (t + 1) = o * 65536) := Lib.hid (by rw [hnx.out, if_pos htn, ← hjt, ← ho'.out]; unfold at0; rw [if_neg hjp, Nat.add_zero])
            clear hjt
            go_wp2_with fail
            go_round
            case rel => exact ⟨t + 1, o * 65536, (j : Int) - 1, by omega, by omega, by omega, rfl, by go_num, Lib.hid hval.out.symm⟩
            case measure => simp [intOf]; omega
        · have hval : Hid (ovr f p 1 (t + 1) = o * 65536) := Lib.hid (by rw [hnx.out, if_neg (by omega), ← ho'.out, Nat.add_zero])
          have hgB : decide ((0 : Int) ≤ i) = false := by simp; omega
          go_wp2_with fail
          go_round
          case rel => exact ⟨t + 1, o * 65536, i - 1, by omega, by omega, by omega, rfl, by go_num, Lib.hid hval.out.symm⟩
          case measure => simp [intOf]; omega
      · obtain rfl : t = 3 := by omega
        have hoe := ho'.out
        rw [← hoe] at eq1
        have ho3 : o ≤ 281474976710655 := by rw [hoe]; exact ho.out 3 (by omega)
        clear hoe ho'
        go_wp2_with fail
        go_ret
        refine ⟨?_, rfl⟩
        first | (simp; done) | (simp; omega)
  · obtain ⟨k, rfl⟩ : ∃ k, n = k + 2 := ⟨n - 2, by omega⟩
    obtain ⟨_, e0, _, _, c0⟩ := s2.at_ (k := k) (by omega)
    injection e0 with e0
    subst e0
    have y0 := hy k (by omega)
    simp only [show k + 2 - 1 = k + 1 by omega, show k + 2 - 2 = k by omega] at c1 y1 htop
    rw [show bd.add (k + 1) = ⟨bd.block, bd.off + (k + 1), none⟩ from by simp [Addr.add]] at c1
    have et : ((y (k + 1) : Int)) * 65536 + (y k : Int) = (top : Int) := by omega
    clear htop hy
    generalize y (k + 1) = z1 at *
    generalize y k = z0 at *
    go_enter Tryz.func109, Tryz.ntmps109
    go_wp2_with fail
    go_loop [7, 8] (fun s7 s8 => ∃ (t o : Nat) (i : Int), t ≤ 3 ∧ i ≤ ((k : Int) + 2) - (t : Int) ∧ ((k : Int) + 2) - (t : Int) ≤ i ∧ s8 = .int .i64 i ∧ s7 = .int .u64 (o : Int) ∧ Hid (o = ovr f p (k + 2) t)) (fun _ s8 => (intOf s8 - (((k : Int) + 2) - 3)).toNat)
    case atStart => exact ⟨0, 0, ((k : Int) + 2), by omega, by omega, by omega, rfl, rfl, h00⟩
    case round =>
      obtain ⟨t, o, i, ht, hi1, hi2, rfl, rfl, ho'⟩ := hrel
      by_cases ht3 : t < 3
      · have hob : o ≤ 4294967295 := by rw [ho'.out]; exact ho2.out t (by omega)
        have hnx := Lib.hid (HS.out t)
        by_cases hi0 : 0 ≤ i
        · obtain ⟨j, rfl⟩ := Int.eq_ofNat_of_zero_le hi0
          have hjt : j = (k + 2) - t := by omega
          have htn : t ≤ (k + 2) := by omega
          by_cases hjp : j < p
          · obtain ⟨ad, rfl, _, _, hcell⟩ := s1.at_ hjp
            have hfj := G.out j hjp
            have hval : Hid (ovr f p (k + 2) (t + 1) = o * 65536 + f j) := Lib.hid (by rw [hnx.out, if_pos htn, ← hjt, ← ho'.out]; unfold at0; rw [if_pos hjp])
            generalize f j = z at *
            clear hjt
            go_wp2_with fail
            go_round
            case rel => exact ⟨t + 1, o * 65536 + z, (j : Int) - 1, by omega, by omega, by omega, rfl, by go_num, Lib.hid hval.out.symm⟩
            case measure => simp [intOf]; omega
          · have hval : Hid (ovr f p (k + 2) (t + 1) = o * 65536) := Lib.hid (by rw [hnx.out, if_pos htn, ← hjt, ← ho'.out]; unfold at0; rw [if_neg hjp, Nat.add_zero])
            clear hjt
            go_wp2_with fail
            go_round
            case rel => exact ⟨t + 1, o * 65536, (j : Int) - 1, by omega, by omega, by omega, rfl, by go_num, Lib.hid hval.out.symm⟩
            case measure => simp [intOf]; omega
        · exfalso; omega
      · obtain rfl : t = 3 := by omega
        have hoe := ho'.out
        rw [← hoe] at eq1
        have ho3 : o ≤ 281474976710655 := by rw [hoe]; exact ho.out 3 (by omega)
        clear hoe ho'
        go_wp2_with fail
        go_ret
        refine ⟨?_, rfl⟩
        first | (simp; done) | (simp; omega)

theorem over_le {f : Nat → Nat} {p k L : Nat} (hL : vs 65536 f p = L) : ((at0 f p (k + 2) * 65536 + at0 f p (k + 1)) * 65536 + at0 f p k) * 65536 ^ k ≤ L := by
  have h1 : vs 65536 (at0 f p) (p + (k + 3)) = vs 65536 f p := vs_pad 65536 f p _ (by omega)
  rw [← hL, ← h1, show p + (k + 3) = k + (3 + p) by omega, vs_add, vs_add]
  have e : vs 65536 (fun j => at0 f p (k + j)) 3 = (at0 f p (k + 2) * 65536 + at0 f p (k + 1)) * 65536 + at0 f p k := by
    simp only [vs, Nat.pow_zero, Nat.mul_one, Nat.zero_add, Nat.pow_one, Nat.add_zero]
    omega
  rw [e, Nat.mul_comm]
  exact Nat.le_trans (Nat.mul_le_mul_left _ (Nat.le_add_right _ _)) (Nat.le_add_left _ _)
theorem ovr_three {f : Nat → Nat} {p k : Nat} : ovr f p (k + 2) 3 = (at0 f p (k + 2) * 65536 + at0 f p (k + 1)) * 65536 + at0 f p k := by
  have e1 : ovr f p (k + 2) 1 = ovr f p (k + 2) 0 * 65536 + (if 0 ≤ k + 2 then at0 f p (k + 2 - 0) else 0) := rfl
  have e2 : ovr f p (k + 2) 2 = ovr f p (k + 2) 1 * 65536 + (if 1 ≤ k + 2 then at0 f p (k + 2 - 1) else 0) := rfl
  have e3 : ovr f p (k + 2) 3 = ovr f p (k + 2) 2 * 65536 + (if 2 ≤ k + 2 then at0 f p (k + 2 - 2) else 0) := rfl
  have e0 : ovr f p (k + 2) 0 = 0 := rfl
  rw [e3, e2, e1, e0, if_pos (by omega), if_pos (by omega), if_pos (by omega), show k + 2 - 0 = k + 2 by omega, show k + 2 - 1 = k + 1 by omega, show k + 2 - 2 = k by omega]
  omega
theorem ovr_one {f : Nat → Nat} {p : Nat} : ovr f p 1 3 = (at0 f p 1 * 65536 + at0 f p 0) * 65536 := by
  have e1 : ovr f p 1 1 = ovr f p 1 0 * 65536 + (if 0 ≤ 1 then at0 f p (1 - 0) else 0) := rfl
  have e2 : ovr f p 1 2 = ovr f p 1 1 * 65536 + (if 1 ≤ 1 then at0 f p (1 - 1) else 0) := rfl
  have e3 : ovr f p 1 3 = ovr f p 1 2 * 65536 + (if 2 ≤ 1 then at0 f p (1 - 2) else 0) := rfl
  have e0 : ovr f p 1 0 = 0 := rfl
  rw [e3, e2, e1, e0, if_pos (by omega), if_pos (by omega), if_neg (by omega), show 1 - 0 = 1 by omega, show 1 - 1 = 0 by omega]
  omega

theorem rguess_any (A B : Option Addr) (p n c d : Nat) (f y : Nat → Nat) (w : World) (s1 : Sl w A p c f) (s2 : Sl w B n d y) (hf : ∀ j, j < p → f j < 65536) (hy : ∀ j, j < n → y j < 65536) (hn : 1 ≤ n) (hn' : n ≤ 900000) (hp' : p ≤ 900000) :
    Calls Tryz.prog 109 #[.slice A p c, .slice B n d] w (RGuessPost w (vs 65536 f p) (vs 65536 y n)) := by
  rcases Nat.lt_or_ge n 2 with h | h
  · obtain rfl : n = 1 := by omega
    refine (rguess_walk A B p 1 c d f y (y 0 * 65536) w s1 s2 hf hy hn hn' hp' (.inl ⟨rfl, rfl⟩)).mono fun e w' ⟨he, hw⟩ => ⟨_, he, Nat.min_le_right _ _, ?_, hw⟩
    have hv : vs 65536 y 1 = y 0 := by rw [vs_succ, vs_zero]; simp
    rw [hv]
    refine rguess_one (Nat.min_le_left _ _) ovr_one ?_
    have h2 : vs 65536 (at0 f p) (p + 2) = vs 65536 f p := vs_pad 65536 f p _ (by omega)
    have h3 := vs_add 65536 (at0 f p) 2 p
    rw [show 2 + p = p + 2 by omega, h2, vs_two'] at h3
    rw [h3]; exact Nat.le_add_right _ _
  · obtain ⟨k, rfl⟩ : ∃ k, n = k + 2 := ⟨n - 2, by omega⟩
    refine (rguess_walk A B p (k + 2) c d f y (y (k + 1) * 65536 + y k) w s1 s2 hf hy hn hn' hp' (.inr ⟨h, rfl⟩)).mono fun e w' ⟨he, hw⟩ => ⟨_, he, Nat.min_le_right _ _, ?_, hw⟩
    have h1 := over_le (k := k) (f := f) (p := p) rfl
    rw [← ovr_three] at h1
    refine rguess_two (P := 65536 ^ k) (Nat.min_le_left _ _) ?_ h1
    have h2 := vs_lt (fun j hj => hy j (by omega) : ∀ j, j < k → y j < 65536)
    have e : vs 65536 y (k + 2) = vs 65536 y k + 65536 ^ k * (y (k + 1) * 65536 + y k) := by rw [vs_add, vs_two']; simp only [Nat.add_zero]
    rw [e, Nat.add_mul, Nat.one_mul, Nat.mul_comm (65536 ^ k)]
    omega
end Go.Proofs.YtodjldhppbbhdaaGreatDoor

namespace Go.Proofs.YtodjldhppbbhdaaGreatDoor
open Go.RowKit

/-- A literal of one word. -/
theorem Own.one (t : TypeId) (w : World) (a : Nat) (ha : a < B64) : Own t (w.alloc (.cells #[.int .u64 ((a : Nat) : Int)] t)) w.heap.size (.slice (some ⟨w.heap.size, 0, none⟩) 1 1) 1 (fun _ => a) :=
  ⟨⟨by rw [cellsOf_len], .inr ⟨w.heap.size, 1, _, rfl, Nat.le_refl _, heap_alloc_new w _, Nat.le_refl _, by simp only [maxLen]; omega, by simp, by rfl⟩⟩, fun _ _ => ha⟩

theorem vs_cat_one (b a : Nat) (R : Nat → Nat) (l : Nat) : vs b (cat (fun _ => a) 1 R) (1 + l) = a + b * vs b R l := by
  rw [vs_add, vs_succ, vs_zero]
  have e : vs b (fun j => cat (fun _ => a) 1 R (1 + j)) l = vs b R l := vs_congr fun j _ => by
    unfold cat; rw [if_neg (by omega), show 1 + j - 1 = j by omega]
  rw [e]; simp [cat]

/-- The digits from k on are done: their quotient lies in F, and rem is left. -/
def RDivInv (X F : Nat → Nat) (p k D rem : Nat) : Prop :=
  rem < D ∧ (∀ j, F j < 65536) ∧ vs 65536 (fun j => X (k + j)) (p - k) = vs 65536 (fun j => F (k + j)) (p - k) * D + rem

theorem rdiv_eq {X1 Q D rem a L low r : Nat} (h : X1 = Q * D + rem) (hL : a + 65536 * rem = L) (hr : L = low * D + r) : a + 65536 * X1 = (low + 65536 * Q) * D + r := by
  rw [h, Nat.mul_add, Nat.add_mul]
  have : 65536 * (Q * D) = 65536 * Q * D := by rw [Nat.mul_assoc]
  omega
theorem RDivInv.step {X F : Nat → Nat} {p i D rem a L low : Nat} (h : RDivInv X F p (i + 1) D rem) (hi : i < p) (ha : X i = a) (hL : a + 65536 * rem = L) (hlow : low < 65536) (h1 : low * D ≤ L) (h2 : L < (low + 1) * D) :
    RDivInv X (upd F i low) p i D (L - low * D) := by
  obtain ⟨hr, hF, hv⟩ := h
  refine ⟨?_, fun j => ?_, ?_⟩
  · rw [Nat.add_mul, Nat.one_mul] at h2; omega
  · unfold upd; split
    · exact hlow
    · exact hF j
  · obtain ⟨m, hm⟩ : ∃ m, p - i = m + 1 := ⟨p - i - 1, by omega⟩
    have hm' : p - (i + 1) = m := by omega
    rw [hm, vs_cons, vs_cons]
    rw [hm'] at hv
    have e1 : vs 65536 (fun j => X (i + (j + 1))) m = vs 65536 (fun j => X (i + 1 + j)) m := vs_congr fun j _ => by rw [show i + (j + 1) = i + 1 + j by omega]
    have e2 : vs 65536 (fun j => upd F i low (i + (j + 1))) m = vs 65536 (fun j => F (i + 1 + j)) m := vs_congr fun j _ => by rw [upd_other _ _ _ _ (by omega), show i + (j + 1) = i + 1 + j by omega]
    rw [e1, e2]
    simp only [Nat.add_zero]
    rw [upd_same, ha]
    exact rdiv_eq hv hL (by omega)
theorem low_lt {low D L a rem : Nat} (h1 : low * D ≤ L) (hL : a + 65536 * rem = L) (ha : a < 65536) (hr : rem < D) : low < 65536 := by
  have h : low * D < 65536 * D := by omega
  exact Nat.lt_of_mul_lt_mul_right h
theorem RDivInv.fin {X F : Nat → Nat} {p D rem : Nat} (h : RDivInv X F p 0 D rem) : vs 65536 F p = vs 65536 X p / D ∧ rem = vs 65536 X p % D := by
  obtain ⟨hr, _, hv⟩ := h
  simp only [Nat.zero_add, Nat.sub_zero] at hv
  rw [hv]
  refine ⟨?_, ?_⟩
  · rw [Nat.mul_comm, Nat.mul_add_div (by omega), Nat.div_eq_of_lt hr, Nat.add_zero]
  · rw [Nat.mul_comm, Nat.mul_add_mod, Nat.mod_eq_of_lt hr]

set_option maxHeartbeats 1000000 in
theorem rdiv_yes (A B : Option Addr) (n m c d : Nat) (x y : Nat → Nat) (w : World) (ha : Sl w A n c x) (hb : Sl w B m d y) (hn : n ≤ 100000) (hm : m ≤ 100000) (h0 : 0 < vs B64 y m) :
    Calls Tryz.prog 79 #[.slice A n c, .slice B m d] w (QuoPost w (vs B64 x n / vs B64 y m) (vs B64 x n % vs B64 y m)) := by
  have hq0 : 0 < tl (dg y) (4 * m) := by
    rcases Nat.eq_zero_or_pos (tl (dg y) (4 * m)) with h | h
    · exfalso
      have := dg_val hb
      rw [h, vs_zero] at this
      omega
    · exact h
  rw [← dg_val ha, ← dg_val hb] at *
  have D1 := Lib.hid (digits_any A n c x w ha (by omega))
  have D2 : Hid (∀ w1, Below w.heap.size w w1 → Calls Tryz.prog 100 #[.slice B m d] w1 (digitsPost w1 y m)) := Lib.hid fun w1 b1 => digits_any B m d y w1 (hb.below b1) (by omega)
  have l1 := tl_le (dg x) (4 * n)
  have l2 := tl_le (dg y) (4 * m)
  unfold digitsPost at D1 D2
  have G1 : Hid (∀ j, dg x j < 65536) := Lib.hid (dg_lt x)
  have G2 : Hid (∀ j, dg y j < 65536) := Lib.hid (dg_lt y)
  generalize dg x = X at *
  generalize dg y = Y at *
  generalize tl X (4 * n) = p at *
  generalize tl Y (4 * m) = q at *
  have HYq := Lib.hid (vs_lt (b := 65536) (f := Y) (n := q) fun j _ => G2.out j)
  have hqb : ((q : Int) == 0) = false := by simp; omega
  have hmk : ∀ u : World, (Instr.makeSlice 25 (.int .i64 (p : Int)) (.int .i64 (p : Int))).run Tryz.prog u =
      .ok (.slice (some ⟨u.heap.size, 0, none⟩) p p) (u.alloc (.cells (madeCells #[.int .u64 0] p) 47)) := fun u => make_run p (by omega) u
  go_enter Tryz.func79, Tryz.ntmps79
  go_wp2_with fail
  refine D1.out.mono ?_
  rintro e w1 ⟨A1, c3, rfl, s1, b1⟩
  go_wp2_with fail
  refine (D2.out w1 b1).mono ?_
  rintro e w2 ⟨A2, c4, rfl, s2, b2⟩
  have s1' := s1.below b2
  have b12 : Below w.heap.size w w2 := b1.trans (b2.mono b1.size)
  clear s1 b1 b2 D1 D2
  have row0 := Row.made 47 w2 p
  have bel0 : Below w2.heap.size w2 (w2.alloc (.cells (madeCells #[.int .u64 0] p) 47)) := (Below.refl _ w2).alloc (Nat.le_refl _) _
  go_wp2_with fail
  go_loopw [9, 11] (fun s9 s11 wr => ∃ (k : Nat) (i : Int) (L : Option Addr) (l cl : Nat) (R F : Nat → Nat), k ≤ p ∧ i ≤ (k : Int) - 1 ∧ (k : Int) - 1 ≤ i ∧ s11 = .int .i64 i ∧ s9 = .slice L l cl ∧ Sl wr L l cl R ∧ Cn l R ∧ Hid (∀ j, j < l → R j < 65536) ∧
      Row 47 wr w2.heap.size p F ∧ Below w2.heap.size w2 wr ∧ Hid (RDivInv X F p k (vs 65536 Y q) (vs 65536 R l))) (fun _ s11 _ => (intOf s11 + 1).toNat)
  case atStart =>
    refine ⟨p, (p : Int) - 1, none, 0, 0, X, fun _ => 0, Nat.le_refl _, by omega, by omega, rfl, rfl, Sl.none_ _ _ _ _, .inl rfl, Lib.hid fun j hj => absurd hj (by omega), row0, bel0, Lib.hid ⟨?_, fun _ => (by omega : (0:Nat) < 65536), ?_⟩⟩
    · rw [vs_zero]; exact h0
    · rw [Nat.sub_self, vs_zero, vs_zero, vs_zero, Nat.zero_mul]
  case round =>
    clear row0 bel0 hmk
    obtain ⟨k, i, L, l, cl, R, F, hk, hi1, hi2, rfl, rfl, sL, cL, hR, hrow, hbw, hinv⟩ := hrel
    have hl : l ≤ q := cn_le (b := 65536) (by omega) cL (Nat.lt_trans hinv.out.1 HYq.out)
    by_cases hi0 : 0 ≤ i
    · obtain ⟨j, rfl⟩ := Int.eq_ofNat_of_zero_le hi0
      obtain rfl : k = j + 1 := by omega
      have hjp : j < p := by omega
      have xs := s1'.below hbw
      have ys := s2.below hbw
      obtain ⟨adx, rfl, _, _, hcx⟩ := xs.at_ hjp
      have ga := G1.out j
      obtain ⟨a, hXa⟩ : ∃ a, Hid (X j = a) := ⟨_, Lib.hid rfl⟩
      rw [hXa.out] at hcx ga
      have hown0 := Own.one 47 wr a (by unfold B64; omega)
      have sA := sL.alloc (.cells #[.int .u64 ((a : Nat) : Int)] 47)
      have bA := hbw.alloc hbw.size (.cells #[.int .u64 ((a : Nat) : Int)] 47)
      have rA := hrow.alloc (.cells #[.int .u64 ((a : Nat) : Int)] 47)
      have hlt := hrow.lt
      go_wp2_with (at_builtin; refine wpList_append_words rfl (.tmp 34) (.tmp 35) 25 rfl wr.heap.size 47 Tryz.underlying25 info64 _ 1 _ rfl hown0 L l cl R rfl sA (by omega) (by simp) ?_; intro v3 w3 hown3 hbel3; obtain ⟨A3, c5, rfl, s3, hA3⟩ := hown3.sl)
      have b3 := hbel3 _ _ hbw.size bA
      have r3 : Row 47 w3 w2.heap.size p F := hrow.below (hbel3 _ _ (Nat.le_refl _) ((Below.refl _ wr).alloc (Nat.le_refl _) _)) hlt
      have hfd : Hid (∀ j, j < 1 + l → cat (fun _ => a) 1 R j < 65536) := Lib.hid fun j hj => by
        unfold cat; split
        · exact ga
        · exact hR.out _ (by omega)
      have hfv : Hid (vs 65536 (cat (fun _ => a) 1 R) (tl (cat (fun _ => a) 1 R) (1 + l)) = a + 65536 * vs 65536 R l) := Lib.hid (by rw [vs_tl, vs_cat_one])
      have C3 := Lib.hid (cut_any A3 (1 + l) c5 _ w3 s3 (by omega))
      have hs3 := s3.take (tl_le (cat (fun _ => a) 1 R) (1 + l))
      have hcn3 := tl_cn (cat (fun _ => a) 1 R) (1 + l)
      have hl3 := tl_le (cat (fun _ => a) 1 R) (1 + l)
      clear hbel3 hown3 hown0 sA bA rA s3
      generalize cat (fun _ => a) 1 R = f at *
      generalize tl f (1 + l) = z at *
      refine C3.out.mono ?_
      rintro e w4 ⟨rfl, rfl⟩
      have ys3 := s2.below b3
      go_wp2_with fail
      refine (rguess_any A3 A2 z q c5 c4 f Y w3 hs3 ys3 (fun j hj => hfd.out j (by omega)) (fun j _ => G2.out j) (by omega) (by omega) (by omega)).mono ?_
      rintro e w5 ⟨g0, rfl, hg0, hg1, rfl⟩
      have HG1 := Lib.hid hg1
      clear hg1
      go_wp2_with fail
      go_loopw [12] (fun s12 wr => ∃ low : Nat, s12 = .int .u64 (low : Int) ∧ low ≤ 65535 ∧ Hid (low * vs 65536 Y q ≤ vs 65536 f z) ∧ Below w3.heap.size w3 wr) (fun s12 _ => 65536 - (intOf s12).toNat)
      case atStart => exact ⟨g0, rfl, hg0, HG1, Below.refl _ _⟩
      case round =>
        obtain ⟨low, rfl, hlow, hlo, bw⟩ := hrel
        have yw : Sl wr A2 q c4 Y := ys3.below bw
        have fw : Sl wr A3 z c5 f := hs3.below bw
        have hlow2 := low_lt hlo.out hfv.out.symm ga hinv.out.1
        have T := times_any A2 q c4 Y (low + 1) wr yw (fun j _ => G2.out j) (by omega) (by omega)
        rw [show ((low + 1 : Nat) : Int) = (low : Int) + 1 from by omega] at T
        have HT := Lib.hid T
        clear T
        go_wp2_with fail
        refine HT.out.mono ?_
        rintro e w6 ⟨A6, k6, c6, F6, rfl, s6, hk6, hF6, cn6, hv6, b6⟩
        have HF6 := Lib.hid hF6
        have C6 := compare_any A6 A3 k6 z c6 c5 F6 f w6 s6 (fw.below b6) cn6 hcn3 hF6 (fun j hj => hfd.out j (by omega)) (by omega) (by omega)
        rw [hv6] at C6
        have HC6 := Lib.hid C6
        clear C6 hv6 hF6
        go_wp2_with fail
        refine HC6.out.mono ?_
        rintro e w7 ⟨rfl, b7⟩
        have b37 : Below w3.heap.size w3 w7 := bw.trans ((b6.trans (b7.mono b6.size)).mono bw.size)
        by_cases hgo : vs 65536 Y q * (low + 1) ≤ vs 65536 f z
        · have hr : cmpN (vs 65536 Y q * (low + 1)) (vs 65536 f z) ≤ 0 := by unfold cmpN; split <;> (try split) <;> omega
          have hlo2 : Hid ((low + 1) * vs 65536 Y q ≤ vs 65536 f z) := Lib.hid (by rw [Nat.mul_comm]; exact hgo)
          have hlow3 := low_lt hlo2.out hfv.out.symm ga hinv.out.1
          generalize cmpN (vs 65536 Y q * (low + 1)) (vs 65536 f z) = r at *
          clear hgo
          have hB : decide (r ≤ 0) = true := by simp; omega
          go_wp2_with fail
          go_roundw
          case rel => exact ⟨low + 1, by go_num, by omega, hlo2, b37⟩
          case measure => simp [intOf]; omega
        · have hr : cmpN (vs 65536 Y q * (low + 1)) (vs 65536 f z) = 1 := cmpN_gt (by omega)
          have hst := Lib.hid (hinv.out.step hjp hXa.out hfv.out.symm hlow2 hlo.out (by rw [Nat.mul_comm]; omega))
          rw [hr]
          clear hgo hr
          have r7 : Row 47 w7 w2.heap.size p F := r3.below b37 r3.lt
          have hrc := r7.cell hjp
          have hrf := r7.frozen j
          have r8 := r7.set_ j low (by unfold B64; omega)
          have b27 : Below w2.heap.size w2 w7 := b3.trans (b37.mono b3.size)
          go_wp2_with fail
          have b28 : Below w2.heap.size w2 (w7.setCell ⟨w2.heap.size, j, none⟩ (.int .u64 (low : Int))) := b27.setCell (Nat.le_refl _) _
          have f8 : Sl (w7.setCell ⟨w2.heap.size, j, none⟩ (.int .u64 (low : Int))) A3 z c5 f := (hs3.below b37).only ((Only.refl _ _).set_ j _) (fun _ ad e => by have := hA3 ad e; omega)
          have y8 := s2.below b28
          generalize w7.setCell ⟨w2.heap.size, j, none⟩ (.int .u64 (low : Int)) = w8 at *
          refine (times_any A2 q c4 Y low w8 y8 (fun j _ => G2.out j) (by omega) (by omega)).mono ?_
          rintro e w9 ⟨A9, k9, c9, F9, rfl, s9, hk9, hF9, cn9, hv9, b9⟩
          have hle9 : vs 65536 F9 k9 ≤ vs 65536 f z := by rw [hv9, Nat.mul_comm]; exact hlo.out
          have hkz : k9 ≤ z := cn_le (b := 65536) (by omega) cn9 (Nat.lt_of_le_of_lt hle9 (vs_lt fun j hj => hfd.out j (by omega)))
          have M9 := minus_any A3 A9 z k9 c5 c9 f F9 w9 (f8.below b9) s9 (fun j hj => hfd.out j (by omega)) hF9 hkz (by omega) hle9
          rw [hv9, Nat.mul_comm] at M9
          have HM9 := Lib.hid M9
          clear M9 hv9 hle9
          have HF9 := Lib.hid hF9
          clear hF9
          go_wp2_with fail
          refine HM9.out.mono ?_
          rintro e w10 ⟨A10, k10, c10, F10, rfl, s10, hk10, hF10, cn10, hv10, b10⟩
          have HF10 := Lib.hid hF10
          have hst2 := Lib.hid hst.out
          rw [← hv10] at hst2
          clear hF10 hv10 hst
          have b8a : Below w8.heap.size w8 w10 := b9.trans (b10.mono b9.size)
          have r10 := r8.below b8a r8.lt
          have b210 := b28.trans (b8a.mono b28.size)
          go_wp2_with fail
          go_roundw
          case rel => exact ⟨j, (j : Int) - 1, A10, k10, c10, F10, _, by omega, by omega, by omega, by go_num, rfl, s10, cn10, HF10, r10, b210, hst2⟩
          case measure => first | (simp [intOf]; done) | (simp [intOf]; omega)
    · obtain rfl : k = 0 := by omega
      have hib : decide ((0 : Int) ≤ i) = false := by simp; omega
      have hfin := Lib.hid hinv.out.fin
      go_wp2_with fail
      refine (words_any _ p p F wr (hrow.sl0 p p (Nat.le_refl _) (Nat.le_refl _)) (fun j _ => hinv.out.2.1 j) (by omega)).mono ?_
      rintro e w5 ⟨v5, rfl, hnum5, b5⟩
      rw [hfin.out.1] at hnum5
      go_wp2_with fail
      refine (words_any L l cl R w5 (sL.below b5) hR.out (by omega)).mono ?_
      rintro e w6 ⟨v6, rfl, hnum6, b6⟩
      rw [hfin.out.2] at hnum6
      go_wp2_with fail
      go_ret3
      exact ⟨v5, v6, rfl, hnum5.below b6, hnum6, b12.trans ((hbw.trans ((b5.trans (b6.mono b5.size)).mono hbw.size)).mono b12.size)⟩
end Go.Proofs.YtodjldhppbbhdaaGreatDoor
