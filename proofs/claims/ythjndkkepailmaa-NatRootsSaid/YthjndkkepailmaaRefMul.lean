/-
  volvelleref01.Mul: the document's product.
-/
import Derived.Test.YthjndkkepailmaaRef3
import Derived.Test.YthjndkkepailmaaMul2
namespace Go.Proofs.Ythjndkkepailmaa
open Go.RowKit

/-- k digits of one line of a product are done from off on; cy is carried. -/
def LineInv (t : TypeId) (w wr : World) (g N off a : Nat) (F y : Nat → Nat) (k cy : Nat) : Prop :=
  ∃ F', cy < 65536 ∧ Row t wr g N F' ∧ Only w wr g ∧ (∀ j, j < N → F' j < 65536) ∧ (∀ j, j < off ∨ off + k ≤ j → F' j = F j) ∧
    vs 65536 (fun j => F' (off + j)) k + cy * 65536 ^ k = vs 65536 (fun j => F (off + j)) k + vs 65536 (fun j => a * y j) k

theorem LineInv.step {t : TypeId} {w wr : World} {g N off a : Nat} {F F' y : Nat → Nat} {k cy s b : Nat} (hcy : cy < 65536) (hrow : Row t wr g N F') (hon : Only w wr g) (hd : ∀ j, j < N → F' j < 65536)
    (hag : ∀ j, j < off ∨ off + k ≤ j → F' j = F j) (hv : vs 65536 (fun j => F' (off + j)) k + cy * 65536 ^ k = vs 65536 (fun j => F (off + j)) k + vs 65536 (fun j => a * y j) k)
    (hs : F' (off + k) = s) (hb : y k = b) (ha' : a < 65536) (hb' : b < 65536) (hs' : s < 65536) :
    LineInv t w (wr.setCell ⟨g, off + k, none⟩ (.int .u64 (((s + a * b + cy) % 65536 : Nat) : Int))) g N off a F y (k + 1) ((s + a * b + cy) / 65536) := by
  have hm : a * b ≤ 65535 * 65535 := Nat.mul_le_mul (by omega) (by omega)
  have hr : (s + a * b + cy) % 65536 < B64 := by unfold B64; omega
  refine ⟨upd F' (off + k) ((s + a * b + cy) % 65536), by omega, hrow.set_ _ _ hr, hon.set_ _ _, fun j hj => ?_, fun j hj => ?_, ?_⟩
  · unfold upd; split
    · omega
    · exact hd j hj
  · rw [upd_other _ _ _ _ (by omega)]; exact hag j (by omega)
  · rw [vs_succ, vs_succ, vs_succ, upd_same]
    have e : vs 65536 (fun j => upd F' (off + k) ((s + a * b + cy) % 65536) (off + j)) k = vs 65536 (fun j => F' (off + j)) k := vs_congr fun j hj => upd_other _ _ _ _ (by omega)
    rw [e, ← hag (off + k) (by omega), hs, hb]
    exact step_add hv (by omega)

theorem LineInv.drewN {t : TypeId} {w wr : World} {g N off a : Nat} {F y : Nat → Nat} {k cy : Nat} (h : LineInv t w wr g N off a F y k cy) (n : Nat) : LineInv t w (wr.drewN n) g N off a F y k cy := by
  obtain ⟨F', h1, h2, h3, h4⟩ := h
  exact ⟨F', h1, h2, ⟨h3.os, h3.tape, h3.output, h3.size, h3.block⟩, h4⟩

/-- What holds when i digits of x are done. -/
def RMulInv (t : TypeId) (w wr : World) (g N q : Nat) (x y : Nat → Nat) (i : Nat) : Prop :=
  ∃ F, Row t wr g N F ∧ Below g w wr ∧ (∀ j, j < N → F j < 65536) ∧ vs 65536 F (i + q) = vs 65536 x i * vs 65536 y q ∧ ∀ j, i + q ≤ j → j < N → F j = 0

theorem rmul_round {t : TypeId} {w wr w3 : World} {g N q i a cy : Nat} {F x y : Nat → Nat} (hxi : x i = a) (hb : Below g w wr) (hg : g < wr.heap.size)
    (hv : vs 65536 F (i + q) = vs 65536 x i * vs 65536 y q) (hz : ∀ j, i + q ≤ j → j < N → F j = 0) (h : LineInv t wr w3 g N i a F y q cy) :
    RMulInv t w (w3.setCell ⟨g, i + q, none⟩ (.int .u64 ((cy : Nat) : Int))) g N q x y (i + 1) := by
  obtain ⟨F', h1, h2, h3, hd, h4, h5⟩ := h
  have hcy : cy < B64 := by unfold B64; omega
  refine ⟨upd F' (i + q) cy, h2.set_ _ _ hcy, (Only.below hb h3 (by omega) (Nat.le_refl _)).setCell (Nat.le_refl _) _, fun j hj => ?_, ?_, fun j hj hjN => ?_⟩
  · unfold upd; split
    · exact h1
    · exact hd j hj
  · have e1 : i + 1 + q = i + q + 1 := by omega
    rw [e1, vs_succ, upd_same, vs_upd_ge _ _ _ _ _ (Nat.le_refl _), vs_add, vs_succ, hxi, Nat.add_mul, ← hv, vs_add 65536 F]
    have e2 : vs 65536 F' i = vs 65536 F i := vs_congr fun j hj => h4 j (by omega)
    rw [vs_mul] at h5
    have e3 : 65536 ^ i * (vs 65536 (fun j => F' (i + j)) q + cy * 65536 ^ q) = 65536 ^ i * (vs 65536 (fun j => F (i + j)) q + a * vs 65536 y q) := by rw [h5]
    rw [Nat.mul_add, Nat.mul_add] at e3
    have e4 : cy * 65536 ^ (i + q) = 65536 ^ i * (cy * 65536 ^ q) := by rw [Nat.pow_add]; ac_rfl
    have e5 : a * 65536 ^ i * vs 65536 y q = 65536 ^ i * (a * vs 65536 y q) := by ac_rfl
    omega
  · rw [upd_other _ _ _ _ (by omega), h4 j (by omega)]; exact hz j (by omega) hjN

set_option maxHeartbeats 1000000 in
theorem rmul_any (A B : Option Addr) (n m c d : Nat) (x y : Nat → Nat) (w : World) (ha : Sl w A n c x) (hb : Sl w B m d y) (hn : n ≤ 100000) (hm : m ≤ 100000) :
    Calls Try.prog 20 #[.slice A n c, .slice B m d] w (NumPost w (vs B64 x n * vs B64 y m)) := by
  rw [← dg_val ha, ← dg_val hb]
  have D1 := Lib.hid (digits_any A n c x w ha (by omega))
  have D2 : Hid (∀ w1, Below w.heap.size w w1 → Calls Try.prog 37 #[.slice B m d] w1 (digitsPost w1 y m)) := Lib.hid fun w1 b1 => digits_any B m d y w1 (hb.below b1) (by omega)
  have l1 := tl_le (dg x) (4 * n)
  have l2 := tl_le (dg y) (4 * m)
  unfold digitsPost at D1 D2
  have G1 : Hid (∀ j, dg x j < 65536) := Lib.hid (dg_lt x)
  have G2 : Hid (∀ j, dg y j < 65536) := Lib.hid (dg_lt y)
  generalize dg x = X at *
  generalize dg y = Y at *
  generalize tl X (4 * n) = p at *
  generalize tl Y (4 * m) = q at *
  have hmk : ∀ u : World, (Instr.makeSlice 22 (.int .i64 ((p : Int) + (q : Int))) (.int .i64 ((p : Int) + (q : Int)))).run Try.prog u =
      .ok (.slice (some ⟨u.heap.size, 0, none⟩) (p + q) (p + q)) (u.alloc (.cells (madeCells #[.int .u64 0] (p + q)) 25)) := fun u => by
    have h := make_run (p + q) (by omega) u
    rw [Int.natCast_add] at h
    exact h
  go_enter Try.func20, Try.ntmps20
  go_wp2_with fail
  refine D1.out.mono ?_
  rintro e w1 ⟨A1, c3, rfl, s1, b1⟩
  go_wp2_with fail
  refine (D2.out w1 b1).mono ?_
  rintro e w2 ⟨A2, c4, rfl, s2, b2⟩
  have s1' := s1.below b2
  have b12 : Below w.heap.size w w2 := b1.trans (b2.mono b1.size)
  clear s1 b1 b2
  have h00 : RMulInv 25 w2 (w2.alloc (.cells (madeCells #[.int .u64 0] (p + q)) 25)) w2.heap.size (p + q) q X Y 0 :=
    ⟨_, Row.made 25 w2 (p + q), (Below.refl _ w2).alloc (Nat.le_refl _) _, fun _ _ => by omega, by
      rw [vs_zero, Nat.zero_mul, Nat.zero_add]
      have : ∀ k, vs 65536 (fun _ => 0) k = 0 := fun k => by induction k with | zero => rfl | succ k ih => rw [vs_succ, ih]; simp
      exact this q, fun _ _ _ => rfl⟩
  generalize hN : p + q = N at *
  have HN := Lib.hid hN
  have hN1 : p + q ≤ N := by omega
  have hN2 : N ≤ p + q := by omega
  clear hN
  go_wp2_with fail
  go_loopw [8] (fun s8 wr => ∃ i : Nat, i ≤ p ∧ s8 = .int .i64 (i : Int) ∧ RMulInv 25 w2 wr w2.heap.size N q X Y i) (fun s8 _ => p - (intOf s8).toNat)
  case atStart => exact ⟨0, Nat.zero_le _, rfl, h00⟩
  case round =>
    clear h00 hmk
    obtain ⟨i, hi, rfl, F, hrow, hbw, hd, hv, hz⟩ := hrel
    have hv' := Lib.hid hv
    have hz' := Lib.hid hz
    have hd' := Lib.hid hd
    clear hv hz hd
    by_cases hlt : i < p
    · obtain ⟨wo, rfl⟩ : ∃ wo : World, wo = wr := ⟨_, rfl⟩
      have g1 := G1.out i
      have xs := s1'.below hbw
      have ys := s2.below hbw
      obtain ⟨adx, hA1, hbx, _, hcx⟩ := xs.at_ hlt
      clear hbx
      generalize hXi : X i = a at *
      have HXi := Lib.hid hXi
      clear hXi
      subst hA1
      go_wp2_with fail
      go_loopw [9, 10] (fun s9 s10 wr => ∃ k cy : Nat, k ≤ q ∧ s10 = .int .i64 (k : Int) ∧ s9 = .int .u64 (cy : Int) ∧ LineInv 25 wo wr w2.heap.size N i a F Y k cy) (fun _ s10 _ => q - (intOf s10).toNat)
      case atStart => exact ⟨0, 0, Nat.zero_le _, rfl, rfl, F, by omega, hrow, Only.refl _ _, hd'.out, fun _ _ => rfl, by simp [vs_zero]⟩
      case round =>
        obtain ⟨k, cy, hk, rfl, rfl, F', hcy, hrow', hon, hdd, hag, hvv⟩ := hrel
        by_cases hkq : k < q
        · have hne : adx.block ≠ w2.heap.size := s1'.far (Nat.le_refl _) (by omega) adx rfl
          have hc1 : wr.cell? (adx.add i) = some (.int .u64 (a : Int)) := (World.cell?_of_block (hon.block _ (World.block_lt_of_cell? _ _ hcx) (by rw [block_of_add]; simpa using hne))).trans hcx
          obtain ⟨bd, rfl, hb2, _, hc2⟩ := (ys.only hon (s2.far (Nat.le_refl _))).at_ hkq
          have g2 := G2.out k
          have hrc := hrow'.cell (i := i + k) (by omega)
          have hrf := hrow'.frozen (i + k)
          have hs' := hdd (i + k) (by omega)
          have hst := Lib.hid (LineInv.step hcy hrow' hon hdd hag hvv rfl rfl g1 g2 hs')
          clear hag hvv hdd hcx hne
          generalize F' (i + k) = s at *
          generalize Y k = b at *
          have hpr : a * b ≤ 4294836225 := by have : a * b ≤ 65535 * 65535 := Nat.mul_le_mul (by omega) (by omega); omega
          have q5 : IntKind.u64.wrap ((a : Int) * (b : Int)) = ((a * b : Nat) : Int) := by rw [← Int.natCast_mul]; exact u64_nat _ (by omega)
          generalize a * b = pr at *
          have q6 : IntKind.u64.wrap ((s : Int) + (pr : Int)) = (s : Int) + (pr : Int) := IntWalk.u64_in _ (by omega)
          have q7 : IntKind.u64.wrap ((s : Int) + (pr : Int) + (cy : Int)) = (s : Int) + (pr : Int) + (cy : Int) := IntWalk.u64_in _ (by omega)
          have q1 : IntKind.i64.wrap ((i : Int) + (k : Int)) = (i : Int) + (k : Int) := IntWalk.i64_in _ (by omega)
          have q2 : 0 ≤ (i : Int) + (k : Int) := by omega
          have q3 : ((i : Int) + (k : Int)).toNat = i + k := by omega
          have q4 : (i : Int) + (k : Int) < (N : Int) := by omega
          go_wp2_with fail
          go_quiet (fail)
          clear q1 q2 q3 q4 q5 q6 q7
          have hrc' : (wr.drewN nq).cell? ⟨w2.heap.size, i + k, none⟩ = some (.int .u64 (s : Int)) := hrc
          have hrf' : (wr.drewN nq).frozen? ⟨w2.heap.size, i + k, none⟩ = false := hrf
          go_wp2_with fail
          go_roundw
          case rel => exact ⟨k + 1, (s + pr + cy) / 65536, by omega, by go_num, by go_num, hst.out.drewN nq⟩
          case measure => simp [intOf]; omega
        · obtain rfl : k = q := by omega
          have hrc := hrow'.cell (i := i + k) (by omega)
          have hrf := hrow'.frozen (i + k)
          have hfin := Lib.hid (rmul_round HXi.out hbw hrow.lt hv'.out hz'.out ⟨F', hcy, hrow', hon, hdd, hag, hvv⟩)
          clear hag hvv hdd
          go_wp2_with fail
          go_roundw
          case rel => exact ⟨i + 1, by omega, by go_num, hfin.out⟩
          case measure => simp [intOf]; omega
    · obtain rfl : i = p := by omega
      go_wp2_with fail
      refine (words_any _ N N F wr (hrow.sl0 N N (Nat.le_refl _) (Nat.le_refl _)) hd'.out (by omega)).mono ?_
      rintro e w5 ⟨v5, rfl, hnum, b5⟩
      rw [← HN.out, hv'.out] at hnum
      go_wp2_with fail
      go_ret
      exact ⟨v5, rfl, hnum, b12.trans ((hbw.trans (b5.mono hbw.size)).mono b12.size)⟩
end Go.Proofs.Ythjndkkepailmaa
