/-
  volvelleref01: Cmp, Add, minus, Sub: what the document answers, in plain numbers.
  volvelleref01: minus, Sub.
  volvelleref01.Shl.
-/
import Derived.Test.YtkjlkgfnjbickaaDoorPlBGNat1
import Derived.Test.YtkjlkgfnjbickaaDoorPlBGNat2
import Derived.Test.YtkjlkgfnjbickaaDoorPlBGNat3
namespace Go.Proofs.YtkjlkgfnjbickaaDoor
open Go.RowKit

/-- k digits of a sum are done; cy is carried. -/
def Carry (F X Y : Nat → Nat) (k cy : Nat) : Prop := cy ≤ 1 ∧ (∀ j, j < k → F j < 65536) ∧ vs 65536 F k + cy * 65536 ^ k = vs 65536 X k + vs 65536 Y k
theorem Carry.step {F X Y : Nat → Nat} {k cy a b : Nat} (h : Carry F X Y k cy) (ha : X k = a) (hb : Y k = b) (ha' : a < 65536) (hb' : b < 65536) : Carry (upd F k ((cy + a + b) % 65536)) X Y (k + 1) ((cy + a + b) / 65536) := by
  obtain ⟨h1, h2, h3⟩ := h
  refine ⟨by omega, fun j hj => ?_, ?_⟩
  · unfold upd; split
    · omega
    · exact h2 j (by omega)
  · rw [vs_succ, vs_succ, vs_succ, upd_same, vs_upd_ge _ _ _ _ _ (Nat.le_refl _), ha, hb]
    exact step_add h3 (by omega)

end Go.Proofs.YtkjlkgfnjbickaaDoor

namespace Go.Proofs.YtkjlkgfnjbickaaDoor
open Go.RowKit

/-- k digits of a difference are done; bw is borrowed. -/
def Borrow (F X Y : Nat → Nat) (k bw : Nat) : Prop := bw ≤ 1 ∧ (∀ j, j < k → F j < 65536) ∧ vs 65536 F k + vs 65536 Y k = vs 65536 X k + bw * 65536 ^ k
theorem Borrow.step {F X Y : Nat → Nat} {k bw a b : Nat} (h : Borrow F X Y k bw) (ha : X k = a) (hb : Y k = b) (ha' : a < 65536) (hb' : b < 65536) : Borrow (upd F k ((a + 65536 - bw - b) % 65536)) X Y (k + 1) (1 - (a + 65536 - bw - b) / 65536) := by
  obtain ⟨h1, h2, h3⟩ := h
  refine ⟨by omega, fun j hj => ?_, ?_⟩
  · unfold upd; split
    · omega
    · exact h2 j (by omega)
  · rw [vs_succ, vs_succ, vs_succ, upd_same, vs_upd_ge _ _ _ _ _ (Nat.le_refl _), ha, hb]
    exact step_sub h3 (by omega)
end Go.Proofs.YtkjlkgfnjbickaaDoor

namespace Go.Proofs.YtkjlkgfnjbickaaDoor
open Go.RowKit

/-- What comes over from the word below. -/
def ov (o : Nat → Nat) (r j : Nat) : Nat := if j = 0 then 0 else o (j - 1) / 2 ^ (64 - r)
/-- Word j of o times 2 to the r. -/
def sh (o : Nat → Nat) (r j : Nat) : Nat := o j * 2 ^ r % B64 + ov o r j
theorem vs_sh (o : Nat → Nat) (r : Nat) (hr : r ≤ 64) (k : Nat) : vs B64 (sh o r) k + ov o r k * B64 ^ k = vs B64 o k * 2 ^ r := by
  induction k with
  | zero => simp [vs_zero, ov]
  | succ k ih =>
    have h := step_shl (x := o k) hr ih
    have e1 : sh o r k = ov o r k + o k * 2 ^ r % B64 := by unfold sh; rw [Nat.add_comm]
    have e2 : ov o r (k + 1) = o k / 2 ^ (64 - r) := by unfold ov; rw [if_neg (by omega), Nat.add_sub_cancel]
    rw [vs_succ, vs_succ, e1, e2]
    exact h
theorem sh_lt (o : Nat → Nat) (r j : Nat) (hr : r ≤ 64) (ho : ∀ i, o i < B64) : sh o r j < B64 := by
  have h : ov o r j < 2 ^ r := by
    unfold ov; split
    · exact Nat.two_pow_pos _
    · exact shr_lt _ _ hr (ho _)
  unfold sh; rw [Nat.add_comm]; exact low_add_lt _ _ r hr h

/-- The words before the shift: W zeros, f, a zero. -/
def rawW (f : Nat → Nat) (W p : Nat) : Nat → Nat := fun j => if j < W then 0 else if j < W + p then f (j - W) else 0
theorem rawW_lt {f : Nat → Nat} {W p : Nat} (h : ∀ j, j < p → f j < B64) (j : Nat) : rawW f W p j < B64 := by
  unfold rawW; split
  · exact B64_pos
  · split
    · exact h _ (by omega)
    · exact B64_pos
theorem cat_rawW (f : Nat → Nat) {W p j : Nat} (hj : j < W + p) : cat (fun _ => 0) W f j = rawW f W p j := by
  unfold cat rawW
  by_cases h : j < W <;> simp [h, hj]
theorem vs_rawW (f : Nat → Nat) (W p : Nat) : vs B64 (rawW f W p) (W + p) = vs B64 f p * B64 ^ W := by
  rw [vs_add, Nat.mul_comm]
  have e1 : vs B64 (rawW f W p) W = 0 := by
    have h : ∀ k, k ≤ W → vs B64 (rawW f W p) k = 0 := fun k => by
      induction k with
      | zero => intro _; rfl
      | succ k ih => intro hk; rw [vs_succ, ih (by omega)]; unfold rawW; rw [if_pos (by omega)]; simp
    exact h W (Nat.le_refl _)
  rw [e1, Nat.zero_add]
  congr 1
  exact vs_congr fun j hj => by unfold rawW; rw [if_neg (by omega), if_pos (by omega), Nat.add_sub_cancel_left]
theorem vs_rawW1 (f : Nat → Nat) (W p : Nat) : vs B64 (rawW f W p) (W + p + 1) = vs B64 f p * B64 ^ W := by
  rw [vs_succ, vs_rawW]; unfold rawW; rw [if_neg (by omega), if_neg (by omega)]; simp

def RShInv (t : TypeId) (w wr : World) (g B N : Nat) (o : Nat → Nat) (r k : Nat) : Prop := ∃ F, Row t wr g N F ∧ Below B w wr ∧ (∀ j, k ≤ j → j < N → F j = sh o r j) ∧ ∀ j, j < k → F j = o j
theorem RShInv.step {t : TypeId} {w w' : World} {g B N r k v : Nat} {o F : Nat → Nat} (hF : ∀ j, k < j → j < N → F j = sh o r j) (hG : ∀ j, j < k → F j = o j) (hv : v = sh o r k) (hrow : Row t w' g N (upd F k v)) (hb : Below B w w') : RShInv t w w' g B N o r k := by
  refine ⟨_, hrow, hb, fun j hj hjN => ?_, fun j hj => ?_⟩
  · unfold upd; split
    · rename_i e; rw [e, hv]
    · exact hF j (by omega) hjN
  · rw [upd_other _ _ _ _ (by omega)]; exact hG j (by omega)

set_option maxHeartbeats 1000000 in
theorem rshl_core (A : Option Addr) (n c : Nat) (x : Nat → Nat) (s W r : Nat) (w : World) (ha : Sl w A n c x) (hn : n ≤ 400000) (hW : W ≤ 400000) (hr : r ≤ 63) (eW : (s : Int) / 64 = (W : Int)) (er : (s : Int) % 64 = (r : Int)) (hs : s ≤ 1048576) :
    Calls Tryd.prog 30 #[.slice A n c, .int .i64 (s : Int)] w (NumPost w (vs B64 x n * B64 ^ W * 2 ^ r)) := by
  have hVb : Hid (vs B64 x n < B64 ^ n) := Lib.hid (vs_lt ha.small)
  have T := Lib.hid (rtrim_any A n c x w ha (by omega))
  generalize vs B64 x n = V at *
  have h0 : ¬ (s : Int) < 0 := by omega
  have h1 : ¬ (1048576 : Int) < (s : Int) := by omega
  have hmk : ∀ u : World, (Instr.makeSlice 24 (.int .i64 (W : Int)) (.int .i64 (W : Int))).run Tryd.prog u =
      .ok (.slice (some ⟨u.heap.size, 0, none⟩) W W) (u.alloc (.cells (madeCells #[.int .u64 0] W) 22)) := fun u => make_run W (by omega) u
  go_enter Tryd.func30, Tryd.ntmps30
  go_wp2_with fail
  refine T.out.mono ?_
  rintro e w1 ⟨v, rfl, ⟨A1, p, c1, f, rfl, s1, cn, hv⟩, b1⟩
  have hp : p ≤ n := cn_le B64_gt cn (by rw [hv]; exact hVb.out)
  have HV := Lib.hid hv
  clear hv hVb T
  rcases Nat.eq_zero_or_pos p with hp0 | hp0
  · subst hp0
    go_wp2_with fail
    go_ret
    refine ⟨_, rfl, ⟨A1, 0, c1, f, rfl, s1, .inl rfl, ?_⟩, b1⟩
    rw [← HV.out, vs_zero]; simp
  · have hpb : ((p : Int) == 0) = false := by simp; omega
    have hown0 := Own.made 22 w1 w1.heap.size W (Nat.le_refl _) (by omega)
    have sA := s1.alloc (.cells (madeCells #[.int .u64 0] W) 22)
    have HC : Hid (∀ j, j < W + p → cat (fun _ => 0) W f j = rawW f W p j) := Lib.hid fun j hj => cat_rawW f hj
    have hfs := Lib.hid s1.small
    rcases Nat.eq_zero_or_pos r with hr0 | hr0
    · subst hr0
      go_wp2_with (at_builtin; refine wpList_append_words rfl (.tmp 23) (.tmp 24) 24 rfl w1.heap.size 22 Tryd.underlying24 info64 _ W _ rfl hown0 A1 p c1 f rfl sA (by omega) (by simp) ?_; intro v2 w2 hown2 hbel2)
      go_ret
      have b2 := hbel2 _ _ (Nat.le_refl _) ((Below.refl _ w1).alloc (Nat.le_refl _) _)
      obtain ⟨A2, c2, rfl, s2, _⟩ := hown2.sl
      refine ⟨_, rfl, ⟨A2, W + p, c2, rawW f W p, rfl, s2.congr HC.out, ?_, ?_⟩, b1.trans (b2.mono b1.size)⟩
      · refine .inr ?_
        rcases cn with h | h
        · omega
        · unfold rawW; rw [if_neg (by omega), if_pos (by omega), show W + p - 1 - W = p - 1 by omega]; exact h
      · rw [vs_rawW, HV.out]; simp
    · have hrb : ((r : Int) == 0) = false := by simp; omega
      go_wp2_with (first
        | (at_builtin; refine wpList_append_words rfl (.tmp 23) (.tmp 24) 24 rfl w1.heap.size 22 Tryd.underlying24 info64 _ W _ rfl hown0 A1 p c1 f rfl sA (by omega) (by simp) ?_; intro v2 w2 hown2 hbel2; have b2 := hbel2 _ _ (Nat.le_refl _) ((Below.refl _ w1).alloc (Nat.le_refl _) _); clear hbel2)
        | (at_builtin; refine wpList_append_int rfl (.tmp 30) (.tmp 31) 24 rfl w1.heap.size 22 Tryd.underlying24 info64 _ (W + p) _ rfl hown2 0 _ rfl rfl B64_pos (by omega) b2.size ?_; intro v3 w3 hown3 hbel3; obtain ⟨g, c3, rfl, hg, hc3, hrow0⟩ := hown3.row (by omega)))
      have b3 := hbel3 _ _ (Nat.le_refl _) b2
      clear hbel3 hown3 hown2 hown0 sA b2
      have h00 : RShInv 22 w1 w3 g w1.heap.size (W + p + 1) (rawW f W p) r (W + p + 1) := by
        refine ⟨rawW f W p, hrow0.congr fun j hj => ?_, b3, fun j h1 h2 => by omega, fun _ _ => rfl⟩
        rcases Nat.lt_or_ge j (W + p) with h | h
        · rw [upd_other _ _ _ _ (by omega)]; exact HC.out j h
        · obtain rfl : j = W + p := by omega
          rw [upd_same]; unfold rawW; rw [if_neg (by omega), if_neg (by omega)]
      clear hrow0 b3
      have hfinv : Hid (vs B64 (sh (rawW f W p) r) (W + p + 1) = V * B64 ^ W * 2 ^ r) := Lib.hid (by
        have h := vs_sh (rawW f W p) r (by omega) (W + p + 1)
        rw [vs_rawW1, HV.out] at h
        have e : ov (rawW f W p) r (W + p + 1) = 0 := by
          unfold ov; rw [if_neg (by omega), Nat.add_sub_cancel]; unfold rawW; rw [if_neg (by omega), if_neg (by omega)]; simp
        rw [e, Nat.zero_mul, Nat.add_zero] at h
        exact h)
      have hoB : Hid (∀ j, rawW f W p j < B64) := Lib.hid (rawW_lt hfs.out)
      generalize rawW f W p = o at *
      generalize hD : W + p + 1 = D at *
      have hD1 : D ≤ 900000 := by omega
      have hD2 : W + p + 1 ≤ D := by omega
      have hD3 : D ≤ W + p + 1 := by omega
      clear hD
      go_loopw [7] (fun s7 wr => ∃ k : Nat, k ≤ D ∧ s7 = .int .i64 ((k : Int) - 1) ∧ RShInv 22 w1 wr g w1.heap.size D o r k) (fun s7 _ => (intOf s7 + 1).toNat)
      case atStart => exact ⟨D, Nat.le_refl _, by go_num, h00⟩
      case round =>
        clear h00
        obtain ⟨k, hk, rfl, F, hrow, hb, hF, hG⟩ := hrel
        have HF := Lib.hid hF
        have HG := Lib.hid hG
        clear hF hG
        rcases k with _ | k
        · go_wp2_with fail
          have hsl := hrow.sl0 D c3 (Nat.le_refl _) hc3
          refine (rtrim_any _ D c3 _ wr hsl (by omega)).mono ?_
          rintro e w5 ⟨v5, rfl, hnum, b5⟩
          go_wp2_with fail
          go_ret
          rw [vs_congr (fun j hj => HF.out j (by omega) hj), hfinv.out] at hnum
          exact ⟨v5, rfl, hnum, b1.trans ((hb.trans (b5.mono hb.size)).mono b1.size)⟩
        · rw [show (((k + 1 : Nat) : Int) - 1) = (k : Int) from by omega]
          have hok := HG.out k (by omega)
          have hrc := hrow.cell (i := k) (by omega)
          rw [hok] at hrc
          clear hok
          have hrf := hrow.frozen k
          have es : IntKind.u64.wrap ((o k : Int) * 2 ^ r) = ((o k * 2 ^ r % B64 : Nat) : Int) := shl_word _ _
          have hv1B : o k * 2 ^ r % B64 < B64 := Nat.mod_lt _ B64_pos
          rcases Nat.eq_zero_or_pos k with hk0 | hk0
          · have hlw : Hid (o k * 2 ^ r % B64 = sh o r k) := Lib.hid (by unfold sh ov; rw [if_pos hk0, Nat.add_zero])
            generalize o k * 2 ^ r % B64 = v1 at *
            generalize o k = ok at *
            subst hk0
            go_wp2_with fail
            go_roundw
            case rel => exact ⟨0, by omega, by go_num, RShInv.step (fun j h1 h2 => HF.out j (by omega) h2) (fun j hj => HG.out j (by omega)) hlw.out (hrow.set_ 0 v1 hv1B) (hb.setCell hg _)⟩
            case measure => simp [intOf]
          · have hprev := HG.out (k - 1) (by omega)
            have hrow1 := hrow.set_ k _ hv1B
            have hrc1 := hrow1.cell (i := k) (by omega)
            rw [upd_same] at hrc1
            have hrf1 := hrow1.frozen k
            have hrc2 := hrow1.cell (i := k - 1) (by omega)
            rw [upd_other _ _ _ _ (by omega), hprev] at hrc2
            clear hprev
            have hzB := hoB.out (k - 1)
            have eo : bits .or .u64 ((o k * 2 ^ r % B64 : Nat) : Int) (((o (k - 1) : Nat) : Int) / 2 ^ (64 - r)) = ((o k * 2 ^ r % B64 + o (k - 1) / 2 ^ (64 - r) : Nat) : Int) := by
              rw [shr_word]; exact or_word_int _ _ _ hzB (by omega)
            have hlw : Hid (o k * 2 ^ r % B64 + o (k - 1) / 2 ^ (64 - r) = sh o r k) := Lib.hid (by unfold sh ov; rw [if_neg (by omega)])
            have hlwB : o k * 2 ^ r % B64 + o (k - 1) / 2 ^ (64 - r) < B64 := by rw [hlw.out]; exact sh_lt o r k (by omega) hoB.out
            generalize o k * 2 ^ r % B64 + o (k - 1) / 2 ^ (64 - r) = v2 at *
            generalize o k * 2 ^ r % B64 = v1 at *
            generalize o k = ok at *
            generalize o (k - 1) = z at *
            obtain ⟨m, rfl⟩ : ∃ m, k = m + 1 := ⟨k - 1, by omega⟩
            simp only [Nat.add_sub_cancel] at hrc2
            have q1 : IntKind.i64.wrap (((m + 1 : Nat) : Int) - 1) = (m : Int) := by rw [IntWalk.i64_in _ (by omega)]; omega
            have q2 : IntKind.i64.wrap ((m : Int) + 1 - 1) = (m : Int) := by rw [IntWalk.i64_in _ (by omega)]; omega
            have q6 : IntKind.i64.wrap (64 - (r : Int)) = 64 - (r : Int) := IntWalk.i64_in _ (by omega)
            have q7 : (64 - (r : Int)).toNat = 64 - r := by omega
            have q8 : 0 ≤ 64 - (r : Int) := by omega
            go_wp2_with fail
            clear hrc hrf
            have hb1 : Below w1.heap.size w1 (wr.setCell ⟨g, m + 1, none⟩ (.int .u64 (v1 : Int))) := hb.setCell hg _
            generalize wr.setCell ⟨g, m + 1, none⟩ (.int .u64 (v1 : Int)) = w4 at *
            go_region
            go_wp2_with fail
            go_roundw
            case rel => exact ⟨m + 1, by omega, by go_num, RShInv.step (fun j h1 h2 => by rw [upd_other _ _ _ _ (by omega)]; exact HF.out j (by omega) h2) (fun j hj => by rw [upd_other _ _ _ _ (by omega)]; exact HG.out j (by omega)) hlw.out (hrow1.set_ (m + 1) v2 hlwB).drew ((hb1.setCell hg _).drew)⟩
            case measure => simp [intOf]; omega

theorem rshl_any (A : Option Addr) (n c : Nat) (x : Nat → Nat) (s : Nat) (w : World) (ha : Sl w A n c x) (hn : n ≤ 400000) (hs : s ≤ 1048576) :
    Calls Tryd.prog 30 #[.slice A n c, .int .i64 (s : Int)] w (NumPost w (vs B64 x n * 2 ^ s)) := by
  rw [pow_split s, ← Nat.mul_assoc]
  exact rshl_core A n c x s (s / 64) (s % 64) w ha hn (by omega) (by omega) (by omega) (by omega) hs
end Go.Proofs.YtkjlkgfnjbickaaDoor
