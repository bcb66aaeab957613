/-
  volvelleref01: Bits, Shr.
-/
import Derived.Test.YtigobkjbckgniaaShift
import Derived.Test.YtigobkjbckgniaaRef1
namespace Go.Proofs.Ytigobkjbckgniaa
open Go.RowKit

set_option maxHeartbeats 400000 in
theorem rbits_any (A : Option Addr) (n c : Nat) (x : Nat → Nat) (w : World) (ha : Sl w A n c x) (hn : n ≤ 400000) :
    Calls Try.prog 31 #[.slice A n c] w (BitsPost w (vs B64 x n)) := by
  have hVb : Hid (vs B64 x n < B64 ^ n) := Lib.hid (vs_lt ha.small)
  have T := Lib.hid (rtrim_any A n c x w ha (by omega))
  generalize vs B64 x n = V at *
  go_enter Try.func31, Try.ntmps31
  go_wp2_with fail
  refine T.out.mono ?_
  rintro e w1 ⟨v, rfl, ⟨A1, p, c1, f, rfl, s1, cn, hv⟩, b1⟩
  have hp : p ≤ n := cn_le B64_gt cn (by rw [hv]; exact hVb.out)
  have HV := Lib.hid hv
  clear hv hVb T
  rcases p with _ | p
  · go_wp2_with fail
    go_ret
    refine ⟨0, rfl, ?_, b1⟩
    rw [← HV.out]; exact IsBits.zero
  · obtain ⟨ad, rfl, hb, hx64, hcell⟩ := s1.at_ (k := p) (by omega)
    have h0 : 0 < f p := by
      rcases cn with h | h
      · omega
      · simp only [Nat.add_sub_cancel] at h; omega
    obtain ⟨l1, l2, l3, l4⟩ := len_bounds (f p) h0 hx64
    have hfin := Lib.hid (bits_top s1.small l1 l3 l4)
    clear l3 l4
    have hL : Hid (Lib.bitLen (f p) = Lib.bitLen (f p)) := Lib.hid rfl
    generalize hLL : Lib.bitLen (f p) = L at *
    have HL := Lib.hid hLL
    clear hLL hL
    have hf6 : f p ≤ 18446744073709551615 := by unfold B64 at hx64; omega
    generalize f p = top at *
    go_wp2_with fail
    go_loop [4, 5] (fun s4 s5 => ∃ k z : Nat, k ≤ 64 ∧ z ≤ 18446744073709551615 ∧ s4 = .int .i64 (64 * (p : Int) + (k : Int)) ∧ s5 = .int .u64 (z : Int) ∧ Hid (k + Lib.bitLen z = L)) (fun _ s5 => (intOf s5).toNat)
    case atStart => exact ⟨0, top, by omega, hf6, by go_num, rfl, Lib.hid (by rw [HL.out]; omega)⟩
    case round =>
      obtain ⟨k, z, hk, hz, rfl, rfl, hkl⟩ := hrel
      rcases Nat.eq_zero_or_pos z with hz0 | hz0
      · subst hz0
        go_wp2_with fail
        go_ret
        have e : k = L := by have := hkl.out; rw [show Lib.bitLen 0 = 0 from rfl] at this; omega
        refine ⟨64 * p + L, by rw [← e]; go_num, ?_, b1⟩
        rw [← HV.out]; exact hfin.out
      · have hhalf := Lib.hid (Lib.bitLen_half z (by omega) (by omega))
        have hk' : k + 1 ≤ L := by have h1 := hkl.out; have h2 := hhalf.out; omega
        go_wp2_with fail
        go_round
        case rel => exact ⟨k + 1, z / 2, by omega, by omega, by go_num, by go_num, Lib.hid (by have h1 := hkl.out; have h2 := hhalf.out; omega)⟩
        case measure => simp [intOf]; omega

theorem Sl.drop {w : World} {ad : Addr} {n c : Nat} {x : Nat → Nat} (h : Sl w (some ad) n c x) (W : Nat) (hW : W ≤ n) : Sl w (some (ad.add W)) (n - W) (c - W) (fun j => x (W + j)) := by
  obtain ⟨h1, h2, h3⟩ := h
  refine ⟨by omega, fun j hj => h2 _ (by omega), fun hn => ?_⟩
  obtain ⟨ad', e, hb, hc⟩ := h3 (by omega)
  injection e with e
  subst e
  exact ⟨_, rfl, by rw [block_of_add]; exact hb, fun j hj => by rw [add_of_add]; exact hc _ (by omega)⟩

theorem rshr_no (A : Option Addr) (n c : Nat) (s : Int) (w : World) (hs : s < 0 ∨ 1048576 < s) : Calls Try.prog 29 #[.slice A n c, .int .i64 s] w (NilPost w) := by
  rcases hs with hs | hs
  · go_enter Try.func29, Try.ntmps29
    go_wp2_with fail
    go_ret
    exact ⟨rfl, rfl⟩
  · have h0 : ¬ s < 0 := by omega
    go_enter Try.func29, Try.ntmps29
    go_wp2_with fail
    go_ret
    exact ⟨rfl, rfl⟩

/-- i words are done: those are lowered, the others still as they came. -/
def RLowInv (t : TypeId) (w wr : World) (g B N : Nat) (y : Nat → Nat) (r i : Nat) : Prop := ∃ F, Row t wr g N F ∧ Below B w wr ∧ (∀ j, j < i → F j = lw y r j) ∧ ∀ j, i ≤ j → F j = y j

theorem RLowInv.step {t : TypeId} {w w' : World} {g B N r i v : Nat} {y F : Nat → Nat} (hF : ∀ j, j < i → F j = lw y r j) (hG : ∀ j, i < j → F j = y j) (hv : v = lw y r i) (hrow : Row t w' g N (upd F i v)) (hb : Below B w w') : RLowInv t w w' g B N y r (i + 1) := by
  refine ⟨_, hrow, hb, fun j hj => ?_, fun j hj => ?_⟩
  · unfold upd; split
    · rename_i e; rw [e, hv]
    · exact hF j (by omega)
  · rw [upd_other _ _ _ _ (by omega)]; exact hG j (by omega)

set_option maxHeartbeats 400000 in
theorem rshr_zero (A : Option Addr) (n c : Nat) (x : Nat → Nat) (s W L : Nat) (w : World) (ha : Sl w A n c x) (hn : n ≤ 400000) (hW : W < n) (hL1 : W + L ≤ n) (hL2 : n ≤ W + L) (eW : (s : Int) / 64 = (W : Int)) (er : (s : Int) % 64 = 0) (hs : s ≤ 1048576) :
    Calls Try.prog 29 #[.slice A n c, .int .i64 (s : Int)] w (NumPost w (vs B64 (fun j => x (W + j)) L)) := by
  have hcap := ha.cap
  obtain ⟨ad, rfl, _, _, _⟩ := ha.at_ hW
  have hdrop := ha.drop W (by omega)
  have h0 : ¬ (s : Int) < 0 := by omega
  have h1 : ¬ (1048576 : Int) < (s : Int) := by omega
  have hcW : ¬ c = W := by omega
  go_enter Try.func29, Try.ntmps29
  go_wp2_with (at_builtin; refine wpList_append_words rfl (.tmp 18) (.tmp 22) 22 rfl w.heap.size 38 Try.underlying22 info64 _ 0 x rfl (Own.empty _ w _ _ (Nat.le_refl _)) _ (n - W) (c - W) (fun j => x (W + j)) rfl (hdrop.alloc _) (by omega) (by simp) ?_; intro v1 w1 hown1 hbel1; rw [show 0 + (n - W) = L by omega] at hown1; obtain ⟨A2, c2, rfl, s2, _⟩ := hown1.sl)
  have b1 : Below w.heap.size w w1 := hbel1 _ _ (Nat.le_refl _) ((Below.refl _ _).alloc (Nat.le_refl _) _)
  refine (rtrim_any A2 L c2 _ w1 s2 (by omega)).mono ?_
  rintro e w2 ⟨v2, rfl, hnum, b2⟩
  go_wp2_with fail
  go_ret
  rw [vs_congr (g := fun j => x (W + j)) fun j _ => by simp [cat]] at hnum
  exact ⟨v2, rfl, hnum, b1.trans (b2.mono b1.size)⟩

set_option maxHeartbeats 1000000 in
theorem rshr_core (A : Option Addr) (n c : Nat) (x : Nat → Nat) (s W r L : Nat) (w : World) (ha : Sl w A n c x) (hn : n ≤ 400000) (hW : W < n) (hL1 : W + L ≤ n) (hL2 : n ≤ W + L) (hr : r ≤ 63) (hr0 : 0 < r) (eW : (s : Int) / 64 = (W : Int)) (er : (s : Int) % 64 = (r : Int)) (hs : s ≤ 1048576) :
    Calls Try.prog 29 #[.slice A n c, .int .i64 (s : Int)] w (NumPost w (vs B64 (lw (fromW x n W) r) L)) := by
  have hcap := ha.cap
  obtain ⟨ad, rfl, _, _, _⟩ := ha.at_ hW
  have hdrop := ha.drop W (by omega)
  have h0 : ¬ (s : Int) < 0 := by omega
  have h1 : ¬ (1048576 : Int) < (s : Int) := by omega
  have hcW : ¬ c = W := by omega
  go_enter Try.func29, Try.ntmps29
  go_wp2_with (at_builtin; refine wpList_append_words rfl (.tmp 18) (.tmp 22) 22 rfl w.heap.size 38 Try.underlying22 info64 _ 0 x rfl (Own.empty _ w _ _ (Nat.le_refl _)) _ (n - W) (c - W) (fun j => x (W + j)) rfl (hdrop.alloc _) (by omega) (by simp) ?_; intro v1 w1 hown1 hbel1; rw [show 0 + (n - W) = L by omega] at hown1; obtain ⟨g, c2, rfl, hg, hc2, hrow0⟩ := hown1.row (by omega))
  have b1 : Below w.heap.size w w1 := hbel1 _ _ (Nat.le_refl _) ((Below.refl _ _).alloc (Nat.le_refl _) _)
  clear hbel1 hown1 hdrop
  have h00 : RLowInv 38 w w1 g w.heap.size L (fromW x n W) r 0 := by
    refine ⟨fromW x n W, hrow0.congr fun j hj => ?_, b1, fun j h => absurd h (by omega), fun _ _ => rfl⟩
    unfold fromW; rw [if_pos (by omega)]; simp [cat]
  clear hrow0
  go_loopw [6] (fun s6 wr => ∃ i : Nat, i ≤ L ∧ s6 = .int .i64 (i : Int) ∧ RLowInv 38 w wr g w.heap.size L (fromW x n W) r i) (fun s6 _ => L - (intOf s6).toNat)
  case atStart => exact ⟨0, Nat.zero_le _, rfl, h00⟩
  case round =>
    clear h00
    obtain ⟨i, hi, rfl, F, hrow, hb, hF, hG⟩ := hrel
    by_cases hin : i < L
    · have hyi : F i = x (W + i) := by rw [hG i (by omega)]; unfold fromW; rw [if_pos (by omega)]
      have hyi' : Hid (fromW x n W i = x (W + i)) := Lib.hid (by unfold fromW; rw [if_pos (by omega)])
      have hx64 := ha.small (W + i) (by omega)
      have hrc := hrow.cell (i := i) (by omega)
      rw [hyi] at hrc
      have HF := Lib.hid hF
      have HG := Lib.hid hG
      clear hF hG hyi
      have hrf := hrow.frozen i
      have es : (x (W + i) : Int) / 2 ^ r = ((x (W + i) / 2 ^ r : Nat) : Int) := shr_word _ _
      have hv1B : x (W + i) / 2 ^ r < B64 := Nat.lt_of_le_of_lt (Nat.div_le_self _ _) hx64
      by_cases hnext : W + i + 1 < n
      · have hyn : Hid (fromW x n W (i + 1) = x (W + i + 1)) := Lib.hid (by unfold fromW; rw [if_pos (by omega), Nat.add_assoc])
        have eo : bits .or .u64 ((x (W + i) / 2 ^ r : Nat) : Int) (IntKind.u64.wrap ((x (W + i + 1) : Int) * 2 ^ (64 - r))) = ((x (W + i) / 2 ^ r + x (W + i + 1) * 2 ^ (64 - r) % B64 : Nat) : Int) := by
          rw [shl_word, or64 _ _ hv1B (Nat.mod_lt _ B64_pos), lw_or _ _ _ (by omega) hx64]
        have hlw : Hid (x (W + i) / 2 ^ r + x (W + i + 1) * 2 ^ (64 - r) % B64 = lw (fromW x n W) r i) := Lib.hid (by unfold lw; rw [hyi'.out, hyn.out])
        have hlwB := lw_lt (x (W + i)) (x (W + i + 1)) r (by omega) hx64
        have hrow1 := hrow.set_ i _ hv1B
        have hrc1 := hrow1.cell (i := i) (by omega)
        rw [upd_same] at hrc1
        have hrf1 := hrow1.frozen i
        have hbn : Below w.heap.size w (wr.setCell ⟨g, i, none⟩ (.int .u64 ((x (W + i) / 2 ^ r : Nat) : Int))) := hb.setCell hg _
        obtain ⟨_, e, _, _, hcell3⟩ := (ha.below hbn).at_ (k := W + i + 1) hnext
        injection e with e
        subst e
        rw [show ad.add (W + i + 1) = ⟨ad.block, ad.off + (W + i + 1), none⟩ from by simp [Addr.add]] at hcell3
        generalize x (W + i) / 2 ^ r + x (W + i + 1) * 2 ^ (64 - r) % B64 = v2 at *
        generalize x (W + i) / 2 ^ r = v1 at *
        generalize x (W + i + 1) = z at *
        have q1 : IntKind.i64.wrap ((W : Int) + (i : Int)) = (W : Int) + (i : Int) := IntWalk.i64_in _ (by omega)
        have q2 : IntKind.i64.wrap ((W : Int) + (i : Int) + 1) = (W : Int) + (i : Int) + 1 := IntWalk.i64_in _ (by omega)
        have q3 : 0 ≤ (W : Int) + (i : Int) + 1 := by omega
        have q4 : ((W : Int) + (i : Int) + 1).toNat = W + i + 1 := by omega
        have q5 : (W : Int) + (i : Int) + 1 < (n : Int) := by omega
        have q6 : IntKind.i64.wrap (64 - (r : Int)) = 64 - (r : Int) := IntWalk.i64_in _ (by omega)
        have q7 : (64 - (r : Int)).toNat = 64 - r := by omega
        have q8 : 0 ≤ 64 - (r : Int) := by omega
        go_wp2_with fail
        clear hrc hrf
        generalize wr.setCell ⟨g, i, none⟩ (.int .u64 (v1 : Int)) = w1 at *
        go_region
        go_wp2_with fail
        go_roundw
        case rel => exact ⟨i + 1, by omega, by go_num, RLowInv.step (fun j hj => by rw [upd_other _ _ _ _ (by omega)]; exact HF.out j hj) (fun j hj => by rw [upd_other _ _ _ _ (by omega)]; exact HG.out j (by omega)) hlw.out (hrow1.set_ i v2 hlwB).drew (hbn.setCell hg _).drew⟩
        case measure => simp [intOf]; omega
      · have hlw : Hid (x (W + i) / 2 ^ r = lw (fromW x n W) r i) := Lib.hid (by
          unfold lw
          rw [hyi'.out, show fromW x n W (i + 1) = 0 from by unfold fromW; rw [if_neg (by omega)]]
          simp)
        generalize x (W + i) / 2 ^ r = v1 at *
        go_wp2_with fail
        go_roundw
        case rel => exact ⟨i + 1, by omega, by go_num, RLowInv.step HF.out (fun j hj => HG.out j (by omega)) hlw.out (hrow.set_ i v1 hv1B) (hb.setCell hg _)⟩
        case measure => simp [intOf]; omega
    · obtain rfl : i = L := by omega
      have HF := Lib.hid hF
      clear hF hG
      go_wp2_with fail
      have hsl := hrow.sl0 i c2 (Nat.le_refl _) hc2
      refine (rtrim_any _ i c2 _ wr hsl (by omega)).mono ?_
      rintro e w5 ⟨v5, rfl, hnum, b5⟩
      go_wp2_with fail
      go_ret
      rw [vs_congr HF.out] at hnum
      exact ⟨v5, rfl, hnum, hb.trans (b5.mono hb.size)⟩

theorem rshr_any (A : Option Addr) (n c : Nat) (x : Nat → Nat) (s : Nat) (w : World) (ha : Sl w A n c x) (hn : n ≤ 400000) (hs : s ≤ 1048576) :
    Calls Try.prog 29 #[.slice A n c, .int .i64 (s : Int)] w (NumPost w (vs B64 x n / 2 ^ s)) := by
  rw [pow_split s]
  rcases Nat.lt_or_ge (s / 64) n with h0 | h0
  · rcases Nat.eq_zero_or_pos (s % 64) with hr | hr
    · have h := rshr_zero A n c x s (s / 64) (n - s / 64) w ha hn h0 (by omega) (by omega) (by omega) (by omega) hs
      rw [vs_from x n (s / 64) ha.small (by omega)] at h
      rw [hr, Nat.pow_zero, Nat.mul_one]
      exact h
    · have h := rshr_core A n c x s (s / 64) (s % 64) (n - s / 64) w ha hn h0 (by omega) (by omega) (by omega) hr (by omega) (by omega) hs
      rw [vs_lw_div _ _ _ (by omega) (by unfold fromW; rw [if_neg (by omega)])] at h
      have e : vs B64 (fromW x n (s / 64)) (n - s / 64) = vs B64 (fun j => x (s / 64 + j)) (n - s / 64) := vs_congr fun j hj => by unfold fromW; rw [if_pos (by omega)]
      rw [e, vs_from x n (s / 64) ha.small (by omega), Nat.div_div_eq_div_mul] at h
      exact h
  · rw [shr_small x n (s / 64) ha.small h0]
    have hW : (n : Int) ≤ (s : Int) / 64 := by omega
    have h1 : ¬ (s : Int) < 0 := by omega
    have h2 : ¬ (1048576 : Int) < (s : Int) := by omega
    go_enter Try.func29, Try.ntmps29
    go_wp2_with fail
    go_ret
    exact ⟨_, rfl, ⟨none, 0, 0, x, rfl, Sl.none_ _ _ _ _, .inl rfl, rfl⟩, Below.refl _ _⟩
end Go.Proofs.Ytigobkjbckgniaa
