/-
  nat.lower: a number over 2 to the s, cut.
-/
import Derived.Test.YthjndkkepailmaaRaise
import Derived.RegionTactic
import Derived.BigRegion
namespace Go.Proofs.Ythjndkkepailmaa
open Go.RowKit

/-- The words from W on, zeros behind n of them. -/
def fromW (x : Nat → Nat) (n W : Nat) : Nat → Nat := fun j => if W + j < n then x (W + j) else 0
def LowerInv (t : TypeId) (w wr : World) (g N : Nat) (y : Nat → Nat) (r i : Nat) : Prop := ∃ F, Row t wr g N F ∧ Below g w wr ∧ ∀ j, j < i → F j = lw y r j

theorem LowerInv.step {t : TypeId} {w w' : World} {g N r i v : Nat} {y F : Nat → Nat} (hF : ∀ j, j < i → F j = lw y r j) (hv : v = lw y r i) (hrow : Row t w' g N (upd F i v)) (hb : Below g w w') : LowerInv t w w' g N y r (i + 1) := by
  refine ⟨_, hrow, hb, fun j hj => ?_⟩
  unfold upd; split
  · rename_i e; rw [e, hv]
  · exact hF j (by omega)

set_option maxHeartbeats 1000000 in
theorem lower_core (A : Option Addr) (n c : Nat) (x : Nat → Nat) (s W r L : Nat) (w : World) (ha : Sl w A n c x) (hn : n ≤ 400000) (hW : W < n) (hL1 : W + L ≤ n) (hL2 : n ≤ W + L) (hr : r ≤ 63) (eW : (s : Int) / 64 = (W : Int)) (er : (s : Int) % 64 = (r : Int)) (hs : s ≤ 30000000) :
    Calls Try.prog 28 #[.slice A n c, .int .i64 (s : Int)] w (NumPost w (vs B64 (lw (fromW x n W) r) L)) := by
  have hmk : ∀ u : World, (Instr.makeSlice 22 (.int .i64 ((n : Int) - (W : Int))) (.int .i64 ((n : Int) - (W : Int)))).run Try.prog u =
      .ok (.slice (some ⟨u.heap.size, 0, none⟩) L L) (u.alloc (.cells (madeCells #[.int .u64 0] L) 25)) := fun u => by
    have h := make_run L (by omega) u
    rw [show (L : Int) = (n : Int) - (W : Int) by omega] at h
    exact h
  have h00 : LowerInv 25 w (w.alloc (.cells (madeCells #[.int .u64 0] L) 25)) w.heap.size L (fromW x n W) r 0 :=
    ⟨_, Row.made 25 w L, (Below.refl _ w).alloc (Nat.le_refl _) _, fun j h => absurd h (by omega)⟩
  have h63 : (2 : Nat) ^ r ≤ B64 := pow_le_B64 r (by omega)
  go_enter Try.func28, Try.ntmps28
  go_wp2_with fail
  clear eW er hmk
  go_loopw [25] (fun s25 wr => ∃ i : Nat, i ≤ L ∧ s25 = .int .i64 (i : Int) ∧ LowerInv 25 w wr w.heap.size L (fromW x n W) r i) (fun s25 _ => L - (intOf s25).toNat)
  case atStart => exact ⟨0, Nat.zero_le _, rfl, h00⟩
  case round =>
    clear h00
    obtain ⟨i, hi, rfl, F, hrow, hb, hF⟩ := hrel
    have HF := Lib.hid hF
    clear hF
    by_cases hin : i < L
    · obtain ⟨ad, rfl, hb1, hx64, hcell⟩ := (ha.below hb).at_ (k := W + i) (by omega)
      have es : (x (W + i) : Int) / 2 ^ r = ((x (W + i) / 2 ^ r : Nat) : Int) := shr_word _ _
      have hv1B : x (W + i) / 2 ^ r < B64 := Nat.lt_of_le_of_lt (Nat.div_le_self _ _) hx64
      have hyi : Hid (fromW x n W i = x (W + i)) := Lib.hid (by unfold fromW; rw [if_pos (by omega)])
      have hrc := hrow.cell (i := i) (by omega)
      have hrf := hrow.frozen i
      by_cases hnext : W + i + 1 < n
      · obtain ⟨_, e, _, hz64, hcell2⟩ := (ha.below hb).at_ (k := W + i + 1) hnext
        injection e with e
        subst e
        have hyn : Hid (fromW x n W (i + 1) = x (W + i + 1)) := Lib.hid (by unfold fromW; rw [if_pos (by omega), Nat.add_assoc])
        have eo : bits .or .u64 ((x (W + i) / 2 ^ r : Nat) : Int) (IntKind.u64.wrap ((x (W + i + 1) : Int) * 2 ^ (64 - r))) = ((x (W + i) / 2 ^ r + x (W + i + 1) * 2 ^ (64 - r) % B64 : Nat) : Int) := by
          rw [shl_word, or64 _ _ hv1B (Nat.mod_lt _ B64_pos), lw_or _ _ _ (by omega) hx64]
        have hlw : Hid (x (W + i) / 2 ^ r + x (W + i + 1) * 2 ^ (64 - r) % B64 = lw (fromW x n W) r i) := Lib.hid (by unfold lw; rw [hyi.out, hyn.out])
        have hlwB := lw_lt (x (W + i)) (x (W + i + 1)) r (by omega) hx64
        have hrow1 := hrow.set_ i _ hv1B
        have hrc1 := hrow1.cell (i := i) (by omega)
        rw [upd_same] at hrc1
        have hrf1 := hrow1.frozen i
        have hbn : Below w.heap.size w (wr.setCell ⟨w.heap.size, i, none⟩ (.int .u64 ((x (W + i) / 2 ^ r : Nat) : Int))) := hb.setCell (Nat.le_refl _) _
        obtain ⟨_, e, _, _, hcell3⟩ := (ha.below hbn).at_ (k := W + i + 1) hnext
        injection e with e
        subst e
        rw [show ad.add (W + i + 1) = ⟨ad.block, ad.off + (W + i + 1), none⟩ from by simp [Addr.add]] at hcell3
        generalize x (W + i) / 2 ^ r + x (W + i + 1) * 2 ^ (64 - r) % B64 = v2 at *
        generalize x (W + i) / 2 ^ r = v1 at *
        generalize x (W + i + 1) = z at *
        have q1 : IntKind.i64.wrap ((W : Int) + (i : Int)) = (W : Int) + (i : Int) := IntWalk.i64_in _ (by omega)
        have q2 : IntKind.i64.wrap ((W : Int) + (i : Int) + 1) = (W : Int) + (i : Int) + 1 := IntWalk.i64_in _ (by omega)
        have q3 : 0 ≤ (W : Int) + (i : Int) + 1 := by omega
        have q4 : ((W : Int) + (i : Int) + 1).toNat = W + i + 1 := by omega
        have q5 : (W : Int) + (i : Int) + 1 < (n : Int) := by omega
        have q6 : IntKind.u64.wrap (64 - (r : Int)) = 64 - (r : Int) := IntWalk.u64_in _ (by omega)
        have q7 : (64 - (r : Int)).toNat = 64 - r := by omega
        go_wp2_with fail
        clear hrc hrf hcell hcell2
        generalize wr.setCell ⟨w.heap.size, i, none⟩ (.int .u64 (v1 : Int)) = w1 at *
        go_region
        go_wp2_with fail
        go_roundw
        case rel => exact ⟨i + 1, by omega, by go_num, LowerInv.step (fun j hj => by rw [upd_other _ _ _ _ (by omega)]; exact HF.out j hj) hlw.out (hrow1.set_ i v2 hlwB).drew (hbn.setCell (Nat.le_refl _) _).drew⟩
        case measure => simp [intOf]; omega
      · have hlw : Hid (x (W + i) / 2 ^ r = lw (fromW x n W) r i) := Lib.hid (by
          unfold lw
          rw [hyi.out, show fromW x n W (i + 1) = 0 from by unfold fromW; rw [if_neg (by omega)]]
          simp)
        generalize x (W + i) / 2 ^ r = v1 at *
        go_wp2_with fail
        go_roundw
        case rel => exact ⟨i + 1, by omega, by go_num, LowerInv.step HF.out hlw.out (hrow.set_ i v1 hv1B) (hb.setCell (Nat.le_refl _) _)⟩
        case measure => simp [intOf]; omega
    · obtain rfl : i = L := by omega
      go_wp2_with fail
      have hsl := hrow.sl0 i i (Nat.le_refl _) (Nat.le_refl _)
      refine (view_raw _ i i _ wr hsl (by omega)).mono ?_
      rintro e w5 ⟨rfl, rfl⟩
      go_wp2_with fail
      go_ret
      have hnum := viewV_num hsl
      rw [vs_congr HF.out] at hnum
      exact ⟨_, rfl, hnum, hb⟩

theorem lower_any (A : Option Addr) (n c : Nat) (x : Nat → Nat) (s : Nat) (w : World) (ha : Sl w A n c x) (hn : n ≤ 400000) (hs : s ≤ 20000000) :
    Calls Try.prog 28 #[.slice A n c, .int .i64 (s : Int)] w (NumPost w (vs B64 x n / 2 ^ s)) := by
  rw [pow_split s]
  rcases Nat.lt_or_ge (s / 64) n with h0 | h0
  · have h := lower_core A n c x s (s / 64) (s % 64) (n - s / 64) w ha hn h0 (by omega) (by omega) (by omega) (by omega) (by omega) (by omega)
    rw [vs_lw_div _ _ _ (by omega) (by unfold fromW; rw [if_neg (by omega)])] at h
    have e : vs B64 (fromW x n (s / 64)) (n - s / 64) = vs B64 (fun j => x (s / 64 + j)) (n - s / 64) := vs_congr fun j hj => by unfold fromW; rw [if_pos (by omega)]
    rw [e, vs_from x n (s / 64) ha.small (by omega), Nat.div_div_eq_div_mul] at h
    exact h
  · rw [shr_small x n (s / 64) ha.small h0]
    have hW : (n : Int) ≤ (s : Int) / 64 := by omega
    go_enter Try.func28, Try.ntmps28
    go_wp2_with fail
    go_ret
    exact ⟨_, rfl, ⟨none, 0, 0, x, rfl, Sl.none_ _ _ _ _, .inl rfl, rfl⟩, Below.refl _ _⟩
end Go.Proofs.Ythjndkkepailmaa
