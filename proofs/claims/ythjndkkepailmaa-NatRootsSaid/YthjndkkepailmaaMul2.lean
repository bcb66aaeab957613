/-
  nat.Mul answers the product, trimmed.
-/
import Derived.Test.YthjndkkepailmaaMul
namespace Go.Proofs.Ythjndkkepailmaa
open Go.RowKit

/-- What holds when i words of x are done: the row stands for their product with y, and above is nothing. -/
def MulInv (t : TypeId) (w wr : World) (g N q : Nat) (x y : Nat → Nat) (i : Nat) : Prop :=
  ∃ F, Row t wr g N F ∧ Below g w wr ∧ vs B64 F (i + q) = vs B64 x i * vs B64 y q ∧ ∀ j, i + q ≤ j → j < N → F j = 0

theorem mul_round {t : TypeId} {w wr w3 : World} {g N q i xi cy : Nat} {F F' x y : Nat → Nat} (hxi : x i = xi) (hb : Below g w wr) (hg : g < wr.heap.size)
    (hv : vs B64 F (i + q) = vs B64 x i * vs B64 y q) (hz : ∀ j, i + q ≤ j → j < N → F j = 0) (h : AddInv t (B64 - 1) wr w3 g N i F F' (fun j => xi * y j) q q cy) :
    MulInv t w (w3.setCell ⟨g, i + q, none⟩ (.int .u64 ((cy : Nat) : Int))) g N q x y (i + 1) := by
  obtain ⟨h1, h2, h3, h4, h5⟩ := h
  have hcy : cy < B64 := by have := B64_pos; omega
  refine ⟨upd F' (i + q) cy, h2.set_ _ _ hcy, (Only.below hb h3 (by omega) (Nat.le_refl _)).setCell (Nat.le_refl _) _, ?_, fun j hj hjN => ?_⟩
  · have e1 : i + 1 + q = i + q + 1 := by omega
    rw [e1, vs_succ, upd_same, vs_upd_ge _ _ _ _ _ (Nat.le_refl _), vs_add, vs_succ, hxi, Nat.add_mul, ← hv, vs_add B64 F]
    have e2 : vs B64 F' i = vs B64 F i := vs_congr fun j hj => h4 j (by omega)
    rw [vs_pad _ _ _ _ (Nat.le_refl _), vs_mul] at h5
    have e3 : B64 ^ i * (vs B64 (fun j => F' (i + j)) q + cy * B64 ^ q) = B64 ^ i * (vs B64 (fun j => F (i + j)) q + xi * vs B64 y q) := by rw [h5]
    rw [Nat.mul_add, Nat.mul_add] at e3
    have e4 : cy * B64 ^ (i + q) = B64 ^ i * (cy * B64 ^ q) := by rw [Nat.pow_add]; ac_rfl
    have e5 : xi * B64 ^ i * vs B64 y q = B64 ^ i * (xi * vs B64 y q) := by ac_rfl
    omega
  · rw [upd_other _ _ _ _ (by omega), h4 j (by omega)]; exact hz j (by omega) hjN

set_option maxHeartbeats 1000000 in
theorem mul_core (A B : Option Addr) (p q c d : Nat) (x y : Nat → Nat) (w : World) (s1 : Sl w A p c x) (s2 : Sl w B q d y) (hp : p ≤ q) (hq : q ≤ 400000) (A0 B0 : Option Addr) (n m c0 d0 : Nat)
    (sw : Bool)
    (H1 : Hid (Calls Try.prog 14 #[.slice A0 n c0] w fun e w' => e = .returned (if sw then .slice B q d else .slice A p c) ∧ w = w'))
    (H2 : Hid (Calls Try.prog 14 #[.slice B0 m d0] w fun e w' => e = .returned (if sw then .slice A p c else .slice B q d) ∧ w = w')) (hsw : sw = true → p < q) :
    Calls Try.prog 12 #[.slice A0 n c0, .slice B0 m d0] w (NumPost w (vs B64 x p * vs B64 y q)) := by
  have hmk : ∀ u : World, (Instr.makeSlice 22 (.int .i64 ((p : Int) + (q : Int))) (.int .i64 ((p : Int) + (q : Int)))).run Try.prog u =
      .ok (.slice (some ⟨u.heap.size, 0, none⟩) (p + q) (p + q)) (u.alloc (.cells (madeCells #[.int .u64 0] (p + q)) 25)) := fun u => by
    have h := make_run (p + q) (by omega) u
    rw [Int.natCast_add] at h
    exact h
  have hrow := Row.made 25 w (p + q)
  have h00 : MulInv 25 w (w.alloc (.cells (madeCells #[.int .u64 0] (p + q)) 25)) w.heap.size (p + q) q x y 0 :=
    ⟨_, hrow, (Below.refl _ w).alloc (Nat.le_refl _) _, by
      rw [vs_zero, Nat.zero_mul, Nat.zero_add]
      have : ∀ k, vs B64 (fun _ => 0) k = 0 := fun k => by induction k with | zero => rfl | succ k ih => rw [vs_succ, ih]; simp
      exact this q, fun _ _ _ => rfl⟩
  generalize hN : p + q = N at *
  have HN := Lib.hid hN
  have hN1 : p + q ≤ N := by omega
  have hN2 : N ≤ p + q := by omega
  clear hN hrow
  cases sw
  · have hlt : ¬ q < p := by omega
    simp only [Bool.false_eq_true, if_false] at H1 H2
    clear hsw
    go_enter Try.func12, Try.ntmps12
    go_wp2_with fail
    refine H1.out.mono ?_
    rintro e w' ⟨rfl, rfl⟩
    go_wp2_with fail
    refine H2.out.mono ?_
    rintro e w' ⟨rfl, rfl⟩
    go_wp2_with fail
    go_loopw [28] (fun i wr => ∃ k : Nat, k ≤ p ∧ i = .int .i64 ((k : Nat) : Int) ∧ MulInv 25 w wr w.heap.size N q x y k) (fun i _ => p - (intOf i).toNat)
    case atStart => exact ⟨0, Nat.zero_le _, rfl, h00⟩
    case round =>
      obtain ⟨k, hk, rfl, F, hrow, hbw, hv, hz⟩ := hrel
      have hv' := Lib.hid hv
      have hz' := Lib.hid hz
      clear hv hz h00
      by_cases hlt2 : k < p
      · obtain ⟨ad, rfl, hb, hx64, hcell⟩ := (s1.below hbw).at_ hlt2
        go_wp2_with fail
        refine (addTimes_any w.heap.size k q (N - k) N F B q d y (x k) wr hrow (by omega) (by omega) (by omega) (s2.below hbw) (Nat.le_refl _) (s2.far (Nat.le_refl _)) hx64).mono ?_
        rintro e w3 ⟨F', cy, rfl, hinv⟩
        have hrc := hinv.2.1.cell (i := k + q) (by omega)
        have hrf := hinv.2.1.frozen (k + q)
        go_wp2_with fail
        go_roundw
        case rel => exact ⟨k + 1, by omega, by go_num, mul_round rfl hbw hrow.lt hv'.out hz'.out hinv⟩
        case measure => simp [intOf]; omega
      · obtain rfl : k = p := by omega
        go_wp2_with fail
        refine (view_raw _ N N _ wr (hrow.sl0 N N (Nat.le_refl _) (Nat.le_refl _)) (by omega)).mono ?_
        rintro e w5 ⟨rfl, rfl⟩
        go_wp2_with fail
        go_ret
        have hnum := viewV_num (hrow.sl0 N N (Nat.le_refl _) (Nat.le_refl _))
        rw [← HN.out, hv'.out, HN.out] at hnum
        exact ⟨_, rfl, hnum, hbw⟩
  · have hlt : p < q := hsw rfl
    simp only [if_true] at H1 H2
    clear hsw
    go_enter Try.func12, Try.ntmps12
    go_wp2_with fail
    refine H1.out.mono ?_
    rintro e w' ⟨rfl, rfl⟩
    go_wp2_with fail
    refine H2.out.mono ?_
    rintro e w' ⟨rfl, rfl⟩
    go_wp2_with fail
    go_loopw [28] (fun i wr => ∃ k : Nat, k ≤ p ∧ i = .int .i64 ((k : Nat) : Int) ∧ MulInv 25 w wr w.heap.size N q x y k) (fun i _ => p - (intOf i).toNat)
    case atStart => exact ⟨0, Nat.zero_le _, rfl, h00⟩
    case round =>
      obtain ⟨k, hk, rfl, F, hrow, hbw, hv, hz⟩ := hrel
      have hv' := Lib.hid hv
      have hz' := Lib.hid hz
      clear hv hz h00
      by_cases hlt2 : k < p
      · obtain ⟨ad, rfl, hb, hx64, hcell⟩ := (s1.below hbw).at_ hlt2
        go_wp2_with fail
        refine (addTimes_any w.heap.size k q (N - k) N F B q d y (x k) wr hrow (by omega) (by omega) (by omega) (s2.below hbw) (Nat.le_refl _) (s2.far (Nat.le_refl _)) hx64).mono ?_
        rintro e w3 ⟨F', cy, rfl, hinv⟩
        have hrc := hinv.2.1.cell (i := k + q) (by omega)
        have hrf := hinv.2.1.frozen (k + q)
        go_wp2_with fail
        go_roundw
        case rel => exact ⟨k + 1, by omega, by go_num, mul_round rfl hbw hrow.lt hv'.out hz'.out hinv⟩
        case measure => simp [intOf]; omega
      · obtain rfl : k = p := by omega
        go_wp2_with fail
        refine (view_raw _ N N _ wr (hrow.sl0 N N (Nat.le_refl _) (Nat.le_refl _)) (by omega)).mono ?_
        rintro e w5 ⟨rfl, rfl⟩
        go_wp2_with fail
        go_ret
        have hnum := viewV_num (hrow.sl0 N N (Nat.le_refl _) (Nat.le_refl _))
        rw [← HN.out, hv'.out, HN.out] at hnum
        exact ⟨_, rfl, hnum, hbw⟩

set_option maxHeartbeats 400000 in
theorem mul_any (A B : Option Addr) (n m c d : Nat) (x y : Nat → Nat) (w : World) (ha : Sl w A n c x) (hb : Sl w B m d y) (hn : n ≤ 400000) (hm : m ≤ 400000) :
    Calls Try.prog 12 #[.slice A n c, .slice B m d] w (NumPost w (vs B64 x n * vs B64 y m)) := by
  obtain ⟨A1, c1, e1, s1⟩ := viewV_sl ha
  obtain ⟨B1, d1, e2, s2⟩ := viewV_sl hb
  have l1 := tl_le x n
  have l2 := tl_le y m
  have V1 := view_raw A n c x w ha (by omega)
  have V2 := view_raw B m d y w hb (by omega)
  rw [e1] at V1
  rw [e2] at V2
  rw [← vs_tl B64 x n, ← vs_tl B64 y m]
  clear e1 e2
  generalize tl x n = p at *
  generalize tl y m = q at *
  by_cases h : p ≤ q
  · exact mul_core A1 B1 p q c1 d1 x y w s1 s2 h (by omega) A B n m c d false (Lib.hid V1) (Lib.hid V2) (fun h => by cases h)
  · rw [Nat.mul_comm]
    exact mul_core B1 A1 q p d1 c1 y x w s2 s1 (by omega) (by omega) A B n m c d true (Lib.hid V1) (Lib.hid V2) (fun _ => by omega)
end Go.Proofs.Ythjndkkepailmaa
