/-
  volvelleref01: cut, compare, Same, Trim.
-/
import Derived.Test.YthjndkkepailmaaCmp
import Derived.Test.YthjndkkepailmaaAdd
namespace Go.Proofs.Ythjndkkepailmaa
open Go.RowKit

def lenOf : Value → Nat | .slice _ n _ => n | _ => 0

set_option maxHeartbeats 400000 in
theorem cut_any (A : Option Addr) (n c : Nat) (f : Nat → Nat) (w : World) (h : Sl w A n c f) (hn : n ≤ 1000000) :
    Calls Try.prog 51 #[.slice A n c] w fun e w' => e = .returned (.slice A (tl f n) c) ∧ w = w' := by
  have hcap := h.cap
  go_enter Try.func51, Try.ntmps51
  go_wp2
  go_loop [0] (fun s0 => ∃ k : Nat, k ≤ n ∧ s0 = .slice A k c ∧ Hid (tl f k = tl f n)) (fun s0 => lenOf s0)
  case atStart => exact ⟨n, Nat.le_refl _, rfl, rfl⟩
  case round =>
    obtain ⟨k, hk, rfl, ht⟩ := hrel
    rcases k with _ | m
    · go_wp2
      go_ret
      exact ⟨by rw [← ht.out]; rfl, rfl⟩
    · obtain ⟨ad, rfl, hb, hx64, hcell⟩ := h.at_ (k := m) (by omega)
      have hxd : Hid (tl f (m + 1) = if f m = 0 then tl f m else m + 1) := rfl
      generalize f m = x at *
      by_cases h0 : x = 0
      · subst h0
        go_wp2
        go_round
        case rel => exact ⟨m, by omega, rfl, Lib.hid (by rw [← ht.out, hxd.out, if_pos rfl])⟩
        case measure => simp [lenOf]
      · have hne : ((x : Int) == 0) = false := by simp; omega
        go_wp2
        go_ret
        refine ⟨?_, rfl⟩
        rw [← ht.out, hxd.out, if_neg h0]
        rfl

set_option maxHeartbeats 400000 in
theorem compare_any (A B : Option Addr) (p q c1 d1 : Nat) (x y : Nat → Nat) (w : World) (s1 : Sl w A p c1 x) (s2 : Sl w B q d1 y) (ca : Cn p x) (cb : Cn q y) (hx : ∀ j, j < p → x j < 65536) (hy : ∀ j, j < q → y j < 65536)
    (hn : p ≤ 1000000) (hm : q ≤ 1000000) :
    Calls Try.prog 39 #[.slice A p c1, .slice B q d1] w (CmpPost w (cmpN (vs 65536 x p) (vs 65536 y q))) := by
  have HX := Lib.hid hx
  have HY := Lib.hid hy
  clear hx hy
  by_cases hpq : p = q
  · subst hpq
    go_enter Try.func39, Try.ntmps39
    go_wp2_with fail
    go_loopw [5] (fun i wr => ∃ k : Nat, k ≤ p ∧ i = .int .i64 ((k : Int) - 1) ∧ Agree x y k p ∧ Below w.heap.size w wr) (fun i _ => (intOf i + 1).toNat)
    case atStart => exact ⟨p, Nat.le_refl _, rfl, fun j h1 h2 => by omega, Below.refl _ _⟩
    case round =>
      obtain ⟨k, hk, rfl, hag, hbw⟩ := hrel
      rcases k with _ | k
      · go_wp2
        go_ret
        refine ⟨?_, hbw⟩
        rw [vs_congr (g := y) fun j hj => hag j (by omega) hj, cmpN_eq]
        rfl
      · obtain ⟨ad, rfl, hb1, hx64, hc1⟩ := (s1.below hbw).at_ (k := k) (by omega)
        obtain ⟨bd, rfl, hb2, hy64, hc2⟩ := (s2.below hbw).at_ (k := k) (by omega)
        have K1 : Hid (x k < y k → cmpN (vs 65536 x p) (vs 65536 y p) = -1) := Lib.hid fun h => cmpN_lt (vs_top_lt HX.out (by omega : k < p) (fun j h1 h2 => hag j (by omega) h2) h)
        have K2 : Hid (y k < x k → cmpN (vs 65536 x p) (vs 65536 y p) = 1) := Lib.hid fun h => cmpN_gt (vs_top_lt HY.out (by omega : k < p) (fun j h1 h2 => (hag j (by omega) h2).symm) h)
        by_cases hxy : x k < y k
        · go_wp2
          go_quiet (fail)
          go_wp2
          go_ret
          exact ⟨by rw [K1.out hxy]; rfl, below_drewN hbw _⟩
        · have hnlt : decide ((x k : Int) < (y k : Int)) = false := by simp; omega
          go_wp2
          go_quiet (fail)
          have hc1' : (wr.drewN nq).cell? (ad.add k) = some (.int .u64 ((x k : Nat) : Int)) := hc1
          have hc2' : (wr.drewN nq).cell? (bd.add k) = some (.int .u64 ((y k : Nat) : Int)) := hc2
          have hbw' := below_drewN hbw nq
          clear hc1 hc2 hbw hb1 hb2
          generalize wr.drewN nq = w1 at *
          by_cases hyx : y k < x k
          · go_wp2
            go_quiet (fail)
            go_wp2
            go_ret
            exact ⟨by rw [K2.out hyx]; rfl, below_drewN hbw' _⟩
          · have hngt : decide ((y k : Int) < (x k : Int)) = false := by simp; omega
            have E : Hid (x k = y k) := Lib.hid (by omega)
            go_wp2
            go_quiet (fail)
            go_wp2
            go_roundw
            case rel => exact ⟨k, by omega, by go_num, hag.down E.out, below_drewN hbw' _⟩
            case measure => simp [intOf]
  · have hne : ((p : Int) != (q : Int)) = true := by simp; omega
    rcases Nat.lt_or_ge p q with h | h
    · rw [cmpN_lt (cn_vs_lt (by omega) HX.out cb h)]
      go_enter Try.func39, Try.ntmps39
      go_wp2_with fail
      go_ret
      exact ⟨rfl, Below.refl _ _⟩
    · have h : q < p := by omega
      have h' : ¬ p < q := by omega
      rw [cmpN_gt (cn_vs_lt (by omega) HY.out ca h)]
      go_enter Try.func39, Try.ntmps39
      go_wp2_with fail
      go_ret
      exact ⟨rfl, Below.refl _ _⟩

def TruePost (w : World) (e : Ending) (w' : World) : Prop := e = .returned (.bool true) ∧ Below w.heap.size w w'

set_option maxHeartbeats 400000 in
theorem same_any (A B : Option Addr) (n c d : Nat) (x y : Nat → Nat) (w : World) (ha : Sl w A n c x) (hb : Sl w B n d y) (hn : n ≤ 1000000) (he : ∀ j, j < n → x j = y j) :
    Calls Try.prog 9 #[.slice A n c, .slice B n d] w (TruePost w) := by
  have HE := Lib.hid he
  clear he
  go_enter Try.func9, Try.ntmps9
  go_wp2_with fail
  go_loopw [5] (fun i wr => ∃ k : Nat, k ≤ n ∧ i = .int .i64 (k : Int) ∧ Below w.heap.size w wr) (fun i _ => n - (intOf i).toNat)
  case atStart => exact ⟨0, Nat.zero_le _, rfl, Below.refl _ _⟩
  case round =>
    obtain ⟨k, hk, rfl, hbw⟩ := hrel
    by_cases hlt : k < n
    · obtain ⟨ad, rfl, hb1, hx64, hc1⟩ := (ha.below hbw).at_ hlt
      obtain ⟨bd, rfl, hb2, hy64, hc2⟩ := (hb.below hbw).at_ hlt
      rw [← HE.out k hlt] at hc2
      have hne : ((x k : Int) != (x k : Int)) = false := by simp
      go_wp2
      go_quiet (fail)
      go_wp2
      go_roundw
      case rel => exact ⟨k + 1, by omega, by go_num, below_drewN hbw _⟩
      case measure => simp [intOf]; omega
    · go_wp2
      go_ret
      exact ⟨rfl, hbw⟩

/-- Two trimmed slices that stand for one number have the same words. -/
theorem same_num {v u : Value} {V : Nat} (w : World) (h1 : Num w v V) (h2 : Num w u V) (K : Nat) (hK : K ≤ 1000000) (hV : V < B64 ^ K) : Calls Try.prog 9 #[v, u] w (TruePost w) := by
  obtain ⟨A, n, c, f, rfl, s1, c1, e1⟩ := h1
  obtain ⟨B, m, d, g, rfl, s2, c2, e2⟩ := h2
  obtain ⟨rfl, he⟩ := canon_eq B64_gt s1.small s2.small c1 c2 (e1.trans e2.symm)
  exact same_any A B n c d f g w s1 s2 (Nat.le_trans (cn_le B64_gt c1 (by rw [e1]; exact hV)) hK) he

set_option maxHeartbeats 400000 in
theorem rtrim_any (A : Option Addr) (n c : Nat) (f : Nat → Nat) (w : World) (h : Sl w A n c f) (hn : n ≤ 1000000) :
    Calls Try.prog 36 #[.slice A n c] w (NumPost w (vs B64 f n)) := by
  have hcap := h.cap
  go_enter Try.func36, Try.ntmps36
  go_wp2
  go_loop [3] (fun i => ∃ k : Nat, k ≤ n ∧ i = .int .i64 k ∧ Hid (tl f k = tl f n)) (fun i => (intOf i).toNat)
  case atStart => exact ⟨n, Nat.le_refl _, rfl, rfl⟩
  case round =>
    obtain ⟨k, hk, rfl, ht⟩ := hrel
    by_cases hstop : k = 0 ∨ ∃ m, k = m + 1 ∧ f m ≠ 0
    · have htk : tl f k = k := by
        rcases hstop with rfl | ⟨m, rfl, h0⟩
        · rfl
        · show (if _ then _ else _) = _; rw [if_neg h0]
      have hown := Own.empty 25 w w.heap.size f (Nat.le_refl _)
      have s1 := (h.take hk).alloc (.cells #[] 25)
      have fin : ∀ (v1 : Value) (w1 : World), Own 25 w1 w.heap.size v1 (0 + k) (cat f 0 f) → (∀ B w0, B ≤ w.heap.size → Below B w0 (w.alloc (.cells #[] 25)) → Below B w0 w1) → Num w1 v1 (vs B64 f n) ∧ Below w.heap.size w w1 := by
        intro v1 w1 hown1 hbel
        obtain ⟨A2, c2, rfl, s2, _⟩ := hown1.sl
        have e0 : ∀ j, cat f 0 f j = f j := fun j => by simp [cat]
        refine ⟨⟨A2, 0 + k, c2, f, rfl, s2.congr fun j _ => e0 j, ?_, ?_⟩, hbel _ _ (Nat.le_refl _) ((Below.refl _ _).alloc (Nat.le_refl _) _)⟩
        · rw [Nat.zero_add, ← htk, ht.out]; exact tl_cn f n
        · rw [Nat.zero_add, ← htk, ht.out]; exact vs_tl _ f n
      have FIN := Lib.hid fin
      clear fin htk
      rcases hstop with rfl | ⟨m, rfl, h0⟩
      · go_wp2_with (at_builtin; refine wpList_append_words rfl (.tmp 18) (.tmp 21) 22 rfl w.heap.size 25 Try.underlying22 info64 _ 0 f rfl hown A 0 c f rfl s1 (by omega) (by simp) ?_; intro v1 w1 hown1 hbel)
        go_ret
        exact ⟨v1, rfl, FIN.out v1 w1 hown1 hbel⟩
      · obtain ⟨ad, rfl, hb, hx64, hcell⟩ := h.at_ (k := m) (by omega)
        have hne : ((f m : Int) == 0) = false := by simp; omega
        go_wp2_with (at_builtin; refine wpList_append_words rfl (.tmp 18) (.tmp 21) 22 rfl w.heap.size 25 Try.underlying22 info64 _ 0 f rfl hown (some ad) (m + 1) c f rfl s1 (by omega) (by simp) ?_; intro v1 w1 hown1 hbel)
        go_ret
        exact ⟨v1, rfl, FIN.out v1 w1 hown1 hbel⟩
    · obtain ⟨m, rfl⟩ : ∃ m, k = m + 1 := ⟨k - 1, by omega⟩
      have h0 : f m = 0 := by
        rcases Nat.eq_zero_or_pos (f m) with h | h
        · exact h
        · exact absurd (.inr ⟨m, rfl, by omega⟩) hstop
      clear hstop
      obtain ⟨ad, rfl, hb, hx64, hcell⟩ := h.at_ (k := m) (by omega)
      have hxd : Hid (tl f (m + 1) = tl f m) := Lib.hid (by show (if _ then _ else _) = _; rw [if_pos h0])
      rw [h0] at hcell
      clear h0 hx64
      go_wp2
      go_round
      case rel => exact ⟨m, by omega, by go_num, Lib.hid (by rw [← ht.out, hxd.out])⟩
      case measure => simp [intOf]
end Go.Proofs.Ythjndkkepailmaa
