/-
  volvellelaw01.awake answers true; Few; Same; kept.
-/
import Derived.Test.YthjndkkepailmaaDivMod
import Derived.Test.YthjndkkepailmaaMul2
import Derived.Test.YthjndkkepailmaaRef1
namespace Go.Proofs.Ythjndkkepailmaa
open Go.RowKit

theorem Num.one {w : World} {v : Value} {V : Nat} (h : Num w v V) (h0 : 0 < V) (h1 : V < B64) : ∃ A c, v = .slice A 1 c ∧ Sl w A 1 c (fun _ => V) := by
  obtain ⟨A, n, c, f, rfl, hs, hc, hv⟩ := h
  have hn : n = 1 := by
    have h2 : n ≤ 1 := cn_le B64_gt hc (by rw [hv, Nat.pow_one]; exact h1)
    rcases Nat.eq_zero_or_pos n with h3 | h3
    · subst h3; rw [vs_zero] at hv; omega
    · omega
  subst hn
  refine ⟨A, c, rfl, hs.congr fun j hj => ?_⟩
  obtain rfl : j = 0 := by omega
  rw [← hv, vs_succ, vs_zero]; simp


theorem one_sl' (t : TypeId) (w : World) (r g : Nat) (z : Int) (hr : r < B64) (hz : z = (r : Int)) (hg : g = w.heap.size) : Sl (w.alloc (.cells #[.int .u64 z] t)) (some ⟨g, 0, none⟩) 1 1 (fun _ => r) := by
  subst hz; subst hg; exact one_sl t w r hr

theorem awake_mul (w : World) (hB : 145 < B64) : Calls Try.prog 12 #[.slice (some ⟨w.heap.size, 0, none⟩) 1 1, .slice (some ⟨w.heap.size + 1, 0, none⟩) 1 1]
    ((w.alloc (.cells #[.int .u64 12] 25)).alloc (.cells #[.int .u64 12] 25)) fun e w' => ∃ A c, e = .returned (.slice A 1 c) ∧ Sl w' A 1 c (fun _ => 144) ∧ Below w.heap.size w w' := by
  have s1 := (one_sl' 25 w 12 w.heap.size 12 (by omega) rfl rfl).alloc (.cells #[.int .u64 12] 25)
  have s2 := one_sl' 25 (w.alloc (.cells #[.int .u64 12] 25)) 12 (w.heap.size + 1) 12 (by omega) rfl (by simp)
  have hb0 : Below w.heap.size w ((w.alloc (.cells #[.int .u64 12] 25)).alloc (.cells #[.int .u64 12] 25)) := ((Below.refl _ w).alloc (Nat.le_refl _) _).alloc (by simp) _
  refine (mul_any _ _ 1 1 1 1 _ _ _ s1 s2 (by omega) (by omega)).mono fun e w1 ⟨v, he, hnum, hb1⟩ => ?_
  rw [vs_one] at hnum
  obtain ⟨A, c, rfl, s3⟩ := hnum.one (by omega) (by omega)
  exact ⟨A, c, he, s3, hb0.trans (hb1.mono hb0.size)⟩

theorem awake_div (w : World) (hB : 145 < B64) : Calls Try.prog 15 #[.slice (some ⟨w.heap.size, 0, none⟩) 1 1, .slice (some ⟨w.heap.size + 1, 0, none⟩) 1 1]
    ((w.alloc (.cells #[.int .u64 145] 25)).alloc (.cells #[.int .u64 12] 25)) fun e w' => ∃ A c B d, e = .returned (.tuple #[.slice A 1 c, .slice B 1 d, .bool true]) ∧ Sl w' A 1 c (fun _ => 12) ∧ Sl w' B 1 d (fun _ => 1) ∧ Below w.heap.size w w' := by
  have s1 := (one_sl' 25 w 145 w.heap.size 145 (by omega) rfl rfl).alloc (.cells #[.int .u64 12] 25)
  have s2 := one_sl' 25 (w.alloc (.cells #[.int .u64 145] 25)) 12 (w.heap.size + 1) 12 (by omega) rfl (by simp)
  have hb0 : Below w.heap.size w ((w.alloc (.cells #[.int .u64 145] 25)).alloc (.cells #[.int .u64 12] 25)) := ((Below.refl _ w).alloc (Nat.le_refl _) _).alloc (by simp) _
  refine (divmod_word _ _ 1 1 1 1 _ _ _ s1 s2 (by omega) (by omega) rfl (by rw [vs_one, vs_one]; omega) (Lib.hid fun hi lo u h1 h2 h3 => by
    have hz : hi = 0 := h3 rfl
    subst hz
    rw [Nat.zero_mul, Nat.zero_add]
    exact div64_zero lo 12 u (by omega) (by omega) h2)).mono fun e w1 ⟨v, u, he, hn1, hn2, hb1⟩ => ?_
  rw [vs_one, vs_one] at hn1 hn2
  obtain ⟨A, c, rfl, s3⟩ := hn1.one (by omega) (by omega)
  obtain ⟨B, d, rfl, s4⟩ := hn2.one (by omega) (by omega)
  exact ⟨A, c, B, d, he, s3, s4, hb0.trans (hb1.mono hb0.size)⟩

set_option maxHeartbeats 400000 in
theorem awake_any (w : World) : Calls Try.prog 6 #[] w (TruePost w) := by
  have hB : 145 < B64 := by unfold B64; omega
  go_enter Try.func6, Try.ntmps6
  go_wp2_with fail
  refine (awake_mul w hB).mono ?_
  rintro e w1 ⟨A, c, rfl, s3, hb1⟩
  go_wp2_with fail
  refine (awake_div w1 hB).mono ?_
  rintro e w2 ⟨A1, c1, A2, c2, rfl, t1, t2, hb3⟩
  have t0 := s3.below hb3
  obtain ⟨a0, rfl, _, _, k0⟩ := t0.at_ (k := 0) (by omega)
  obtain ⟨a1, rfl, _, _, k1⟩ := t1.at_ (k := 0) (by omega)
  obtain ⟨a2, rfl, _, _, k2⟩ := t2.at_ (k := 0) (by omega)
  rw [show a0.add 0 = a0 from by simp [Addr.add]] at k0
  rw [show a1.add 0 = a1 from by simp [Addr.add]] at k1
  rw [show a2.add 0 = a2 from by simp [Addr.add]] at k2
  have hfin : Below w.heap.size w w2 := hb1.trans (hb3.mono hb1.size)
  clear hb3 hb1 t0 t1 t2 s3
  go_wp2_with fail
  go_ret
  exact ⟨rfl, hfin⟩
end Go.Proofs.Ythjndkkepailmaa
