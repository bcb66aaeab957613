/-
  nat.rootShort: the root of one word, or of none.
-/
import Derived.Test.YthjndkkepailmaaRoot2
import Derived.Test.YthjndkkepailmaaRootMath
import Derived.Deep.RegionWith
namespace Go.Proofs.Ythjndkkepailmaa
open Go.RowKit

def TwoPost (w : World) (a : Nat) (e : Ending) (w' : World) : Prop := ∃ v u s r, e = .returned (.tuple #[v, u]) ∧ Num w' v s ∧ Num w' u r ∧ IsRoot a s r ∧ Below w.heap.size w w'

theorem one_sl2 (t : TypeId) (w : World) (o : Obj) (r : Nat) (hr : r < B64) : Sl ((w.alloc o).alloc (.cells #[.int .u64 ((r : Nat) : Int)] t)) (some ⟨w.heap.size + 1, 0, none⟩) 1 1 (fun _ => r) := by
  have h := one_sl t (w.alloc o) r hr
  rw [show (w.alloc o).heap.size = w.heap.size + 1 by simp] at h
  exact h

set_option maxHeartbeats 1000000 in
theorem rootshort_one (A : Option Addr) (c : Nat) (x : Nat → Nat) (w : World) (ha : Sl w A 1 c x) :
    Calls Try.prog 26 #[.slice A 1 c] w (TwoPost w (x 0)) := by
  obtain ⟨ad, rfl, hb, hx, hc⟩ := ha.at_ (k := 0) (by omega)
  rw [show ad.add 0 = ad from by simp [Addr.add]] at hc
  generalize x 0 = a at *
  go_enter Try.func26, Try.ntmps26
  go_wp2_with fail
  refine (rootword_any a hx w).mono ?_
  rintro e w1 ⟨r, rfl, h1, h2, h3, rfl⟩
  have hR := Lib.hid (IsRoot.one h1 h2)
  have hr : r < B64 := by unfold B64; omega
  have em : IntKind.u64.wrap ((r : Int) * (r : Int)) = ((r * r : Nat) : Int) := by rw [← Int.natCast_mul]; exact u64_nat _ (by unfold B64 at hx; omega)
  clear h2
  generalize r * r = q at *
  obtain ⟨t, ht⟩ : ∃ t, t = a - q := ⟨_, rfl⟩
  have es : IntKind.u64.wrap ((a : Int) - (q : Int)) = (t : Int) := by rw [show (a : Int) - (q : Int) = (t : Int) by omega]; exact u64_nat _ (by unfold B64 at hx; omega)
  rw [← ht] at hR
  have htl : t < B64 := by omega
  clear ht
  have rt1 : Hid (Num ((w.alloc (.cells #[.int .u64 ((r : Nat) : Int)] 25)).alloc (.cells #[.int .u64 ((t : Nat) : Int)] 25)) (viewV (some ⟨w.heap.size, 0, none⟩) 1 (tl (fun _ => r) 1)) r) := Lib.hid (by
    have h := viewV_num ((one_sl 25 w r hr).alloc (.cells #[.int .u64 ((t : Nat) : Int)] 25))
    rw [vs_one] at h; exact h)
  have rt2 : Hid (Num ((w.alloc (.cells #[.int .u64 ((r : Nat) : Int)] 25)).alloc (.cells #[.int .u64 ((t : Nat) : Int)] 25)) (viewV (some ⟨w.heap.size + 1, 0, none⟩) 1 (tl (fun _ => t) 1)) t) := Lib.hid (by
    have h := viewV_num (one_sl2 25 w (.cells #[.int .u64 ((r : Nat) : Int)] 25) t htl)
    rw [vs_one] at h; exact h)
  have tr1 : Hid (Num ((w.alloc (.cells #[.int .u64 ((t : Nat) : Int)] 25)).alloc (.cells #[.int .u64 ((r : Nat) : Int)] 25)) (viewV (some ⟨w.heap.size + 1, 0, none⟩) 1 (tl (fun _ => r) 1)) r) := Lib.hid (by
    have h := viewV_num (one_sl2 25 w (.cells #[.int .u64 ((t : Nat) : Int)] 25) r hr)
    rw [vs_one] at h; exact h)
  have tr2 : Hid (Num ((w.alloc (.cells #[.int .u64 ((t : Nat) : Int)] 25)).alloc (.cells #[.int .u64 ((r : Nat) : Int)] 25)) (viewV (some ⟨w.heap.size, 0, none⟩) 1 (tl (fun _ => t) 1)) t) := Lib.hid (by
    have h := viewV_num ((one_sl 25 w t htl).alloc (.cells #[.int .u64 ((r : Nat) : Int)] 25))
    rw [vs_one] at h; exact h)
  have rtb : Hid (Below w.heap.size w ((w.alloc (.cells #[.int .u64 ((r : Nat) : Int)] 25)).alloc (.cells #[.int .u64 ((t : Nat) : Int)] 25))) := Lib.hid (((Below.refl _ w).alloc (Nat.le_refl _) _).alloc (by simp) _)
  have trb : Hid (Below w.heap.size w ((w.alloc (.cells #[.int .u64 ((t : Nat) : Int)] 25)).alloc (.cells #[.int .u64 ((r : Nat) : Int)] 25))) := Lib.hid (((Below.refl _ w).alloc (Nat.le_refl _) _).alloc (by simp) _)
  go_wp2_with fail
  go_region_with (go_at_call 14; first
    | (refine (view_raw _ 1 1 (fun _ => r) _ (by first | exact one_sl _ _ r hr | exact (one_sl _ _ r hr).alloc _ | exact one_sl2 _ _ _ r hr) (by omega)).mono ?_; rintro e w5 ⟨rfl, rfl⟩)
    | (refine (view_raw _ 1 1 (fun _ => t) _ (by first | exact one_sl _ _ t htl | exact (one_sl _ _ t htl).alloc _ | exact one_sl2 _ _ _ t htl) (by omega)).mono ?_; rintro e w5 ⟨rfl, rfl⟩))
  all_goals (go_wp2_with fail)
  all_goals go_ret2
  all_goals first
    | exact ⟨_, _, r, t, rfl, rt1.out, rt2.out, hR.out, rtb.out.drew⟩
    | exact ⟨_, _, r, t, rfl, tr1.out, tr2.out, hR.out, trb.out.drew⟩

theorem rootshort_any (A : Option Addr) (n c : Nat) (x : Nat → Nat) (w : World) (ha : Sl w A n c x) (hn : n ≤ 1) :
    Calls Try.prog 26 #[.slice A n c] w (TwoPost w (vs B64 x n)) := by
  rcases n with _ | n
  · go_enter Try.func26, Try.ntmps26
    go_wp2_with fail
    go_ret2
    have hnil : Num w (.slice none 0 0) 0 := ⟨none, 0, 0, x, rfl, Sl.none_ _ _ _ _, .inl rfl, rfl⟩
    exact ⟨_, _, 0, 0, rfl, hnil, hnil, IsRoot.zero, Below.refl _ _⟩
  · obtain rfl : n = 0 := by omega
    have e : vs B64 x 1 = x 0 := by rw [vs_succ, vs_zero, Nat.pow_zero, Nat.mul_one, Nat.zero_add]
    rw [Nat.zero_add, e]
    exact rootshort_one A c x w ha
end Go.Proofs.Ythjndkkepailmaa
