/-
  volvellelaw01.NatShifts answers true, whatever slice of words and whatever int it is given.
-/
import Derived.Test.YtigobkjbckgniaaSums
import Derived.Test.YtigobkjbckgniaaRefShl
namespace Go.Proofs.Ytigobkjbckgniaa
open Go.RowKit

theorem single_cells (w : World) (t : TypeId) (A : Option Addr) (n c : Nat) : ∀ j, j < 1 → (w.alloc (.cells #[.slice A n c] t)).cell? ⟨w.heap.size, j, none⟩ = some (.slice ((fun _ => A) j) ((fun _ => n) j) ((fun _ => c) j)) := fun j hj => by
  rw [World.cell?_alloc_at _ _ _ _ rfl]
  obtain rfl : j = 0 := by omega
  rfl

set_option maxHeartbeats 400000 in
theorem shifts_big (A : Option Addr) (n c : Nat) (s : Int) (w : World) (hn : n ≤ 9223372036854775807) (hbig : 200 < n) :
    Calls Try.prog 6 #[.slice A n c, .int .i64 s] w (TruePost w) := by
  go_enter Try.func6, Try.ntmps6
  go_wp2_with fail
  refine (awake_any w).mono ?_
  rintro e w1 ⟨rfl, b1⟩
  have F := few_no w1.heap.size 1 200 1 (fun _ => A) (fun _ => n) (fun _ => c) (w1.alloc (.cells #[.slice A n c] 22)) (by omega) (single_cells w1 _ A n c) (fun _ _ => hn) 0 (by omega) hbig
  have HF := Lib.hid F
  clear F
  go_wp2_with fail
  refine HF.out.mono ?_
  rintro e w2 ⟨rfl, rfl⟩
  go_wp2_with fail
  go_ret
  exact ⟨rfl, b1.alloc b1.size _⟩

/-- What both shifts answer: a number, or nil twice. -/
def ShiftPost (w : World) (ok : Bool) (V : Nat) (e : Ending) (w' : World) : Prop := ∃ v, e = .returned v ∧ Num w' v (if ok then V else 0) ∧ Below w.heap.size w w'
theorem num_nil (w : World) : Num w (.slice none 0 0) 0 := ⟨none, 0, 0, fun _ => 0, rfl, Sl.none_ _ _ _ _, .inl rfl, rfl⟩

def inR (s : Int) : Bool := decide (0 ≤ s) && decide (s ≤ 1048576)
theorem inR_yes {s : Int} (h : inR s = true) : ∃ k : Nat, s = (k : Int) ∧ k ≤ 1048576 := by
  simp [inR] at h
  exact ⟨s.toNat, by omega, by omega⟩
theorem inR_no {s : Int} (h : inR s = false) : s < 0 ∨ 1048576 < s := by
  simp [inR] at h
  omega

theorem shl_both (A : Option Addr) (n c : Nat) (x : Nat → Nat) (s : Int) (w : World) (ha : Sl w A n c x) (hn : n ≤ 400000) : Calls Try.prog 26 #[.slice A n c, .int .i64 s] w (ShiftPost w (inR s) (vs B64 x n * 2 ^ s.toNat)) := by
  cases h : inR s
  · exact (shl_no A n c s w (inR_no h)).mono fun e w' ⟨he, hw⟩ => ⟨_, he, by subst hw; exact num_nil w, by subst hw; exact Below.refl _ _⟩
  · obtain ⟨k, rfl, hk⟩ := inR_yes h
    exact (shl_any A n c x k w ha hn hk).mono fun e w' ⟨v, he, hv, hb⟩ => ⟨v, he, by rw [Int.toNat_natCast]; exact hv, hb⟩
theorem rshl_both (A : Option Addr) (n c : Nat) (x : Nat → Nat) (s : Int) (w : World) (ha : Sl w A n c x) (hn : n ≤ 400000) : Calls Try.prog 27 #[.slice A n c, .int .i64 s] w (ShiftPost w (inR s) (vs B64 x n * 2 ^ s.toNat)) := by
  cases h : inR s
  · exact (rshl_no A n c s w (inR_no h)).mono fun e w' ⟨he, hw⟩ => ⟨_, he, by subst hw; exact num_nil w, by subst hw; exact Below.refl _ _⟩
  · obtain ⟨k, rfl, hk⟩ := inR_yes h
    exact (rshl_any A n c x k w ha hn hk).mono fun e w' ⟨v, he, hv, hb⟩ => ⟨v, he, by rw [Int.toNat_natCast]; exact hv, hb⟩
theorem shr_both (A : Option Addr) (n c : Nat) (x : Nat → Nat) (s : Int) (w : World) (ha : Sl w A n c x) (hn : n ≤ 400000) : Calls Try.prog 28 #[.slice A n c, .int .i64 s] w (ShiftPost w (inR s) (vs B64 x n / 2 ^ s.toNat)) := by
  cases h : inR s
  · exact (shr_no A n c s w (inR_no h)).mono fun e w' ⟨he, hw⟩ => ⟨_, he, by subst hw; exact num_nil w, by subst hw; exact Below.refl _ _⟩
  · obtain ⟨k, rfl, hk⟩ := inR_yes h
    exact (shr_any A n c x k w ha hn hk).mono fun e w' ⟨v, he, hv, hb⟩ => ⟨v, he, by rw [Int.toNat_natCast]; exact hv, hb⟩
theorem rshr_both (A : Option Addr) (n c : Nat) (x : Nat → Nat) (s : Int) (w : World) (ha : Sl w A n c x) (hn : n ≤ 400000) : Calls Try.prog 29 #[.slice A n c, .int .i64 s] w (ShiftPost w (inR s) (vs B64 x n / 2 ^ s.toNat)) := by
  cases h : inR s
  · exact (rshr_no A n c s w (inR_no h)).mono fun e w' ⟨he, hw⟩ => ⟨_, he, by subst hw; exact num_nil w, by subst hw; exact Below.refl _ _⟩
  · obtain ⟨k, rfl, hk⟩ := inR_yes h
    exact (rshr_any A n c x k w ha hn hk).mono fun e w' ⟨v, he, hv, hb⟩ => ⟨v, he, by rw [Int.toNat_natCast]; exact hv, hb⟩

theorem shl_bound {V K M : Nat} {s : Int} (h : V < B64 ^ K) (hM : 1048576 ≤ 64 * M) : (if inR s then V * 2 ^ s.toNat else 0) < B64 ^ (K + M) := by
  split
  · rename_i hs
    obtain ⟨k, rfl, hk⟩ := inR_yes hs
    rw [Int.toNat_natCast]
    have h2 : 2 ^ k ≤ B64 ^ M := by rw [B64_pow, ← Nat.pow_mul]; exact Nat.pow_le_pow_right (by omega) (by omega)
    have h3 : V * 2 ^ k < B64 ^ K * B64 ^ M := Nat.mul_lt_mul_of_lt_of_le h h2 (Nat.pow_pos B64_pos)
    rw [← Nat.pow_add] at h3
    exact h3
  · exact Nat.pow_pos B64_pos
theorem shr_bound {V : Nat} {s : Int} (h : V < B64 ^ 200) : (if inR s then V / 2 ^ s.toNat else 0) < B64 ^ 200 := by
  split
  · exact Nat.lt_of_le_of_lt (Nat.div_le_self _ _) h
  · exact Nat.pow_pos B64_pos

set_option maxHeartbeats 2000000 in
theorem shifts_small (A : Option Addr) (n c : Nat) (x : Nat → Nat) (s : Int) (w : World) (ha : Sl w A n c x) (hn : n ≤ 200) :
    Calls Try.prog 6 #[.slice A n c, .int .i64 s] w (TruePost w) := by
  have KX := Lib.hid (Nat.lt_of_lt_of_le (vs_lt ha.small) (Nat.pow_le_pow_right B64_pos hn))
  go_enter Try.func6, Try.ntmps6
  go_wp2_with fail
  refine (awake_any w).mono ?_
  rintro e w1 ⟨rfl, b1⟩
  have F := few_yes w1.heap.size 1 200 1 (fun _ => A) (fun _ => n) (fun _ => c) (w1.alloc (.cells #[.slice A n c] 22)) (by omega) (single_cells w1 _ A n c) (fun _ _ => hn)
  have HF := Lib.hid F
  clear F
  go_wp2_with fail
  refine HF.out.mono ?_
  rintro e w2 ⟨rfl, rfl⟩
  have ha2 := (ha.below b1).alloc (.cells #[.slice A n c] 22)
  have b2 : Below w.heap.size w (w1.alloc (.cells #[.slice A n c] 22)) := b1.alloc b1.size _
  clear HF b1
  generalize w1.alloc (.cells #[.slice A n c] 22) = W at *
  go_wp2_with (at_builtin; refine wpList_append_words rfl (.tmp 12) (.tmp 13) 22 rfl W.heap.size 38 Try.underlying22 info64 _ 0 x rfl (Own.empty _ W _ _ (Nat.le_refl _)) A n c x rfl (ha2.alloc _) (by omega) (by simp) ?_; intro v1 w3 hown1 hbel1; obtain ⟨A1, c1, rfl, sx⟩ := copied hown1; have b3 : Below W.heap.size W w3 := hbel1 _ _ (Nat.le_refl _) ((Below.refl _ _).alloc (Nat.le_refl _) _))
  clear hown1 hbel1
  have a3 := ha2.below b3
  have bb : Below w.heap.size w w3 := b2.trans (b3.mono b2.size)
  clear ha ha2 b2 b3
  refine (shl_both A n c x s w3 a3 (by omega)).mono ?_
  rintro e w4 ⟨v4, rfl, n4, b4⟩
  go_wp2_with fail
  refine (rshl_both A1 n c1 x s w4 (sx.below b4) (by omega)).mono ?_
  rintro e w5 ⟨v5, rfl, n5, b⟩
  have b5 := b4.trans (b.mono b4.size)
  have n4' := n4.below b
  clear b n4
  go_wp2_with fail
  refine (same_num w5 n4' n5 (200 + 16384) (by omega) (shl_bound KX.out (by omega))).mono ?_
  rintro e w6 ⟨rfl, b⟩
  have b6 := b5.trans (b.mono b5.size)
  clear b n4' n5
  go_wp2_with fail
  refine (shr_both A n c x s w6 (a3.below b6) (by omega)).mono ?_
  rintro e w7 ⟨v7, rfl, n7, b⟩
  have b7 := b6.trans (b.mono b6.size)
  clear b
  go_wp2_with fail
  refine (rshr_both A1 n c1 x s w7 (sx.below b7) (by omega)).mono ?_
  rintro e w8 ⟨v8, rfl, n8, b⟩
  have b8 := b7.trans (b.mono b7.size)
  have n7' := n7.below b
  clear b n7
  go_wp2_with fail
  refine (same_num w8 n7' n8 200 (by omega) (shr_bound KX.out)).mono ?_
  rintro e w9 ⟨rfl, b⟩
  have b9 := b8.trans (b.mono b8.size)
  clear b n7' n8
  go_wp2_with fail
  refine (bits_any A n c x w9 (a3.below b9) (by omega)).mono ?_
  rintro e w10 ⟨B1, rfl, i1, b⟩
  have b10 := b9.trans (b.mono b9.size)
  clear b
  go_wp2_with fail
  refine (rbits_any A1 n c1 x w10 (sx.below b10) (by omega)).mono ?_
  rintro e w11 ⟨B2, rfl, i2, b⟩
  have b11 := b10.trans (b.mono b10.size)
  clear b
  obtain rfl := i1.unique i2
  clear i1 i2
  have hbb : ((B1 : Int) == (B1 : Int)) = true := by simp
  go_wp2_with fail
  refine (kept_any A A1 n c c1 x x w11 (a3.below b11) (sx.below b11) (by omega) (fun _ _ => rfl)).mono ?_
  rintro e w12 ⟨rfl, b⟩
  have b12 := b11.trans (b.mono b11.size)
  clear b
  go_wp2_with fail
  go_ret
  exact ⟨rfl, bb.trans (b12.mono bb.size)⟩

theorem shifts_any (A : Option Addr) (n c : Nat) (x : Nat → Nat) (s : Int) (w : World) (ha : Sl w A n c x) (hn : n ≤ 9223372036854775807) :
    Calls Try.prog 6 #[.slice A n c, .int .i64 s] w (TruePost w) := by
  by_cases h : n ≤ 200
  · exact shifts_small A n c x s w ha h
  · exact shifts_big A n c s w hn (by omega)
end Go.Proofs.Ytigobkjbckgniaa
