/-
  nat.lowest: the lowest bits of a number. First the copy of a slice that may be longer than the place.
-/
import Derived.Test.YthjndkkepailmaaRoot1
namespace Go.Proofs.Ythjndkkepailmaa
open Go.RowKit

section
variable {P : Program} {w : World} {ops : Array Oper} {rest : List Oper} {o : Oper} {a : Act} {Q : Exit → Act → World → Prop}
/-- copy(dst, src), src no shorter than dst. -/
theorem wpList_copy_cut (hgd : o.guard = none) (d s : Operand) (T : TypeId) (ho : o.op = .call { callee := .builtin .copy, args := #[d, s], argTypes := #[T, T] })
    (E : TypeId) (hu : P.underlying T = some (.slice E)) (hsz : (P.info? E).map (·.size) = some 1) (t : TypeId) (g N dCap : Nat) (F : Nat → Nat) (A : Option Addr) (sLen sCap : Nat) (f : Nat → Nat)
    (hd : a.eval d = .slice (some ⟨g, 0, none⟩) N dCap) (hs : a.eval s = .slice A sLen sCap) (hr : Row t w g N F) (hf : Sl w A sLen sCap f) (hN : 0 < N) (hle : N ≤ sLen)
    (h : ∀ w', Row t w' g N f → Only w w' g → wpList P ops Q rest (a.put o.dst (goInt N)) w') : wpList P ops Q (o :: rest) a w := by
  obtain ⟨ad, rfl, hb, hc⟩ := hf.2.2 (by omega)
  obtain ⟨⟨cur, hg, hcs, hcur⟩, hF⟩ := hr
  refine wpList_copy_own hgd d s T T ho E hu hsz g 0 N dCap ad sLen sCap hd hs cur t hg (cellsOf f N) (by rw [cellsOf_len]; exact (Nat.min_eq_right hle).symm)
    (fun j u hj => by obtain ⟨h1, rfl⟩ := cellsOf_at hj; exact hc j (by omega)) (by rw [cellsOf_len]; omega) cellsOf_one ?_
  rw [cellsOf_len]
  refine h _ ⟨⟨_, setRow_heap w g _ _ t _ hg, ?_, fun j hj => ?_⟩, fun j hj => hf.2.1 j (by omega)⟩ ⟨rfl, rfl, rfl, by simp [World.setRow], fun k _ hk => setRow_other w g k _ (by simpa using hk)⟩
  · first | (simp [cellsOf_len]; done) | (simp [cellsOf_len]; omega)
  · simp only [List.take_zero, List.nil_append, Nat.zero_add, List.getElem?_toArray]
    rw [List.getElem?_append_left (by rw [cellsOf_len]; exact hj), cellsOf_get hj]
end

/-- x, and zeros behind its n words. -/
def low0 (x : Nat → Nat) (n : Nat) : Nat → Nat := fun j => if j < n then x j else 0
theorem low_mod (G : Nat → Nat) (W L r : Nat) (hr : r ≤ 63) (hG : ∀ j, G j < B64) : vs B64 (upd G W (G W % 2 ^ r)) (W + 1) = vs B64 G (W + (L + 1)) % (B64 ^ W * 2 ^ r) := by
  have hp : 0 < B64 ^ W := Nat.pow_pos B64_pos
  have h1 : vs B64 G W < B64 ^ W := vs_lt fun j _ => hG j
  have e1 : vs B64 G (W + (L + 1)) % B64 ^ W = vs B64 G W := by rw [vs_add, Nat.add_mul_mod_self_left, Nat.mod_eq_of_lt h1]
  have e2 : vs B64 G (W + (L + 1)) / B64 ^ W = vs B64 (fun j => G (W + j)) (L + 1) := by rw [vs_add, Nat.add_mul_div_left _ _ hp, Nat.div_eq_of_lt h1, Nat.zero_add]
  have e3 : vs B64 (fun j => G (W + j)) (L + 1) % 2 ^ r = G W % 2 ^ r := by
    rw [vs_cons, B64_pow, show (2 : Nat) ^ 64 = 2 ^ r * 2 ^ (64 - r) by rw [← Nat.pow_add]; congr 1; omega, Nat.mul_assoc, Nat.add_mul_mod_self_left, Nat.add_zero]
  rw [Nat.mod_mul, e1, e2, e3, vs_succ, upd_same, vs_upd_ge _ _ _ _ _ (Nat.le_refl _), Nat.mul_comm (B64 ^ W)]
theorem low0_vs (x : Nat → Nat) (n W : Nat) : vs B64 (low0 x n) (W + (n + 1)) = vs B64 x n := vs_pad B64 x n _ (by omega)

set_option maxHeartbeats 400000 in
theorem lowest_core (A : Option Addr) (n c : Nat) (x : Nat → Nat) (s W r P : Nat) (w : World) (ha : Sl w A n c x) (hW : W ≤ 400000) (hr : r ≤ 63) (eW : (s : Int) / 64 = (W : Int)) (er : (s : Int) % 64 = (r : Int)) (hs : s ≤ 30000000)
    (eP : IntKind.u64.wrap ((2 : Int) ^ r) = (P : Int)) (hP1 : 1 ≤ P) (hP2 : P ≤ 9223372036854775808) (hPr : Hid (P = 2 ^ r)) :
    Calls Try.prog 29 #[.slice A n c, .int .i64 (s : Int)] w (NumPost w (vs B64 x n % (B64 ^ W * 2 ^ r))) := by
  have hmk : ∀ u : World, (Instr.makeSlice 22 (.int .i64 ((W : Int) + 1)) (.int .i64 ((W : Int) + 1))).run Try.prog u =
      .ok (.slice (some ⟨u.heap.size, 0, none⟩) (W + 1) (W + 1)) (u.alloc (.cells (madeCells #[.int .u64 0] (W + 1)) 25)) := fun u => make_run (W + 1) (by omega) u
  have hrow := Row.made 25 w (W + 1)
  have hbe : Below w.heap.size w (w.alloc (.cells (madeCells #[.int .u64 0] (W + 1)) 25)) := (Below.refl _ w).alloc (Nat.le_refl _) _
  have sA := ha.alloc (.cells (madeCells #[.int .u64 0] (W + 1)) 25)
  have hG : ∀ j, low0 x n j < B64 := fun j => by
    unfold low0; split
    · exact ha.small j (by assumption)
    · exact B64_pos
  have hval := Lib.hid (low_mod (low0 x n) W n r hr hG)
  rw [low0_vs] at hval
  have hg1 := hG W
  have hand : bits .and .u64 ((low0 x n W : Nat) : Int) ((P : Int) - 1) = ((low0 x n W % P : Nat) : Int) := by
    have e := u64_and_nat (low0 x n W) (P - 1) (by unfold B64 at hg1; omega) (by omega)
    rw [show (((P - 1 : Nat)) : Int) = (P : Int) - 1 by omega] at e
    rw [e, hPr.out, Nat.and_two_pow_sub_one_eq_mod]
  rw [← hPr.out] at hval
  have hres : low0 x n W % P < B64 := Nat.lt_of_le_of_lt (Nat.mod_le _ _) hg1
  have HR := Lib.hid hres
  clear hres hG hg1
  obtain ⟨v, hv⟩ : ∃ v, Hid (low0 x n W % P = v) := ⟨_, Lib.hid rfl⟩
  obtain ⟨g, hg⟩ : ∃ g, Hid (low0 x n W = g) := ⟨_, Lib.hid rfl⟩
  rw [hv.out] at hval HR
  rw [hv.out, hg.out] at hand
  have KEY : Hid (∀ w2, Row 25 w2 w.heap.size (W + 1) (low0 x n) → w2.cell? ⟨w.heap.size, W, none⟩ = some (.int .u64 (g : Int)) ∧ w2.frozen? ⟨w.heap.size, W, none⟩ = false ∧
      Row 25 (w2.setCell ⟨w.heap.size, W, none⟩ (.int .u64 ((v : Nat) : Int))) w.heap.size (W + 1) (upd (low0 x n) W v)) := Lib.hid fun w2 h => by
    have h1 := h.cell (i := W) (by omega)
    rw [hg.out] at h1
    exact ⟨h1, h.frozen W, h.set_ W v HR.out⟩
  rcases Nat.lt_or_ge (W + 1) n with hlen | hlen
  · have hcg : Hid (∀ j, j < W + 1 → x j = low0 x n j) := Lib.hid fun j hj => by unfold low0; rw [if_pos (by omega)]
    go_enter Try.func29, Try.ntmps29
    go_wp2_with (with_reducible refine wpList_copy_cut rfl (.tmp 16) (.tmp 17) 22 rfl 25 Try.underlying22 size64 25 w.heap.size (W + 1) (W + 1) _ A n c x rfl rfl hrow sA (by omega) (by omega) ?_; intro w2 hrow2 hon2; obtain ⟨hrc, hrf, hrow3⟩ := KEY.out w2 (hrow2.congr hcg.out))
    have b2 := Only.below hbe hon2 hbe.size (Nat.le_refl _)
    have b3 := b2.setCell (p := ⟨w.heap.size, W, none⟩) (Nat.le_refl _) (.int .u64 ((v : Nat) : Int))
    have hsl := hrow3.sl0 (W + 1) (W + 1) (Nat.le_refl _) (Nat.le_refl _)
    refine (view_raw _ (W + 1) (W + 1) _ _ hsl (by omega)).mono ?_
    rintro e w5 ⟨rfl, rfl⟩
    have hnum := viewV_num hsl
    rw [hval.out, hPr.out] at hnum
    go_wp2_with fail
    go_ret
    exact ⟨_, rfl, hnum, b3⟩
  · have hcg : Hid (∀ j, j < W + 1 → (if j < n then x j else 0) = low0 x n j) := Lib.hid fun j hj => rfl
    go_enter Try.func29, Try.ntmps29
    go_wp2_with (with_reducible refine wpList_copy_words rfl (.tmp 16) (.tmp 17) 22 rfl 25 Try.underlying22 size64 25 w.heap.size (W + 1) (W + 1) (W + 1) _ A n c x rfl rfl hrow (Nat.le_refl _) sA (by omega) ?_; intro w2 hrow2 hon2; obtain ⟨hrc, hrf, hrow3⟩ := KEY.out w2 (hrow2.congr hcg.out))
    have b2 := Only.below hbe hon2 hbe.size (Nat.le_refl _)
    have b3 := b2.setCell (p := ⟨w.heap.size, W, none⟩) (Nat.le_refl _) (.int .u64 ((v : Nat) : Int))
    have hsl := hrow3.sl0 (W + 1) (W + 1) (Nat.le_refl _) (Nat.le_refl _)
    refine (view_raw _ (W + 1) (W + 1) _ _ hsl (by omega)).mono ?_
    rintro e w5 ⟨rfl, rfl⟩
    have hnum := viewV_num hsl
    rw [hval.out, hPr.out] at hnum
    go_wp2_with fail
    go_ret
    exact ⟨_, rfl, hnum, b3⟩

theorem lowest_any (A : Option Addr) (n c : Nat) (x : Nat → Nat) (s : Nat) (w : World) (ha : Sl w A n c x) (hs : s ≤ 20000000) :
    Calls Try.prog 29 #[.slice A n c, .int .i64 (s : Int)] w (NumPost w (vs B64 x n % 2 ^ s)) := by
  rw [pow_split s]
  have hr : s % 64 ≤ 63 := by omega
  have h63 : 2 ^ (s % 64) ≤ 2 ^ 63 := Nat.pow_le_pow_right (by omega) hr
  refine lowest_core A n c x s (s / 64) (s % 64) (2 ^ (s % 64)) w ha (by omega) hr (by omega) (by omega) (by omega) ?_ (Nat.two_pow_pos _) h63 (Lib.hid rfl)
  have e := shl_word 1 (s % 64)
  have e2 : 2 ^ (s % 64) % B64 = 2 ^ (s % 64) := Nat.mod_eq_of_lt (by rw [B64_pow]; exact Nat.lt_of_le_of_lt h63 (by decide))
  rw [Nat.one_mul, e2, show ((1 : Nat) : Int) * 2 ^ (s % 64) = 2 ^ (s % 64) by simp] at e
  exact e
end Go.Proofs.Ythjndkkepailmaa
