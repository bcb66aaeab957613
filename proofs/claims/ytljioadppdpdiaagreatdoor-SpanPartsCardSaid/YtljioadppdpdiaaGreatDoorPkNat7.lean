/-
  nat.rootWord, nat.join: the root of a word; two numbers as one.
  nat.lowest: the lowest bits of a number. First the copy of a slice that may be longer than the place.
  nat.rootShort: the root of one word, or of none.
  nat.root, nat.Sqrt: the root of a number, and what is left.
-/
import Derived.Deep.RegionWith
import Derived.Test.YtljioadppdpdiaaGreatDoorPkNumbers
import Derived.Test.YtljioadppdpdiaaGreatDoorPkNat1
import Derived.Test.YtljioadppdpdiaaGreatDoorPkNat2
import Derived.Test.YtljioadppdpdiaaGreatDoorPkNat3
import Derived.Test.YtljioadppdpdiaaGreatDoorPkNat6
namespace Go.Proofs.YtljioadppdpdiaaGreatDoor
open Go.RowKit

/-- The bits of a's root above k are in r. -/
def RW (a r b k : Nat) : Prop := b = 2 ^ k / 2 ∧ r % 2 ^ k = 0 ∧ r + 2 ^ k ≤ 4294967296 ∧ r * r ≤ a ∧ a < (r + 2 ^ k) * (r + 2 ^ k)
theorem RW.pos {a r b k : Nat} (h : RW a r b k) (hb : 0 < b) : ∃ m, k = m + 1 ∧ b = 2 ^ m := by
  rcases k with _ | m
  · have := h.1; simp at this; omega
  · refine ⟨m, rfl, ?_⟩
    rw [h.1, Nat.pow_succ]; omega
theorem RW.or {a r b k : Nat} (h : RW a r b k) (hb : 0 < b) : r ||| b = r + b := by
  obtain ⟨m, rfl, rfl⟩ := h.pos hb
  obtain ⟨_, h2, _⟩ := h
  have hlt : 2 ^ m < 2 ^ (m + 1) := by rw [Nat.pow_succ]; have := Nat.two_pow_pos m; omega
  have e : r = 2 ^ (m + 1) * (r / 2 ^ (m + 1)) := by have := Nat.div_add_mod r (2 ^ (m + 1)); omega
  rw [e, Nat.two_pow_add_eq_or_of_lt hlt]
theorem RW.two {a r b k : Nat} (h : RW a r b k) (hb : 0 < b) : r + b + b ≤ 4294967296 := by
  obtain ⟨m, rfl, rfl⟩ := h.pos hb
  have := h.2.2.1
  rw [Nat.pow_succ] at this
  omega
theorem RW.yes {a r b k : Nat} (h : RW a r b k) (hb : 0 < b) (hp : (r + b) * (r + b) ≤ a) : ∃ m, RW a (r + b) (b / 2) m := by
  obtain ⟨m, rfl, rfl⟩ := h.pos hb
  obtain ⟨_, h2, h3, _, h5⟩ := h
  refine ⟨m, rfl, ?_, by rw [Nat.pow_succ] at h3; omega, hp, ?_⟩
  · have e : r % 2 ^ m = 0 := by
      have : r % (2 ^ m * 2) = 0 := by rw [← Nat.pow_succ]; exact h2
      exact Nat.mod_eq_zero_of_dvd (Nat.dvd_trans (Nat.dvd_mul_right _ _) (Nat.dvd_of_mod_eq_zero this))
    rw [Nat.add_mod, e]; simp
  · rw [show r + 2 ^ m + 2 ^ m = r + 2 ^ (m + 1) by rw [Nat.pow_succ]; omega]; exact h5
theorem RW.no {a r b k : Nat} (h : RW a r b k) (hb : 0 < b) (hp : a < (r + b) * (r + b)) : ∃ m, RW a r (b / 2) m := by
  obtain ⟨m, rfl, rfl⟩ := h.pos hb
  obtain ⟨_, h2, h3, h4, _⟩ := h
  refine ⟨m, rfl, ?_, by rw [Nat.pow_succ] at h3; omega, h4, hp⟩
  have : r % (2 ^ m * 2) = 0 := by rw [← Nat.pow_succ]; exact h2
  exact Nat.mod_eq_zero_of_dvd (Nat.dvd_trans (Nat.dvd_mul_right _ _) (Nat.dvd_of_mod_eq_zero this))
theorem RW.fin {a r k : Nat} (h : RW a r 0 k) : r * r ≤ a ∧ a < (r + 1) * (r + 1) ∧ r < 4294967296 := by
  rcases k with _ | m
  · obtain ⟨_, _, h3, h4, h5⟩ := h
    simp only [Nat.pow_zero] at h3 h5
    exact ⟨h4, h5, by omega⟩
  · have := h.1
    rw [Nat.pow_succ] at this
    have := Nat.two_pow_pos m
    omega
theorem RW.start {a : Nat} (h : a < B64) : RW a 0 2147483648 32 := by
  refine ⟨by decide, by decide, by decide, by omega, ?_⟩
  have e : B64 = (0 + 2 ^ 32) * (0 + 2 ^ 32) := by unfold B64; decide
  omega

theorem sq_lt {t : Nat} (h : t < 4294967296) : t * t < B64 := by
  have h1 : t * t ≤ 4294967295 * 4294967295 := Nat.mul_le_mul (by omega) (by omega)
  have h2 : 4294967295 * 4294967295 < B64 := by unfold B64; decide
  omega

def RootPost (w : World) (a : Nat) (e : Ending) (w' : World) : Prop := ∃ r : Nat, e = .returned (.int .u64 (r : Int)) ∧ r * r ≤ a ∧ a < (r + 1) * (r + 1) ∧ r < 4294967296 ∧ w = w'

set_option maxHeartbeats 400000 in
theorem rootword_any (a : Nat) (ha : a < B64) (w : World) : Calls Tryz.prog 130 #[.int .u64 (a : Int)] w (RootPost w a) := by
  have h00 := Lib.hid (RW.start ha)
  go_enter Tryz.func130, Tryz.ntmps130
  go_wp2_with fail
  go_loop [3, 4] (fun s3 s4 => ∃ k r b : Nat, s3 = .int .u64 (r : Int) ∧ s4 = .int .u64 (b : Int) ∧ Hid (RW a r b k)) (fun _ s4 => (intOf s4).toNat)
  case atStart => exact ⟨32, 0, 2147483648, rfl, rfl, h00⟩
  case round =>
    clear h00
    obtain ⟨k, r, b, rfl, rfl, hI⟩ := hrel
    rcases Nat.eq_zero_or_pos b with hb | hb
    · subst hb
      have hf := Lib.hid hI.out.fin
      go_wp2_with fail
      go_ret
      exact ⟨r, rfl, hf.out.1, hf.out.2.1, hf.out.2.2, rfl⟩
    · have h2 := hI.out.two hb
      have eo : bits .or .u64 (r : Int) (b : Int) = ((r + b : Nat) : Int) := by rw [u64_or_nat r b (by omega) (by omega), hI.out.or hb]
      have hy := Lib.hid (hI.out.yes hb)
      have hn := Lib.hid (hI.out.no hb)
      have ht : r + b < 4294967296 := by omega
      have hsq := sq_lt ht
      have em : IntKind.u64.wrap (((r + b : Nat) : Int) * ((r + b : Nat) : Int)) = (((r + b) * (r + b) : Nat) : Int) := by rw [← Int.natCast_mul]; exact u64_nat _ (by unfold B64 at hsq; omega)
      have hb1 : b / 2 < b := by omega
      generalize (r + b) * (r + b) = p at *
      generalize r + b = t at *
      have es : (b : Int) / 2 = ((b / 2 : Nat) : Int) := by omega
      generalize b / 2 = b1 at *
      by_cases hp : p ≤ a
      · obtain ⟨m, hm⟩ := hy.out hp
        have HM := Lib.hid hm
        clear hm hy hn hI
        go_wp2_with fail
        go_round
        case rel => exact ⟨m, t, b1, by go_num, by go_num, HM⟩
        case measure => simp [intOf]; omega
      · obtain ⟨m, hm⟩ := hn.out (by omega)
        have HM := Lib.hid hm
        clear hm hy hn hI
        go_wp2_with fail
        go_round
        case rel => exact ⟨m, r, b1, by go_num, by go_num, HM⟩
        case measure => simp [intOf]; omega

/-- A number's words: no more than its size asks. -/
theorem Num.sl' {w : World} {v : Value} {V K : Nat} (h : Num w v V) (hK : V < B64 ^ K) : ∃ A n c f, v = .slice A n c ∧ Sl w A n c f ∧ n ≤ K ∧ Cn n f ∧ vs B64 f n = V := by
  obtain ⟨A, n, c, f, hv, hs, hc, he⟩ := h
  exact ⟨A, n, c, f, hv, hs, cn_le B64_gt hc (by rw [he]; exact hK), hc, he⟩
theorem raised_lt {X n k : Nat} (h : X < B64 ^ n) : X * 2 ^ k < B64 ^ (n + (k / 64 + 1)) := by
  have h1 : (2 : Nat) ^ k ≤ B64 ^ (k / 64 + 1) := by
    rw [B64_pow, ← Nat.pow_mul]
    exact Nat.pow_le_pow_right (by omega) (by omega)
  rw [Nat.pow_add]
  exact Nat.mul_lt_mul_of_lt_of_le h h1 (Nat.pow_pos B64_pos)

set_option maxHeartbeats 400000 in
theorem join_any (A B : Option Addr) (n m c d : Nat) (x y : Nat → Nat) (k : Nat) (w : World) (ha : Sl w A n c x) (hb : Sl w B m d y) (hn : n ≤ 400000) (hm : m ≤ 900000) (hk : k ≤ 20000000) :
    Calls Tryz.prog 124 #[.slice A n c, .slice B m d, .int .i64 (k : Int)] w (NumPost w (vs B64 x n * 2 ^ k + vs B64 y m)) := by
  have hlt := Lib.hid (raised_lt (k := k) (vs_lt ha.small))
  go_enter Tryz.func124, Tryz.ntmps124
  go_wp2_with fail
  refine (raise_any A n c x k w ha hn hk).mono ?_
  rintro e w1 ⟨v1, rfl, n1, b1⟩
  obtain ⟨A1, p, c1, f, rfl, s1, hp, _, hv⟩ := n1.sl' hlt.out
  have HV := Lib.hid hv
  clear hv n1
  go_wp2_with fail
  refine (add_any A1 B p m c1 d f y w1 s1 (hb.below b1) (by omega) hm).mono ?_
  rintro e w2 ⟨v2, rfl, n2, b2⟩
  rw [HV.out] at n2
  go_wp2_with fail
  go_ret
  exact ⟨v2, rfl, n2, b1.trans (b2.mono b1.size)⟩
end Go.Proofs.YtljioadppdpdiaaGreatDoor

namespace Go.Proofs.YtljioadppdpdiaaGreatDoor
open Go.RowKit

section
variable {P : Program} {w : World} {ops : Array Oper} {rest : List Oper} {o : Oper} {a : Act} {Q : Exit → Act → World → Prop}
/-- copy(dst, src), src no shorter than dst. -/
theorem wpList_copy_cut (hgd : o.guard = none) (d s : Operand) (T : TypeId) (ho : o.op = .call { callee := .builtin .copy, args := #[d, s], argTypes := #[T, T] })
    (E : TypeId) (hu : P.underlying T = some (.slice E)) (hsz : (P.info? E).map (·.size) = some 1) (t : TypeId) (g N dCap : Nat) (F : Nat → Nat) (A : Option Addr) (sLen sCap : Nat) (f : Nat → Nat)
    (hd : a.eval d = .slice (some ⟨g, 0, none⟩) N dCap) (hs : a.eval s = .slice A sLen sCap) (hr : Row t w g N F) (hf : Sl w A sLen sCap f) (hN : 0 < N) (hle : N ≤ sLen)
    (h : ∀ w', Row t w' g N f → Only w w' g → wpList P ops Q rest (a.put o.dst (goInt N)) w') : wpList P ops Q (o :: rest) a w := by
  obtain ⟨ad, rfl, hb, hc⟩ := hf.2.2 (by omega)
  obtain ⟨⟨cur, hg, hcs, hcur⟩, hF⟩ := hr
  refine wpList_copy_own hgd d s T T ho E hu hsz g 0 N dCap ad sLen sCap hd hs cur t hg (cellsOf f N) (by rw [cellsOf_len]; exact (Nat.min_eq_right hle).symm)
    (fun j u hj => by obtain ⟨h1, rfl⟩ := cellsOf_at hj; exact hc j (by omega)) (by rw [cellsOf_len]; omega) cellsOf_one ?_
  rw [cellsOf_len]
  refine h _ ⟨⟨_, setRow_heap w g _ _ t _ hg, ?_, fun j hj => ?_⟩, fun j hj => hf.2.1 j (by omega)⟩ ⟨rfl, rfl, rfl, by simp [World.setRow], fun k _ hk => setRow_other w g k _ (by simpa using hk)⟩
  · first | (simp [cellsOf_len]; done) | (simp [cellsOf_len]; omega)
  · simp only [List.take_zero, List.nil_append, Nat.zero_add, List.getElem?_toArray]
    rw [List.getElem?_append_left (by rw [cellsOf_len]; exact hj), cellsOf_get hj]
end

/-- x, and zeros behind its n words. -/
def low0 (x : Nat → Nat) (n : Nat) : Nat → Nat := fun j => if j < n then x j else 0
theorem low_mod (G : Nat → Nat) (W L r : Nat) (hr : r ≤ 63) (hG : ∀ j, G j < B64) : vs B64 (upd G W (G W % 2 ^ r)) (W + 1) = vs B64 G (W + (L + 1)) % (B64 ^ W * 2 ^ r) := by
  have hp : 0 < B64 ^ W := Nat.pow_pos B64_pos
  have h1 : vs B64 G W < B64 ^ W := vs_lt fun j _ => hG j
  have e1 : vs B64 G (W + (L + 1)) % B64 ^ W = vs B64 G W := by rw [vs_add, Nat.add_mul_mod_self_left, Nat.mod_eq_of_lt h1]
  have e2 : vs B64 G (W + (L + 1)) / B64 ^ W = vs B64 (fun j => G (W + j)) (L + 1) := by rw [vs_add, Nat.add_mul_div_left _ _ hp, Nat.div_eq_of_lt h1, Nat.zero_add]
  have e3 : vs B64 (fun j => G (W + j)) (L + 1) % 2 ^ r = G W % 2 ^ r := by
    rw [vs_cons, B64_pow, show (2 : Nat) ^ 64 = 2 ^ r * 2 ^ (64 - r) by rw [← Nat.pow_add]; congr 1; omega, Nat.mul_assoc, Nat.add_mul_mod_self_left, Nat.add_zero]
  rw [Nat.mod_mul, e1, e2, e3, vs_succ, upd_same, vs_upd_ge _ _ _ _ _ (Nat.le_refl _), Nat.mul_comm (B64 ^ W)]
theorem low0_vs (x : Nat → Nat) (n W : Nat) : vs B64 (low0 x n) (W + (n + 1)) = vs B64 x n := vs_pad B64 x n _ (by omega)

set_option maxHeartbeats 400000 in
theorem lowest_core (A : Option Addr) (n c : Nat) (x : Nat → Nat) (s W r P : Nat) (w : World) (ha : Sl w A n c x) (hW : W ≤ 400000) (hr : r ≤ 63) (eW : (s : Int) / 64 = (W : Int)) (er : (s : Int) % 64 = (r : Int)) (hs : s ≤ 30000000)
    (eP : IntKind.u64.wrap ((2 : Int) ^ r) = (P : Int)) (hP1 : 1 ≤ P) (hP2 : P ≤ 9223372036854775808) (hPr : Hid (P = 2 ^ r)) :
    Calls Tryz.prog 123 #[.slice A n c, .int .i64 (s : Int)] w (NumPost w (vs B64 x n % (B64 ^ W * 2 ^ r))) := by
  have hmk : ∀ u : World, (Instr.makeSlice 24 (.int .i64 ((W : Int) + 1)) (.int .i64 ((W : Int) + 1))).run Tryz.prog u =
      .ok (.slice (some ⟨u.heap.size, 0, none⟩) (W + 1) (W + 1)) (u.alloc (.cells (madeCells #[.int .u64 0] (W + 1)) 42)) := fun u => make_run (W + 1) (by omega) u
  have hrow := Row.made 42 w (W + 1)
  have hbe : Below w.heap.size w (w.alloc (.cells (madeCells #[.int .u64 0] (W + 1)) 42)) := (Below.refl _ w).alloc (Nat.le_refl _) _
  have sA := ha.alloc (.cells (madeCells #[.int .u64 0] (W + 1)) 42)
  have hG : ∀ j, low0 x n j < B64 := fun j => by
    unfold low0; split
    · exact ha.small j (by assumption)
    · exact B64_pos
  have hval := Lib.hid (low_mod (low0 x n) W n r hr hG)
  rw [low0_vs] at hval
  have hg1 := hG W
  have hand : bits .and .u64 ((low0 x n W : Nat) : Int) ((P : Int) - 1) = ((low0 x n W % P : Nat) : Int) := by
    have e := u64_and_nat (low0 x n W) (P - 1) (by unfold B64 at hg1; omega) (by omega)
    rw [show (((P - 1 : Nat)) : Int) = (P : Int) - 1 by omega] at e
    rw [e, hPr.out, Nat.and_two_pow_sub_one_eq_mod]
  rw [← hPr.out] at hval
  have hres : low0 x n W % P < B64 := Nat.lt_of_le_of_lt (Nat.mod_le _ _) hg1
  have HR := Lib.hid hres
  clear hres hG hg1
  obtain ⟨v, hv⟩ : ∃ v, Hid (low0 x n W % P = v) := ⟨_, Lib.hid rfl⟩
  obtain ⟨g, hg⟩ : ∃ g, Hid (low0 x n W = g) := ⟨_, Lib.hid rfl⟩
  rw [hv.out] at hval HR
  rw [hv.out, hg.out] at hand
  have KEY : Hid (∀ w2, Row 42 w2 w.heap.size (W + 1) (low0 x n) → w2.cell? ⟨w.heap.size, W, none⟩ = some (.int .u64 (g : Int)) ∧ w2.frozen? ⟨w.heap.size, W, none⟩ = false ∧
      Row 42 (w2.setCell ⟨w.heap.size, W, none⟩ (.int .u64 ((v : Nat) : Int))) w.heap.size (W + 1) (upd (low0 x n) W v)) := Lib.hid fun w2 h => by
    have h1 := h.cell (i := W) (by omega)
    rw [hg.out] at h1
    exact ⟨h1, h.frozen W, h.set_ W v HR.out⟩
  rcases Nat.lt_or_ge (W + 1) n with hlen | hlen
  · have hcg : Hid (∀ j, j < W + 1 → x j = low0 x n j) := Lib.hid fun j hj => by unfold low0; rw [if_pos (by omega)]
    go_enter Tryz.func123, Tryz.ntmps123
    go_wp2_with (with_reducible refine wpList_copy_cut rfl (.tmp 16) (.tmp 17) 24 rfl 42 Tryz.underlying24 size64 42 w.heap.size (W + 1) (W + 1) _ A n c x rfl rfl hrow sA (by omega) (by omega) ?_; intro w2 hrow2 hon2; obtain ⟨hrc, hrf, hrow3⟩ := KEY.out w2 (hrow2.congr hcg.out))
    have b2 := Only.below hbe hon2 hbe.size (Nat.le_refl _)
    have b3 := b2.setCell (p := ⟨w.heap.size, W, none⟩) (Nat.le_refl _) (.int .u64 ((v : Nat) : Int))
    have hsl := hrow3.sl0 (W + 1) (W + 1) (Nat.le_refl _) (Nat.le_refl _)
    refine (view_raw _ (W + 1) (W + 1) _ _ hsl (by omega)).mono ?_
    rintro e w5 ⟨rfl, rfl⟩
    have hnum := viewV_num hsl
    rw [hval.out, hPr.out] at hnum
    go_wp2_with fail
    go_ret
    exact ⟨_, rfl, hnum, b3⟩
  · have hcg : Hid (∀ j, j < W + 1 → (if j < n then x j else 0) = low0 x n j) := Lib.hid fun j hj => rfl
    go_enter Tryz.func123, Tryz.ntmps123
    go_wp2_with (with_reducible refine wpList_copy_words rfl (.tmp 16) (.tmp 17) 24 rfl 42 Tryz.underlying24 size64 42 w.heap.size (W + 1) (W + 1) (W + 1) _ A n c x rfl rfl hrow (Nat.le_refl _) sA (by omega) ?_; intro w2 hrow2 hon2; obtain ⟨hrc, hrf, hrow3⟩ := KEY.out w2 (hrow2.congr hcg.out))
    have b2 := Only.below hbe hon2 hbe.size (Nat.le_refl _)
    have b3 := b2.setCell (p := ⟨w.heap.size, W, none⟩) (Nat.le_refl _) (.int .u64 ((v : Nat) : Int))
    have hsl := hrow3.sl0 (W + 1) (W + 1) (Nat.le_refl _) (Nat.le_refl _)
    refine (view_raw _ (W + 1) (W + 1) _ _ hsl (by omega)).mono ?_
    rintro e w5 ⟨rfl, rfl⟩
    have hnum := viewV_num hsl
    rw [hval.out, hPr.out] at hnum
    go_wp2_with fail
    go_ret
    exact ⟨_, rfl, hnum, b3⟩

theorem lowest_any (A : Option Addr) (n c : Nat) (x : Nat → Nat) (s : Nat) (w : World) (ha : Sl w A n c x) (hs : s ≤ 20000000) :
    Calls Tryz.prog 123 #[.slice A n c, .int .i64 (s : Int)] w (NumPost w (vs B64 x n % 2 ^ s)) := by
  rw [pow_split s]
  have hr : s % 64 ≤ 63 := by omega
  have h63 : 2 ^ (s % 64) ≤ 2 ^ 63 := Nat.pow_le_pow_right (by omega) hr
  refine lowest_core A n c x s (s / 64) (s % 64) (2 ^ (s % 64)) w ha (by omega) hr (by omega) (by omega) (by omega) ?_ (Nat.two_pow_pos _) h63 (Lib.hid rfl)
  have e := shl_word 1 (s % 64)
  have e2 : 2 ^ (s % 64) % B64 = 2 ^ (s % 64) := Nat.mod_eq_of_lt (by rw [B64_pow]; exact Nat.lt_of_le_of_lt h63 (by decide))
  rw [Nat.one_mul, e2, show ((1 : Nat) : Int) * 2 ^ (s % 64) = 2 ^ (s % 64) by simp] at e
  exact e
end Go.Proofs.YtljioadppdpdiaaGreatDoor

namespace Go.Proofs.YtljioadppdpdiaaGreatDoor
open Go.RowKit

def TwoPost (w : World) (a : Nat) (e : Ending) (w' : World) : Prop := ∃ v u s r, e = .returned (.tuple #[v, u]) ∧ Num w' v s ∧ Num w' u r ∧ IsRoot a s r ∧ Below w.heap.size w w'

theorem one_sl2 (t : TypeId) (w : World) (o : Obj) (r : Nat) (hr : r < B64) : Sl ((w.alloc o).alloc (.cells #[.int .u64 ((r : Nat) : Int)] t)) (some ⟨w.heap.size + 1, 0, none⟩) 1 1 (fun _ => r) := by
  have h := one_sl t (w.alloc o) r hr
  rw [show (w.alloc o).heap.size = w.heap.size + 1 by simp] at h
  exact h

set_option maxHeartbeats 1000000 in
theorem rootshort_one (A : Option Addr) (c : Nat) (x : Nat → Nat) (w : World) (ha : Sl w A 1 c x) :
    Calls Tryz.prog 122 #[.slice A 1 c] w (TwoPost w (x 0)) := by
  obtain ⟨ad, rfl, hb, hx, hc⟩ := ha.at_ (k := 0) (by omega)
  rw [show ad.add 0 = ad from by simp [Addr.add]] at hc
  generalize x 0 = a at *
  go_enter Tryz.func122, Tryz.ntmps122
  go_wp2_with fail
  refine (rootword_any a hx w).mono ?_
  rintro e w1 ⟨r, rfl, h1, h2, h3, rfl⟩
  have hR := Lib.hid (IsRoot.one h1 h2)
  have hr : r < B64 := by unfold B64; omega
  have em : IntKind.u64.wrap ((r : Int) * (r : Int)) = ((r * r : Nat) : Int) := by rw [← Int.natCast_mul]; exact u64_nat _ (by unfold B64 at hx; omega)
  clear h2
  generalize r * r = q at *
  obtain ⟨t, ht⟩ : ∃ t, t = a - q := ⟨_, rfl⟩
  have es : IntKind.u64.wrap ((a : Int) - (q : Int)) = (t : Int) := by rw [show (a : Int) - (q : Int) = (t : Int) by omega]; exact u64_nat _ (by unfold B64 at hx; omega)
  rw [← ht] at hR
  have htl : t < B64 := by omega
  clear ht
  have rt1 : Hid (Num ((w.alloc (.cells #[.int .u64 ((r : Nat) : Int)] 42)).alloc (.cells #[.int .u64 ((t : Nat) : Int)] 42)) (viewV (some ⟨w.heap.size, 0, none⟩) 1 (tl (fun _ => r) 1)) r) := Lib.hid (by
    have h := viewV_num ((one_sl 42 w r hr).alloc (.cells #[.int .u64 ((t : Nat) : Int)] 42))
    rw [vs_one] at h; exact h)
  have rt2 : Hid (Num ((w.alloc (.cells #[.int .u64 ((r : Nat) : Int)] 42)).alloc (.cells #[.int .u64 ((t : Nat) : Int)] 42)) (viewV (some ⟨w.heap.size + 1, 0, none⟩) 1 (tl (fun _ => t) 1)) t) := Lib.hid (by
    have h := viewV_num (one_sl2 42 w (.cells #[.int .u64 ((r : Nat) : Int)] 42) t htl)
    rw [vs_one] at h; exact h)
  have tr1 : Hid (Num ((w.alloc (.cells #[.int .u64 ((t : Nat) : Int)] 42)).alloc (.cells #[.int .u64 ((r : Nat) : Int)] 42)) (viewV (some ⟨w.heap.size + 1, 0, none⟩) 1 (tl (fun _ => r) 1)) r) := Lib.hid (by
    have h := viewV_num (one_sl2 42 w (.cells #[.int .u64 ((t : Nat) : Int)] 42) r hr)
    rw [vs_one] at h; exact h)
  have tr2 : Hid (Num ((w.alloc (.cells #[.int .u64 ((t : Nat) : Int)] 42)).alloc (.cells #[.int .u64 ((r : Nat) : Int)] 42)) (viewV (some ⟨w.heap.size, 0, none⟩) 1 (tl (fun _ => t) 1)) t) := Lib.hid (by
    have h := viewV_num ((one_sl 42 w t htl).alloc (.cells #[.int .u64 ((r : Nat) : Int)] 42))
    rw [vs_one] at h; exact h)
  have rtb : Hid (Below w.heap.size w ((w.alloc (.cells #[.int .u64 ((r : Nat) : Int)] 42)).alloc (.cells #[.int .u64 ((t : Nat) : Int)] 42))) := Lib.hid (((Below.refl _ w).alloc (Nat.le_refl _) _).alloc (by simp) _)
  have trb : Hid (Below w.heap.size w ((w.alloc (.cells #[.int .u64 ((t : Nat) : Int)] 42)).alloc (.cells #[.int .u64 ((r : Nat) : Int)] 42))) := Lib.hid (((Below.refl _ w).alloc (Nat.le_refl _) _).alloc (by simp) _)
  go_wp2_with fail
  go_region_with (go_at_call 84; first
    | (refine (view_raw _ 1 1 (fun _ => r) _ (by first | exact one_sl _ _ r hr | exact (one_sl _ _ r hr).alloc _ | exact one_sl2 _ _ _ r hr) (by omega)).mono ?_; rintro e w5 ⟨rfl, rfl⟩)
    | (refine (view_raw _ 1 1 (fun _ => t) _ (by first | exact one_sl _ _ t htl | exact (one_sl _ _ t htl).alloc _ | exact one_sl2 _ _ _ t htl) (by omega)).mono ?_; rintro e w5 ⟨rfl, rfl⟩))
  all_goals (go_wp2_with fail)
  all_goals go_ret2
  all_goals first
    | exact ⟨_, _, r, t, rfl, rt1.out, rt2.out, hR.out, rtb.out.drew⟩
    | exact ⟨_, _, r, t, rfl, tr1.out, tr2.out, hR.out, trb.out.drew⟩

theorem rootshort_any (A : Option Addr) (n c : Nat) (x : Nat → Nat) (w : World) (ha : Sl w A n c x) (hn : n ≤ 1) :
    Calls Tryz.prog 122 #[.slice A n c] w (TwoPost w (vs B64 x n)) := by
  rcases n with _ | n
  · go_enter Tryz.func122, Tryz.ntmps122
    go_wp2_with fail
    go_ret2
    have hnil : Num w (.slice none 0 0) 0 := ⟨none, 0, 0, x, rfl, Sl.none_ _ _ _ _, .inl rfl, rfl⟩
    exact ⟨_, _, 0, 0, rfl, hnil, hnil, IsRoot.zero, Below.refl _ _⟩
  · obtain rfl : n = 0 := by omega
    have e : vs B64 x 1 = x 0 := by rw [vs_succ, vs_zero, Nat.pow_zero, Nat.mul_one, Nat.zero_add]
    rw [Nat.zero_add, e]
    exact rootshort_one A c x w ha
end Go.Proofs.YtljioadppdpdiaaGreatDoor

namespace Go.Proofs.YtljioadppdpdiaaGreatDoor
open Go.RowKit

theorem bits_ge {V B n : Nat} {x : Nat → Nat} (hB : IsBits V B) (hc : Cn n x) (hV : vs B64 x n = V) (hn : 2 ≤ n) : 65 ≤ B := by
  have h1 := vs_ge (b := B64) hc (by omega)
  have h2 : B64 ^ 1 ≤ B64 ^ (n - 1) := Nat.pow_le_pow_right B64_pos (by omega)
  rw [Nat.pow_one, B64_pow] at h2
  rw [hV] at h1
  have h3 : 2 ^ 64 < 2 ^ B := by have := hB.1; rw [B64_pow] at h1; omega
  have := (Nat.pow_lt_pow_iff_right (by omega : 1 < 2)).1 h3
  omega
theorem bits_le {V B n : Nat} (hB : IsBits V B) (hV : V < B64 ^ n) : B ≤ 64 * n := by
  rcases Nat.eq_zero_or_pos V with h0 | h0
  · have := hB.2.1 h0; omega
  · have h1 := (hB.2.2 (by omega)).2
    rw [B64_pow, ← Nat.pow_mul] at hV
    have := (Nat.pow_lt_pow_iff_right (by omega : 1 < 2)).1 (Nat.lt_of_le_of_lt h1 hV)
    omega

set_option maxHeartbeats 4000000 in
theorem root_any : ∀ (V : Nat) (A : Option Addr) (n c : Nat) (x : Nat → Nat) (w : World), Sl w A n c x → Cn n x → n ≤ 100000 → vs B64 x n = V →
    Calls Tryz.prog 109 #[.slice A n c] w (TwoPost w V) := by
  intro V
  induction V using Nat.strongRecOn with
  | _ V ih =>
  intro A n c x w ha hcn hn hval
  have IH := Lib.hid ih
  clear ih
  have HV := Lib.hid hval
  have HC := Lib.hid hcn
  have KV := Lib.hid (show V < B64 ^ n from hval ▸ vs_lt ha.small)
  clear hval hcn
  rcases Nat.lt_or_ge n 2 with hlt | hge
  · have S := rootshort_any A n c x w ha (by omega)
    rw [HV.out] at S
    have HS := Lib.hid S
    clear S
    go_enter Tryz.func109, Tryz.ntmps109
    go_wp2_with fail
    refine HS.out.mono ?_
    rintro e w1 ⟨v, u, s, r, rfl, n1, n2, hr, b1⟩
    have HR := Lib.hid hr
    clear hr
    go_wp2_with fail
    go_ret2
    exact ⟨v, u, s, r, rfl, n1, n2, HR.out, b1⟩
  · have hnlt : ¬ (n : Int) < 2 := by omega
    go_enter Tryz.func109, Tryz.ntmps109
    go_wp2_with fail
    refine (bits_any A n c x w ha (by omega)).mono ?_
    rintro e w1 ⟨B, rfl, hB0, b1⟩
    rw [HV.out] at hB0
    have HB := Lib.hid hB0
    have h65 := bits_ge hB0 HC.out HV.out hge
    have hBn := bits_le hB0 KV.out
    clear hB0
    obtain ⟨k, hk⟩ : ∃ k, k = (B - 1) / 4 := ⟨_, rfl⟩
    have ek : ((B : Int) - 1) / 4 = (k : Int) := by omega
    have hk2 : k ≤ 2000000 := by omega
    have HK := Lib.hid hk
    have HLT := Lib.hid (pow_lt_upper HB.out h65 hk)
    clear hk
    go_wp2_with fail
    refine (lower_any A n c x (2 * k) w1 (ha.below b1) (by omega) (by omega)).mono ?_
    rintro e w2 ⟨v2, rfl, n2, b⟩
    have b2 := b1.trans (b.mono b1.size)
    clear b
    rw [HV.out] at n2
    obtain ⟨A2, p2, c2, f2, rfl, s2, lp2, cn2, e2⟩ := n2.sl' (Nat.lt_trans HLT.out KV.out)
    have R := Lib.hid (IH.out _ HLT.out A2 p2 c2 f2 w2 s2 cn2 (by omega) e2)
    clear n2 s2 cn2 e2
    go_wp2_with fail
    refine R.out.mono ?_
    rintro e w3 ⟨v3, u3, s', r', rfl, nv3, nu3, hr, b⟩
    have b3 := b2.trans (b.mono b2.size)
    clear b R
    have HR := Lib.hid hr
    clear hr
    have HS0 := Lib.hid (root_ge HR.out (upper_ge HB.out h65 HK.out))
    have KS : Hid (s' < B64 ^ n) := Lib.hid (by
      have h1 : s' * 1 ≤ s' * s' := Nat.mul_le_mul_left _ (by have := HS0.out; have := Nat.two_pow_pos k; omega)
      have := HR.out.1; have := HLT.out; have := KV.out; omega)
    have KR : Hid (r' < B64 ^ n) := Lib.hid (by have := HR.out.1; have := HLT.out; have := KV.out; omega)
    obtain ⟨A3, p3, c3, f3, rfl, s3, lp3, _, e3⟩ := nv3.sl' KS.out
    obtain ⟨A4, p4, c4, f4, rfl, s4, lp4, _, e4⟩ := nu3.sl' KR.out
    have E3 := Lib.hid e3
    have E4 := Lib.hid e4
    clear e3 e4 nv3 nu3
    go_wp2_with fail
    refine (lower_any A n c x k w3 (ha.below b3) (by omega) (by omega)).mono ?_
    rintro e w5 ⟨v5, rfl, n5, b⟩
    have b5 := b3.trans (b.mono b3.size)
    have s3' := s3.below b
    have s4' := s4.below b
    clear b s3 s4
    rw [HV.out] at n5
    obtain ⟨A5, p5, c5, f5, rfl, s5, lp5, _, e5⟩ := n5.sl' (Nat.lt_of_le_of_lt (Nat.div_le_self _ _) KV.out)
    have E5 := Lib.hid e5
    clear n5 e5
    go_wp2_with fail
    refine (lowest_any A5 p5 c5 f5 k w5 s5 (by omega)).mono ?_
    rintro e w6 ⟨v6, rfl, n6, b⟩
    have b6 := b5.trans (b.mono b5.size)
    have s3 := s3'.below b
    have s4 := s4'.below b
    clear b s3' s4' s5
    rw [E5.out] at n6
    obtain ⟨A6, p6, c6, f6, rfl, s6, lp6, _, e6⟩ := n6.sl' (Nat.lt_of_le_of_lt (Nat.le_trans (Nat.mod_le _ _) (Nat.div_le_self _ _)) KV.out)
    have E6 := Lib.hid e6
    clear n6 e6
    go_wp2_with fail
    refine (join_any A4 A6 p4 p6 c4 c6 f4 f6 k w6 s4 s6 (by omega) (by omega) (by omega)).mono ?_
    rintro e w7 ⟨v7, rfl, n7, b⟩
    have b7 := b6.trans (b.mono b6.size)
    have s3' := s3.below b
    clear b s3 s4 s6
    rw [E4.out, E6.out] at n7
    have K7 : Hid (r' * 2 ^ k + V / 2 ^ k % 2 ^ k < B64 ^ (2 * n)) := Lib.hid (by
      have h1 : 2 ^ k ≤ V := by
        have h2 : 2 ^ k * 1 ≤ 2 ^ k * 2 ^ k := Nat.mul_le_mul_left _ (Nat.two_pow_pos k)
        have := upper_ge HB.out h65 HK.out; have := HLT.out; omega
      have h2 : r' ≤ V := by have := HR.out.1; have := HLT.out; omega
      have h3 : r' * 2 ^ k ≤ V * V := Nat.mul_le_mul h2 h1
      have h4 : V / 2 ^ k % 2 ^ k ≤ V := Nat.le_trans (Nat.mod_le _ _) (Nat.div_le_self _ _)
      have h5 := sum2 KV.out KV.out
      rw [← Nat.two_mul] at h5
      omega)
    obtain ⟨A7, p7, c7, f7, rfl, s7, lp7, _, e7⟩ := n7.sl' K7.out
    have E7 := Lib.hid e7
    clear n7 e7
    go_wp2_with fail
    refine (raise_any A3 p3 c3 f3 1 w7 s3' (by omega) (by omega)).mono ?_
    rintro e w8 ⟨v8, rfl, n8, b⟩
    have b8 := b7.trans (b.mono b7.size)
    have s3 := s3'.below b
    have s7' := s7.below b
    clear b s3' s7
    rw [E3.out] at n8
    have K8 : Hid (s' * 2 ^ 1 < B64 ^ (n + 1)) := Lib.hid (by have := few_lt 2 (by omega) KS.out; rw [Nat.pow_one]; omega)
    obtain ⟨A8, p8, c8, f8, rfl, s8, lp8, _, e8⟩ := n8.sl' K8.out
    have hpos : 0 < vs B64 f8 p8 := by rw [e8, Nat.pow_one]; have := HS0.out; have := Nat.two_pow_pos k; omega
    have D := divmod_any A7 A8 p7 p8 c7 c8 f7 f8 w8 s7' s8 (by omega) (by omega) hpos
    rw [e8] at hpos
    rw [e8, E7.out] at D
    have HDM := Lib.hid (Nat.div_add_mod (r' * 2 ^ k + V / 2 ^ k % 2 ^ k) (s' * 2 ^ 1))
    have HML := Lib.hid (Nat.mod_lt (r' * 2 ^ k + V / 2 ^ k % 2 ^ k) hpos)
    clear n8 e8 hpos
    generalize (r' * 2 ^ k + V / 2 ^ k % 2 ^ k) / (s' * 2 ^ 1) = q at *
    generalize (r' * 2 ^ k + V / 2 ^ k % 2 ^ k) % (s' * 2 ^ 1) = u at *
    have HD := Lib.hid D
    clear D
    have ST := Lib.hid (root_step HB.out h65 HK.out KV.out HR.out HDM.out HML.out)
    go_wp2_with fail
    refine HD.out.mono ?_
    rintro e w9 ⟨v9, u9, rfl, nv9, nu9, b⟩
    have b9 := b8.trans (b.mono b8.size)
    have s3' := s3.below b
    clear b s3 s7' s8 HD
    obtain ⟨A9, p9, c9, f9, rfl, s9, lp9, _, e9⟩ := nv9.sl' ST.out.1
    obtain ⟨A10, p10, c10, f10, rfl, s10, lp10, _, e10⟩ := nu9.sl' ST.out.2.2.1
    have E9 := Lib.hid e9
    have E10 := Lib.hid e10
    clear nv9 nu9 e9 e10
    go_wp2_with fail
    refine (join_any A3 A9 p3 p9 c3 c9 f3 f9 k w9 s3' s9 (by omega) (by omega) (by omega)).mono ?_
    rintro e w11 ⟨v11, rfl, n11, b⟩
    have b11 := b9.trans (b.mono b9.size)
    have s9' := s9.below b
    have s10' := s10.below b
    clear b s3' s9 s10
    rw [E3.out, E9.out] at n11
    obtain ⟨A11, p11, c11, f11, rfl, s11, lp11, cn11, e11⟩ := n11.sl' ST.out.2.1
    have E11 := Lib.hid e11
    have CN11 := Lib.hid cn11
    clear n11 e11 cn11
    go_wp2_with fail
    refine (lowest_any A n c x k w11 (ha.below b11) (by omega)).mono ?_
    rintro e w12 ⟨v12, rfl, n12, b⟩
    have b12 := b11.trans (b.mono b11.size)
    have s9 := s9'.below b
    have s10 := s10'.below b
    have s11' := s11.below b
    clear b s9' s10' s11
    rw [HV.out] at n12
    obtain ⟨A12, p12, c12, f12, rfl, s12, lp12, _, e12⟩ := n12.sl' (Nat.lt_of_le_of_lt (Nat.mod_le _ _) KV.out)
    have E12 := Lib.hid e12
    clear n12 e12
    go_wp2_with fail
    refine (join_any A10 A12 p10 p12 c10 c12 f10 f12 k w12 s10 s12 (by omega) (by omega) (by omega)).mono ?_
    rintro e w13 ⟨v13, rfl, n13, b⟩
    have b13 := b12.trans (b.mono b12.size)
    have s9' := s9.below b
    have s11 := s11'.below b
    clear b s9 s11' s10 s12
    rw [E10.out, E12.out] at n13
    obtain ⟨A13, p13, c13, f13, rfl, s13, lp13, _, e13⟩ := n13.sl' ST.out.2.2.2.1
    have E13 := Lib.hid e13
    clear n13 e13
    go_wp2_with fail
    refine (mul_any A9 A9 p9 p9 c9 c9 f9 f9 w13 s9' s9' (by omega) (by omega)).mono ?_
    rintro e w14 ⟨v14, rfl, n14, b⟩
    have b14 := b13.trans (b.mono b13.size)
    have s11' := s11.below b
    have s13' := s13.below b
    clear b s9' s11 s13
    rw [E9.out] at n14
    have K14 := mul_bound ST.out.1 ST.out.1
    obtain ⟨A14, p14, c14, f14, rfl, s14, lp14, _, e14⟩ := n14.sl' K14
    have E14 := Lib.hid e14
    clear n14 e14 K14
    have C := cmp_any A13 A14 p13 p14 c13 c14 f13 f14 w14 s13' s14 (by omega) (by omega)
    rw [E13.out, E14.out] at C
    have YES := Lib.hid ST.out.2.2.2.2.2.1
    have NO := Lib.hid ST.out.2.2.2.2.2.2
    have KSUM := Lib.hid ST.out.2.2.2.2.1
    clear ST
    clear HB HK HLT HR HS0 KS KR HDM HML
    generalize u * 2 ^ k + V % 2 ^ k = R at *
    generalize s' * 2 ^ k + q = S at *
    generalize q * q = QQ at *
    rcases Nat.lt_or_ge R QQ with hlt | hle
    · obtain ⟨g1, g2, g3⟩ := NO.out hlt
      have HRT := Lib.hid g3
      have HG2 := Lib.hid g2
      rw [cmpN_lt hlt] at C
      have HC := Lib.hid C
      clear C g2 g3 YES NO
      go_wp2_with fail
      refine HC.out.mono ?_
      rintro e w15 ⟨rfl, b⟩
      have b15 := b14.trans (b.mono b14.size)
      have s11 := s11'.below b
      have s13 := s13'.below b
      have s14' := s14.below b
      clear b s11' s13' s14
      go_wp2_with fail
      have o15 := one_sl 42 w15 1 (by unfold B64; omega)
      have bA : Below w15.heap.size w15 (w15.alloc (.cells #[.int .u64 ((1 : Nat) : Int)] 42)) := (Below.refl _ w15).alloc (Nat.le_refl _) _
      have SB := sub_yes A11 (some ⟨w15.heap.size, 0, none⟩) p11 1 c11 1 f11 (fun _ => 1) _ (s11.below bA) o15 (by omega) (by omega) (by rw [E11.out, vs_one]; exact g1)
      rw [E11.out, vs_one] at SB
      have HSB := Lib.hid SB
      have b16 := b15.trans (bA.mono b15.size)
      have s11' := s11.below bA
      have s13' := s13.below bA
      have s14 := s14'.below bA
      clear SB bA o15 s11 s13 s14'
      refine HSB.out.mono ?_
      rintro e w17 ⟨v17, rfl, n17, b⟩
      have b17 := b16.trans (b.mono b16.size)
      have s11 := s11'.below b
      have s13 := s13'.below b
      have s14' := s14.below b
      clear b s11' s13' s14 HSB
      have KS1 : Hid (S < B64 ^ (2 * n + 1)) := Lib.hid (by have := KSUM.out; omega)
      obtain ⟨A17, p17, c17, f17, rfl, s17, lp17, cn17, e17⟩ := n17.sl' (show S - 1 < B64 ^ (2 * n + 1) by have := KS1.out; omega)
      have E17 := Lib.hid e17
      have CN17 := Lib.hid cn17
      clear n17 e17 cn17
      go_wp2_with fail
      refine (add_any A11 A17 p11 p17 c11 c17 f11 f17 w17 s11 s17 (by omega) (by omega)).mono ?_
      rintro e w18 ⟨v18, rfl, n18, b⟩
      have b18 := b17.trans (b.mono b17.size)
      have s13' := s13.below b
      have s14 := s14'.below b
      have s17' := s17.below b
      clear b s13 s14' s17 s11
      rw [E11.out, E17.out] at n18
      obtain ⟨A18, p18, c18, f18, rfl, s18, lp18, _, e18⟩ := n18.sl' (show S + (S - 1) < B64 ^ (2 * n + 1) by have := KSUM.out; omega)
      have E18 := Lib.hid e18
      clear n18 e18
      go_wp2_with fail
      refine (add_any A13 A18 p13 p18 c13 c18 f13 f18 w18 s13' s18 (by omega) (by omega)).mono ?_
      rintro e w19 ⟨v19, rfl, n19, b⟩
      have b19 := b18.trans (b.mono b18.size)
      have s14' := s14.below b
      have s17 := s17'.below b
      clear b s13' s14 s17' s18
      rw [E13.out, E18.out] at n19
      obtain ⟨A19, p19, c19, f19, rfl, s19, lp19, _, e19⟩ := n19.sl' KSUM.out
      have E19 := Lib.hid e19
      clear n19 e19
      have SB := sub_yes A19 A14 p19 p14 c19 c14 f19 f14 w19 s19 s14' (by omega) (by omega) (by rw [E19.out, E14.out]; exact HG2.out)
      rw [E19.out, E14.out] at SB
      have HSB := Lib.hid SB
      clear SB
      go_wp2_with fail
      refine HSB.out.mono ?_
      rintro e w20 ⟨v20, rfl, n20, b⟩
      have b20 := b19.trans (b.mono b19.size)
      have n17 : Num w20 (.slice A17 p17 c17) (S - 1) := ⟨A17, p17, c17, f17, rfl, s17.below b, CN17.out, E17.out⟩
      clear b
      go_wp2_with fail
      go_ret2
      exact ⟨_, _, S - 1, _, rfl, n17, n20, HRT.out, b20⟩
    · obtain ⟨r, hr0, hr1⟩ : ∃ r : Nat, cmpN R QQ = (r : Int) ∧ r ≤ 1 := by
        rcases Nat.lt_or_ge QQ R with h | h
        · exact ⟨1, by rw [cmpN_gt h]; rfl, by omega⟩
        · exact ⟨0, by rw [Nat.le_antisymm h hle, cmpN_eq]; rfl, by omega⟩
      rw [hr0] at C
      have HRT := Lib.hid (YES.out hle)
      have HC := Lib.hid C
      clear C hr0 YES NO
      go_wp2_with fail
      refine HC.out.mono ?_
      rintro e w15 ⟨rfl, b⟩
      have b15 := b14.trans (b.mono b14.size)
      have s11 := s11'.below b
      have s13 := s13'.below b
      have s14' := s14.below b
      clear b s11' s13' s14
      have SB := sub_yes A13 A14 p13 p14 c13 c14 f13 f14 w15 s13 s14' (by omega) (by omega) (by rw [E13.out, E14.out]; exact hle)
      rw [E13.out, E14.out] at SB
      have HSB := Lib.hid SB
      clear SB hle
      go_wp2_with fail
      refine HSB.out.mono ?_
      rintro e w16 ⟨v16, rfl, n16, b⟩
      have b16 := b15.trans (b.mono b15.size)
      have n11 : Num w16 (.slice A11 p11 c11) S := ⟨A11, p11, c11, f11, rfl, s11.below b, CN11.out, E11.out⟩
      clear b
      go_wp2_with fail
      go_ret2
      exact ⟨_, _, S, _, rfl, n11, n16, HRT.out, b16⟩
theorem sqrt_any (A : Option Addr) (n c : Nat) (x : Nat → Nat) (w : World) (ha : Sl w A n c x) (hn : n ≤ 100000) :
    Calls Tryz.prog 75 #[.slice A n c] w (TwoPost w (vs B64 x n)) := by
  obtain ⟨A1, c1, e1, s1⟩ := viewV_sl ha
  have l1 := tl_le x n
  have cn := tl_cn x n
  have V1 := view_raw A n c x w ha (by omega)
  rw [e1] at V1
  rw [← vs_tl B64 x n]
  have H1 := Lib.hid V1
  clear V1 e1
  generalize tl x n = p at *
  have R := Lib.hid (root_any _ A1 p c1 x w s1 cn (by omega) rfl)
  go_enter Tryz.func75, Tryz.ntmps75
  go_wp2_with fail
  refine H1.out.mono ?_
  rintro e w' ⟨rfl, rfl⟩
  go_wp2_with fail
  refine R.out.mono ?_
  rintro e w1 ⟨v, u, s, r, rfl, n1, n2, hr, b1⟩
  have HR := Lib.hid hr
  clear hr
  go_wp2_with fail
  go_ret2
  exact ⟨v, u, s, r, rfl, n1, n2, HR.out, b1⟩
end Go.Proofs.YtljioadppdpdiaaGreatDoor
