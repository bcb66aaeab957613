/-
  nat.rootWord, nat.join: the root of a word; two numbers as one.
  nat.lowest: the lowest bits of a number. First the copy of a slice that may be longer than the place.
  nat.rootShort: the root of one word, or of none.
  nat.root, nat.Sqrt: the root of a number, and what is left.
-/
import Derived.Deep.RegionWith
import Derived.Test.YtmadojejafbpjaaGreatDoorPkNumbers
import Derived.Test.YtmadojejafbpjaaGreatDoorPkNat1
import Derived.Test.YtmadojejafbpjaaGreatDoorPkNat2
import Derived.Test.YtmadojejafbpjaaGreatDoorPkNat3
import Derived.Test.YtmadojejafbpjaaGreatDoorPkNat6
namespace Go.Proofs.YtmadojejafbpjaaGreatDoor
open Go.RowKit

/-- The bits of a's root above k are in r. -/
def RW (a r b k : Nat) : Prop := b = 2 ^ k / 2 ∧ r % 2 ^ k = 0 ∧ r + 2 ^ k ≤ 4294967296 ∧ r * r ≤ a ∧ a < (r + 2 ^ k) * (r + 2 ^ k)
theorem RW.pos {a r b k : Nat} (h : RW a r b k) (hb : 0 < b) : ∃ m, k = m + 1 ∧ b = 2 ^ m := by
  rcases k with _ | m
  · have := h.1; simp at this; omega
  · refine ⟨m, rfl, ?_⟩
    rw [h.1, Nat.pow_succ]; omega
theorem RW.or {a r b k : Nat} (h : RW a r b k) (hb : 0 < b) : r ||| b = r + b := by
  obtain ⟨m, rfl, rfl⟩ := h.pos hb
  obtain ⟨_, h2, _⟩ := h
  have hlt : 2 ^ m < 2 ^ (m + 1) := by rw [Nat.pow_succ]; have := Nat.two_pow_pos m; omega
  have e : r = 2 ^ (m + 1) * (r / 2 ^ (m + 1)) := by have := Nat.div_add_mod r (2 ^ (m + 1)); omega
  rw [e, Nat.two_pow_add_eq_or_of_lt hlt]
theorem RW.two {a r b k : Nat} (h : RW a r b k) (hb : 0 < b) : r + b + b ≤ 4294967296 := by
  obtain ⟨m, rfl, rfl⟩ := h.pos hb
  have := h.2.2.1
  rw [Nat.pow_succ] at this
  omega
theorem RW.yes {a r b k : Nat} (h : RW a r b k) (hb : 0 < b) (hp : (r + b) * (r + b) ≤ a) : ∃ m, RW a (r + b) (b / 2) m := by
  obtain ⟨m, rfl, rfl⟩ := h.pos hb
  obtain ⟨_, h2, h3, _, h5⟩ := h
  refine ⟨m, rfl, ?_, by rw [Nat.pow_succ] at h3; omega, hp, ?_⟩
  · have e : r % 2 ^ m = 0 := by
      have : r % (2 ^ m * 2) = 0 := by rw [← Nat.pow_succ]; exact h2
      exact Nat.mod_eq_zero_of_dvd (Nat.dvd_trans (Nat.dvd_mul_right _ _) (Nat.dvd_of_mod_eq_zero this))
    rw [Nat.add_mod, e]; simp
  · rw [show r + 2 ^ m + 2 ^ m = r + 2 ^ (m + 1) by rw [Nat.pow_succ]; omega]; exact h5
theorem RW.no {a r b k : Nat} (h : RW a r b k) (hb : 0 < b) (hp : a < (r + b) * (r + b)) : ∃ m, RW a r (b / 2) m := by
  obtain ⟨m, rfl, rfl⟩ := h.pos hb
  obtain ⟨_, h2, h3, h4, _⟩ := h
  refine ⟨m, rfl, ?_, by rw [Nat.pow_succ] at h3; omega, h4, hp⟩
  have : r % (2 ^ m * 2) = 0 := by rw [← Nat.pow_succ]; exact h2
  exact Nat.mod_eq_zero_of_dvd (Nat.dvd_trans (Nat.dvd_mul_right _ _) (Nat.dvd_of_mod_eq_zero this))
theorem RW.fin {a r k : Nat} (h : RW a r 0 k) : r * r ≤ a ∧ a < (r + 1) * (r + 1) ∧ r < 4294967296 := by
  rcases k with _ | m
  · obtain ⟨_, _, h3, h4, h5⟩ := h
    simp only [Nat.pow_zero] at h3 h5
    exact ⟨h4, h5, by omega⟩
  · have := h.1
    rw [Nat.pow_succ] at this
    have := Nat.two_pow_pos m
    omega
theorem RW.start {a : Nat} (h : a < B64) : RW a 0 2147483648 32 := by
  refine ⟨by decide, by decide, by decide, by omega, ?_⟩
  have e : B64 = (0 + 2 ^ 32) * (0 + 2 ^ 32) := by unfold B64; decide
  omega

theorem sq_lt {t : Nat} (h : t < 4294967296) : t * t < B64 := by
  have h1 : t * t ≤ 4294967295 * 4294967295 := Nat.mul_le_mul (by omega) (by omega)
  have h2 : 4294967295 * 4294967295 < B64 := by unfold B64; decide
  omega

def RootPost (w : World) (a : Nat) (e : Ending) (w' : World) : Prop := ∃ r : Nat, e = .returned (.int .u64 (r : Int)) ∧ r * r ≤ a ∧ a < (r + 1) * (r + 1) ∧ r < 4294967296 ∧ w = w'

/-- A number's words: no more than its size asks. -/
theorem Num.sl' {w : World} {v : Value} {V K : Nat} (h : Num w v V) (hK : V < B64 ^ K) : ∃ A n c f, v = .slice A n c ∧ Sl w A n c f ∧ n ≤ K ∧ Cn n f ∧ vs B64 f n = V := by
  obtain ⟨A, n, c, f, hv, hs, hc, he⟩ := h
  exact ⟨A, n, c, f, hv, hs, cn_le B64_gt hc (by rw [he]; exact hK), hc, he⟩
theorem raised_lt {X n k : Nat} (h : X < B64 ^ n) : X * 2 ^ k < B64 ^ (n + (k / 64 + 1)) := by
  have h1 : (2 : Nat) ^ k ≤ B64 ^ (k / 64 + 1) := by
    rw [B64_pow, ← Nat.pow_mul]
    exact Nat.pow_le_pow_right (by omega) (by omega)
  rw [Nat.pow_add]
  exact Nat.mul_lt_mul_of_lt_of_le h h1 (Nat.pow_pos B64_pos)

end Go.Proofs.YtmadojejafbpjaaGreatDoor

namespace Go.Proofs.YtmadojejafbpjaaGreatDoor
open Go.RowKit

section
variable {P : Program} {w : World} {ops : Array Oper} {rest : List Oper} {o : Oper} {a : Act} {Q : Exit → Act → World → Prop}
/-- copy(dst, src), src no shorter than dst. -/
theorem wpList_copy_cut (hgd : o.guard = none) (d s : Operand) (T : TypeId) (ho : o.op = .call { callee := .builtin .copy, args := #[d, s], argTypes := #[T, T] })
    (E : TypeId) (hu : P.underlying T = some (.slice E)) (hsz : (P.info? E).map (·.size) = some 1) (t : TypeId) (g N dCap : Nat) (F : Nat → Nat) (A : Option Addr) (sLen sCap : Nat) (f : Nat → Nat)
    (hd : a.eval d = .slice (some ⟨g, 0, none⟩) N dCap) (hs : a.eval s = .slice A sLen sCap) (hr : Row t w g N F) (hf : Sl w A sLen sCap f) (hN : 0 < N) (hle : N ≤ sLen)
    (h : ∀ w', Row t w' g N f → Only w w' g → wpList P ops Q rest (a.put o.dst (goInt N)) w') : wpList P ops Q (o :: rest) a w := by
  obtain ⟨ad, rfl, hb, hc⟩ := hf.2.2 (by omega)
  obtain ⟨⟨cur, hg, hcs, hcur⟩, hF⟩ := hr
  refine wpList_copy_own hgd d s T T ho E hu hsz g 0 N dCap ad sLen sCap hd hs cur t hg (cellsOf f N) (by rw [cellsOf_len]; exact (Nat.min_eq_right hle).symm)
    (fun j u hj => by obtain ⟨h1, rfl⟩ := cellsOf_at hj; exact hc j (by omega)) (by rw [cellsOf_len]; omega) cellsOf_one ?_
  rw [cellsOf_len]
  refine h _ ⟨⟨_, setRow_heap w g _ _ t _ hg, ?_, fun j hj => ?_⟩, fun j hj => hf.2.1 j (by omega)⟩ ⟨rfl, rfl, rfl, by simp [World.setRow], fun k _ hk => setRow_other w g k _ (by simpa using hk)⟩
  · first | (simp [cellsOf_len]; done) | (simp [cellsOf_len]; omega)
  · simp only [List.take_zero, List.nil_append, Nat.zero_add, List.getElem?_toArray]
    rw [List.getElem?_append_left (by rw [cellsOf_len]; exact hj), cellsOf_get hj]
end

/-- x, and zeros behind its n words. -/
def low0 (x : Nat → Nat) (n : Nat) : Nat → Nat := fun j => if j < n then x j else 0
theorem low_mod (G : Nat → Nat) (W L r : Nat) (hr : r ≤ 63) (hG : ∀ j, G j < B64) : vs B64 (upd G W (G W % 2 ^ r)) (W + 1) = vs B64 G (W + (L + 1)) % (B64 ^ W * 2 ^ r) := by
  have hp : 0 < B64 ^ W := Nat.pow_pos B64_pos
  have h1 : vs B64 G W < B64 ^ W := vs_lt fun j _ => hG j
  have e1 : vs B64 G (W + (L + 1)) % B64 ^ W = vs B64 G W := by rw [vs_add, Nat.add_mul_mod_self_left, Nat.mod_eq_of_lt h1]
  have e2 : vs B64 G (W + (L + 1)) / B64 ^ W = vs B64 (fun j => G (W + j)) (L + 1) := by rw [vs_add, Nat.add_mul_div_left _ _ hp, Nat.div_eq_of_lt h1, Nat.zero_add]
  have e3 : vs B64 (fun j => G (W + j)) (L + 1) % 2 ^ r = G W % 2 ^ r := by
    rw [vs_cons, B64_pow, show (2 : Nat) ^ 64 = 2 ^ r * 2 ^ (64 - r) by rw [← Nat.pow_add]; congr 1; omega, Nat.mul_assoc, Nat.add_mul_mod_self_left, Nat.add_zero]
  rw [Nat.mod_mul, e1, e2, e3, vs_succ, upd_same, vs_upd_ge _ _ _ _ _ (Nat.le_refl _), Nat.mul_comm (B64 ^ W)]
theorem low0_vs (x : Nat → Nat) (n W : Nat) : vs B64 (low0 x n) (W + (n + 1)) = vs B64 x n := vs_pad B64 x n _ (by omega)

end Go.Proofs.YtmadojejafbpjaaGreatDoor

namespace Go.Proofs.YtmadojejafbpjaaGreatDoor
open Go.RowKit

def TwoPost (w : World) (a : Nat) (e : Ending) (w' : World) : Prop := ∃ v u s r, e = .returned (.tuple #[v, u]) ∧ Num w' v s ∧ Num w' u r ∧ IsRoot a s r ∧ Below w.heap.size w w'

theorem one_sl2 (t : TypeId) (w : World) (o : Obj) (r : Nat) (hr : r < B64) : Sl ((w.alloc o).alloc (.cells #[.int .u64 ((r : Nat) : Int)] t)) (some ⟨w.heap.size + 1, 0, none⟩) 1 1 (fun _ => r) := by
  have h := one_sl t (w.alloc o) r hr
  rw [show (w.alloc o).heap.size = w.heap.size + 1 by simp] at h
  exact h

end Go.Proofs.YtmadojejafbpjaaGreatDoor

namespace Go.Proofs.YtmadojejafbpjaaGreatDoor
open Go.RowKit

theorem bits_ge {V B n : Nat} {x : Nat → Nat} (hB : IsBits V B) (hc : Cn n x) (hV : vs B64 x n = V) (hn : 2 ≤ n) : 65 ≤ B := by
  have h1 := vs_ge (b := B64) hc (by omega)
  have h2 : B64 ^ 1 ≤ B64 ^ (n - 1) := Nat.pow_le_pow_right B64_pos (by omega)
  rw [Nat.pow_one, B64_pow] at h2
  rw [hV] at h1
  have h3 : 2 ^ 64 < 2 ^ B := by have := hB.1; rw [B64_pow] at h1; omega
  have := (Nat.pow_lt_pow_iff_right (by omega : 1 < 2)).1 h3
  omega
theorem bits_le {V B n : Nat} (hB : IsBits V B) (hV : V < B64 ^ n) : B ≤ 64 * n := by
  rcases Nat.eq_zero_or_pos V with h0 | h0
  · have := hB.2.1 h0; omega
  · have h1 := (hB.2.2 (by omega)).2
    rw [B64_pow, ← Nat.pow_mul] at hV
    have := (Nat.pow_lt_pow_iff_right (by omega : 1 < 2)).1 (Nat.lt_of_le_of_lt h1 hV)
    omega

end Go.Proofs.YtmadojejafbpjaaGreatDoor
