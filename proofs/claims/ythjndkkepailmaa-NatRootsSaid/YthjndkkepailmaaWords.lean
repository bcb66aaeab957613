/-
  Words for slices of uint64 that read as digits; plain lemmas on them. No program is named here.
-/
import Derived.Test.YthjndkkepailmaaMath
import Derived.Below
import Derived.Laws.OwnMore
import Derived.Deep.AppendLies
import Derived.Deep.Draws
import Derived.Laws.Rows
import Derived.RowKit
namespace Go.Proofs.Ythjndkkepailmaa
open Go.RowKit

theorem block_of_add (a : Addr) (n : Nat) : (a.add n).block = a.block := by unfold Addr.add; split <;> rfl
theorem add_of_add (a : Addr) (i j : Nat) : (a.add i).add j = a.add (i + j) := by
  unfold Addr.add
  by_cases hi : i = 0 <;> by_cases hj : j = 0 <;> simp [hi, hj, Nat.add_assoc]

/-- A slice value '.slice A n c' whose words are f 0, .., f (n - 1) in world w. -/
def Sl (w : World) (A : Option Addr) (n c : Nat) (f : Nat → Nat) : Prop :=
  n ≤ c ∧ (∀ j, j < n → f j < B64) ∧
    (0 < n → ∃ ad, A = some ad ∧ ad.block < w.heap.size ∧ ∀ j, j < n → w.cell? (ad.add j) = some (.int .u64 ((f j : Nat) : Int)))

/-- A trimmed slice that stands for V. -/
def Num (w : World) (v : Value) (V : Nat) : Prop := ∃ A n c f, v = .slice A n c ∧ Sl w A n c f ∧ Cn n f ∧ vs B64 f n = V

section
variable {w w' : World} {A : Option Addr} {n c : Nat} {f : Nat → Nat}
theorem Sl.cap (h : Sl w A n c f) : n ≤ c := h.1
theorem Sl.small (h : Sl w A n c f) : ∀ j, j < n → f j < B64 := h.2.1
theorem Sl.none_ (w : World) (c : Nat) (A : Option Addr) (f : Nat → Nat) : Sl w A 0 c f := ⟨Nat.zero_le _, fun j h => absurd h (by omega), fun h => absurd h (by omega)⟩
theorem Sl.at_ {k : Nat} (h : Sl w A n c f) (hk : k < n) : ∃ ad, A = some ad ∧ ad.block < w.heap.size ∧ f k < B64 ∧ w.cell? (ad.add k) = some (.int .u64 ((f k : Nat) : Int)) := by
  obtain ⟨_, h2, h3⟩ := h
  obtain ⟨ad, e, hb, hc⟩ := h3 (by omega)
  exact ⟨ad, e, hb, h2 k hk, hc k hk⟩
theorem Sl.keep (h : Sl w A n c f) (hz : w.heap.size ≤ w'.heap.size) (hk : ∀ p : Addr, p.block < w.heap.size → w'.cell? p = w.cell? p) : Sl w' A n c f :=
  ⟨h.1, h.2.1, fun hn => by
    obtain ⟨ad, e, hb, hc⟩ := h.2.2 hn
    exact ⟨ad, e, by omega, fun j hj => (hk _ (by rw [block_of_add]; exact hb)).trans (hc j hj)⟩⟩
theorem Sl.below (h : Sl w A n c f) (hb : Below w.heap.size w w') : Sl w' A n c f := h.keep hb.size fun _ hp => hb.cell hp
theorem Sl.drew (h : Sl w A n c f) : Sl w.drew A n c f := h
theorem Sl.drewN (h : Sl w A n c f) (k : Nat) : Sl (w.drewN k) A n c f := h
theorem Sl.alloc (h : Sl w A n c f) (o : Obj) : Sl (w.alloc o) A n c f := h.keep (by simp) fun p hp => World.cell?_alloc_lt w o p hp
theorem Sl.take (h : Sl w A n c f) {k : Nat} (hk : k ≤ n) : Sl w A k c f := by
  obtain ⟨h1, h2, h3⟩ := h
  refine ⟨by omega, fun j hj => h2 j (by omega), fun hn => ?_⟩
  obtain ⟨ad, e, hb, hc⟩ := h3 (by omega)
  exact ⟨ad, e, hb, fun j hj => hc j (by omega)⟩
theorem Sl.congr {g : Nat → Nat} (h : Sl w A n c f) (hg : ∀ j, j < n → f j = g j) : Sl w A n c g := by
  obtain ⟨h1, h2, h3⟩ := h
  refine ⟨h1, fun j hj => hg j hj ▸ h2 j hj, fun hn => ?_⟩
  obtain ⟨ad, e, hb, hc⟩ := h3 hn
  exact ⟨ad, e, hb, fun j hj => by rw [← hg j hj]; exact hc j hj⟩
theorem Num.below {v : Value} {V : Nat} (h : Num w v V) (hb : Below w.heap.size w w') : Num w' v V := by
  obtain ⟨A, n, c, f, hv, hs, hc, he⟩ := h
  exact ⟨A, n, c, f, hv, hs.below hb, hc, he⟩
end

/-- What view answers: nil for nothing, else the first k words. -/
def viewV (A : Option Addr) (c k : Nat) : Value := if k = 0 then .slice none 0 0 else .slice A k c
theorem viewV_sl {w : World} {A : Option Addr} {n c : Nat} {f : Nat → Nat} (h : Sl w A n c f) : ∃ A' c', viewV A c (tl f n) = .slice A' (tl f n) c' ∧ Sl w A' (tl f n) c' f := by
  unfold viewV
  by_cases h0 : tl f n = 0
  · rw [if_pos h0, h0]; exact ⟨none, 0, rfl, Sl.none_ w 0 none f⟩
  · rw [if_neg h0]; exact ⟨A, c, rfl, h.take (tl_le f n)⟩
theorem viewV_num {w : World} {A : Option Addr} {n c : Nat} {f : Nat → Nat} (h : Sl w A n c f) : Num w (viewV A c (tl f n)) (vs B64 f n) := by
  obtain ⟨A', c', e, hs⟩ := viewV_sl h
  exact ⟨A', _, c', f, e, hs, tl_cn f n, vs_tl _ f n⟩
end Go.Proofs.Ythjndkkepailmaa
