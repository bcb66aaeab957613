/-
  The calls of nat and of volvelleref01 once more, over numbers: what lies in memory canonically, and how many bits it has.
  dyad.Mul, dyad.Cut.
-/
import Derived.Test.YtembfhepinfmnaaDoorPlPGNat2
import Derived.Test.YtembfhepinfmnaaDoorPlPGDy2
import Derived.Test.YtembfhepinfmnaaDoorPlPGRef1
import Derived.Test.YtembfhepinfmnaaDoorPlPGRef2
import Derived.Test.YtembfhepinfmnaaDoorPlPGRef3
namespace Go.Proofs.YtembfhepinfmnaaDoor
open Go.RowKit

theorem Num.raw {w : World} {v : Value} {V : Nat} (K : Nat) (h : Num w v V) (hV : nb V ≤ 64 * K) : ∃ A n c f, v = .slice A n c ∧ Sl w A n c f ∧ n ≤ K ∧ Cn n f ∧ vs B64 f n = V := h.sl' (nb_lt_words hV)
theorem Num.len {w : World} {A : Option Addr} {n c V : Nat} (K : Nat) (h : Num w (.slice A n c) V) (hV : nb V ≤ 64 * K) : n ≤ K := by
  obtain ⟨_, _, _, _, hh, _, hn, _⟩ := h.raw K hV
  cases hh
  exact hn
/-- A new number, as a slice. -/
def NP (w : World) (V : Nat) (e : Ending) (w' : World) : Prop := ∃ A p c, e = .returned (.slice A p c) ∧ Num w' (.slice A p c) V ∧ Below w.heap.size w w'
theorem NumPost.np {w w' : World} {V : Nat} {e : Ending} (h : NumPost w V e w') : NP w V e w' := by
  obtain ⟨v, rfl, ⟨A, n, c, f, rfl, hm⟩, b⟩ := h
  exact ⟨A, n, c, rfl, ⟨A, n, c, f, rfl, hm⟩, b⟩
def IP (w : World) (z : Int) (e : Ending) (w' : World) : Prop := e = .returned (.int .i64 z) ∧ Below w.heap.size w w'

theorem shlN {v : Value} {V s : Nat} (w : World) (h : Num w v V) (hV : nb V ≤ 6000000) (hs : s ≤ 1048576) : Calls Tryd.prog 61 #[v, .int .i64 (s : Int)] w (NP w (V * 2 ^ s)) := by
  obtain ⟨A, n, c, f, rfl, hs', hn, _, rfl⟩ := h.raw 93750 (by omega)
  exact (shl_any A n c f s w hs' (by omega) hs).mono fun _ _ h => h.np
theorem cmpNN {v u : Value} {V U : Nat} (w : World) (h : Num w v V) (h' : Num w u U) (hV : nb V ≤ 6000000) (hU : nb U ≤ 6000000) : Calls Tryd.prog 60 #[v, u] w (IP w (cmpN V U)) := by
  obtain ⟨A, n, c, f, rfl, hs, hn, _, rfl⟩ := h.raw 93750 (by omega)
  obtain ⟨B, m, d, g, rfl, hs', hm, _, rfl⟩ := h'.raw 93750 (by omega)
  exact cmp_any A B n m c d f g w hs hs' (by omega) (by omega)
/-- What Plain says of a number that lies in memory canonically. -/
def plainV (neg : Bool) (V : Nat) (e : Int) : Bool := if V = 0 then decide (e = 0) && !neg else decide (V % 2 = 1) && decide (nb V ≤ MB) && decide (fitE e)
theorem cn_zero {n : Nat} {x : Nat → Nat} (hc : Cn n x) (h : vs B64 x n = 0) : n = 0 := vs_eq_zero B64_pos hc h
theorem plain_V {neg : Bool} {n : Nat} {x : Nat → Nat} {e : Int} (hc : Cn n x) : plainB neg n x e = plainV neg (vs B64 x n) e := by
  unfold plainB plainV
  rcases Nat.eq_zero_or_pos n with h0 | h0
  · subst h0; simp [vs_zero]
  · have hv : vs B64 x n ≠ 0 := fun h => by have := cn_zero hc h; omega
    obtain ⟨m, rfl⟩ : ∃ m, n = m + 1 := ⟨n - 1, by omega⟩
    have h1 : x m ≠ 0 := by
      rcases hc with h | h
      · omega
      · simpa using h
    have h2 : vs B64 x (m + 1) % 2 = x 0 % 2 := by
      rw [vs_cons, B64_pow, show (2 : Nat) ^ 64 = 2 * 2 ^ 63 by decide, Nat.mul_assoc, Nat.add_mul_mod_self_left]
    rw [if_neg (by omega), if_neg hv, h2]
    simp [h1]
/-- A plain dyad lies in memory. -/
theorem PlainF.num {w : World} {neg : Bool} {A : Option Addr} {n c : Nat} {x : Nat → Nat} {e : Int} (h : PlainF neg n x e) (hs : Sl w A n c x) : Num w (.slice A n c) (vs B64 x n) := ⟨A, n, c, x, rfl, hs, h.cn, rfl⟩
end Go.Proofs.YtembfhepinfmnaaDoor

namespace Go.Proofs.YtembfhepinfmnaaDoor
open Go.RowKit

theorem cell_put3 {w : World} {g g' i : Nat} {a b c v : Value} (h : w.cell? ⟨g', i, none⟩ = some v) (hne : g' ≠ g) : (put3 w g a b c).cell? ⟨g', i, none⟩ = some v := by
  have e : ∀ (w : World) (i : Nat) (u : Value), (w.setCell ⟨g, i, none⟩ u).heap[g']? = w.heap[g']? := fun w i u => Below.heap_setCell w _ u g' (by simpa using hne)
  rw [World.cell?_of_block ((e _ _ _).trans ((e _ _ _).trans (e _ _ _)))]; exact h

/-- The six cells of two dyads. -/
def Six (w w' : World) (na : Bool) (A : Option Addr) (n c : Nat) (ea : Int) (nb' : Bool) (B : Option Addr) (m d : Nat) (eb : Int) : Prop :=
  (w'.cell? ⟨w.heap.size, 0, none⟩ = some (.bool na) ∧ w'.cell? ⟨w.heap.size, 1, none⟩ = some (.slice A n c) ∧ w'.cell? ⟨w.heap.size, 2, none⟩ = some (.int .i64 ea)) ∧
    (w'.cell? ⟨w.heap.size + 1, 0, none⟩ = some (.bool nb') ∧ w'.cell? ⟨w.heap.size + 1, 1, none⟩ = some (.slice B m d) ∧ w'.cell? ⟨w.heap.size + 1, 2, none⟩ = some (.int .i64 eb))
theorem F3.six {w w1 : World} {na nb' : Bool} {A B : Option Addr} {n c m d : Nat} {ea eb : Int} (h : F3 w w1 na A n c ea nb' B m d eb) : Six w w1 na A n c ea nb' B m d eb := ⟨h.ka.cell, h.kb.cell⟩
theorem Six.put {w w1 : World} {na nb' : Bool} {A B : Option Addr} {n c m d : Nat} {ea eb : Int} (h : Six w w1 na A n c ea nb' B m d eb) (a b e : Value) : Six w (put3 w1 (w.heap.size + 1 + 1) a b e) na A n c ea nb' B m d eb :=
  ⟨⟨cell_put3 h.1.1 (by omega), cell_put3 h.1.2.1 (by omega), cell_put3 h.1.2.2 (by omega)⟩, ⟨cell_put3 h.2.1 (by omega), cell_put3 h.2.2.1 (by omega), cell_put3 h.2.2.2 (by omega)⟩⟩

end Go.Proofs.YtembfhepinfmnaaDoor
