/-
  Rows of uint64 that the call itself made: their words by the place; the sum that is worked into a row. No program is named here.
-/
import Derived.Test.YthjndkkepailmaaWords
import Derived.Deep.OwnRows
import Derived.Laws.AppendOwn
import Derived.Laws.CopyOwn
import Derived.Lib.Hide
namespace Go.Proofs.Ythjndkkepailmaa
open Go.RowKit

/-- Block g is a row of at least N words, F j at place j, none frozen. -/
def Row (t : TypeId) (w : World) (g N : Nat) (F : Nat → Nat) : Prop :=
  (∃ c : Array Value, w.heap[g]? = some (.cells c t (0, 0)) ∧ N ≤ c.size ∧ ∀ i, i < N → c[i]? = some (.int .u64 ((F i : Nat) : Int))) ∧ ∀ j, j < N → F j < B64
/-- Only block g, and what is new, has turned. -/
abbrev Only (w w' : World) (g : Nat) : Prop := w.grownBy w' (some g)

section
variable {t : TypeId} {w w' : World} {g N : Nat} {F : Nat → Nat}
theorem Row.lt (h : Row t w g N F) : g < w.heap.size := by
  obtain ⟨⟨c, hb, _⟩, _⟩ := h
  exact (Array.getElem?_eq_some_iff.1 hb).1
theorem Row.cell (h : Row t w g N F) {i : Nat} (hi : i < N) : w.cell? ⟨g, i, none⟩ = some (.int .u64 ((F i : Nat) : Int)) := by
  obtain ⟨⟨c, hb, _, hc⟩, _⟩ := h
  simp [World.cell?, hb, hc i hi]
theorem Row.frozen (h : Row t w g N F) (i : Nat) : w.frozen? ⟨g, i, none⟩ = false := by
  obtain ⟨⟨c, hb, _, _⟩, _⟩ := h
  simp [World.frozen?, hb]
theorem Row.set_ (h : Row t w g N F) (i x : Nat) (hx : x < B64) : Row t (w.setCell ⟨g, i, none⟩ (.int .u64 ((x : Nat) : Int))) g N (upd F i x) := by
  obtain ⟨⟨c, hb, hn, hc⟩, h2⟩ := h
  refine ⟨⟨c.setIfInBounds i (.int .u64 ((x : Nat) : Int)), by simp [World.setCell, Array.getElem?_modify, hb], by simpa using hn, fun j hj => ?_⟩, fun j hj => ?_⟩
  · rw [Array.getElem?_setIfInBounds]
    by_cases e : j = i
    · subst e; rw [if_pos rfl, if_pos (by omega), upd_same]
    · rw [if_neg (fun h => e h.symm), upd_other _ _ _ _ e]; exact hc j hj
  · unfold upd; split
    · exact hx
    · exact h2 j hj
theorem Row.of_block (h : Row t w g N F) (e : w'.heap[g]? = w.heap[g]?) : Row t w' g N F := by
  obtain ⟨⟨c, hb, r⟩, h2⟩ := h
  exact ⟨⟨c, e.trans hb, r⟩, h2⟩
theorem Row.alloc (h : Row t w g N F) (o : Obj) : Row t (w.alloc o) g N F := h.of_block (Below.heap_alloc w o g h.lt)
theorem Row.drew (h : Row t w g N F) : Row t w.drew g N F := h
theorem Row.drewN (h : Row t w g N F) (n : Nat) : Row t (w.drewN n) g N F := h
theorem Row.below (h : Row t w g N F) {B : Nat} (hb : Below B w w') (hg : g < B) : Row t w' g N F := h.of_block (hb.block g hg)
theorem Row.other (h : Row t w g N F) {g' : Nat} (ho : Only w w' g') (hne : g ≠ g') : Row t w' g N F := h.of_block (ho.block g h.lt (by simpa using hne))
theorem Row.congr {G : Nat → Nat} (h : Row t w g N F) (e : ∀ j, j < N → F j = G j) : Row t w g N G := by
  obtain ⟨⟨c, hb, hn, hc⟩, h2⟩ := h
  exact ⟨⟨c, hb, hn, fun i hi => by rw [hc i hi, e i hi]⟩, fun j hj => e j hj ▸ h2 j hj⟩
theorem Row.made (t : TypeId) (w : World) (n : Nat) : Row t (w.alloc (.cells (madeCells #[.int .u64 0] n) t)) w.heap.size n (fun _ => 0) := by
  obtain ⟨c, hb, hn, hc⟩ := World.rowIs_made w (.int .u64 0) n t
  exact ⟨⟨c, hb, by omega, hc⟩, fun _ _ => B64_pos⟩
theorem Only.refl (w : World) (g : Nat) : Only w w g := ⟨rfl, rfl, rfl, Nat.le_refl _, fun _ _ _ => rfl⟩
theorem Only.trans {a b c : World} {g : Nat} (h : Only a b g) (k : Only b c g) : Only a c g :=
  ⟨k.os.trans h.os, k.tape.trans h.tape, k.output.trans h.output, Nat.le_trans h.size k.size, fun i hi hne => (k.block i (Nat.lt_of_lt_of_le hi h.size) hne).trans (h.block i hi hne)⟩
theorem Only.set_ {a : World} (h : Only a w g) (i : Nat) (u : Value) : Only a (w.setCell ⟨g, i, none⟩ u) g :=
  ⟨h.os, h.tape, h.output, by simpa [World.setCell] using h.size, fun i hi hne => (Below.heap_setCell w _ u i (by intro e; exact hne (by rw [e]))).trans (h.block i hi hne)⟩
theorem Only.below {B : Nat} {a : World} (h : Below B a w) (k : Only w w' g) (hB : B ≤ w.heap.size) (hg : B ≤ g) : Below B a w' :=
  h.grown k hB fun i hi => by injection hi with hi; omega
/-- A slice in a block that isn't g stays. -/
theorem Sl.only {A : Option Addr} {n c : Nat} {f : Nat → Nat} (h : Sl w A n c f) (k : Only w w' g) (hne : 0 < n → ∀ ad, A = some ad → ad.block ≠ g) : Sl w' A n c f :=
  ⟨h.1, h.2.1, fun hn => by
    obtain ⟨ad, e, hb, hc⟩ := h.2.2 hn
    exact ⟨ad, e, Nat.lt_of_lt_of_le hb k.size, fun j hj => (World.cell?_of_block (k.block _ (by rw [block_of_add]; exact hb) (by rw [block_of_add]; have := hne hn ad e; simpa using this))).trans (hc j hj)⟩⟩
theorem Sl.far {A : Option Addr} {n c : Nat} {f : Nat → Nat} (h : Sl w A n c f) (hg : w.heap.size ≤ g) : 0 < n → ∀ ad, A = some ad → ad.block ≠ g := fun hn ad e => by
  obtain ⟨ad', e', hb, _⟩ := h.2.2 hn
  rw [e] at e'
  injection e' with e'
  subst e'
  omega
theorem add_mk (g off j : Nat) : (Addr.mk g off none).add j = ⟨g, off + j, none⟩ := by
  unfold Addr.add; split
  · rename_i h; subst h; rfl
  · rfl
/-- A piece of a row, as a slice. -/
theorem Row.sl (h : Row t w g N F) (off n c : Nat) (hN : off + n ≤ N) (hc : n ≤ c) : Sl w (some ⟨g, off, none⟩) n c (fun j => F (off + j)) :=
  ⟨hc, fun j hj => h.2 _ (by omega), fun _ => ⟨_, rfl, h.lt, fun j hj => by rw [add_mk]; exact h.cell (by omega)⟩⟩
theorem Row.sl0 (h : Row t w g N F) (n c : Nat) (hN : n ≤ N) (hc : n ≤ c) : Sl w (some ⟨g, 0, none⟩) n c F :=
  (h.sl 0 n c (by omega) hc).congr fun j _ => by rw [Nat.zero_add]
end

/-- What holds while y (m words) is added into n words of a row from off on: k places are done, d is carried. -/
def AddInv (t : TypeId) (D : Nat) (w wr : World) (g N off : Nat) (F F' y : Nat → Nat) (m k d : Nat) : Prop :=
  d ≤ D ∧ Row t wr g N F' ∧ Only w wr g ∧ (∀ j, j < off ∨ off + k ≤ j → F' j = F j) ∧
    vs B64 (fun j => F' (off + j)) k + d * B64 ^ k = vs B64 (fun j => F (off + j)) k + vs B64 (fun j => if j < m then y j else 0) k

section
variable {t : TypeId} {w wr : World} {g N off : Nat} {F F' y : Nat → Nat} {m k d D : Nat}
theorem AddInv.start (h : Row t w g N F) : AddInv t D w w g N off F F y m 0 0 := ⟨Nat.zero_le _, h, Only.refl _ _, fun _ _ => rfl, by simp [vs_zero]⟩
theorem AddInv.step (h : AddInv t D w wr g N off F F' y m k d) {r d' : Nat} (hr : r + d' * B64 = F (off + k) + (if k < m then y k else 0) + d) (h1 : r < B64) (h2 : d' ≤ D) :
    AddInv t D w (wr.setCell ⟨g, off + k, none⟩ (.int .u64 ((r : Nat) : Int))) g N off F (upd F' (off + k) r) y m (k + 1) d' := by
  obtain ⟨_, hrow, hon, hag, hv⟩ := h
  refine ⟨h2, hrow.set_ _ _ h1, hon.set_ _ _, fun j hj => ?_, ?_⟩
  · rw [upd_other _ _ _ _ (by omega)]; exact hag j (by omega)
  · rw [vs_succ, vs_succ, vs_succ, upd_same]
    have e : vs B64 (fun j => upd F' (off + k) r (off + j)) k = vs B64 (fun j => F' (off + j)) k := vs_congr fun j hj => upd_other _ _ _ _ (by omega)
    rw [e]
    exact step_add hv hr
/-- Nothing is carried any more: what is above stays. -/
theorem AddInv.rest (h : AddInv t D w wr g N off F F' y m k 0) (hm : m ≤ k) (i : Nat) : AddInv t D w wr g N off F F' y m (k + i) 0 := by
  induction i with
  | zero => exact h
  | succ i ih =>
    obtain ⟨_, hrow, hon, hag, hv⟩ := ih
    refine ⟨Nat.zero_le _, hrow, hon, fun j hj => h.2.2.2.1 j (by omega), ?_⟩
    rw [← Nat.add_assoc, vs_succ, vs_succ, vs_succ, if_neg (by omega), h.2.2.2.1 (off + (k + i)) (by omega)]
    simp only [Nat.zero_mul, Nat.add_zero] at hv ⊢
    omega
theorem vs_pad (b : Nat) (y : Nat → Nat) (m n : Nat) (h : m ≤ n) : vs b (fun j => if j < m then y j else 0) n = vs b y m := by
  obtain ⟨i, rfl⟩ := Nat.exists_eq_add_of_le h
  clear h
  induction i with
  | zero => exact vs_congr fun j hj => by rw [if_pos (by omega)]
  | succ i ih => rw [← Nat.add_assoc, vs_succ, ih, if_neg (by omega), Nat.zero_mul, Nat.add_zero]
end
end Go.Proofs.Ythjndkkepailmaa
