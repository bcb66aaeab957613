/-
  Words for slices of uint64 that read as digits; plain lemmas on them. No program is named here.
  Rows of uint64 that the call itself made: their words by the place; the sum that is worked into a row. No program is named here.
  copy and append on rows of uint64, as laws for the walk. No program is named here.
  Closed facts of the program, and what each of the walks over nat imports.
  nat.view: the trimmed part of a list.
-/
import Derived.Below
import Derived.Laws.OwnMore
import Derived.Deep.AppendLies
import Derived.Deep.Draws
import Derived.Laws.Rows
import Derived.RowKit
import Derived.Deep.OwnRows
import Derived.Laws.AppendOwn
import Derived.Laws.CopyOwn
import Derived.Lib.Hide
import Derived.Maps.AppendAt
import Derived.OwnWalk
import Derived.Laws.NewBlocks
import Derived.Laws.AppendOwnNone
import Derived.Deep.RegionLaw
import Derived.Test.YtembfhepinfmnaaDoorRows
import Derived.WalkKit
import Derived.ProofKit
import Derived.Outline
import Derived.Test.YtembfhepinfmnaaDoorPlPGNumbers
namespace Go.Proofs.YtembfhepinfmnaaDoor
open Go.RowKit

theorem block_of_add (a : Addr) (n : Nat) : (a.add n).block = a.block := by unfold Addr.add; split <;> rfl
theorem add_of_add (a : Addr) (i j : Nat) : (a.add i).add j = a.add (i + j) := by
  unfold Addr.add
  by_cases hi : i = 0 <;> by_cases hj : j = 0 <;> simp [hi, hj, Nat.add_assoc]

/-- A slice value '.slice A n c' whose words are f 0, .., f (n - 1) in world w. -/
def Sl (w : World) (A : Option Addr) (n c : Nat) (f : Nat → Nat) : Prop :=
  n ≤ c ∧ (∀ j, j < n → f j < B64) ∧
    (0 < n → ∃ ad, A = some ad ∧ ad.block < w.heap.size ∧ ∀ j, j < n → w.cell? (ad.add j) = some (.int .u64 ((f j : Nat) : Int)))

/-- A trimmed slice that stands for V. -/
def Num (w : World) (v : Value) (V : Nat) : Prop := ∃ A n c f, v = .slice A n c ∧ Sl w A n c f ∧ Cn n f ∧ vs B64 f n = V

section
variable {w w' : World} {A : Option Addr} {n c : Nat} {f : Nat → Nat}
theorem Sl.cap (h : Sl w A n c f) : n ≤ c := h.1
theorem Sl.small (h : Sl w A n c f) : ∀ j, j < n → f j < B64 := h.2.1
theorem Sl.none_ (w : World) (c : Nat) (A : Option Addr) (f : Nat → Nat) : Sl w A 0 c f := ⟨Nat.zero_le _, fun j h => absurd h (by omega), fun h => absurd h (by omega)⟩
theorem Sl.at_ {k : Nat} (h : Sl w A n c f) (hk : k < n) : ∃ ad, A = some ad ∧ ad.block < w.heap.size ∧ f k < B64 ∧ w.cell? (ad.add k) = some (.int .u64 ((f k : Nat) : Int)) := by
  obtain ⟨_, h2, h3⟩ := h
  obtain ⟨ad, e, hb, hc⟩ := h3 (by omega)
  exact ⟨ad, e, hb, h2 k hk, hc k hk⟩
theorem Sl.keep (h : Sl w A n c f) (hz : w.heap.size ≤ w'.heap.size) (hk : ∀ p : Addr, p.block < w.heap.size → w'.cell? p = w.cell? p) : Sl w' A n c f :=
  ⟨h.1, h.2.1, fun hn => by
    obtain ⟨ad, e, hb, hc⟩ := h.2.2 hn
    exact ⟨ad, e, by omega, fun j hj => (hk _ (by rw [block_of_add]; exact hb)).trans (hc j hj)⟩⟩
theorem Sl.below (h : Sl w A n c f) (hb : Below w.heap.size w w') : Sl w' A n c f := h.keep hb.size fun _ hp => hb.cell hp
theorem Sl.drew (h : Sl w A n c f) : Sl w.drew A n c f := h
theorem Sl.drewN (h : Sl w A n c f) (k : Nat) : Sl (w.drewN k) A n c f := h
theorem Sl.alloc (h : Sl w A n c f) (o : Obj) : Sl (w.alloc o) A n c f := h.keep (by simp) fun p hp => World.cell?_alloc_lt w o p hp
theorem Sl.take (h : Sl w A n c f) {k : Nat} (hk : k ≤ n) : Sl w A k c f := by
  obtain ⟨h1, h2, h3⟩ := h
  refine ⟨by omega, fun j hj => h2 j (by omega), fun hn => ?_⟩
  obtain ⟨ad, e, hb, hc⟩ := h3 (by omega)
  exact ⟨ad, e, hb, fun j hj => hc j (by omega)⟩
theorem Sl.congr {g : Nat → Nat} (h : Sl w A n c f) (hg : ∀ j, j < n → f j = g j) : Sl w A n c g := by
  obtain ⟨h1, h2, h3⟩ := h
  refine ⟨h1, fun j hj => hg j hj ▸ h2 j hj, fun hn => ?_⟩
  obtain ⟨ad, e, hb, hc⟩ := h3 hn
  exact ⟨ad, e, hb, fun j hj => by rw [← hg j hj]; exact hc j hj⟩
theorem Num.below {v : Value} {V : Nat} (h : Num w v V) (hb : Below w.heap.size w w') : Num w' v V := by
  obtain ⟨A, n, c, f, hv, hs, hc, he⟩ := h
  exact ⟨A, n, c, f, hv, hs.below hb, hc, he⟩
end

/-- What view answers: nil for nothing, else the first k words. -/
def viewV (A : Option Addr) (c k : Nat) : Value := if k = 0 then .slice none 0 0 else .slice A k c
theorem viewV_sl {w : World} {A : Option Addr} {n c : Nat} {f : Nat → Nat} (h : Sl w A n c f) : ∃ A' c', viewV A c (tl f n) = .slice A' (tl f n) c' ∧ Sl w A' (tl f n) c' f := by
  unfold viewV
  by_cases h0 : tl f n = 0
  · rw [if_pos h0, h0]; exact ⟨none, 0, rfl, Sl.none_ w 0 none f⟩
  · rw [if_neg h0]; exact ⟨A, c, rfl, h.take (tl_le f n)⟩
theorem viewV_num {w : World} {A : Option Addr} {n c : Nat} {f : Nat → Nat} (h : Sl w A n c f) : Num w (viewV A c (tl f n)) (vs B64 f n) := by
  obtain ⟨A', c', e, hs⟩ := viewV_sl h
  exact ⟨A', _, c', f, e, hs, tl_cn f n, vs_tl _ f n⟩
end Go.Proofs.YtembfhepinfmnaaDoor

namespace Go.Proofs.YtembfhepinfmnaaDoor
open Go.RowKit

/-- Block g is a row of at least N words, F j at place j, none frozen. -/
def Row (t : TypeId) (w : World) (g N : Nat) (F : Nat → Nat) : Prop :=
  (∃ c : Array Value, w.heap[g]? = some (.cells c t (0, 0)) ∧ N ≤ c.size ∧ ∀ i, i < N → c[i]? = some (.int .u64 ((F i : Nat) : Int))) ∧ ∀ j, j < N → F j < B64
/-- Only block g, and what is new, has turned. -/
abbrev Only (w w' : World) (g : Nat) : Prop := w.grownBy w' (some g)

section
variable {t : TypeId} {w w' : World} {g N : Nat} {F : Nat → Nat}
theorem Row.lt (h : Row t w g N F) : g < w.heap.size := by
  obtain ⟨⟨c, hb, _⟩, _⟩ := h
  exact (Array.getElem?_eq_some_iff.1 hb).1
theorem Row.cell (h : Row t w g N F) {i : Nat} (hi : i < N) : w.cell? ⟨g, i, none⟩ = some (.int .u64 ((F i : Nat) : Int)) := by
  obtain ⟨⟨c, hb, _, hc⟩, _⟩ := h
  simp [World.cell?, hb, hc i hi]
theorem Row.frozen (h : Row t w g N F) (i : Nat) : w.frozen? ⟨g, i, none⟩ = false := by
  obtain ⟨⟨c, hb, _, _⟩, _⟩ := h
  simp [World.frozen?, hb]
theorem Row.set_ (h : Row t w g N F) (i x : Nat) (hx : x < B64) : Row t (w.setCell ⟨g, i, none⟩ (.int .u64 ((x : Nat) : Int))) g N (upd F i x) := by
  obtain ⟨⟨c, hb, hn, hc⟩, h2⟩ := h
  refine ⟨⟨c.setIfInBounds i (.int .u64 ((x : Nat) : Int)), by simp [World.setCell, Array.getElem?_modify, hb], by simpa using hn, fun j hj => ?_⟩, fun j hj => ?_⟩
  · rw [Array.getElem?_setIfInBounds]
    by_cases e : j = i
    · subst e; rw [if_pos rfl, if_pos (by omega), upd_same]
    · rw [if_neg (fun h => e h.symm), upd_other _ _ _ _ e]; exact hc j hj
  · unfold upd; split
    · exact hx
    · exact h2 j hj
theorem Row.of_block (h : Row t w g N F) (e : w'.heap[g]? = w.heap[g]?) : Row t w' g N F := by
  obtain ⟨⟨c, hb, r⟩, h2⟩ := h
  exact ⟨⟨c, e.trans hb, r⟩, h2⟩
theorem Row.alloc (h : Row t w g N F) (o : Obj) : Row t (w.alloc o) g N F := h.of_block (Below.heap_alloc w o g h.lt)
theorem Row.drew (h : Row t w g N F) : Row t w.drew g N F := h
theorem Row.drewN (h : Row t w g N F) (n : Nat) : Row t (w.drewN n) g N F := h
theorem Row.below (h : Row t w g N F) {B : Nat} (hb : Below B w w') (hg : g < B) : Row t w' g N F := h.of_block (hb.block g hg)
theorem Row.other (h : Row t w g N F) {g' : Nat} (ho : Only w w' g') (hne : g ≠ g') : Row t w' g N F := h.of_block (ho.block g h.lt (by simpa using hne))
theorem Row.congr {G : Nat → Nat} (h : Row t w g N F) (e : ∀ j, j < N → F j = G j) : Row t w g N G := by
  obtain ⟨⟨c, hb, hn, hc⟩, h2⟩ := h
  exact ⟨⟨c, hb, hn, fun i hi => by rw [hc i hi, e i hi]⟩, fun j hj => e j hj ▸ h2 j hj⟩
theorem Row.made (t : TypeId) (w : World) (n : Nat) : Row t (w.alloc (.cells (madeCells #[.int .u64 0] n) t)) w.heap.size n (fun _ => 0) := by
  obtain ⟨c, hb, hn, hc⟩ := World.rowIs_made w (.int .u64 0) n t
  exact ⟨⟨c, hb, by omega, hc⟩, fun _ _ => B64_pos⟩
theorem Only.refl (w : World) (g : Nat) : Only w w g := ⟨rfl, rfl, rfl, Nat.le_refl _, fun _ _ _ => rfl⟩
theorem Only.trans {a b c : World} {g : Nat} (h : Only a b g) (k : Only b c g) : Only a c g :=
  ⟨k.os.trans h.os, k.tape.trans h.tape, k.output.trans h.output, Nat.le_trans h.size k.size, fun i hi hne => (k.block i (Nat.lt_of_lt_of_le hi h.size) hne).trans (h.block i hi hne)⟩
theorem Only.set_ {a : World} (h : Only a w g) (i : Nat) (u : Value) : Only a (w.setCell ⟨g, i, none⟩ u) g :=
  ⟨h.os, h.tape, h.output, by simpa [World.setCell] using h.size, fun i hi hne => (Below.heap_setCell w _ u i (by intro e; exact hne (by rw [e]))).trans (h.block i hi hne)⟩
theorem Only.below {B : Nat} {a : World} (h : Below B a w) (k : Only w w' g) (hB : B ≤ w.heap.size) (hg : B ≤ g) : Below B a w' :=
  h.grown k hB fun i hi => by injection hi with hi; omega
/-- A slice in a block that isn't g stays. -/
theorem Sl.only {A : Option Addr} {n c : Nat} {f : Nat → Nat} (h : Sl w A n c f) (k : Only w w' g) (hne : 0 < n → ∀ ad, A = some ad → ad.block ≠ g) : Sl w' A n c f :=
  ⟨h.1, h.2.1, fun hn => by
    obtain ⟨ad, e, hb, hc⟩ := h.2.2 hn
    exact ⟨ad, e, Nat.lt_of_lt_of_le hb k.size, fun j hj => (World.cell?_of_block (k.block _ (by rw [block_of_add]; exact hb) (by rw [block_of_add]; have := hne hn ad e; simpa using this))).trans (hc j hj)⟩⟩
theorem Sl.far {A : Option Addr} {n c : Nat} {f : Nat → Nat} (h : Sl w A n c f) (hg : w.heap.size ≤ g) : 0 < n → ∀ ad, A = some ad → ad.block ≠ g := fun hn ad e => by
  obtain ⟨ad', e', hb, _⟩ := h.2.2 hn
  rw [e] at e'
  injection e' with e'
  subst e'
  omega
theorem add_mk (g off j : Nat) : (Addr.mk g off none).add j = ⟨g, off + j, none⟩ := by
  unfold Addr.add; split
  · rename_i h; subst h; rfl
  · rfl
/-- A piece of a row, as a slice. -/
theorem Row.sl (h : Row t w g N F) (off n c : Nat) (hN : off + n ≤ N) (hc : n ≤ c) : Sl w (some ⟨g, off, none⟩) n c (fun j => F (off + j)) :=
  ⟨hc, fun j hj => h.2 _ (by omega), fun _ => ⟨_, rfl, h.lt, fun j hj => by rw [add_mk]; exact h.cell (by omega)⟩⟩
theorem Row.sl0 (h : Row t w g N F) (n c : Nat) (hN : n ≤ N) (hc : n ≤ c) : Sl w (some ⟨g, 0, none⟩) n c F :=
  (h.sl 0 n c (by omega) hc).congr fun j _ => by rw [Nat.zero_add]
end

/-- What holds while y (m words) is added into n words of a row from off on: k places are done, d is carried. -/
def AddInv (t : TypeId) (D : Nat) (w wr : World) (g N off : Nat) (F F' y : Nat → Nat) (m k d : Nat) : Prop :=
  d ≤ D ∧ Row t wr g N F' ∧ Only w wr g ∧ (∀ j, j < off ∨ off + k ≤ j → F' j = F j) ∧
    vs B64 (fun j => F' (off + j)) k + d * B64 ^ k = vs B64 (fun j => F (off + j)) k + vs B64 (fun j => if j < m then y j else 0) k

section
variable {t : TypeId} {w wr : World} {g N off : Nat} {F F' y : Nat → Nat} {m k d D : Nat}
theorem AddInv.start (h : Row t w g N F) : AddInv t D w w g N off F F y m 0 0 := ⟨Nat.zero_le _, h, Only.refl _ _, fun _ _ => rfl, by simp [vs_zero]⟩
theorem AddInv.step (h : AddInv t D w wr g N off F F' y m k d) {r d' : Nat} (hr : r + d' * B64 = F (off + k) + (if k < m then y k else 0) + d) (h1 : r < B64) (h2 : d' ≤ D) :
    AddInv t D w (wr.setCell ⟨g, off + k, none⟩ (.int .u64 ((r : Nat) : Int))) g N off F (upd F' (off + k) r) y m (k + 1) d' := by
  obtain ⟨_, hrow, hon, hag, hv⟩ := h
  refine ⟨h2, hrow.set_ _ _ h1, hon.set_ _ _, fun j hj => ?_, ?_⟩
  · rw [upd_other _ _ _ _ (by omega)]; exact hag j (by omega)
  · rw [vs_succ, vs_succ, vs_succ, upd_same]
    have e : vs B64 (fun j => upd F' (off + k) r (off + j)) k = vs B64 (fun j => F' (off + j)) k := vs_congr fun j hj => upd_other _ _ _ _ (by omega)
    rw [e]
    exact step_add hv hr
/-- Nothing is carried any more: what is above stays. -/
theorem AddInv.rest (h : AddInv t D w wr g N off F F' y m k 0) (hm : m ≤ k) (i : Nat) : AddInv t D w wr g N off F F' y m (k + i) 0 := by
  induction i with
  | zero => exact h
  | succ i ih =>
    obtain ⟨_, hrow, hon, hag, hv⟩ := ih
    refine ⟨Nat.zero_le _, hrow, hon, fun j hj => h.2.2.2.1 j (by omega), ?_⟩
    rw [← Nat.add_assoc, vs_succ, vs_succ, vs_succ, if_neg (by omega), h.2.2.2.1 (off + (k + i)) (by omega)]
    simp only [Nat.zero_mul, Nat.add_zero] at hv ⊢
    omega
end
end Go.Proofs.YtembfhepinfmnaaDoor

namespace Go.Proofs.YtembfhepinfmnaaDoor
open Go.RowKit

/-- The cells of n words. -/
def cellsOf (f : Nat → Nat) (n : Nat) : List Value := (List.range n).map fun j => Value.int .u64 ((f j : Nat) : Int)
theorem cellsOf_len (f : Nat → Nat) (n : Nat) : (cellsOf f n).length = n := by simp [cellsOf]
theorem cellsOf_get {f : Nat → Nat} {n j : Nat} (h : j < n) : (cellsOf f n)[j]? = some (.int .u64 ((f j : Nat) : Int)) := by simp [cellsOf, h]
theorem cellsOf_congr {f g : Nat → Nat} {n : Nat} (h : ∀ j, j < n → f j = g j) : cellsOf f n = cellsOf g n := by
  apply List.ext_getElem?
  intro j
  rcases Nat.lt_or_ge j n with h1 | h1
  · rw [cellsOf_get h1, cellsOf_get h1, h j h1]
  · rw [List.getElem?_eq_none (by rw [cellsOf_len]; exact h1), List.getElem?_eq_none (by rw [cellsOf_len]; exact h1)]
/-- A slice that the call itself has made, in blocks from base on: n words, f. -/
def Own (t : TypeId) (w : World) (base : Nat) (v : Value) (n : Nat) (f : Nat → Nat) : Prop := w.ownsRow base t 1 v n (cellsOf f n) ∧ ∀ j, j < n → f j < B64

section
variable {t : TypeId} {w w' : World} {base : Nat} {v : Value} {n : Nat} {f : Nat → Nat}
theorem Own.nil (t : TypeId) (w : World) (base : Nat) (f : Nat → Nat) : Own t w base (.slice none 0 0) 0 f := ⟨⟨rfl, .inl ⟨rfl, rfl⟩⟩, fun j h => absurd h (by omega)⟩
/-- What make has laid. -/
theorem Own.made (t : TypeId) (w : World) (base n : Nat) (hb : base ≤ w.heap.size) (hn : n ≤ 1000000) : Own t (w.alloc (.cells (madeCells #[.int .u64 0] n) t)) base (.slice (some ⟨w.heap.size, 0, none⟩) n n) n (fun _ => 0) := by
  refine ⟨⟨by rw [cellsOf_len]; omega, .inr ⟨w.heap.size, n, _, rfl, hb, heap_alloc_new w _, Nat.le_refl _, by simp only [maxLen]; omega, by rw [size_madeCells]; omega, ?_⟩⟩, fun _ _ => B64_pos⟩
  rw [toList_madeCells_one, List.take_of_length_le (by simp)]
  apply List.ext_getElem?
  intro j
  rcases Nat.lt_or_ge j n with h1 | h1
  · rw [cellsOf_get h1]; simp [h1]
  · rw [List.getElem?_eq_none (by simpa using h1), List.getElem?_eq_none (by rw [cellsOf_len]; exact h1)]
/-- Its words, to be written. -/
theorem Own.row {t : TypeId} {w : World} {base : Nat} {v : Value} {n : Nat} {f : Nat → Nat} (h : Own t w base v n f) (hn : 0 < n) : ∃ g c, v = .slice (some ⟨g, 0, none⟩) n c ∧ base ≤ g ∧ n ≤ c ∧ Row t w g n f := by
  obtain ⟨⟨hl, h1⟩, h2⟩ := h
  rcases h1 with ⟨_, h0⟩ | ⟨g, cap, cur, rfl, hg, hh, hnc, hcm, hcs, hct⟩
  · omega
  · refine ⟨g, cap, rfl, hg, hnc, ⟨cur, hh, by omega, fun j hj => ?_⟩, h2⟩
    have e1 : (cellsOf f n)[j]? = cur.toList[j]? := by rw [← hct, List.getElem?_take, if_pos (by omega)]
    rw [cellsOf_get hj, Array.getElem?_toList] at e1
    exact e1.symm
theorem Own.alloc (h : Own t w base v n f) (o : Obj) : Own t (w.alloc o) base v n f := ⟨h.1.alloc o, h.2⟩
theorem Own.drew (h : Own t w base v n f) : Own t w.drew base v n f := h
theorem Own.congr {g : Nat → Nat} (h : Own t w base v n f) (e : ∀ j, j < n → f j = g j) : Own t w base v n g := by
  refine ⟨?_, fun j hj => e j hj ▸ h.2 j hj⟩
  rw [← cellsOf_congr e]; exact h.1
theorem Own.sl (h : Own t w base v n f) : ∃ A c, v = .slice A n c ∧ Sl w A n c f ∧ ∀ ad, A = some ad → base ≤ ad.block := by
  obtain ⟨⟨hl, h1⟩, h2⟩ := h
  rcases h1 with ⟨rfl, rfl⟩ | ⟨g, cap, cur, rfl, hg, hh, hnc, hcm, hcs, hct⟩
  · exact ⟨none, 0, rfl, Sl.none_ w 0 none f, fun ad e => by cases e⟩
  · refine ⟨_, cap, rfl, ⟨hnc, h2, fun hn => ⟨_, rfl, ?_, fun j hj => ?_⟩⟩, fun ad e => by injection e with e; subst e; exact hg⟩
    · exact (Array.getElem?_eq_some_iff.1 hh).1
    · rw [add_mk, Nat.zero_add]
      have e1 : (cellsOf f n)[j]? = cur.toList[j]? := by rw [← hct, List.getElem?_take, if_pos (by omega)]
      rw [cellsOf_get hj] at e1
      simp [World.cell?, hh] 
      rw [Array.getElem?_toList] at e1
      exact e1.symm
end

section
variable {P : Program} {w : World} {ops : Array Oper} {rest : List Oper} {o : Oper} {a : Act} {Q : Exit → Act → World → Prop}

end
end Go.Proofs.YtembfhepinfmnaaDoor

namespace Go.Proofs.YtembfhepinfmnaaDoor
open Go.RowKit
theorem info64 : (Tryd.prog.info? 22).map (fun i => (i.zero, i.size, i.bytes)) = some (some (.int .u64 0), 1, 8) := by kernel_rfl
theorem make_run (n : Nat) (hn : n ≤ 1000001) (u : World) : (Instr.makeSlice 31 (.int .i64 (n : Int)) (.int .i64 (n : Int))).run Tryd.prog u =
    .ok (.slice (some ⟨u.heap.size, 0, none⟩) n n) (u.alloc (.cells (madeCells #[.int .u64 0] n) 22)) :=
  run_make_row' 31 22 (.int .u64 0) 8 Tryd.underlying31 info64 rfl .i64 .i64 n (by omega) (by omega) u
end Go.Proofs.YtembfhepinfmnaaDoor

namespace Go.Proofs.YtembfhepinfmnaaDoor
open Go.RowKit

set_option maxHeartbeats 400000 in
theorem view_wide (A : Option Addr) (n c : Nat) (f : Nat → Nat) (w : World) (h : Sl w A n c f) (hn : n ≤ 70368744177664) :
    Calls Tryd.prog 62 #[.slice A n c] w fun e w' => e = .returned (viewV A c (tl f n)) ∧ w = w' := by
  have hcap := h.cap
  go_enter Tryd.func62, Tryd.ntmps62
  go_wp2
  go_loop [3] (fun i => ∃ k : Nat, k ≤ n ∧ i = .int .i64 k ∧ Hid (tl f k = tl f n)) (fun i => (intOf i).toNat)
  case atStart => exact ⟨n, Nat.le_refl _, rfl, rfl⟩
  case round =>
    obtain ⟨k, hk, rfl, ht⟩ := hrel
    rcases k with _ | m
    · go_wp2
      go_ret
      exact ⟨by rw [← ht.out]; rfl, rfl⟩
    · obtain ⟨ad, rfl, hb, hx64, hcell⟩ := h.at_ (k := m) (by omega)
      have hxd : Hid (tl f (m + 1) = if f m = 0 then tl f m else m + 1) := rfl
      generalize f m = x at *
      by_cases h0 : x = 0
      · subst h0
        go_wp2
        go_round
        case rel => exact ⟨m, by omega, by go_num, Lib.hid (by rw [← ht.out, hxd.out, if_pos rfl])⟩
        case measure => simp [intOf]
      · have hne : ((x : Int) != 0) = true := by simp; omega
        go_wp2
        go_ret
        refine ⟨?_, rfl⟩
        rw [← ht.out, hxd.out, if_neg h0]
        rfl
theorem view_raw (A : Option Addr) (n c : Nat) (f : Nat → Nat) (w : World) (h : Sl w A n c f) (hn : n ≤ 1000000) :
    Calls Tryd.prog 62 #[.slice A n c] w fun e w' => e = .returned (viewV A c (tl f n)) ∧ w = w' := view_wide A n c f w h (by omega)
end Go.Proofs.YtembfhepinfmnaaDoor
