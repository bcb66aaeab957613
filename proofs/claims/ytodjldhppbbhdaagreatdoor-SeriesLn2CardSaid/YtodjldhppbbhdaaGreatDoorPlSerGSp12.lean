/-
  A list of dyads of the call's own, grown by append.
  A list of dyads of the call's own, told by what they are.
-/
import Derived.Laws.AppendOwn
import Derived.Test.YtodjldhppbbhdaaGreatDoorPlSerGSp3
import Derived.Test.YtodjldhppbbhdaaGreatDoorPlSerGSp11
namespace Go.Proofs.YtodjldhppbbhdaaGreatDoor
open Go.RowKit

theorem infoD : (Tryz.prog.info? 27).map (fun i => (i.zero, i.size, i.bytes)) = some (some (.agg #[.bool false, .slice none 0 0, .int .i64 0]), 3, 40) := by kernel_rfl
/-- A list of dyads that the call itself has made: no word lies in its block. -/
def OwnD (w : World) (base : Nat) (v : Value) (n : Nat) (xs : List Value) : Prop :=
  w.ownsRow base 27 3 v n xs ∧ ∀ g, v.ownBlock = some g → ∃ cur, w.heap[g]? = some (.cells cur 27 (0, 0)) ∧ ∀ u ∈ cur.toList, NotU u
theorem OwnD.nil (w : World) (base : Nat) : OwnD w base (.slice none 0 0) 0 [] := ⟨World.ownsRow_nil w base _ 3, fun g h => by cases h⟩
theorem zero_notU (k : Nat) : ∀ u ∈ (Builtin.zeroCells (Value.agg #[.bool false, .slice none 0 0, .int .i64 0]).cells k).toList, NotU u := by
  intro u hu
  have hu' : u = .bool false ∨ u = .slice none 0 0 ∨ u = .int .i64 0 := by
    simp [Builtin.zeroCells, Value.cells] at hu
    obtain ⟨j, _, h⟩ := hu
    have hj : j % 3 = 0 ∨ j % 3 = 1 ∨ j % 3 = 2 := by omega
    rcases hj with hj | hj | hj <;> rw [hj] at h
    · exact Or.inl h.symm
    · exact Or.inr (Or.inl h.symm)
    · exact Or.inr (Or.inr h.symm)
  rcases hu' with h | h | h
  · rw [h]; exact notU_bool _
  · rw [h]; exact notU_slice _ _ _
  · rw [h]; exact notU_int _
set_option maxRecDepth 8000 in
/-- append(l, d): one dyad more. -/
theorem run_append_dyad {w : World} {base : Nat} (T ty : TypeId) (hT : Tryz.prog.underlying T = some (.slice 27)) (v : Value) (n : Nat) (xs : List Value) (hown : OwnD w base v n xs) (hn : n ≤ 1000) (hx : ∀ u ∈ xs, NotU u) (ad : Addr) (neg : Bool) (A : Option Addr) (k c : Nat) (e : Int)
    (hc0 : w.cell? (ad.add 0) = some (.bool neg)) (hc1 : w.cell? (ad.add 1) = some (.slice A k c)) (hc2 : w.cell? (ad.add 2) = some (.int .i64 e)) (hbase : base ≤ w.heap.size) :
    ∃ v' w', (Builtin.append_ #[T, T] ty #[v, .slice (some ad) 1 1]).run Tryz.prog w = .ok v' w' ∧ OwnD w' base v' (n + 1) (xs ++ [.bool neg, .slice A k c, .int .i64 e]) ∧ w.grownBy w' v.ownBlock ∧ ∀ g, v'.ownBlock = some g → v.ownBlock = some g ∨ w.heap.size ≤ g := by
  obtain ⟨i, hi, hzz⟩ := Option.map_eq_some_iff.1 infoD
  simp only [Prod.mk.injEq] at hzz
  obtain ⟨hz, hsz, hby⟩ := hzz
  have hnews : ∀ j u, ([.bool neg, .slice A k c, .int .i64 e] : List Value)[j]? = some u → w.cell? (ad.add j) = some u := by
    intro j u hj
    rcases j with _ | _ | _ | j
    · simp at hj; rw [← hj]; exact hc0
    · simp at hj; rw [← hj]; exact hc1
    · simp at hj; rw [← hj]; exact hc2
    · simp at hj
  have h1 : ∀ u ∈ ([.bool neg, .slice A k c, .int .i64 e] : List Value), u.oneCell' = true := by
    intro u hu
    simp at hu
    rcases hu with rfl | rfl | rfl <;> rfl
  have hnu : ∀ u ∈ ([.bool neg, .slice A k c, .int .i64 e] : List Value), NotU u := by
    intro u hu
    simp at hu
    rcases hu with rfl | rfl | rfl
    · exact notU_bool _
    · exact notU_slice _ _ _
    · exact notU_int _
  have hm1 : n + 1 ≤ maxLen := by simp only [maxLen]; omega
  obtain ⟨v', w', hr, h2, h3, _⟩ := run_append_own (P := Tryz.prog) w base T ty 27 i _ 3 40 hT hi hz hsz hby rfl (by omega) v n xs hown.1 ad 1 1 [.bool neg, .slice A k c, .int .i64 e] rfl hnews h1 hm1 (by omega) hbase
  suffices hkey : ∀ g, v'.ownBlock = some g → (∃ cur, w'.heap[g]? = some (.cells cur 27 (0, 0)) ∧ ∀ u ∈ cur.toList, NotU u) ∧ (v.ownBlock = some g ∨ w.heap.size ≤ g) from
    ⟨v', w', hr, ⟨h2, fun g hg => (hkey g hg).1⟩, h3, fun g hg => (hkey g hg).2⟩
  intro g hg
  rcases hown.1.2 with ⟨rfl, rfl⟩ | ⟨g0, cap, cur, rfl, hb0, hg0, hnc, hcm, hcs, htake⟩
  · have er := run_append_nil (P := Tryz.prog) w T ty 27 i _ hT hi hz ad 1 1 [.bool neg, .slice A k c, .int .i64 e] (by rw [hsz]; rfl) hnews (by omega) (by omega) (by rw [hby]; omega)
    rw [hr] at er
    injection er with e1 e2
    subst e1 e2
    simp [Value.ownBlock] at hg
    subst hg
    refine ⟨⟨_, heap_alloc_new _ _, fun u hu => ?_⟩, .inr (Nat.le_refl _)⟩
    rw [Array.toList_append, List.mem_append] at hu
    rcases hu with hu | hu
    · exact hnu u hu
    · exact zero_notU _ u hu
  · obtain ⟨cur', hc', hnu'⟩ := hown.2 g0 rfl
    have ecur : cur' = cur := by rw [hg0] at hc'; injection hc' with hc'; injection hc' with hc'; exact hc'.symm
    subst ecur
    by_cases hroom : n + 1 ≤ cap
    · have er := run_append_room (P := Tryz.prog) w T ty 27 i hT hi g0 n cap cur' hg0 ad 1 1 [.bool neg, .slice A k c, .int .i64 e] (by rw [hsz]; rfl) hnews h1 hroom (by rw [hsz, hcs]; simp only [List.length_cons, List.length_nil]; omega)
      rw [hr] at er
      injection er with e1 e2
      subst e1 e2
      simp [Value.ownBlock] at hg
      subst hg
      refine ⟨⟨_, setRow_heap w g0 cur' _ _ _ hg0, fun u hu => ?_⟩, .inl rfl⟩
      simp only [List.mem_append] at hu
      rcases hu with (hu | hu) | hu
      · exact hnu' u (List.mem_of_mem_take hu)
      · exact hnu u hu
      · exact hnu' u (List.mem_of_mem_drop hu)
    · have holds : ∀ j u, xs[j]? = some u → w.cell? ((⟨g0, 0, none⟩ : Addr).add j) = some u := hown.1.cells (g := g0) rfl
      have er := run_append_grow (P := Tryz.prog) w T ty 27 i _ hT hi hz ⟨g0, 0, none⟩ n cap xs (by rw [hsz]; exact hown.1.1) holds ad 1 1 [.bool neg, .slice A k c, .int .i64 e] (by rw [hsz]; rfl) hnews (by omega) (by omega) (growslice_fits (by omega) (by rw [hby]; omega))
      rw [hr] at er
      injection er with e1 e2
      subst e1 e2
      simp [Value.ownBlock] at hg
      subst hg
      refine ⟨⟨_, heap_alloc_new _ _, fun u hu => ?_⟩, .inr (Nat.le_refl _)⟩
      simp only [Array.toList_append, List.mem_append] at hu
      rcases hu with (hu | hu) | hu
      · exact hx u hu
      · exact hnu u hu
      · exact zero_notU _ u hu
end Go.Proofs.YtodjldhppbbhdaaGreatDoor

namespace Go.Proofs.YtodjldhppbbhdaaGreatDoor
open Go.RowKit

def cellsD (r : Nat → DR) (q : Nat → Option Addr × Nat × Nat) : Nat → List Value
  | 0 => []
  | k + 1 => cellsD r q k ++ [.bool (r k).neg, .slice (q k).1 (q k).2.1 (q k).2.2, .int .i64 (r k).e]
section
variable {r : Nat → DR} {q q' : Nat → Option Addr × Nat × Nat}
theorem cellsD_len (k : Nat) : (cellsD r q k).length = k * 3 := by
  induction k with
  | zero => rfl
  | succ k ih => rw [cellsD, List.length_append, ih]; simp only [List.length_cons, List.length_nil]; omega
theorem cellsD_at {k j : Nat} (h : j < k) : (cellsD r q k)[j * 3]? = some (.bool (r j).neg) ∧ (cellsD r q k)[j * 3 + 1]? = some (.slice (q j).1 (q j).2.1 (q j).2.2) ∧ (cellsD r q k)[j * 3 + 2]? = some (.int .i64 (r j).e) := by
  induction k with
  | zero => omega
  | succ k ih =>
    have l := cellsD_len (r := r) (q := q) k
    rw [cellsD]
    by_cases hj : j < k
    · rw [List.getElem?_append_left (by omega), List.getElem?_append_left (by omega), List.getElem?_append_left (by omega)]
      exact ih hj
    · obtain rfl : j = k := by omega
      rw [List.getElem?_append_right (by omega), List.getElem?_append_right (by omega), List.getElem?_append_right (by omega), l]
      rw [show j * 3 - j * 3 = 0 by omega, show j * 3 + 1 - j * 3 = 1 by omega, show j * 3 + 2 - j * 3 = 2 by omega]
      exact ⟨rfl, rfl, rfl⟩
theorem cellsD_notU (k : Nat) : ∀ u ∈ cellsD r q k, NotU u := by
  induction k with
  | zero => intro u hu; cases hu
  | succ k ih =>
    intro u hu
    rw [cellsD, List.mem_append] at hu
    rcases hu with hu | hu
    · exact ih u hu
    · simp at hu
      rcases hu with rfl | rfl | rfl
      · exact notU_bool _
      · exact notU_slice _ _ _
      · exact notU_int _
theorem cellsD_congr {k : Nat} (h : ∀ j, j < k → q j = q' j) : cellsD r q k = cellsD r q' k := by
  induction k with
  | zero => rfl
  | succ k ih => rw [cellsD, cellsD, ih (fun j hj => h j (by omega)), h k (by omega)]
end
theorem OwnD.kept {w w' : World} {base : Nat} {v : Value} {n : Nat} {xs : List Value} {row : Option Nat} (h : OwnD w base v n xs) (hg : w.grownBy w' row) (hne : v.ownBlock = none ∨ v.ownBlock ≠ row) : OwnD w' base v n xs := by
  refine ⟨h.1.kept hg hne, fun g hv => ?_⟩
  obtain ⟨cur, hc, hn⟩ := h.2 g hv
  refine ⟨cur, (hg.block g (h.1.lt g hv).2 ?_).trans hc, hn⟩
  rcases hne with h1 | h1
  · rw [hv] at h1; cases h1
  · rw [hv] at h1; exact h1
theorem grown_below {w w' : World} (b : Below w.heap.size w w') : w.grownBy w' none := ⟨b.os, b.tape, b.output, b.size, fun k hk _ => b.block k hk⟩
/-- A number's words are not in the list's block: they are as they were. -/
theorem num_grown {w w' : World} {base : Nat} {v u : Value} {n V : Nat} {xs : List Value} (h : OwnD w base v n xs) (hg : w.grownBy w' v.ownBlock) (hn : Num w u V) : Num w' u V := by
  obtain ⟨A, m, c, f, hv, hs, hc, he⟩ := hn
  refine ⟨A, m, c, f, hv, ⟨hs.1, hs.2.1, fun hm => ?_⟩, hc, he⟩
  obtain ⟨ad, e, hb, hcell⟩ := hs.2.2 hm
  have hne : some ad.block ≠ v.ownBlock := by
    intro hx
    obtain ⟨cur, hcur, hnu⟩ := h.2 ad.block hx.symm
    have h0 := hcell 0 hm
    rw [show ad.add 0 = ad from by simp [Addr.add]] at h0
    simp only [World.cell?, hcur] at h0
    split at h0
    · cases h0
    · have hmem := Array.mem_of_getElem? h0
      exact hnu _ (Array.mem_toList_iff.2 hmem) _ rfl
  exact ⟨ad, e, Nat.lt_of_lt_of_le hb hg.size, fun j hj => (World.cell?_of_block (hg.block _ (by rw [block_of_add]; exact hb) (by rw [block_of_add]; exact hne))).trans (hcell j hj)⟩
/-- The list v has k dyads, r 0, r 1 and so on. -/
def LDs (w : World) (base : Nat) (v : Value) (k : Nat) (r : Nat → DR) : Prop := ∃ q, OwnD w base v k (cellsD r q k) ∧ ∀ j, j < k → Num w (.slice (q j).1 (q j).2.1 (q j).2.2) (r j).m
section
variable {w w' : World} {base k : Nat} {v : Value} {r : Nat → DR}
theorem LDs.nil (w : World) (base : Nat) (r : Nat → DR) : LDs w base (.slice none 0 0) 0 r := ⟨fun _ => (none, 0, 0), OwnD.nil w base, fun j hj => by omega⟩
theorem LDs.below (h : LDs w base v k r) (b : Below w.heap.size w w') : LDs w' base v k r := by
  obtain ⟨q, h1, h2⟩ := h
  refine ⟨q, h1.kept (grown_below b) ?_, fun j hj => (h2 j hj).below b⟩
  cases v.ownBlock
  · exact .inl rfl
  · exact .inr (fun h => by cases h)
theorem LDs.wk {T : TypeId} {g : Nat} {p : Int} {bad : Bool} (h : LDs w base v k r) (W : Wk T w g p bad) (o : Only w w' g) (hg : g < base) : LDs w' base v k r := by
  obtain ⟨q, h1, h2⟩ := h
  refine ⟨q, h1.kept o ?_, fun j hj => num_wk W o (h2 j hj)⟩
  by_cases e : v.ownBlock = some g
  · have := (h1.1.lt g e).1; omega
  · exact .inr e
theorem LDs.lt (h : LDs w base v k r) : ∀ g, v.ownBlock = some g → base ≤ g ∧ g < w.heap.size := by
  obtain ⟨q, h1, _⟩ := h
  exact h1.1.lt
/-- One more, at the end. -/
theorem LDs.append (T ty : TypeId) (hT : Tryz.prog.underlying T = some (.slice 27)) (h : LDs w base v k r) (hk : k ≤ 1000) (ad : Addr) (A : Option Addr) (n c : Nat)
    (hc0 : w.cell? (ad.add 0) = some (.bool (r k).neg)) (hc1 : w.cell? (ad.add 1) = some (.slice A n c)) (hc2 : w.cell? (ad.add 2) = some (.int .i64 (r k).e)) (hn : Num w (.slice A n c) (r k).m) (hbase : base ≤ w.heap.size) :
    ∃ v' w', (Builtin.append_ #[T, T] ty #[v, .slice (some ad) 1 1]).run Tryz.prog w = .ok v' w' ∧ LDs w' base v' (k + 1) r ∧ w.grownBy w' v.ownBlock ∧ (∀ u V, Num w u V → Num w' u V) ∧ (∀ g, v.ownBlock = some g → base ≤ g) ∧ ∀ g, v'.ownBlock = some g → v.ownBlock = some g ∨ w.heap.size ≤ g := by
  obtain ⟨q, h1, h2⟩ := h
  obtain ⟨v', w', hr, h3, h4, h5⟩ := run_append_dyad T ty hT v k _ h1 hk (cellsD_notU k) ad (r k).neg A n c (r k).e hc0 hc1 hc2 hbase
  have hN : ∀ u V, Num w u V → Num w' u V := fun u V hu => num_grown h1 h4 hu
  refine ⟨v', w', hr, ⟨fun j => if j = k then (A, n, c) else q j, ?_, fun j hj => ?_⟩, h4, hN, fun g hg => (h1.1.lt g hg).1, h5⟩
  · rw [cellsD, if_pos rfl, cellsD_congr (q' := q) (fun j hj => if_neg (by omega))]
    exact h3
  · by_cases e : j = k
    · subst e; simp only [if_true]; exact hN _ _ hn
    · simp only [e, if_false]; exact hN _ _ (h2 j (by omega))
/-- Another list, behind an append to this one. -/
theorem LDs.other {k' : Nat} {v' u : Value} {r' : Nat → DR} (h : LDs w base u k' r') (o : w.grownBy w' v.ownBlock) (hN : ∀ u V, Num w u V → Num w' u V) (hne : u.ownBlock = none ∨ u.ownBlock ≠ v.ownBlock)
    (hf : ∀ g, v'.ownBlock = some g → v.ownBlock = some g ∨ w.heap.size ≤ g) : LDs w' base u k' r' ∧ (u.ownBlock = none ∨ u.ownBlock ≠ v'.ownBlock) := by
  have hu := h.lt
  obtain ⟨q, h1, h2⟩ := h
  refine ⟨⟨q, h1.kept o hne, fun j hj => hN _ _ (h2 j hj)⟩, ?_⟩
  cases hg : u.ownBlock with
  | none => exact .inl rfl
  | some g =>
    refine .inr (fun e => ?_)
    rcases hf g e.symm with h3 | h3
    · rw [hg] at hne
      rcases hne with h4 | h4
      · cases h4
      · exact h4 h3.symm
    · have := (hu g hg).2; omega
/-- As a list that is handed on. -/
theorem LDs.ls (h : LDs w base v k r) (hk : 0 < k) (hp : ∀ j, j < k → (r j).ok = true ∧ plainV (r j).neg (r j).m (r j).e = true) :
    ∃ L cp l, v = .slice L k cp ∧ Ls w L k cp l ∧ (∀ j, j < k → l.n j ≤ 400000) ∧ (∀ a b, a < k → b < k → cmpL l a b = cmpI2 (r a) (r b)) ∧ ∀ j, j < k → l.ng j = (r j).neg ∧ l.e j = (r j).e ∧ Num w (.slice (l.A j) (l.n j) (l.c j)) (r j).m := by
  obtain ⟨q, h1, h2⟩ := h
  have hx : ∀ j, ∃ x : Nat → Nat, j < k → Sl w (q j).1 (q j).2.1 (q j).2.2 x ∧ (q j).2.1 ≤ 400000 ∧ (r j).m = vs B64 x (q j).2.1 ∧ (r j).ok = plainB (r j).neg (q j).2.1 x (r j).e := by
    intro j
    by_cases hj : j < k
    · obtain ⟨x, a1, a2, a3, a4⟩ := DIn.of_num (h2 j hj) (hp j hj).2 (hp j hj).1
      exact ⟨x, fun _ => ⟨a1, a2, a3, a4⟩⟩
    · exact ⟨fun _ => 0, fun h => absurd h hj⟩
  obtain ⟨X, hX⟩ := Classical.axiomOfChoice hx
  rcases h1.1.2 with ⟨_, h0⟩ | ⟨g, cap, cur, rfl, hb, hgg, hnc, hcm, hcs, htake⟩
  · omega
  have hcell := h1.1.cells (g := g) rfl
  refine ⟨_, cap, ⟨fun j => (r j).neg, fun j => (q j).1, fun j => (q j).2.1, fun j => (q j).2.2, X, fun j => (r j).e⟩, rfl, ⟨hnc, fun _ => ⟨⟨g, 0, none⟩, rfl, (Array.getElem?_eq_some_iff.1 hgg).1, fun j hj => ?_⟩, fun j hj => (hX j hj).1⟩, fun j hj => (hX j hj).2.1, fun a b ha hb' => ?_, fun j hj => ⟨rfl, rfl, h2 j hj⟩⟩
  · obtain ⟨c0, c1, c2⟩ := cellsD_at (r := r) (q := q) hj
    have d0 := hcell _ _ c0
    have d1 := hcell _ _ c1
    have d2 := hcell _ _ c2
    have ha : ∀ i, (⟨g, 0, none⟩ : Addr).add i = ⟨g, i, none⟩ := fun i => by unfold Addr.add; split <;> simp_all
    rw [ha] at d0 d1 d2
    rw [ha]
    exact ⟨d0, d1, d2⟩
  · unfold cmpL cmpI2
    simp only
    rw [(hX a ha).2.2.2, (hX b hb').2.2.2, (hX a ha).2.2.1, (hX b hb').2.2.1]
/-- The least of four, or the greatest. -/
theorem least4 {L : Value} (most : Bool) (w : World) (h : LDs w base L 4 r) (hp : ∀ j, j < 4 → (r j).ok = true ∧ plainV (r j).neg (r j).m (r j).e = true) :
    Calls Tryz.prog 40 #[L, .bool most] w (DOne w (pick4 r most)) := by
  obtain ⟨L', cp, l, rfl, h1, h2, h3, h4⟩ := h.ls (by omega) hp
  refine (least_any L' 4 cp l most w h1 (by omega) (by omega) h2).mono ?_
  rintro e w' ⟨rfl, b⟩
  have hb := bestR_le r most 3
  rw [show (4 - 1 : Nat) = 3 from rfl, bestL_R l r most 4 h3 3 (by omega)]
  obtain ⟨e1, e2, e3⟩ := h4 (bestR r most 3) (by omega)
  unfold pick4
  rw [e1, e2]
  exact ⟨_, _, _, rfl, e3.below b, b⟩
end
/-- append(l, d) in a walk. -/
theorem wpList_append_dyad {ops : Array Oper} {rest : List Oper} {o : Oper} {a : Act} {Q : Exit → Act → World → Prop} {w : World} (hgd : o.guard = none) (s x : Operand) (T : TypeId) (ho : o.op = .call { callee := .builtin .append, args := #[s, x], argTypes := #[T, T] })
    (hT : Tryz.prog.underlying T = some (.slice 27)) {base k : Nat} {v : Value} {r : Nat → DR} (hs : a.eval s = v) (h : LDs w base v k r) (hk : k ≤ 1000) (ad : Addr) (hx : a.eval x = .slice (some ad) 1 1) (A : Option Addr) (n c : Nat)
    (hc0 : w.cell? (ad.add 0) = some (.bool (r k).neg)) (hc1 : w.cell? (ad.add 1) = some (.slice A n c)) (hc2 : w.cell? (ad.add 2) = some (.int .i64 (r k).e)) (hn : Num w (.slice A n c) (r k).m) (hbase : base ≤ w.heap.size)
    (hK : ∀ v' w', LDs w' base v' (k + 1) r → w.grownBy w' v.ownBlock → (∀ u V, Num w u V → Num w' u V) → (∀ g, v.ownBlock = some g → base ≤ g) → (∀ g, v'.ownBlock = some g → v.ownBlock = some g ∨ w.heap.size ≤ g) → wpList Tryz.prog ops Q rest (a.put o.dst v') w') : wpList Tryz.prog ops Q (o :: rest) a w := by
  refine wpList_plain hgd fun _ hK' => ?_
  obtain ⟨v', w', hrun, h1, h2, h3, h4, h5⟩ := h.append T o.type hT hk ad A n c hc0 hc1 hc2 hn hbase
  unfold Oper.wp execOp
  simp only [ho, resolve, invoke, builtin, Sem.run_bind, Sem.run_pure, Result.andThen_ok, List.map_toArray, List.map_cons, List.map_nil, hs, hx, hrun]
  exact hK' _ _ (hK v' w' h1 h2 h3 h4 h5)
/-- All the blocks lie below block B. -/
def LtS (B : Nat) : List (TypeId × Nat × Array Value) → Prop
  | [] => True
  | (_, a, _) :: r => a < B ∧ LtS B r
theorem KS.grown {w w' : World} {g B : Nat} {row : Option Nat} (o : w.grownBy w' row) (hr : ∀ a, row = some a → B ≤ a) : ∀ {ks : List (TypeId × Nat × Array Value)}, KS w g ks → LtS B ks → KS w' g ks
  | [], _, _ => trivial
  | (_, _, _) :: _, h, hne => ⟨⟨⟨(o.block _ h.1.1.2 (fun e => by have := hr _ e.symm; have := hne.1; omega)).trans h.1.1.1, Nat.lt_of_lt_of_le h.1.1.2 o.size⟩, h.1.2⟩, KS.grown o hr h.2 hne.2⟩
section
variable {T : TypeId} {w wi wj : World} {g : Nat} {p : Int} {bad : Bool} {ks : List (TypeId × Nat × Array Value)} {ns : List (Value × Nat)}
/-- A method's state behind an append to a list of its own. -/
theorem St.grown {B : Nat} {row : Option Nat} (h : St T w g p bad wi ks []) (o : wi.grownBy wj row) (hB : w.heap.size ≤ B) (hr : ∀ a, row = some a → B ≤ a) (hk : LtS B ks) : St T w g p bad wj ks [] := by
  have h0 := h.hg
  refine ⟨h.hg, ⟨o.os.trans h.O.os, o.tape.trans h.O.tape, o.output.trans h.O.output, Nat.le_trans h.O.size o.size, fun k hk' hne => (o.block k (Nat.lt_of_lt_of_le hk' h.O.size) (fun e => by have := hr _ e.symm; omega)).trans (h.O.block k hk' hne)⟩, ⟨?_, Nat.lt_of_lt_of_le h.W.2 o.size⟩, h.ks.grown o hr hk, trivial⟩
  exact (o.block g h.W.2 (fun e => by have := hr _ e.symm; omega)).trans h.W.1
theorem St.drop {k : TypeId × Nat × Array Value} (h : St T w g p bad wi (k :: ks) ns) : St T w g p bad wi ks ns := ⟨h.hg, h.O, h.W, h.ks.2, h.ns⟩
theorem St.forget (h : St T w g p bad wi ks ns) : St T w g p bad wi ks [] := ⟨h.hg, h.O, h.W, h.ks, trivial⟩
end
theorem lds_put {w : World} {T : TypeId} {base k a : Nat} {v : Value} {r : Nat → DR} {na : Bool} {A : Option Addr} {n c : Nat} {e : Int} (hk : KC T w a #[.bool na, .slice A n c, .int .i64 e]) (h : LDs w base v k r) (hne : v.ownBlock ≠ some a) (x y z : Value) : LDs (put3 w a x y z) base v k r := by
  obtain ⟨q, h1, h2⟩ := h
  exact ⟨q, h1.kept (only_put3 w a x y z) (.inr hne), fun j hj => num_put3 (h2 j hj) hk x y z⟩
theorem new3_at (w : World) (a b c : Value) : (w.alloc (cd3 a b c)).cell? ((⟨w.heap.size, 0, none⟩ : Addr).add 0) = some a ∧ (w.alloc (cd3 a b c)).cell? ((⟨w.heap.size, 0, none⟩ : Addr).add 1) = some b ∧ (w.alloc (cd3 a b c)).cell? ((⟨w.heap.size, 0, none⟩ : Addr).add 2) = some c := by
  have k := KC.made 27 w #[a, b, c]
  have ha : ∀ i, (⟨w.heap.size, 0, none⟩ : Addr).add i = ⟨w.heap.size, i, none⟩ := fun i => by unfold Addr.add; split <;> simp_all
  rw [ha, ha, ha]
  exact ⟨k.at_ 0 _ rfl, k.at_ 1 _ rfl, k.at_ 2 _ rfl⟩
theorem KC.grownR {T : TypeId} {w w' : World} {a : Nat} {cs : Array Value} {row : Option Nat} (h : KC T w a cs) (o : w.grownBy w' row) (hne : row ≠ some a) : KC T w' a cs := ⟨(o.block a h.2 (fun e => hne e.symm)).trans h.1, Nat.lt_of_lt_of_le h.2 o.size⟩
theorem ap_symm {a b : Option Nat} (h : a = none ∨ a ≠ b) : b = none ∨ b ≠ a := by
  rcases h with rfl | h
  · cases b
    · exact .inl rfl
    · exact .inr (fun h => by cases h)
  · exact .inr (fun e => h e.symm)
/-- A span's two ends as a list of two: the k-th of them. -/
theorem end_at (lo hi : DR) (A B : Option Addr) (n c m d k : Nat) (hk : k < 2) : ∃ X a b, (∀ w' gx ax, ax = (⟨gx, 0, none⟩ : Addr) → KC 27 w' gx #[.bool lo.neg, .slice A n c, .int .i64 lo.e, .bool hi.neg, .slice B m d, .int .i64 hi.e] →
      w'.cell? (ax.add (k * 3)) = some (.bool (if k = 0 then lo else hi).neg) ∧ w'.cell? ⟨(ax.add (k * 3)).block, (ax.add (k * 3)).off + 1, none⟩ = some (.slice X a b) ∧ w'.cell? ⟨(ax.add (k * 3)).block, (ax.add (k * 3)).off + 2, none⟩ = some (.int .i64 (if k = 0 then lo else hi).e)) ∧
      ∀ w', DIn w' A n c lo → DIn w' B m d hi → DIn w' X a b (if k = 0 then lo else hi) := by
  have ha : ∀ gx i, (⟨gx, 0, none⟩ : Addr).add i = ⟨gx, i, none⟩ := fun gx i => by unfold Addr.add; split <;> simp_all
  have : k = 0 ∨ k = 1 := by omega
  rcases this with rfl | rfl
  · refine ⟨A, n, c, fun w' gx ax e h => ?_, fun w' h1 h2 => h1⟩
    subst e
    rw [ha]
    exact ⟨h.at_ 0 _ rfl, h.at_ 1 _ rfl, h.at_ 2 _ rfl⟩
  · refine ⟨B, m, d, fun w' gx ax e h => ?_, fun w' h1 h2 => h2⟩
    subst e
    rw [ha]
    exact ⟨h.at_ 3 _ rfl, h.at_ 4 _ rfl, h.at_ 5 _ rfl⟩
end Go.Proofs.YtodjldhppbbhdaaGreatDoor
