/-
  copy and append on rows of uint64, as laws for the walk. No program is named here.
-/
import Derived.Test.YthjndkkepailmaaRowWords
import Derived.Maps.AppendAt
import Derived.OwnWalk
import Derived.Laws.NewBlocks
import Derived.Laws.AppendOwnNone
import Derived.Deep.RegionLaw
namespace Go.Proofs.Ythjndkkepailmaa
open Go.RowKit

/-- The cells of n words. -/
def cellsOf (f : Nat → Nat) (n : Nat) : List Value := (List.range n).map fun j => Value.int .u64 ((f j : Nat) : Int)
theorem cellsOf_len (f : Nat → Nat) (n : Nat) : (cellsOf f n).length = n := by simp [cellsOf]
theorem cellsOf_at {f : Nat → Nat} {n j : Nat} {u : Value} (h : (cellsOf f n)[j]? = some u) : j < n ∧ u = .int .u64 ((f j : Nat) : Int) := by
  have hl : j < n := by
    rcases Nat.lt_or_ge j n with h1 | h1
    · exact h1
    · rw [List.getElem?_eq_none (by rw [cellsOf_len]; exact h1)] at h; cases h
  refine ⟨hl, ?_⟩
  simp [cellsOf, hl] at h
  exact h.symm
theorem cellsOf_get {f : Nat → Nat} {n j : Nat} (h : j < n) : (cellsOf f n)[j]? = some (.int .u64 ((f j : Nat) : Int)) := by simp [cellsOf, h]
theorem cellsOf_one {f : Nat → Nat} {n : Nat} : ∀ u ∈ cellsOf f n, u.oneCell' = true := by
  intro u hu
  simp only [cellsOf, List.mem_map] at hu
  obtain ⟨j, _, rfl⟩ := hu
  rfl
theorem cellsOf_congr {f g : Nat → Nat} {n : Nat} (h : ∀ j, j < n → f j = g j) : cellsOf f n = cellsOf g n := by
  apply List.ext_getElem?
  intro j
  rcases Nat.lt_or_ge j n with h1 | h1
  · rw [cellsOf_get h1, cellsOf_get h1, h j h1]
  · rw [List.getElem?_eq_none (by rw [cellsOf_len]; exact h1), List.getElem?_eq_none (by rw [cellsOf_len]; exact h1)]
/-- f up to n, then h. -/
def cat (f : Nat → Nat) (n : Nat) (h : Nat → Nat) : Nat → Nat := fun j => if j < n then f j else h (j - n)
theorem cellsOf_cat (f h : Nat → Nat) (n m : Nat) : cellsOf (cat f n h) (n + m) = cellsOf f n ++ cellsOf h m := by
  apply List.ext_getElem?
  intro j
  rcases Nat.lt_or_ge j n with h1 | h1
  · rw [cellsOf_get (by omega), List.getElem?_append_left (by rw [cellsOf_len]; exact h1), cellsOf_get h1]
    simp [cat, h1]
  · rw [List.getElem?_append_right (by rw [cellsOf_len]; exact h1), cellsOf_len]
    rcases Nat.lt_or_ge j (n + m) with h2 | h2
    · rw [cellsOf_get h2, cellsOf_get (by omega)]
      simp [cat, Nat.not_lt.2 h1]
    · rw [List.getElem?_eq_none (by rw [cellsOf_len]; exact h2), List.getElem?_eq_none (by rw [cellsOf_len]; omega)]

/-- A slice that the call itself has made, in blocks from base on: n words, f. -/
def Own (t : TypeId) (w : World) (base : Nat) (v : Value) (n : Nat) (f : Nat → Nat) : Prop := w.ownsRow base t 1 v n (cellsOf f n) ∧ ∀ j, j < n → f j < B64

section
variable {t : TypeId} {w w' : World} {base : Nat} {v : Value} {n : Nat} {f : Nat → Nat}
theorem Own.nil (t : TypeId) (w : World) (base : Nat) (f : Nat → Nat) : Own t w base (.slice none 0 0) 0 f := ⟨⟨rfl, .inl ⟨rfl, rfl⟩⟩, fun j h => absurd h (by omega)⟩
/-- A slice literal without an element. -/
theorem Own.empty (t : TypeId) (w : World) (base : Nat) (f : Nat → Nat) (hb : base ≤ w.heap.size) : Own t (w.alloc (.cells #[] t)) base (.slice (some ⟨w.heap.size, 0, none⟩) 0 0) 0 f :=
  ⟨⟨rfl, .inr ⟨w.heap.size, 0, #[], rfl, hb, heap_alloc_new w _, Nat.le_refl _, Nat.zero_le _, rfl, rfl⟩⟩, fun j h => absurd h (by omega)⟩
/-- What make has laid. -/
theorem Own.made (t : TypeId) (w : World) (base n : Nat) (hb : base ≤ w.heap.size) (hn : n ≤ 1000000) : Own t (w.alloc (.cells (madeCells #[.int .u64 0] n) t)) base (.slice (some ⟨w.heap.size, 0, none⟩) n n) n (fun _ => 0) := by
  refine ⟨⟨by rw [cellsOf_len]; omega, .inr ⟨w.heap.size, n, _, rfl, hb, heap_alloc_new w _, Nat.le_refl _, by simp only [maxLen]; omega, by rw [size_madeCells]; omega, ?_⟩⟩, fun _ _ => B64_pos⟩
  rw [toList_madeCells_one, List.take_of_length_le (by simp)]
  apply List.ext_getElem?
  intro j
  rcases Nat.lt_or_ge j n with h1 | h1
  · rw [cellsOf_get h1]; simp [h1]
  · rw [List.getElem?_eq_none (by simpa using h1), List.getElem?_eq_none (by rw [cellsOf_len]; exact h1)]
/-- Its words, to be written. -/
theorem Own.row {t : TypeId} {w : World} {base : Nat} {v : Value} {n : Nat} {f : Nat → Nat} (h : Own t w base v n f) (hn : 0 < n) : ∃ g c, v = .slice (some ⟨g, 0, none⟩) n c ∧ base ≤ g ∧ n ≤ c ∧ Row t w g n f := by
  obtain ⟨⟨hl, h1⟩, h2⟩ := h
  rcases h1 with ⟨_, h0⟩ | ⟨g, cap, cur, rfl, hg, hh, hnc, hcm, hcs, hct⟩
  · omega
  · refine ⟨g, cap, rfl, hg, hnc, ⟨cur, hh, by omega, fun j hj => ?_⟩, h2⟩
    have e1 : (cellsOf f n)[j]? = cur.toList[j]? := by rw [← hct, List.getElem?_take, if_pos (by omega)]
    rw [cellsOf_get hj, Array.getElem?_toList] at e1
    exact e1.symm
theorem Own.alloc (h : Own t w base v n f) (o : Obj) : Own t (w.alloc o) base v n f := ⟨h.1.alloc o, h.2⟩
theorem Own.drew (h : Own t w base v n f) : Own t w.drew base v n f := h
theorem Own.congr {g : Nat → Nat} (h : Own t w base v n f) (e : ∀ j, j < n → f j = g j) : Own t w base v n g := by
  refine ⟨?_, fun j hj => e j hj ▸ h.2 j hj⟩
  rw [← cellsOf_congr e]; exact h.1
theorem Own.sl (h : Own t w base v n f) : ∃ A c, v = .slice A n c ∧ Sl w A n c f ∧ ∀ ad, A = some ad → base ≤ ad.block := by
  obtain ⟨⟨hl, h1⟩, h2⟩ := h
  rcases h1 with ⟨rfl, rfl⟩ | ⟨g, cap, cur, rfl, hg, hh, hnc, hcm, hcs, hct⟩
  · exact ⟨none, 0, rfl, Sl.none_ w 0 none f, fun ad e => by cases e⟩
  · refine ⟨_, cap, rfl, ⟨hnc, h2, fun hn => ⟨_, rfl, ?_, fun j hj => ?_⟩⟩, fun ad e => by injection e with e; subst e; exact hg⟩
    · exact (Array.getElem?_eq_some_iff.1 hh).1
    · rw [add_mk, Nat.zero_add]
      have e1 : (cellsOf f n)[j]? = cur.toList[j]? := by rw [← hct, List.getElem?_take, if_pos (by omega)]
      rw [cellsOf_get hj] at e1
      simp [World.cell?, hh] 
      rw [Array.getElem?_toList] at e1
      exact e1.symm
end

section
variable {P : Program} {w : World} {ops : Array Oper} {rest : List Oper} {o : Oper} {a : Act} {Q : Exit → Act → World → Prop}

/-- copy(dst, src), dst at the head of a row of the call's own, no shorter than src. -/
theorem wpList_copy_words (hgd : o.guard = none) (d s : Operand) (T : TypeId) (ho : o.op = .call { callee := .builtin .copy, args := #[d, s], argTypes := #[T, T] })
    (E : TypeId) (hu : P.underlying T = some (.slice E)) (hsz : (P.info? E).map (·.size) = some 1) (t : TypeId) (g N dLen dCap : Nat) (F : Nat → Nat) (A : Option Addr) (sLen sCap : Nat) (f : Nat → Nat)
    (hd : a.eval d = .slice (some ⟨g, 0, none⟩) dLen dCap) (hs : a.eval s = .slice A sLen sCap) (hr : Row t w g N F) (hdl : dLen ≤ N) (hf : Sl w A sLen sCap f) (hle : sLen ≤ dLen)
    (h : ∀ w', Row t w' g N (fun j => if j < sLen then f j else F j) → Only w w' g → wpList P ops Q rest (a.put o.dst (goInt sLen)) w') : wpList P ops Q (o :: rest) a w := by
  rcases Nat.eq_zero_or_pos sLen with h0 | h0
  · subst h0
    refine wpList_copy_nothing hgd d s T T ho E hu hsz _ _ _ _ _ _ hd hs (by simp) ?_
    exact h w (hr.congr fun j _ => by simp) (Only.refl _ _)
  · obtain ⟨ad, rfl, hb, hc⟩ := hf.2.2 h0
    obtain ⟨⟨cur, hg, hcs, hcur⟩, hF⟩ := hr
    refine wpList_copy_own hgd d s T T ho E hu hsz g 0 dLen dCap ad sLen sCap hd hs cur t hg (cellsOf f sLen) (by rw [cellsOf_len]; exact (Nat.min_eq_left hle).symm)
      (fun j u hj => by obtain ⟨h1, rfl⟩ := cellsOf_at hj; exact hc j h1) (by rw [cellsOf_len]; omega) cellsOf_one ?_
    rw [cellsOf_len]
    refine h _ ⟨⟨_, setRow_heap w g _ _ t _ hg, ?_, fun j hj => ?_⟩, fun j hj => ?_⟩ ⟨rfl, rfl, rfl, by simp [World.setRow], fun k _ hk => setRow_other w g k _ (by simpa using hk)⟩
    · simp [cellsOf_len]; omega
    · simp only [List.take_zero, List.nil_append, Nat.zero_add, List.getElem?_toArray]
      by_cases h1 : j < sLen
      · rw [List.getElem?_append_left (by rw [cellsOf_len]; exact h1), cellsOf_get h1, if_pos h1]
      · rw [List.getElem?_append_right (by rw [cellsOf_len]; omega), cellsOf_len, List.getElem?_drop, if_neg h1]
        rw [Nat.add_sub_cancel' (by omega), Array.getElem?_toList]
        exact hcur j hj
    · show (if j < sLen then f j else F j) < B64
      by_cases h1 : j < sLen
      · rw [if_pos h1]; exact hf.2.1 j h1
      · rw [if_neg h1]; exact hF j hj

/-- append(s, x...), s of the call's own or nil, x whatever slice. -/
theorem wp_append_words {K : Act → World → Prop} (s x : Operand) (T : TypeId) (ho : o.op = .call { callee := .builtin .append, args := #[s, x], argTypes := #[T, T] })
    (base : Nat) (t : TypeId) (hu : P.underlying T = some (.slice t)) (hinfo : (P.info? t).map (fun i => (i.zero, i.size, i.bytes)) = some (some (.int .u64 0), 1, 8))
    (v : Value) (n : Nat) (f : Nat → Nat) (hs : a.eval s = v) (hown : Own t w base v n f) (A : Option Addr) (m c : Nat) (y : Nat → Nat) (hx : a.eval x = .slice A m c) (hy : Sl w A m c y)
    (hnm : n + m ≤ 1000000) (hbase : base ≤ w.heap.size)
    (h : ∀ v' w', Own t w' base v' (n + m) (cat f n y) → (∀ B w0, B ≤ base → Below B w0 w → Below B w0 w') → K (a.put o.dst v') w') : o.wp P a w K Q := by
  obtain ⟨i, hi, hzz⟩ := Option.map_eq_some_iff.1 hinfo
  simp only [Prod.mk.injEq] at hzz
  obtain ⟨hz, hsz, hby⟩ := hzz
  have hcat : ∀ j, j < n + m → cat f n y j < B64 := fun j hj => by
    unfold cat; split
    · exact hown.2 j (by omega)
    · exact hy.2.1 _ (by omega)
  have hrow : ∀ g, v.ownBlock = some g → base ≤ g := fun g hg => by
    obtain ⟨A', c', rfl, _, hA⟩ := hown.sl
    rcases A' with _ | ad
    · simp [Value.ownBlock] at hg
    · simp [Value.ownBlock] at hg; rw [← hg]; exact hA ad rfl
  have key : ∃ v' w', (Builtin.append_ #[T, T] o.type #[v, .slice A m c]).run P w = .ok v' w' ∧ w'.ownsRow base t 1 v' (n + m) (cellsOf f n ++ cellsOf y m) ∧ w.grownBy w' v.ownBlock := by
    rcases A with _ | ad
    · have hm : m = 0 := by
        rcases Nat.eq_zero_or_pos m with h0 | h0
        · exact h0
        · obtain ⟨ad, he, _⟩ := hy.2.2 h0; cases he
      subst hm
      refine ⟨v, w, ?_, by simpa [cellsOf] using hown.1, World.grownBy.refl w _⟩
      rcases hown.1.2 with ⟨rfl, rfl⟩ | ⟨g, cap, cur, rfl, _, _, hnc, _⟩
      · simp [Builtin.append_, run_underlying hu, sizeOf, typeInfo, hi, Builtin.lenOf, Builtin.firstCells]
      · simp [Builtin.append_, run_underlying hu, sizeOf, typeInfo, hi, Builtin.lenOf, Builtin.firstCells, hnc, storeCells]
    · have hcells : ∀ j u, (cellsOf y m)[j]? = some u → w.cell? (ad.add j) = some u := fun j u hj => by
        obtain ⟨h1, rfl⟩ := cellsOf_at hj
        obtain ⟨ad', e, _, hc⟩ := hy.2.2 (by omega)
        injection e with e
        subst e
        exact hc j h1
      obtain ⟨v', w', hrun, h2, h3, _, _⟩ := run_append_own_at (P := P) w base T o.type t i _ 1 8 hu hi hz hsz hby rfl (by omega) v n (cellsOf f n) hown.1 ad m c (cellsOf y m) (by rw [cellsOf_len]; omega) hcells cellsOf_one
        (by simp only [maxLen]; omega) (by omega) hbase
      exact ⟨v', w', hrun, h2, h3⟩
  obtain ⟨v', w', hrun, h2, h3⟩ := key
  unfold Oper.wp execOp
  simp only [ho, resolve, invoke, builtin, Sem.run_bind, Sem.run_pure, Result.andThen_ok, List.map_toArray, List.map_cons, List.map_nil, hs, hx, hrun]
  refine h v' w' ⟨by rw [cellsOf_cat]; exact h2, hcat⟩ fun B w0 hB hb => hb.grown h3 (by omega) fun g hg => by have := hrow g hg; omega

theorem wpList_append_words (hgd : o.guard = none) (s x : Operand) (T : TypeId) (ho : o.op = .call { callee := .builtin .append, args := #[s, x], argTypes := #[T, T] })
    (base : Nat) (t : TypeId) (hu : P.underlying T = some (.slice t)) (hinfo : (P.info? t).map (fun i => (i.zero, i.size, i.bytes)) = some (some (.int .u64 0), 1, 8))
    (v : Value) (n : Nat) (f : Nat → Nat) (hs : a.eval s = v) (hown : Own t w base v n f) (A : Option Addr) (m c : Nat) (y : Nat → Nat) (hx : a.eval x = .slice A m c) (hy : Sl w A m c y)
    (hnm : n + m ≤ 1000000) (hbase : base ≤ w.heap.size)
    (h : ∀ v' w', Own t w' base v' (n + m) (cat f n y) → (∀ B w0, B ≤ base → Below B w0 w → Below B w0 w') → wpList P ops Q rest (a.put o.dst v') w') : wpList P ops Q (o :: rest) a w :=
  wpList_plain hgd fun _ hK => wp_append_words s x T ho base t hu hinfo v n f hs hown A m c y hx hy hnm hbase fun v' w' h1 h2 => hK _ _ (h v' w' h1 h2)

/-- append(s, x), x one word: it lies in a new block of one cell. -/
theorem wpList_append_one (hgd : o.guard = none) (s x : Operand) (T : TypeId) (ho : o.op = .call { callee := .builtin .append, args := #[s, x], argTypes := #[T, T] })
    (base : Nat) (t : TypeId) (hu : P.underlying T = some (.slice t)) (hinfo : (P.info? t).map (fun i => (i.zero, i.size, i.bytes)) = some (some (.int .u64 0), 1, 8))
    (v : Value) (n : Nat) (f : Nat → Nat) (hs : a.eval s = v) (hown : Own t w base v n f) (y : Nat) (hx : a.eval x = .slice (some ⟨w.heap.size, 0, none⟩) 1 1) (hy : y < B64)
    (hnm : n + 1 ≤ 1000000) (hbase : base ≤ w.heap.size)
    (h : ∀ v' w', Own t w' base v' (n + 1) (upd f n y) → (∀ B w0, B ≤ base → Below B w0 w → Below B w0 w') → wpList P ops Q rest (a.put o.dst v') w') :
    wpList P ops Q (o :: rest) a (w.alloc (.cells #[.int .u64 ((y : Nat) : Int)] t)) := by
  have hsl : Sl (w.alloc (.cells #[.int .u64 ((y : Nat) : Int)] t)) (some ⟨w.heap.size, 0, none⟩) 1 1 (fun _ => y) :=
    ⟨Nat.le_refl _, fun _ _ => hy, fun _ => ⟨_, rfl, by simp, fun j hj => by
      obtain rfl : j = 0 := by omega
      rw [add_mk, World.cell?_alloc_at _ _ _ _ rfl]; rfl⟩⟩
  refine wpList_append_words hgd s x T ho base t hu hinfo v n f hs (hown.alloc _) _ 1 1 _ hx hsl hnm (by simp; omega) fun v' w' h1 h2 => ?_
  refine h v' w' (h1.congr fun j hj => ?_) fun B w0 hB hb => h2 B w0 hB (hb.alloc (by omega) _)
  unfold cat upd
  by_cases e : j = n
  · subst e; simp
  · rw [if_neg e, if_pos (by omega)]

/-- The same, the word as the walk has reckoned it. -/
theorem wpList_append_int (hgd : o.guard = none) (s x : Operand) (T : TypeId) (ho : o.op = .call { callee := .builtin .append, args := #[s, x], argTypes := #[T, T] })
    (base : Nat) (t : TypeId) (hu : P.underlying T = some (.slice t)) (hinfo : (P.info? t).map (fun i => (i.zero, i.size, i.bytes)) = some (some (.int .u64 0), 1, 8))
    (v : Value) (n : Nat) (f : Nat → Nat) (hs : a.eval s = v) (hown : Own t w base v n f) (y : Nat) (z : Int) (hz : z = (y : Int)) (hx : a.eval x = .slice (some ⟨w.heap.size, 0, none⟩) 1 1) (hy : y < B64)
    (hnm : n + 1 ≤ 1000000) (hbase : base ≤ w.heap.size)
    (h : ∀ v' w', Own t w' base v' (n + 1) (upd f n y) → (∀ B w0, B ≤ base → Below B w0 w → Below B w0 w') → wpList P ops Q rest (a.put o.dst v') w') :
    wpList P ops Q (o :: rest) a (w.alloc (.cells #[.int .u64 z] t)) := by
  subst hz
  exact wpList_append_one hgd s x T ho base t hu hinfo v n f hs hown y hx hy hnm hbase h
end
end Go.Proofs.Ythjndkkepailmaa
