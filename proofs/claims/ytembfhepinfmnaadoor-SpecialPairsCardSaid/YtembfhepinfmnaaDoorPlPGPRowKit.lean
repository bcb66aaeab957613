/-
  Four words as they come in through a row.
-/
import Derived.Laws.IdiomArrays
import Derived.Test.YtembfhepinfmnaaDoorPlPGBRowKit
import Derived.Test.YtembfhepinfmnaaDoorPlPGPSing
namespace Go.Proofs.YtembfhepinfmnaaDoor
open Go.ChangeShapes Go.WideShapes Go.ChangeAt Go.RowKit Go.Joins

theorem list4' (l : List Value) (h : l.length = 4) : ∃ a b c d, l = [a, b, c, d] := match l, h with
  | [a, b, c, d], _ => ⟨a, b, c, d, rfl⟩
theorem open_four {H : Type} {enc : TypeId × Value → H} {W : World} {base : Nat} {v : Value} {d : DataW H} {p : List MemPlace} (hok : Value.okWide Tryd.prog W .any base 24 v)
    (h : DataW.Trod enc Tryd.prog W 0 (fun _ => true) true 24 v d p) :
    ∃ a b c e : Nat, v = .agg (fourC a b c e) ∧ a < B64 ∧ b < B64 ∧ c < B64 ∧ e < B64 ∧ d = .agg [.lit (.int .u64 (a : Int)), .lit (.int .u64 (b : Int)), .lit (.int .u64 (c : Int)), .lit (.int .u64 (e : Int))] ∧ p = [] := by
  obtain ⟨cs, rfl, hsz, _⟩ : ∃ cs, v = .agg cs ∧ cs.size = Tryd.prog.cellsOf 24 ∧ Row.okWide Tryd.prog W .any base 24 cs := by
    simpa [Value.okWide, Tryd.underlying24] using hok
  rw [show Tryd.prog.cellsOf 24 = 4 by kernel_rfl] at hsz
  obtain ⟨l⟩ := cs
  obtain ⟨c0, c1, c2, c3, rfl⟩ := list4' l hsz
  obtain ⟨fuel, hf⟩ := h
  obtain ⟨y0, y1, y2, y3, m, hx, hy0, hy1, hy2, hy3⟩ := trod_array4 Tryd.underlying24 (by kernel_rfl) hf
  obtain ⟨x0, e0, rfl, w0⟩ := DataW.trod_int Tryd.underlying22 hy0
  obtain ⟨x1, e1, rfl, w1⟩ := DataW.trod_int Tryd.underlying22 hy1
  obtain ⟨x2, e2, rfl, w2⟩ := DataW.trod_int Tryd.underlying22 hy2
  obtain ⟨x3, e3, rfl, w3⟩ := DataW.trod_int Tryd.underlying22 hy3
  simp at e0 e1 e2 e3
  subst e0 e1 e2 e3
  simp only [Prod.mk.injEq] at hx
  obtain ⟨rfl, rfl⟩ := hx
  obtain ⟨a, rfl, ha⟩ := word_wf w0
  obtain ⟨b, rfl, hb⟩ := word_wf w1
  obtain ⟨c, rfl, hc⟩ := word_wf w2
  obtain ⟨e, rfl, he⟩ := word_wf w3
  exact ⟨a, b, c, e, rfl, ha, hb, hc, he, rfl, rfl⟩
theorem wf_word {a : Nat} (h : a < B64) : (Lit.int .u64 (a : Int)).wf = true := by
  unfold B64 at h
  simp [Lit.wf, IntKind.min, IntKind.max, IntKind.signed, IntKind.bits]
  omega
theorem shut_four {H : Type} {enc : TypeId × Value → H} {W : World} {base : Nat} {sp : Nat → Bool} {held : Bool} {a b c e : Nat} (ha : a < B64) (hb : b < B64) (hc : c < B64) (he : e < B64) :
    DataW.Trod enc Tryd.prog W base sp held 24 (.agg (fourC a b c e)) (.agg [.lit (.int .u64 (a : Int)), .lit (.int .u64 (b : Int)), .lit (.int .u64 (c : Int)), .lit (.int .u64 (e : Int))]) [] := by
  have h1 := wf_word ha
  have h2 := wf_word hb
  have h3 := wf_word hc
  have h4 := wf_word he
  have z : Tryd.prog.cellsOf 22 = 1 := by kernel_rfl
  have z4 : Tryd.prog.cellsOf 24 = 4 := by kernel_rfl
  have r4 : List.range 4 = [0, 1, 2, 3] := rfl
  exact ⟨2, by simp [DataW.trod, Value.cells, Tryd.underlying24, Tryd.underlying22, z, z4, r4, h1, h2, h3, h4]⟩
end Go.Proofs.YtembfhepinfmnaaDoor
