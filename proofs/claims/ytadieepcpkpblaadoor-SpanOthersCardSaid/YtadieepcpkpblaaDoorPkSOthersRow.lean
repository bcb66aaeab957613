/-
  Proved: for every beginning of a work, every span and every integer the law volvellelaw03.SpanOthers returns true, and what came in reads afterwards as it read before; the card ties the listed table of math/bits to the program's text. Conditions: none beside those that the given row and card state.
-/
import Derived.Test.YtadieepcpkpblaaDoorTie
import Derived.Test.YtadieepcpkpblaaDoorCards
import Derived.SevenTiedAt
import Derived.Test.YtadieepcpkpblaaDoorPkRowKits
import Derived.Test.YtadieepcpkpblaaDoorPkSOthers
namespace Go.Proofs.YtadieepcpkpblaaDoor
open Go.ChangeShapes Go.WideShapes Go.ChangeAt Go.RowKit Go.Joins

set_option maxRecDepth 20000 in
theorem others_contract (H : Type) (enc : TypeId × Value → H) (W : World) (base : Nat) (args : Array Value) (ds gs : List (DataW H)) (before : List MemPlace)
    (hval : ∀ (j : Nat) t v, Tryd.f3.params[j]? = some t → args[j]? = some v → Value.okWide Tryd.prog W .any base t v)
    (hW : DataW.Whole enc Tryd.prog Tryd.f3.params.toList Rows.spanOthersSpec.vars false W args.toList ds gs before) (hL : laidMetH Tryd.prog laid1 W) :
    Calls Tryd.prog 3 args W fun e W' => ∃ v, e = .returned v ∧ Rows.spanOthersSpec.post enc Tryd.prog Tryd.f3 false true false false W args v W' := by
  have hW' := hW
  obtain ⟨p, q, hA0, hV, rfl, hfz, hnd⟩ := hW
  have hA : DataW.TrodAll enc Tryd.prog W 0 (fun _ => true) true Tryd.f3.params.toList args.toList ds p := hA0
  rw [Tryd.params3] at hA hval
  obtain ⟨v0, v1, v2, d0, d1, d2, p0_, p1_, p2_, rfl, rfl, rfl, h0, h1, h2⟩ := trodAll_three hA
  obtain ⟨rfl, rfl⟩ := trodVars_none hV
  clear hA0
  simp only [List.append_nil] at hW'
  have hlt : ∀ x ∈ p0_ ++ p1_ ++ p2_, x.block < W.heap.size := fun x hx => hW'.lt x (by simpa using hx)
  have hlt0 : ∀ x ∈ p0_, x.block < W.heap.size := fun x hx => hlt x (by simp [hx])
  have hlt1 : ∀ x ∈ p1_, x.block < W.heap.size := fun x hx => hlt x (by simp [hx])
  obtain ⟨a00, a01, y00, y01, m0, rfl, rfl, rfl, t00, t01⟩ := open_agg2 Tryd.underlying23 (by kernel_rfl) (by kernel_rfl) (hval 0 23 v0 rfl rfl) h0
  obtain ⟨p0, hb00, _, hwf0⟩ := DataW.trod_int Tryd.underlying3 t00
  obtain ⟨bd0, hb01, _⟩ := DataW.trod_bool Tryd.underlying4 t01
  simp at hb00 hb01
  subst hb00
  subst hb01
  obtain ⟨na1, A1, n1, c1, x1, ea1, nb1, B1, m1, d1, y1, eb1, rfl, s1, r1, l1, k1⟩ := open_span (hval 1 28 v1 rfl rfl) h1
  obtain ⟨p2, rfl, rfl, rfl, ws2⟩ := open_int Tryd.underlying2 (hval 2 2 v2 rfl rfl) h2
  have we2 : -9223372036854775808 ≤ p2 ∧ p2 ≤ 9223372036854775807 := by simpa [Lit.wf, IntKind.min, IntKind.max, IntKind.signed, IntKind.bits] using ws2
  refine (others_any p0 bd0 na1 nb1 A1 B1 n1 c1 m1 d1 x1 y1 ea1 eb1 p2 W s1 r1 l1 k1 (tab_of_laid hL) we2.1 we2.2).mono fun e' W' ⟨he', hb⟩ => ?_
  subst he'
  refine ⟨_, rfl, _, _, _, [], (y00.2 ++ y01.2) ++ (p1_ ++ []), [], hW', ?_, ?_, ?_, hb.frame _, fun h => by cases h⟩
  · exact trodAll_cons_mk (shut_bool Tryd.underlying4 _) trodAll_mk0
  · exact trodAll_mk3 (Below.trod laidOut (by kernel_rfl) (of_decide_eq_true (by kernel_rfl)) h0 hb (hlt0)) (Below.trod laidOut (by kernel_rfl) (of_decide_eq_true (by kernel_rfl)) h1 hb (hlt1)) (shut_int Tryd.underlying2 ws2)
  · rfl

set_option maxRecDepth 100000 in
theorem others_lifted (os : Os) (started : os.Started) (H : Type) (enc : TypeId × Value → H) :
    ReturnsInHanded {} Tryd.checked os 3 .any (fun w args => (Rows.spanOthersSpec.pre enc Tryd.prog Tryd.f3 [] false w args ∧ laidMetH Tryd.prog laid1 w) ∧ sizedMet enc Tryd.prog Tryd.f3 (OpenSpec.ofChange Rows.spanOthersSpec) false w args)
      (Rows.spanOthersSpec.post enc Tryd.prog Tryd.f3 false true false false) := by
  refine returnsInHanded_of_change_and (C := Tryd.checked) (X := fun w _ => laidMetH Tryd.prog laid1 w) (fun _ _ _ hh h => h.of_heap hh) own started (by kernel_rfl) Tryd.func3
    (ChangeSpec.witness_shaped (enc := enc) (C := Tryd.checked) (os := os) (X := fun w _ => laidMetH Tryd.prog laid1 w) false (World.doorLaid Tryd.prog 400 os) #[.agg #[.int .i64 0, .bool false], .agg #[.bool false, .slice none 0 0, .int .i64 0, .bool false, .slice none 0 0, .int .i64 0], .int .i64 0] 8 rfl (World.shaped_of_RefB (by kernel_rfl) (by kernel_rfl)) (by kernel_rfl) (by kernel_rfl) (by kernel_rfl) (door_met os _)) ?_
  intro W base args ds gs before hval hW _ _ hL _
  exact others_contract H enc W base args ds gs before hval hW hL

theorem others_holds : Rows.SpanOthersSaid :=
  OpenClaim.holds_of_wide 3 Tryd.f3 rfl rfl rfl rfl rfl rfl rfl ⟨rfl, rfl, rfl, rfl, rfl⟩ rfl rfl rfl rfl rfl (by kernel_rfl) Tryd.func3 (by kernel_rfl)
    (of_decide_eq_true (by kernel_rfl)) (by unfold Func.isWrapper; first | (rw [if_pos (by decide +kernel)]; kernel_rfl) | (rw [if_neg (by decide +kernel)]; exact ⟨rfl, rfl⟩))
    (fun os started H enc _ => others_lifted os started H enc)

theorem others_card_holds : Rows.SpanOthersCardSaid :=
  Claim7.holds_tied_plain_at .later [] [.data] true Rows.spanOthersCard.stood.harness false
    others_holds (fun _ h => by cases h) (by kernel_rfl) (fun _ h => by cases h) spanOthers_row_tie rfl ⟨rfl, rfl⟩ (by kernel_rfl) rfl
    (fun f fn hf hfn => by
      obtain rfl : f = 3 := Option.some.inj ((show Tryd.prog.funcNamed "volvelle/volvellelaw03.SpanOthers" = some 3 by kernel_rfl).symm.trans hf) |>.symm
      obtain rfl : fn = Tryd.f3 := (Option.some.inj (Tryd.func3.symm.trans hfn)).symm
      exact ⟨by kernel_rfl, fun j t ht => by
        rw [Tryd.params3] at ht
        have hm : t ∈ [23, 28, 2] := by simpa using Array.mem_of_getElem? ht
        have hall : ([23, 28, 2].all fun u => !Tryd.prog.wantsStandIn u) = true := by kernel_rfl
        exact (show Tryd.prog.wantsStandIn t = false by simpa using List.all_eq_true.1 hall t hm)⟩)
    (by kernel_rfl)
#print axioms others_card_holds
end Go.Proofs.YtadieepcpkpblaaDoor
