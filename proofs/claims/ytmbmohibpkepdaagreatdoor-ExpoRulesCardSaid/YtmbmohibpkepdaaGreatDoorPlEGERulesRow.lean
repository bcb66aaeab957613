/-
 Proved: for every two dyads and every number of bits the law volvellelaw05.ExpoRules returns true, and what came in reads afterwards as it read before; the card ties the listed table of math/bits to the program's text. Conditions: none beside those that the given row and card state.
-/
import Derived.Test.YtmbmohibpkepdaaGreatDoorTie
import Derived.Test.YtmbmohibpkepdaaGreatDoorCards
import Derived.SevenTiedAt
import Derived.Test.YtmbmohibpkepdaaGreatDoorPlEGRowKits
import Derived.Test.YtmbmohibpkepdaaGreatDoorPlEGERul2
namespace Go.Proofs.YtmbmohibpkepdaaGreatDoor
open Go.ChangeShapes Go.WideShapes Go.ChangeAt Go.RowKit Go.Joins
set_option maxRecDepth 20000 in
theorem exrules_contract (H:Type) (enc:TypeId×Value→H) (W:World) (base:Nat) (args:Array Value) (ds gs:List (DataW H)) (before:List MemPlace)
 (hval:∀ (j:Nat) t v,Tryz.f5.params[j]?=some t→args[j]?=some v→Value.okWide Tryz.prog W .any base t v)
 (hW:DataW.Whole enc Tryz.prog Tryz.f5.params.toList Rows.expoRulesSpec.vars false W args.toList ds gs before) (hL:laidMetH Tryz.prog laid1 W) (hS:(DataW.weightsEach Tryz.prog (Tryz.f5.params.toList ++ Rows.expoRulesSpec.plain.varTypes Tryz.prog) (ds ++ gs)).all (·≤reachBytes)=true) :
 Calls Tryz.prog 5 args W fun e W'=>∃ v,e=.returned v∧Rows.expoRulesSpec.post enc Tryz.prog Tryz.f5 false true false false W args v W':=by
 have hW':=hW
 obtain ⟨p,q,hA0,hV,rfl,hfz,hnd⟩:=hW
 have hA:DataW.TrodAll enc Tryz.prog W 0 (fun _=>true) true Tryz.f5.params.toList args.toList ds p:=hA0
 rw [Tryz.params5] at hA hval
 obtain ⟨v0,v1,v2,d0,d1,d2,p0_,p1_,p2_,rfl,rfl,rfl,h0,h1,h2⟩:=trodAll_three hA
 obtain ⟨rfl,rfl⟩:=trodVars_none hV
 clear hA0
 simp only [List.append_nil] at hW'
 have hlt:∀ x ∈ p0_ ++ p1_ ++ p2_,x.block < W.heap.size:=fun x hx=>hW'.lt x (by simpa using hx)
 have hlt0:∀ x ∈ p0_,x.block < W.heap.size:=fun x hx=>hlt x (by simp [hx])
 have hlt1:∀ x ∈ p1_,x.block < W.heap.size:=fun x hx=>hlt x (by simp [hx])
 obtain ⟨a00,a01,a02,y00,y01,y02,m0,rfl,rfl,rfl,t00,t01,t02⟩:=open_agg3 Tryz.underlying24 (by kernel_rfl) (by kernel_rfl) (hval 0 24 v0 rfl rfl) h0
 obtain ⟨na0,hb00,_⟩:=DataW.trod_bool Tryz.underlying4 t00
 obtain ⟨e0,hb02,_,_⟩:=DataW.trod_int Tryz.underlying3 t02
 obtain ⟨A0,n0,c0,x0,rfl,s0,_⟩:=open_words_raw t01
 simp at hb00 hb02
 subst hb00
 subst hb02
 have re0:=open_words_reach t01 (fun k hk=>by simpa using List.all_eq_true.1 hS k (DataW.weights_mem_each (j:=0) (t:=24) (by rw [Tryz.params5];rfl) rfl k (weights_words hk)))
 obtain ⟨a10,a11,a12,y10,y11,y12,m1,rfl,rfl,rfl,t10,t11,t12⟩:=open_agg3 Tryz.underlying24 (by kernel_rfl) (by kernel_rfl) (hval 1 24 v1 rfl rfl) h1
 obtain ⟨na1,hb10,_⟩:=DataW.trod_bool Tryz.underlying4 t10
 obtain ⟨e1,hb12,_,_⟩:=DataW.trod_int Tryz.underlying3 t12
 obtain ⟨A1,n1,c1,x1,rfl,s1,_⟩:=open_words_raw t11
 simp at hb10 hb12
 subst hb10
 subst hb12
 have re1:=open_words_reach t11 (fun k hk=>by simpa using List.all_eq_true.1 hS k (DataW.weights_mem_each (j:=1) (t:=24) (by rw [Tryz.params5];rfl) rfl k (weights_words hk)))
 obtain ⟨p2,rfl,rfl,rfl,ws2⟩:=open_int Tryz.underlying3 (hval 2 3 v2 rfl rfl) h2
 refine (erules_any na0 na1 A0 A1 n0 c0 n1 c1 x0 x1 e0 e1 p2 W s0 s1 (Nat.le_trans re0 (by omega)) (Nat.le_trans re1 (by omega)) (tab_of_laid hL)).mono fun e' W' ⟨he',hb⟩=>?_
 subst he'
 refine ⟨_,rfl,_,_,_,[],(y00.2 ++ (y01.2 ++ y02.2)) ++ ((y10.2 ++ (y11.2 ++ y12.2)) ++ []),[],hW',?_,?_,?_,hb.frame _,fun h=>by cases h⟩
 · exact trodAll_cons_mk (shut_bool Tryz.underlying4 _) trodAll_mk0
 · exact trodAll_mk3 (Below.trod laidOut (by kernel_rfl) (of_decide_eq_true (by kernel_rfl)) h0 hb (hlt0)) (Below.trod laidOut (by kernel_rfl) (of_decide_eq_true (by kernel_rfl)) h1 hb (hlt1)) (shut_int Tryz.underlying3 ws2)
 · rfl
set_option maxRecDepth 100000 in
theorem exrules_lifted (os:Os) (started:os.Started) (H:Type) (enc:TypeId×Value→H) :
 ReturnsInHanded {} Tryz.checked os 5 .any (fun w args=>(Rows.expoRulesSpec.pre enc Tryz.prog Tryz.f5 [] false w args∧laidMetH Tryz.prog laid1 w)∧sizedMet enc Tryz.prog Tryz.f5 (OpenSpec.ofChange Rows.expoRulesSpec) false w args)
  (Rows.expoRulesSpec.post enc Tryz.prog Tryz.f5 false true false false):=by
 refine returnsInHanded_of_change_and (C:=Tryz.checked) (X:=fun w _=>laidMetH Tryz.prog laid1 w) (fun _ _ _ hh h=>h.of_heap hh) own started (by kernel_rfl) Tryz.func5
  (ChangeSpec.witness_shaped (enc:=enc) (C:=Tryz.checked) (os:=os) (X:=fun w _=>laidMetH Tryz.prog laid1 w) false (World.doorLaid Tryz.prog 400 os) #[.agg #[.bool false,.slice none 0 0,.int .i64 0],.agg #[.bool false,.slice none 0 0,.int .i64 0],.int .i64 0] 8 rfl (World.shaped_of_RefB (by kernel_rfl) (by kernel_rfl)) (by kernel_rfl) (by kernel_rfl) (by kernel_rfl) (door_met os _)) ?_
 intro W base args ds gs before hval hW _ hS hL _
 exact exrules_contract H enc W base args ds gs before hval hW hL hS
theorem exrules_holds:Rows.ExpoRulesSaid :=
 OpenClaim.holds_of_wide 5 Tryz.f5 rfl rfl rfl rfl rfl rfl rfl ⟨rfl,rfl,rfl,rfl,rfl⟩ rfl rfl rfl rfl rfl (by kernel_rfl) Tryz.func5 (by kernel_rfl)
  (of_decide_eq_true (by kernel_rfl)) (by unfold Func.isWrapper;first | (rw [if_pos (by decide +kernel)];kernel_rfl) | (rw [if_neg (by decide +kernel)];exact ⟨rfl,rfl⟩))
  (fun os started H enc _=>exrules_lifted os started H enc)
theorem exrules_card_holds:Rows.ExpoRulesCardSaid :=
 Claim7.holds_tied_plain_at .later [] [.data] true Rows.expoRulesCard.stood.harness false
  exrules_holds (fun _ h=>by cases h) (by kernel_rfl) (fun _ h=>by cases h) expoRules_row_tie rfl ⟨rfl,rfl⟩ (by kernel_rfl) rfl
  (fun f fn hf hfn=>by
   obtain rfl:f=5:=Option.some.inj ((show Tryz.prog.funcNamed "volvelle/volvellelaw05.ExpoRules" = some 5 by kernel_rfl).symm.trans hf) |>.symm
   obtain rfl:fn=Tryz.f5:=(Option.some.inj (Tryz.func5.symm.trans hfn)).symm
   exact ⟨by kernel_rfl,fun j t ht=>by
    rw [Tryz.params5] at ht
    have hm:t ∈ [24,24,3]:=by simpa using Array.mem_of_getElem? ht
    have hall:([24,24,3].all fun u=>!Tryz.prog.wantsStandIn u)=true:=by kernel_rfl
    exact (show Tryz.prog.wantsStandIn t=false by simpa using List.all_eq_true.1 hall t hm)⟩)
  (by kernel_rfl)
#print axioms exrules_card_holds
end Go.Proofs.YtmbmohibpkepdaaGreatDoor
