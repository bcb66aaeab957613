/-
 Proved: for every dyad and every number of bits the law volvellelaw05.ExpoAlone returns true, and what came in reads afterwards as it read before; the card ties the listed table of math/bits to the program's text. Conditions: none beside those that the given row and card state.
-/
import Derived.Test.YtmbmohibpkepdaaGreatDoorTie
import Derived.Test.YtmbmohibpkepdaaGreatDoorCards
import Derived.SevenTiedAt
import Derived.Test.YtmbmohibpkepdaaGreatDoorPlAGRowKits
import Derived.Test.YtmbmohibpkepdaaGreatDoorPlAGEAlo
set_option maxRecDepth 100000
open Go.Proofs.Tryz renaming prog->FQ, underlying3->FU, f3->FV, checked->FW, underlying4->FX, params3->FY, func3->FZ
namespace Go.Proofs.YtmbmohibpkepdaaGreatDoor
open Go.ChangeShapes Go.WideShapes Go.ChangeAt Go.RowKit Go.Joins
theorem lY (H:Type)(enc:TypeId×Value->H)(W:World)(base:Nat)(args:Array Value)(ds gs:List (DataW H))(before:List MemPlace)
 (hval:∀ (j:Nat) t v,Tryz.f3.params[j]?=some t->args[j]?=some v->Value.okWide FQ W .any base t v)
 (hW:DataW.Whole enc FQ Tryz.f3.params.toList Rows.expoAloneSpec.vars false W args.toList ds gs before) (hL:laidMetH FQ og W) :
 Calls FQ 3 args W fun e W'=>∃ v,e=.returned v/\Rows.expoAloneSpec.post enc FQ FV false true false false W args v W':=by
 have hW':=hW;obtain⟨p,q,hA0,hV,rfl,hfz,hnd⟩:=hW;have hA:DataW.TrodAll enc FQ W 0 (fun _=>true) true Tryz.f3.params.toList args.toList ds p:=hA0;rw[FY]at hA hval;obtain⟨v0,v1,d0,d1,p0_,p1_,rfl,rfl,rfl,h0,h1⟩:=trodAll_two hA;obtain⟨rfl,rfl⟩:=trodVars_none hV;clear hA0;simp only[List.append_nil]at hW'
 have hlt:∀ x ∈ p0_ ++ p1_,x.block < W.heap.size:=fun x hx=>hW'.lt x (by simpa using hx)
 have hlt0:∀ x ∈ p0_,x.block < W.heap.size:=fun x hx=>hlt x (by simp[hx])
 obtain⟨a00,a01,a02,y00,y01,y02,m0,rfl,rfl,rfl,t00,t01,t02⟩:=open_agg3 Tryz.underlying24 (by kernel_rfl) (by kernel_rfl) (hval 0 24 v0 rfl rfl) h0;obtain⟨na0,hb00,_⟩:=DataW.trod_bool FX t00;obtain⟨e0,hb02,_,_⟩:=DataW.trod_int FU t02;obtain⟨A0,n0,c0,x0,rfl,s0,l0⟩:=nV t01
 simp at hb00 hb02
 subst hb00;subst hb02;obtain⟨p1,rfl,rfl,rfl,ws1⟩:=open_int FU (hval 1 3 v1 rfl rfl) h1
 refine(tz na0 A0 n0 c0 x0 e0 p1 W s0 (rS hL)).mono fun e' W' ⟨he',hb⟩=>?_
 subst he';refine⟨_,rfl,_,_,_,[],(y00.2 ++ (y01.2 ++ y02.2)) ++ [],[],hW',?_,?_,?_,hb.frame _,fun h=>by cases h⟩
 . exact trodAll_cons_mk (shut_bool FX _) trodAll_mk0
 . exact trodAll_mk2 (Below.trod BR (by kernel_rfl) (of_decide_eq_true (by kernel_rfl)) h0 hb (hlt0)) (shut_int FU ws1)
 . rfl
theorem ou (os:Os)(started:os.Started)(H:Type)(enc:TypeId×Value->H):
 ReturnsInHanded {} FW os 3 .any (fun w args=>(Rows.expoAloneSpec.pre enc FQ FV [] false w args/\laidMetH FQ og w)/\sizedMet enc FQ FV (OpenSpec.ofChange Rows.expoAloneSpec) false w args)
  (Rows.expoAloneSpec.post enc FQ FV false true false false):=by
 refine returnsInHanded_of_change_and (C:=FW) (X:=fun w _=>laidMetH FQ og w) (fun _ _ _ hh h=>h.of_heap hh) own started (by kernel_rfl) FZ
  (ChangeSpec.witness_shaped (enc:=enc) (C:=FW) (os:=os) (X:=fun w _=>laidMetH FQ og w) false (World.doorLaid FQ 400 os) #[.agg #[.bool false,.slice none 0 0,.int .i64 0],.int .i64 0] 8 rfl (World.shaped_of_RefB (by kernel_rfl) (by kernel_rfl)) (by kernel_rfl) (by kernel_rfl) (by kernel_rfl) (Ac os _)) ?_
 intro W base args ds gs before hval hW _ _ hL _;exact lY H enc W base args ds gs before hval hW hL
theorem oY:Rows.ExpoAloneSaid :=
 OpenClaim.holds_of_wide 3 FV rfl rfl rfl rfl rfl rfl rfl ⟨rfl,rfl,rfl,rfl,rfl⟩ rfl rfl rfl rfl rfl (by kernel_rfl) FZ (by kernel_rfl)
  (of_decide_eq_true (by kernel_rfl)) (by unfold Func.isWrapper;first | (rw[if_pos (by decide +kernel)];kernel_rfl) | (rw[if_neg (by decide +kernel)];exact⟨rfl,rfl⟩))
  (fun os started H enc _=>ou os started H enc)
theorem exalone_card_holds:Rows.ExpoAloneCardSaid :=
 Claim7.holds_tied_plain_at .later [] [.data] true Rows.expoAloneCard.stood.harness false
  oY (fun _ h=>by cases h) (by kernel_rfl) (fun _ h=>by cases h) expoAlone_row_tie rfl ⟨rfl,rfl⟩ (by kernel_rfl) rfl
  (fun f fn hf hfn=>by
   obtain rfl:f=3:=Option.some.inj ((show Tryz.prog.funcNamed "volvelle/volvellelaw05.ExpoAlone" = some 3 by kernel_rfl).symm.trans hf) |>.symm
   obtain rfl:fn=FV:=(Option.some.inj (Tryz.func3.symm.trans hfn)).symm
   exact⟨by kernel_rfl,fun j t ht=>by
    rw[FY]at ht
    have hm:t ∈ [24,3]:=by simpa using Array.mem_of_getElem? ht
    have hall:([24,3].all fun u=>!Tryz.prog.wantsStandIn u)=true:=by kernel_rfl
    exact(show Tryz.prog.wantsStandIn t=false by simpa using List.all_eq_true.1 hall t hm)⟩)
  (by kernel_rfl)
#print axioms exalone_card_holds
end Go.Proofs.YtmbmohibpkepdaaGreatDoor
