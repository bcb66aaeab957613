/-
 Proved: for every span, every dyad and every number of bits the law volvellelaw05.ExpoSpans returns true, and what came in reads afterwards as it read before; the card ties the listed table of math/bits to the program's text. Conditions: none beside those that the given row and card state.
-/
import Derived.Test.YtmbmohibpkepdaaGreatDoorTie
import Derived.Test.YtmbmohibpkepdaaGreatDoorCards
import Derived.SevenTiedAt
import Derived.Test.YtmbmohibpkepdaaGreatDoorPlSGRowKits
import Derived.Test.YtmbmohibpkepdaaGreatDoorPlSGESpn
set_option maxRecDepth 100000
open Go.Proofs.Tryz renaming prog->lY, underlying3->mF, f4->ou, checked->oM, underlying4->oY, params4->qK, func4->tz
namespace Go.Proofs.YtmbmohibpkepdaaGreatDoor
open Go.ChangeShapes Go.WideShapes Go.ChangeAt Go.RowKit Go.Joins
theorem cE (H:Type)(enc:TypeId×Value->H)(W:World)(base:Nat)(args:Array Value)(ds gs:List (DataW H))(before:List MemPlace)
 (hval:∀ (j:Nat) t v,Tryz.f4.params[j]?=some t->args[j]?=some v->Value.okWide lY W .any base t v)
 (hW:DataW.Whole enc lY Tryz.f4.params.toList Rows.expoSpansSpec.vars false W args.toList ds gs before) (hL:laidMetH lY og W) :
 Calls lY 4 args W fun e W'=>∃ v,e=.returned v/\Rows.expoSpansSpec.post enc lY ou false true false false W args v W':=by
 have hW':=hW;obtain⟨p,q,hA0,hV,rfl,hfz,hnd⟩:=hW;have hA:DataW.TrodAll enc lY W 0 (fun _=>true) true Tryz.f4.params.toList args.toList ds p:=hA0;rw[qK]at hA hval;obtain⟨v0,v1,v2,d0,d1,d2,p0_,p1_,p2_,rfl,rfl,rfl,h0,h1,h2⟩:=trodAll_three hA;obtain⟨rfl,rfl⟩:=trodVars_none hV;clear hA0;simp only[List.append_nil]at hW'
 have hlt:∀ x ∈ p0_ ++ p1_ ++ p2_,x.block < W.heap.size:=fun x hx=>hW'.lt x (by simpa using hx)
 have hlt0:∀ x ∈ p0_,x.block < W.heap.size:=fun x hx=>hlt x (by simp[hx])
 have hlt1:∀ x ∈ p1_,x.block < W.heap.size:=fun x hx=>hlt x (by simp[hx])
 obtain⟨na0,A0,n0,c0,x0,ea0,nb0,B0,m0,d0,y0,eb0,rfl,s0,r0,l0,k0⟩:=F0 (hval 0 31 v0 rfl rfl) h0;obtain⟨a10,a11,a12,y10,y11,y12,m1,rfl,rfl,rfl,t10,t11,t12⟩:=open_agg3 Tryz.underlying24 (by kernel_rfl) (by kernel_rfl) (hval 1 24 v1 rfl rfl) h1;obtain⟨na1,hb10,_⟩:=DataW.trod_bool oY t10;obtain⟨e1,hb12,_,_⟩:=DataW.trod_int mF t12;obtain⟨A1,n1,c1,x1,rfl,s1,l1⟩:=nV t11
 simp at hb10 hb12
 subst hb10;subst hb12;obtain⟨p2,rfl,rfl,rfl,ws2⟩:=open_int mF (hval 2 3 v2 rfl rfl) h2
 refine(FV na0 nb0 na1 A0 B0 A1 n0 c0 m0 d0 n1 c1 x0 y0 x1 ea0 eb0 e1 p2 W s0 r0 s1 (rS hL)).mono fun e' W' ⟨he',hb⟩=>?_
 subst he';refine⟨_,rfl,_,_,_,[],p0_ ++ ((y10.2 ++ (y11.2 ++ y12.2)) ++ []),[],hW',?_,?_,?_,hb.frame _,fun h=>by cases h⟩
 . exact trodAll_cons_mk (shut_bool oY _) trodAll_mk0
 . exact trodAll_mk3 (Below.trod BR (by kernel_rfl) (of_decide_eq_true (by kernel_rfl)) h0 hb (hlt0)) (Below.trod BR (by kernel_rfl) (of_decide_eq_true (by kernel_rfl)) h1 hb (hlt1)) (shut_int mF ws2)
 . rfl
theorem gj (os:Os)(started:os.Started)(H:Type)(enc:TypeId×Value->H):
 ReturnsInHanded {} oM os 4 .any (fun w args=>(Rows.expoSpansSpec.pre enc lY ou [] false w args/\laidMetH lY og w)/\sizedMet enc lY ou (OpenSpec.ofChange Rows.expoSpansSpec) false w args)
  (Rows.expoSpansSpec.post enc lY ou false true false false):=by
 refine returnsInHanded_of_change_and (C:=oM) (X:=fun w _=>laidMetH lY og w) (fun _ _ _ hh h=>h.of_heap hh) own started (by kernel_rfl) tz
  (ChangeSpec.witness_shaped (enc:=enc) (C:=oM) (os:=os) (X:=fun w _=>laidMetH lY og w) false (World.doorLaid lY 400 os) #[.agg #[.bool false,.slice none 0 0,.int .i64 0,.bool false,.slice none 0 0,.int .i64 0],.agg #[.bool false,.slice none 0 0,.int .i64 0],.int .i64 0] 8 rfl (World.shaped_of_RefB (by kernel_rfl) (by kernel_rfl)) (by kernel_rfl) (by kernel_rfl) (by kernel_rfl) (Ac os _)) ?_
 intro W base args ds gs before hval hW _ _ hL _;exact cE H enc W base args ds gs before hval hW hL
theorem lD:Rows.ExpoSpansSaid :=
 OpenClaim.holds_of_wide 4 ou rfl rfl rfl rfl rfl rfl rfl ⟨rfl,rfl,rfl,rfl,rfl⟩ rfl rfl rfl rfl rfl (by kernel_rfl) tz (by kernel_rfl)
  (of_decide_eq_true (by kernel_rfl)) (by unfold Func.isWrapper;first | (rw[if_pos (by decide +kernel)];kernel_rfl) | (rw[if_neg (by decide +kernel)];exact⟨rfl,rfl⟩))
  (fun os started H enc _=>gj os started H enc)
theorem exspans_card_holds:Rows.ExpoSpansCardSaid :=
 Claim7.holds_tied_plain_at .later [] [.data] true Rows.expoSpansCard.stood.harness false
  lD (fun _ h=>by cases h) (by kernel_rfl) (fun _ h=>by cases h) expoSpans_row_tie rfl ⟨rfl,rfl⟩ (by kernel_rfl) rfl
  (fun f fn hf hfn=>by
   obtain rfl:f=4:=Option.some.inj ((show Tryz.prog.funcNamed "volvelle/volvellelaw05.ExpoSpans" = some 4 by kernel_rfl).symm.trans hf) |>.symm
   obtain rfl:fn=ou:=(Option.some.inj (Tryz.func4.symm.trans hfn)).symm
   exact⟨by kernel_rfl,fun j t ht=>by
    rw[qK]at ht
    have hm:t ∈ [31,24,3]:=by simpa using Array.mem_of_getElem? ht
    have hall:([31,24,3].all fun u=>!Tryz.prog.wantsStandIn u)=true:=by kernel_rfl
    exact(show Tryz.prog.wantsStandIn t=false by simpa using List.all_eq_true.1 hall t hm)⟩)
  (by kernel_rfl)
#print axioms exspans_card_holds
end Go.Proofs.YtmbmohibpkepdaaGreatDoor
