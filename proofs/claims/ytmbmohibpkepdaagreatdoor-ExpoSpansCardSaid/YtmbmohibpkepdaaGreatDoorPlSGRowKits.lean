import Derived.Lib.LaidTab
import Derived.Lib.SmallJoins
import Derived.LaidMore
import Derived.Stop.Joined
import Derived.ProofKit
import Derived.Deep.Slices
import Derived.Test.YtmbmohibpkepdaaGreatDoorPlSGSp1
set_option maxRecDepth 20000
open Go.Proofs.Tryz renaming prog->lY, underlying31->mF
namespace Go.Proofs.YtmbmohibpkepdaaGreatDoor
open Go.ChangeShapes Go.WideShapes Go.ChangeAt Go.RowKit Go.Joins
variable {W:World} {fuel:Nat}
theorem E5:Tryz.prog.globalNamed "math/bits.deBruijn64tab" = some 0:=by kernel_rfl
theorem Ft:(Tryz.prog.globals[0]?).map (·.type)=some 130:=by kernel_rfl
theorem Fh:Tryz.prog.cellsOf 5=1:=by kernel_rfl
theorem Ci:Tryz.prog.cellsOf 130=64:=by kernel_rfl
abbrev og:List (String×DataW Unit):=[("math/bits.deBruijn64tab",Rows.laid_math_bits_deBruijn64tab)]
theorem zL:(Rows.laid_math_bits_deBruijn64tab:DataW Unit)=Lib.tabData .u8 (Lib.deBruijn64tab.map fun(n:Nat)=>(n:Int)):=rfl
theorem rS (h:laidMetH lY og W):bx W:=by
 rw[MakeChecks.laidMetH_plain _ _ _ (by kernel_rfl)]at h;unfold og at h;rw[zL]at h;have hT:=Lib.tabIs_of_head E5 Ft Tryz.underlying130 Tryz.underlying5 Fh Ci h
 have hc:∀ j,j < Lib.deBruijn64tab.length->W.cell? ⟨0,j,none⟩=some (.int .u8 (Lib.deBruijn64tab.getD j 0)):=fun j hj=>by
  have:=hT.cell E5 j (by simpa using hj)
  rw[this]
  simp[List.getD_eq_getElem?_getD,hj]
 refine⟨?_,hc⟩;exact World.block_lt_of_cell? W _ (hc 0 (by decide))
theorem Ac (os:Os)(args:Array Value):laidMetH lY og ((World.doorLaid lY 400 os).forCall (fun _ _=>0) ⟨#[],args,[]⟩).memory :=
 laidMetH_of_parts3 (fuel:=8) (laidMet_of_run' 8 (by kernel_rfl) (by kernel_rfl)) (by kernel_rfl) (by kernel_rfl)
theorem nV {H:Type}{enc:TypeId×Value->H}{v:Value}{y:DataW H×List MemPlace}(hf:DataW.trod enc lY W 0 (fun _=>true) true fuel 22 [v]=some y):
 ∃ A n c x,v=.slice A n c/\Sl W A n c x/\n<=9223372036854775807:=by
 rcases open_ints Tryz.underlying22 Tryz.underlying51 Ch hf with⟨hcs,_⟩ | ⟨a,len,cap,zs,hcs,_,hl,hm,hz,_,hcell,hwz⟩
 . simp at hcs
   subst hcs;exact⟨none,0,0,fun _=>0,rfl,Sl.none_ W 0 none _,by omega⟩
 . simp at hcs
   subst hcs;simp only[if_true]at hz;unfold maxLen at hm
   have hw:∀ j,j < len->∃ y:Nat,zs.getD j 0=(y:Int)/\y < ai:=fun j hj=>by
    have hj':j < zs.length:=by omega
    have hmem:zs.getD j 0 ∈ zs:=by rw[List.getD_eq_getElem?_getD,List.getElem?_eq_getElem hj'];exact List.getElem_mem hj'
    have h1:=hwz _ hmem
    have h2:0<=zs.getD j 0/\zs.getD j 0<=18446744073709551615:=by simpa [Lit.wf,IntKind.min,IntKind.max,IntKind.signed,IntKind.bits] using h1
    exact⟨(zs.getD j 0).toNat,by omega,by unfold ai;omega⟩
   refine⟨some a,len,cap,fun j=>(zs.getD j 0).toNat,rfl,⟨hl,fun j hj=>?_,fun hn=>⟨a,rfl,?_,fun j hj=>?_⟩⟩,by omega⟩
   . obtain⟨y,h1,h2⟩:=hw j hj
     show(zs.getD j 0).toNat < ai
     rw[h1,Int.toNat_natCast];exact h2
   . have h0:=hcell 0 (by omega)
     have h1:=World.block_lt_of_cell? _ _ h0;rw[ao]at h1;exact h1
   . obtain⟨y,h1,h2⟩:=hw j hj
     show _=some (Value.int .u64 (((zs.getD j 0).toNat:Nat):Int))
     rw[hcell j (by omega),h1,Int.toNat_natCast]
open Go.ChangeShapes Go.WideShapes Go.ChangeAt Go.RowKit Go.Joins Go.Deep
theorem FU {H:Type}{enc:TypeId×Value->H}{P:Program}{w:World}{base:Nat}{spare:Nat->Bool}{held:Bool}{t:TypeId}{f0 f1 f2:Field}{cs:List Value}{x:DataW H×List MemPlace} 
 (hs:P.underlying t=some (.struct #[f0,f1,f2])) (hone:oneCellFields P #[f0,f1,f2]=true) (hl:cs.length=3) (h:DataW.trod enc P w base spare held fuel t cs=some x) :
 ∃ (v0 v1 v2:Value) (y0 y1 y2:DataW H×List MemPlace) (n:Nat),cs=[v0,v1,v2] /\
  DataW.trod enc P w base spare held n f0.type [v0]=some y0/\DataW.trod enc P w base spare held n f1.type [v1]=some y1/\DataW.trod enc P w base spare held n f2.type [v2]=some y2:=by
 obtain⟨y0,y1,y2,n,hx,_,h0,h1,h2⟩:=trod_struct3 hs h;obtain⟨o0,k0⟩:=hone_of hone 0 f0 rfl;obtain⟨o1,k1⟩:=hone_of hone 1 f1 rfl;obtain⟨o2,k2⟩:=hone_of hone 2 f2 rfl
 match cs,hl with
 | [c0,c1,c2],_=>exact⟨c0,c1,c2,y0,y1,y2,n,rfl,by simpa [o0,k0] using h0,by simpa [o1,k1] using h1,by simpa [o2,k2] using h2⟩
theorem FX:Tryz.prog.cellsOf 24=3:=by kernel_rfl
theorem FW:Tryz.prog.cellsOf 31=6:=by kernel_rfl
theorem fz {H:Type}{enc:TypeId×Value->H}{cs:List Value}{x:DataW H×List MemPlace}(hl:cs.length=3)
 (h:DataW.trod enc lY W 0 (fun _=>true) true fuel 24 cs=some x):∃ neg A n c f e,cs=[.bool neg,.slice A n c,.int .i64 e]/\Sl W A n c f/\n<=9223372036854775807:=by
 obtain⟨v0,v1,v2,y0,y1,y2,n',rfl,t0,t1,t2⟩:=FU Tryz.underlying24 (by kernel_rfl) hl h;obtain⟨neg,hb0,_⟩:=DataW.trod_bool Tryz.underlying4 t0;obtain⟨e,hb2,_,hwf⟩:=DataW.trod_int Tryz.underlying3 t2;obtain⟨A,k,c,f,rfl,s0,l0⟩:=nV t1
 simp at hb0 hb2
 subst hb0;subst hb2;exact⟨neg,A,k,c,f,e,rfl,s0,l0⟩
theorem F0 {H:Type}{enc:TypeId×Value->H}{base:Nat}{v:Value}{d:DataW H}{p:List MemPlace}(hok:Value.okWide lY W .any base 31 v)
 (h:DataW.Trod enc lY W 0 (fun _=>true) true 31 v d p):∃ na A n c x ea nb' B m k y eb,v=aG na A n c ea nb' B m k eb/\Sl W A n c x/\Sl W B m k y/\n<=9223372036854775807/\m<=9223372036854775807:=by
 obtain⟨cs,rfl,hsz⟩:=okWide_struct mF hok;obtain⟨fuel,hf⟩:=h;obtain⟨y0,y1,n,hx,_,h0,h1⟩:=trod_struct2 mF hf;rw[FW]at hsz;obtain⟨l,rfl⟩:∃ l:List Value,cs=l.toArray:=⟨cs.toList,by simp⟩
 simp at hsz
 match l,hsz with
 | [c0,c1,c2,c3,c4,c5],_ =>
  rw[FX]at h0 h1
  simp[Value.cells]at h0 h1
  obtain⟨na,A,n0,k0,x,ea,e0,s0,l0⟩:=fz rfl h0;obtain⟨nb',B,n1,k1,y,eb,e1,s1,l1⟩:=fz rfl h1
  simp at e0 e1
  obtain⟨rfl,rfl,rfl⟩:=e0;obtain⟨rfl,rfl,rfl⟩:=e1;exact⟨na,A,n0,k0,x,ea,nb',B,n1,k1,y,eb,rfl,s0,s1,l0,l1⟩
end Go.Proofs.YtmbmohibpkepdaaGreatDoor
