import Derived.Lib.LaidTab
import Derived.Lib.SmallJoins
import Derived.LaidMore
import Derived.Stop.Joined
import Derived.ProofKit
import Derived.Test.YtmbmohibpkepdaaGreatDoorPlAGNat1
set_option maxRecDepth 20000
namespace Go.Proofs.YtmbmohibpkepdaaGreatDoor
open Go.ChangeShapes Go.WideShapes Go.ChangeAt Go.RowKit Go.Joins
theorem E5:Tryz.prog.globalNamed "math/bits.deBruijn64tab" = some 0:=by kernel_rfl
theorem Ft:(Tryz.prog.globals[0]?).map (·.type)=some 130:=by kernel_rfl
theorem Fh:Tryz.prog.cellsOf 5=1:=by kernel_rfl
theorem Ci:Tryz.prog.cellsOf 130=64:=by kernel_rfl
abbrev og:List (String×DataW Unit):=[("math/bits.deBruijn64tab",Rows.laid_math_bits_deBruijn64tab)]
theorem zL:(Rows.laid_math_bits_deBruijn64tab:DataW Unit)=Lib.tabData .u8 (Lib.deBruijn64tab.map fun(n:Nat)=>(n:Int)):=rfl
theorem rS {W:World}(h:laidMetH Tryz.prog og W):bx W:=by
 rw[MakeChecks.laidMetH_plain _ _ _ (by kernel_rfl)]at h;unfold og at h;rw[zL]at h;have hT:=Lib.tabIs_of_head E5 Ft Tryz.underlying130 Tryz.underlying5 Fh Ci h
 have hc:∀ j,j < Lib.deBruijn64tab.length->W.cell? ⟨0,j,none⟩=some (.int .u8 (Lib.deBruijn64tab.getD j 0)):=fun j hj=>by
  have:=hT.cell E5 j (by simpa using hj)
  rw[this]
  simp[List.getD_eq_getElem?_getD,hj]
 refine⟨?_,hc⟩;exact World.block_lt_of_cell? W _ (hc 0 (by decide))
theorem Ac (os:Os)(args:Array Value):laidMetH Tryz.prog og ((World.doorLaid Tryz.prog 400 os).forCall (fun _ _=>0) ⟨#[],args,[]⟩).memory :=
 laidMetH_of_parts3 (fuel:=8) (laidMet_of_run' 8 (by kernel_rfl) (by kernel_rfl)) (by kernel_rfl) (by kernel_rfl)
theorem nV {H:Type}{enc:TypeId×Value->H}{W:World}{fuel:Nat}{v:Value}{y:DataW H×List MemPlace}(hf:DataW.trod enc Tryz.prog W 0 (fun _=>true) true fuel 22 [v]=some y):
 ∃ A n c x,v=.slice A n c/\Sl W A n c x/\n<=9223372036854775807:=by
 rcases open_ints Tryz.underlying22 Tryz.underlying51 Ch hf with⟨hcs,_⟩ | ⟨a,len,cap,zs,hcs,_,hl,hm,hz,_,hcell,hwz⟩
 . simp at hcs
   subst hcs;exact⟨none,0,0,fun _=>0,rfl,Sl.none_ W 0 none _,by omega⟩
 . simp at hcs
   subst hcs;simp only[if_true]at hz;unfold maxLen at hm
   have hw:∀ j,j < len->∃ y:Nat,zs.getD j 0=(y:Int)/\y < ai:=fun j hj=>by
    have hj':j < zs.length:=by omega
    have hmem:zs.getD j 0 ∈ zs:=by rw[List.getD_eq_getElem?_getD,List.getElem?_eq_getElem hj'];exact List.getElem_mem hj'
    have h1:=hwz _ hmem
    have h2:0<=zs.getD j 0/\zs.getD j 0<=18446744073709551615:=by simpa [Lit.wf,IntKind.min,IntKind.max,IntKind.signed,IntKind.bits] using h1
    exact⟨(zs.getD j 0).toNat,by omega,by unfold ai;omega⟩
   refine⟨some a,len,cap,fun j=>(zs.getD j 0).toNat,rfl,⟨hl,fun j hj=>?_,fun hn=>⟨a,rfl,?_,fun j hj=>?_⟩⟩,by omega⟩
   . obtain⟨y,h1,h2⟩:=hw j hj
     show(zs.getD j 0).toNat < ai
     rw[h1,Int.toNat_natCast];exact h2
   . have h0:=hcell 0 (by omega)
     have h1:=World.block_lt_of_cell? _ _ h0;rw[ao]at h1;exact h1
   . obtain⟨y,h1,h2⟩:=hw j hj
     show _=some (Value.int .u64 (((zs.getD j 0).toNat:Nat):Int))
     rw[hcell j (by omega),h1,Int.toNat_natCast]
end Go.Proofs.YtmbmohibpkepdaaGreatDoor
