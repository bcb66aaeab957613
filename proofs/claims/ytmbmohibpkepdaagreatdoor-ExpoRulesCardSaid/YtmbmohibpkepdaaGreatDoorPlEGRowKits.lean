/-
 From a walk to a row over dyads: the table that the program's text lays; structs opened.
 How long a list of words of a dyad can be that comes in through a row.
-/
import Derived.Lib.LaidTab
import Derived.Lib.SmallJoins
import Derived.LaidMore
import Derived.Stop.Joined
import Derived.ProofKit
import Derived.SizedLaws
import Derived.Test.YtmbmohibpkepdaaGreatDoorPlEGNat1
import Derived.Test.YtmbmohibpkepdaaGreatDoorPlEGNat2
namespace Go.Proofs.YtmbmohibpkepdaaGreatDoor
open Go.ChangeShapes Go.WideShapes Go.ChangeAt Go.RowKit Go.Joins
theorem gTab:Tryz.prog.globalNamed "math/bits.deBruijn64tab" = some 0:=by kernel_rfl
theorem tTab:(Tryz.prog.globals[0]?).map (·.type)=some 130:=by kernel_rfl
theorem cell8:Tryz.prog.cellsOf 5=1:=by kernel_rfl
theorem cellTab:Tryz.prog.cellsOf 130=64:=by kernel_rfl
abbrev laid1:List (String×DataW Unit):=[("math/bits.deBruijn64tab",Rows.laid_math_bits_deBruijn64tab)]
theorem laid_tab:(Rows.laid_math_bits_deBruijn64tab:DataW Unit)=Lib.tabData .u8 (Lib.deBruijn64tab.map fun (n:Nat)=>(n:Int)):=rfl
theorem tab_of_laid {W:World} (h:laidMetH Tryz.prog laid1 W):Tab W:=by
 rw [MakeChecks.laidMetH_plain _ _ _ (by kernel_rfl)] at h
 unfold laid1 at h
 rw [laid_tab] at h
 have hT:=Lib.tabIs_of_head gTab tTab Tryz.underlying130 Tryz.underlying5 cell8 cellTab h
 have hc:∀ j,j < Lib.deBruijn64tab.length→W.cell? ⟨0,j,none⟩=some (.int .u8 (Lib.deBruijn64tab.getD j 0)):=fun j hj=>by
  have:=hT.cell gTab j (by simpa using hj)
  rw [this]
  simp [List.getD_eq_getElem?_getD,hj]
 refine ⟨?_,hc⟩
 exact World.block_lt_of_cell? W _ (hc 0 (by decide))
theorem door_met (os:Os) (args:Array Value):laidMetH Tryz.prog laid1 ((World.doorLaid Tryz.prog 400 os).forCall (fun _ _=>0) ⟨#[],args,[]⟩).memory :=
 laidMetH_of_parts3 (fuel:=8) (laidMet_of_run' 8 (by kernel_rfl) (by kernel_rfl)) (by kernel_rfl) (by kernel_rfl)
set_option maxRecDepth 20000 in
theorem open_words_raw {H:Type} {enc:TypeId×Value→H} {W:World} {fuel:Nat} {v:Value} {y:DataW H×List MemPlace} (hf:DataW.trod enc Tryz.prog W 0 (fun _=>true) true fuel 22 [v]=some y) :
 ∃ A n c x,v=.slice A n c∧Sl W A n c x∧n≤9223372036854775807:=by
 rcases open_ints Tryz.underlying22 Tryz.underlying51 cells64 hf with ⟨hcs,_⟩ | ⟨a,len,cap,zs,hcs,_,hl,hm,hz,_,hcell,hwz⟩
 · simp at hcs
   subst hcs
   exact ⟨none,0,0,fun _=>0,rfl,Sl.none_ W 0 none _,by omega⟩
 · simp at hcs
   subst hcs
   simp only [if_true] at hz
   unfold maxLen at hm
   have hw:∀ j,j < len→∃ y:Nat,zs.getD j 0=(y:Int)∧y < B64:=fun j hj=>by
    have hj':j < zs.length:=by omega
    have hmem:zs.getD j 0 ∈ zs:=by rw [List.getD_eq_getElem?_getD,List.getElem?_eq_getElem hj'];exact List.getElem_mem hj'
    have h1:=hwz _ hmem
    have h2:0≤zs.getD j 0∧zs.getD j 0≤18446744073709551615:=by simpa [Lit.wf,IntKind.min,IntKind.max,IntKind.signed,IntKind.bits] using h1
    exact ⟨(zs.getD j 0).toNat,by omega,by unfold B64;omega⟩
   refine ⟨some a,len,cap,fun j=>(zs.getD j 0).toNat,rfl,⟨hl,fun j hj=>?_,fun hn=>⟨a,rfl,?_,fun j hj=>?_⟩⟩,by omega⟩
   · obtain ⟨y,h1,h2⟩:=hw j hj
     show (zs.getD j 0).toNat < B64
     rw [h1,Int.toNat_natCast];exact h2
   · have h0:=hcell 0 (by omega)
     have h1:=World.block_lt_of_cell? _ _ h0
     rw [block_of_add] at h1
     exact h1
   · obtain ⟨y,h1,h2⟩:=hw j hj
     show _=some (Value.int .u64 (((zs.getD j 0).toNat:Nat):Int))
     rw [hcell j (by omega),h1,Int.toNat_natCast]
end Go.Proofs.YtmbmohibpkepdaaGreatDoor
namespace Go.Proofs.YtmbmohibpkepdaaGreatDoor
open Go.ChangeShapes Go.WideShapes Go.ChangeAt Go.RowKit Go.Joins
theorem bytes64:Tryz.prog.bytesOf 51=8:=by kernel_rfl
theorem open_words_reach {H:Type} {enc:TypeId×Value→H} {W:World} {fuel:Nat} {A:Option Addr} {n c:Nat} {y:DataW H×List MemPlace} (hf:DataW.trod enc Tryz.prog W 0 (fun _=>true) true fuel 22 [.slice A n c]=some y)
 (hr:∀ k ∈ DataW.weights Tryz.prog 22 y.1,k≤reachBytes):n≤17592186044416:=by
 rcases open_ints Tryz.underlying22 Tryz.underlying51 cells64 hf with ⟨hcs,_⟩ | ⟨a,len,cap,zs,hcs,_,hl,hm,hz,hy,_,_⟩
 · simp at hcs
   omega
 · simp at hcs
   obtain ⟨_,rfl,rfl⟩:=hcs
   simp only [if_true] at hz
   have hx:y.1=.slice (lits .u64 (zs.take n)) (lits .u64 (zs.drop n)):=by rw [hy]
   rw [hx] at hr
   have hk:=hr (((lits .u64 (zs.take n):List (DataW H)).length+(lits .u64 (zs.drop n):List (DataW H)).length)*Tryz.prog.bytesOf 51) (by simp [DataW.weights,Tryz.underlying22])
   rw [bytes64] at hk
   have h1:(lits .u64 (zs.take n):List (DataW H)).length=n:=by simp [lits];omega
   rw [h1] at hk
   unfold reachBytes at hk
   omega
theorem weights_words {H:Type} {a b c:DataW H} {k:Nat} (h:k ∈ DataW.weights Tryz.prog 22 b):k ∈ DataW.weights Tryz.prog 24 (.agg [a,b,c]):=by
 simp only [DataW.weights,Tryz.underlying24]
 simp [DataW.weightsEach,h]
end Go.Proofs.YtmbmohibpkepdaaGreatDoor
