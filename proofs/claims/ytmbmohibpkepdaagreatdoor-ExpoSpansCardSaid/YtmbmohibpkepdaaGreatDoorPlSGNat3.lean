import Derived.Test.YtmbmohibpkepdaaGreatDoorShelf
import Derived.Deep.QuietTactic
import Derived.BigQuiet
import Derived.Deep.DeepCutAuto
import Derived.Deep.CutBlock
import Derived.Deep.RegionWith
import Derived.Test.YtmbmohibpkepdaaGreatDoorPlSGNat1
set_option maxHeartbeats 4000000
set_option maxRecDepth 100000
open Go.Lib renaming hid->lY, bitLen->Hk
open Nat renaming mul_le_mul_right->mF, le_refl->ou, add_mul->oM, eq_zero_or_pos->qK, add_mul_mod_self_right->tz, div_lt_of_lt_mul->yb, zero_add->Bl, mod_eq_of_lt->Bx, mul_comm->DE, one_mul->DF, add_comm->EM, lt_or_ge->Gk, pow_succ->Gl, mul_lt_mul_of_pos_right->Gm, pow_add->Gn, mul_lt_mul_of_lt_of_le->Gp, div_add_mod->Gq, two_pow_pos->Gr, mul_add->Gs, zero_mul->Gt, add_mul_div_right->Gu, mod_lt->Gv, div_eq_of_lt->Gw, mul_assoc->Gx, pow_le_pow_right->Gy, pow_zero->Gz, add_zero->GC, mul_le_mul->GD, le_of_mul_le_mul_right->GE, lt_of_mul_lt_mul_right->GF, add_sub_cancel->GG, mul_one->GH, zero_le->GK, mul_le_mul_left->GL, mul_div_cancel->GN, lt_of_le_of_lt->GO, le_trans->GP, lt_trans->GR, le_of_lt->GT, le_of_not_lt->GV, pow_one->GW, div_le_self->GY, le_antisymm->GZ, add_assoc->G7, sub_self->G9, sub_zero->Ha, sub_mul->Hf, pow_pos->Hg, pow_mul->Hi
open Go.Proofs.Tryz renaming prog->oY, bits_LeadingZeros64->GI, ntmps183->GM, func183->GU, ntmps199->G0, ntmps201->G6, func199->G8, func201->Hb, ntmps80->He, func80->Hj
open Int renaming natCast_mul->GJ, toNat_natCast->GQ
namespace Go.Proofs.YtmbmohibpkepdaaGreatDoor
open Go.RowKit
variable {A A1 N Pn R V X Y Z bor c d0 d1 g i k l0 l1 l2 ln m n q r s y:Nat} {F L:Nat->Nat} {t:TypeId} {w wr:World}
theorem iH (z:Nat)(h:z<=18446744073709551615):IntKind.u64.wrap (z:Int)=(z:Int):=IntWalk.u64_in _ (by omega)
def ju (w:World)(q r:Nat)(e:Ending)(w':World):Prop:=e=.returned (.tuple #[.int .u64 ((q:Nat):Int),.int .u64 ((r:Nat):Int)])/\∃ k,w'=w.drewN k
theorem vj (lo y:Nat)(w:World)(h0:0 < y)(h2:y < ai)(h3:lo < ai):
 Calls oY 199 #[.int .u64 0,.int .u64 (lo:Int),.int .u64 (y:Int)] w (ju w (lo/y) (lo%y)):=by
 have hy0:((y:Int) == 0)=false:=by simp;omega
 have hy6:y<=18446744073709551615:=by unfold ai at *;omega
 have hlo:lo<=18446744073709551615:=by unfold ai at *;omega
 have hd:IntKind.u64.wrap ((lo:Int)/(y:Int))=((lo/y:Nat):Int):=by
  have:lo/y<=lo:=GY _ _
  rw[show((lo:Int)/(y:Int))=((lo/y:Nat):Int) from rfl];exact iH _ (GP this hlo)
 go_enter G8,G0;go_wp2_with fail
 go_quiet (fail)
 go_wp2_with fail
 go_ret2
 exact⟨rfl,_,rfl⟩
theorem fv (b:Nat)(f:Nat->Nat)(m:Nat):vs b f (m+1)=f 0+b*vs b (fun j=>f (j+1)) m:=by
 rw[EM,cW,aA,aL];simp only[Gz,GH,GW,Bl];rw[bg (f:=fun j=>f (1+j)) (g:=fun j=>f (j+1)) fun j _=>by rw[EM]]
def oR (t:TypeId)(w wr:World)(g n y:Nat)(x:Nat->Nat)(k r:Nat):Prop :=
 ∃ F,dG t wr g n F/\Below g w wr/\r < y/\(k=n->r=0)/\vs ai (fun j=>x (k+j)) (n-k)=vs ai (fun j=>F (k+j)) (n-k)*y+r
theorem oR.step {w1:World}{xk:Nat}{x:Nat->Nat}(hk:k < n)(hx:x k=xk)(hrow:dG t wr g n F)(hb:Below g w wr)(hr:r < y)
 (hv:vs ai (fun j=>x (k+1+j)) (n-(k+1))=vs ai (fun j=>F (k+1+j)) (n-(k+1))*y+r) (hxk:xk < ai) (hb1:Below wr.heap.size wr w1) :
 oR t w (w1.setCell ⟨g,k,none⟩ (.int .u64 (((r*ai+xk)/y:Nat):Int))) g n y x k ((r*ai+xk)%y):=by
 have hq:(r*ai+xk)/y < ai:=by
  apply yb
  have:(r+1)*ai<=y*ai:=mF _ hr
  rw[oM,DF]at this;omega
 have hdm:=Gq (r*ai+xk) y;have hm:(r*ai+xk)%y < y:=Gv _ (by omega);generalize(r*ai+xk)/y=q at *;generalize(r*ai+xk)%y=r' at *;have hg:=hrow.lt;refine⟨fF F k q,(hrow.below hb1 hg).set_ _ _ hq,(hb.trans (hb1.mono (by omega))).setCell (ou _) _,hm,fun h=>by omega,?_⟩;obtain⟨m,hm2⟩:∃ m,n-k=m+1:=⟨n-k-1,by omega⟩
 have hm3:n-(k+1)=m:=by omega
 rw[hm3]at hv;rw[hm2,fv,fv]
 have e1:vs ai (fun j=>x (k+(j+1))) m=vs ai (fun j=>x (k+1+j)) m:=bg fun j _=>by congr 1;omega
 have e2:vs ai (fun j=>fF F k q (k+(j+1))) m=vs ai (fun j=>F (k+1+j)) m:=bg fun j _=>by rw[aU _ _ _ _ (by omega)];congr 1;omega
 rw[e1,e2,hv];simp only[GC];rw[bO,hx];generalize vs ai (fun j=>F (k+1+j)) m=Z at *;rw[Gs,oM]
 have e3:ai*(Z*y)=ai*Z*y:=by ac_rfl
 have e4:y*q=q*y:=DE _ _;have e5:ai*r=r*ai:=DE _ _;omega
def Ay (w:World)(Q R:Nat)(e:Ending)(w':World):Prop:=∃ v,e=.returned (.tuple #[v,.int .u64 ((R:Nat):Int)])/\am w' v Q/\Below w.heap.size w w'
theorem tJ (A:OA)(n c:Nat)(x:Nat->Nat)(y:Nat)(w:World)(ha:Sl w A n c x)(hn:n<=1000000)(hn0:0 < n)(hy:0 < y)
 (hD:Hid (∀ (hi lo:Nat) (w:World),hi < y->lo < ai->(n=1->hi=0)->Calls oY 199 #[.int .u64 (hi:Int),.int .u64 (lo:Int),.int .u64 (y:Int)] w (ju w ((hi*ai+lo)/y) ((hi*ai+lo)%y)))) :
 Calls oY 195 #[.slice A n c,.int .u64 (y:Int)] w (Ay w (vs ai x n/y) (vs ai x n%y)):=by
 have hmk:∀ u:World,(Instr.makeSlice 22 (.int .i64 (n:Int)) (.int .i64 (n:Int))).run oY u =
  .ok (.slice (some ⟨u.heap.size,0,none⟩) n n) (u.alloc (.cells (madeCells #[.int .u64 0] n) 51)):=fun u=>ec n (by omega) u
 have h00:oR 51 w (w.alloc (.cells (madeCells #[.int .u64 0] n) 51)) w.heap.size n y x n 0 :=
  ⟨_,dG.made 51 w n,(Below.refl _ w).alloc (ou _) _,hy,fun _=>rfl,by rw[G9];simp[aL]⟩
 go_enter Tryz.func195,Tryz.ntmps195;go_wp2_with fail
 go_loopw [5,6] (fun s5 s6q wr=>∃ k r:Nat,k<=n/\s6q=.int .i64 ((k:Int)-1)/\s5=.int .u64 (r:Int)/\oR 51 w wr w.heap.size n y x k r) (fun _ s6q _=>(intOf s6q+1).toNat)
 case atStart=>exact⟨n,0,ou _,rfl,rfl,h00⟩
 case round =>
  clear h00 hmk;obtain⟨k,r,hk,rfl,rfl,F,hrow,hb,hr,hr0,hv⟩:=hrel;have HR:=lY hr0;have HV:=lY hv;clear hr0 hv
  rcases k with _ | k
  . go_wp2_with fail
    refine(bn _ n n _ wr (hrow.sl0 n n (ou _) (ou _)) (by omega)).mono ?_;rintro e w5 ⟨rfl,rfl⟩;go_wp2_with fail
    go_ret2
    have hnum:=eE (hrow.sl0 n n (ou _) (ou _));have hv:=HV.out;simp only[Bl,Ha]at hv
    have e1:vs ai x n/y=vs ai F n:=by rw[hv,EM,Gu _ _ hy,Gw hr,Bl]
    have e2:vs ai x n%y=r:=by rw[hv,EM,tz,Bx hr]
    refine⟨_,?_,by rw[e1];exact hnum,hb⟩
    rw[e2];rfl
  . obtain⟨ad,rfl,hb1,hx64,hcell⟩:=(ha.below hb).at_ (k:=k) (by omega)
    rw[show(((k+1:Nat):Int)-1)=(k:Int) from by omega];go_wp2_with fail;refine(hD.out r (x k) wr hr hx64 (fun h=>HR.out (by omega))).mono ?_;rintro e w1 ⟨rfl,kk,hw1⟩
    have hb2:Below wr.heap.size wr w1:=by rw[hw1];exact cu (Below.refl _ _) kk
    clear hw1;have hrc:=(hrow.below hb2 hrow.lt).cell (i:=k) (by omega);have hrf:=(hrow.below hb2 hrow.lt).frozen k;have hstep:=lY (oR.step (by omega:k < n) rfl hrow hb hr HV.out hx64 hb2);generalize(r*ai+x k)/y=q at *;generalize(r*ai+x k)%y=r' at *;go_wp2_with fail;go_roundw
    case rel=>exact⟨k,r',by omega,by go_num,rfl,hstep.out⟩
    case measure=>simp[intOf]
def wK (U a1 a0 u:Nat)(s15 s16:Value):Prop:=∃ q r:Nat,s15=.int .u64 (q:Int)/\s16=.int .u64 (r:Int)/\mH U a1 a0 u q r/\r < 4294967296/\q<=U
def wL (w:World)(Q:Nat)(s15:Value)(wc:World):Prop:=w=wc/\s15=.int .u64 (Q:Int)
theorem om (U a1 a0 u:Nat)(ha1:2147483648<=a1)(hu:u < 4294967296)(hU:U<=18446744073709551615):∃ q r:Nat,
 IntKind.u64.wrap ((U:Int).tdiv (a1:Int))=(q:Int)/\IntKind.u64.wrap ((U:Int)/(a1:Int))=(q:Int)/\IntKind.u64.wrap ((U:Int)-IntKind.u64.wrap ((q:Int)*(a1:Int)))=(r:Int)/\mH U a1 a0 u q r/\r < a1/\q<=U:=by
 have hdm:=Gq U a1;rw[DE]at hdm;have hle:U/a1<=U:=GY _ _;have hm:U%a1 < a1:=Gv _ (by omega);refine⟨U/a1,U%a1,?_,?_,?_,mH.start ha1 hu,hm,hle⟩
 . rw[IntWalk.u64_quo _ _ ⟨by omega,by omega,by omega⟩];rfl
 . rw[show((U:Int)/(a1:Int))=((U/a1:Nat):Int) from rfl];exact iH _ (GP hle hU)
 . have hc:(((U/a1:Nat):Int)*(a1:Int))=((U/a1*a1:Nat):Int):=by simp
   rw[hc];generalize U/a1*a1=z at *;generalize U%a1=z2 at *;rw[IntWalk.u64_in (z:Int) (by omega),IntWalk.u64_in _ (by omega)];omega
theorem vk (hi lo y s Y a1 a0 U1 U0 u1 u0 Q1 Q0 V1 V0 R:Nat)(w:World)(h0:0 < hi)(h1:hi < y)(h2:y < ai)(h3:lo < ai)(hs:s<=63)
 (hz:Hid (Calls oY 191 #[.int .u64 (y:Int)] w fun e w'=>e=.returned (.int .i64 (s:Int))/\w=w'))
 (e1:IntKind.u64.wrap ((y:Int)*2^s)=(Y:Int)) (e2:((Y:Int))/4294967296=(a1:Int)) (e3:bits .and .u64 (Y:Int) 4294967295=(a0:Int))
 (e4:bits .or .u64 (IntKind.u64.wrap ((hi:Int)*2^s)) ((lo:Int)/2^(64-s))=(U1:Int)) (e5:IntKind.u64.wrap ((lo:Int)*2^s)=(U0:Int)) (e6:((U0:Int))/4294967296=(u1:Int))
 (e7:bits .and .u64 (U0:Int) 4294967295=(u0:Int)) (ha1:2147483648<=a1) (ha1':a1 < 4294967296) (ha0:a0 < 4294967296) (hu1:u1 < 4294967296) (hu0:u0 < 4294967296)
 (hU1:U1 < a1*4294967296+a0) (hU1':U1<=18446744073709551615) (hQ1:Hid (Q1=(U1*4294967296+u1)/(a1*4294967296+a0)))
 (e8:IntKind.u64.wrap (IntKind.u64.wrap (IntKind.u64.wrap ((U1:Int)*4294967296)+(u1:Int))-IntKind.u64.wrap ((Q1:Int)*(Y:Int)))=(V1:Int))
 (hV1:V1 < a1*4294967296+a0) (hV1':V1<=18446744073709551615) (hQ0:Hid (Q0=(V1*4294967296+u0)/(a1*4294967296+a0))) (hQ1b:Q1<=4294967295) (hQ0b:Q0<=4294967295)
 (e12:IntKind.u64.wrap (IntKind.u64.wrap (IntKind.u64.wrap ((V1:Int)*4294967296)+(u0:Int))-IntKind.u64.wrap ((Q0:Int)*(Y:Int)))=(V0:Int)) (e13:(V0:Int)/2^s=(R:Int)) :
 Calls oY 199 #[.int .u64 (hi:Int),.int .u64 (lo:Int),.int .u64 (y:Int)] w (ju w (Q1*4294967296+Q0) R):=by
 have hy0:((y:Int) == 0)=false:=by simp;omega
 have hi0:((hi:Int) == 0)=false:=by simp;omega
 have hhi:hi<=18446744073709551615:=by unfold ai at *;omega
 have hy6:y<=18446744073709551615:=by unfold ai at *;omega
 have hlo:lo<=18446744073709551615:=by unfold ai at *;omega
 obtain⟨q0,r0,e9,e9',e10,hst,hr0,hq0⟩:=om U1 a1 a0 u1 ha1 hu1 hU1';obtain⟨q2,r2,f9,f9',f10,gst,gr0,gq0⟩:=om V1 a1 a0 u0 ha1 hu0 hV1';go_enter G8,G0;go_wp2_with fail;refine hz.out.mono ?_;rintro e w' ⟨rfl,rfl⟩
 go_upto_block 0 with(fail)
 go_cut [15,16] (fun s15 _ wc=>wL w Q1 s15 wc)
 case first =>
  go_wp2
  go_loop [15,16] (fun sq sr=>wK U1 a1 a0 u1 sq sr) (fun sq _=>(intOf sq).toNat)
  case atStart=>exact⟨q0,r0,rfl,rfl,hst,by omega,hq0⟩
  case round =>
   clear hst hr0 hq0 e9 e9' e10 e8 e12 e13 f9 f9' f10 gst gr0 gq0;obtain⟨q,r,rfl,rfl,hH,hr,hqU⟩:=hrel
   by_cases hq:4294967296<=q
   . obtain⟨hpos,hdn⟩:=hH.down hU1 hu1 (.inl hq)
     have hqB:decide ((4294967296:Int)<=(q:Int))=true:=by simp;omega
     obtain⟨q',hq'⟩:=du (q-1);obtain⟨r',hr'⟩:=du (r+a1);rw[← hq',← hr']at hdn
     have eq':(q:Int)-1=(q':Int):=by omega
     have er':(r:Int)+(a1:Int)=(r':Int):=by omega
     have hb1:1<=q:=hpos
     have hb2:r'<=8589934591:=by omega
     have hb3:q'<=U1:=by omega
     have hb4:Hid (q' < q):=lY (by omega);clear hq' hr'
     by_cases hr2:4294967296<=r'
     . have hfin:=lY (hdn.far ha1 ha0 hU1 hr2)
       have hrB:decide ((4294967296:Int)<=(r':Int))=true:=by simp;omega
       go_wp2
       go_meet;exact⟨rfl,by rw[hQ1.out,← hfin.out]⟩
     . have hrB:decide ((4294967296:Int)<=(r':Int))=false:=by simp;omega
       go_wp2
       go_round
       case rel=>exact⟨q',r',rfl,rfl,hdn,by omega,hb3⟩
       case measure=>simp[intOf];exact hb4.out
   . have hqB:decide ((4294967296:Int)<=(q:Int))=false:=by simp;omega
     have hmb:q*a0<=18446744065119617025:=by have:q*a0<=4294967295*4294967295:=GD (by omega) (by omega);omega
     have em:IntKind.u64.wrap ((q:Int)*(a0:Int))=((q*a0:Nat):Int):=by rw[← GJ];exact iH _ (by omega)
     by_cases hc:4294967296*r+u1 < q*a0
     . obtain⟨hpos,hdn⟩:=hH.down hU1 hu1 (.inr hc)
       generalize q*a0=z at *;obtain⟨q',hq'⟩:=du (q-1);obtain⟨r',hr'⟩:=du (r+a1);rw[← hq',← hr']at hdn
       have eq':(q:Int)-1=(q':Int):=by omega
       have er':(r:Int)+(a1:Int)=(r':Int):=by omega
       have hb1:1<=q:=hpos
       have hb2:r'<=8589934591:=by omega
       have hb3:q'<=U1:=by omega
       have hb4:Hid (q' < q):=lY (by omega);clear hq' hr'
       by_cases hr2:4294967296<=r'
       . have hfin:=lY (hdn.far ha1 ha0 hU1 hr2)
         have hrB:decide ((4294967296:Int)<=(r':Int))=true:=by simp;omega
         go_wp2
         go_meet;exact⟨rfl,by rw[hQ1.out,← hfin.out]⟩
       . have hrB:decide ((4294967296:Int)<=(r':Int))=false:=by simp;omega
         go_wp2
         go_round
         case rel=>exact⟨q',r',rfl,rfl,hdn,by omega,hb3⟩
         case measure=>simp[intOf];exact hb4.out
     . have hfin:=lY (hH.done ha1 (by omega))
       generalize q*a0=z at *
       go_wp2
       go_meet;exact⟨rfl,by rw[hQ1.out,← hfin.out]⟩
 case rest =>
  obtain⟨rfl,rfl⟩:=hcut;clear hst hr0 hq0 e9 e9' e10
  go_upto_block 2 with(fail)
  go_cut [18,16] (fun s18 _ wc=>wL w Q0 s18 wc)
  case first =>
   go_wp2
   go_loop [18,16] (fun sq sr=>wK V1 a1 a0 u0 sq sr) (fun sq _=>(intOf sq).toNat)
   case atStart=>exact⟨q2,r2,rfl,rfl,gst,by omega,gq0⟩
   case round =>
    clear gst gr0 gq0 f9 f9' f10 e8 e12 e13;obtain⟨q,r,rfl,rfl,hH,hr,hqU⟩:=hrel
    by_cases hq:4294967296<=q
    . obtain⟨hpos,hdn⟩:=hH.down hV1 hu0 (.inl hq)
      have hqB:decide ((4294967296:Int)<=(q:Int))=true:=by simp;omega
      obtain⟨q',hq'⟩:=du (q-1);obtain⟨r',hr'⟩:=du (r+a1);rw[← hq',← hr']at hdn
      have eq':(q:Int)-1=(q':Int):=by omega
      have er':(r:Int)+(a1:Int)=(r':Int):=by omega
      have hb1:1<=q:=hpos
      have hb2:r'<=8589934591:=by omega
      have hb3:q'<=V1:=by omega
      have hb4:Hid (q' < q):=lY (by omega);clear hq' hr'
      by_cases hr2:4294967296<=r'
      . have hfin:=lY (hdn.far ha1 ha0 hV1 hr2)
        have hrB:decide ((4294967296:Int)<=(r':Int))=true:=by simp;omega
        go_wp2
        go_meet;exact⟨rfl,by rw[hQ0.out,← hfin.out]⟩
      . have hrB:decide ((4294967296:Int)<=(r':Int))=false:=by simp;omega
        go_wp2
        go_round
        case rel=>exact⟨q',r',rfl,rfl,hdn,by omega,hb3⟩
        case measure=>simp[intOf];exact hb4.out
    . have hqB:decide ((4294967296:Int)<=(q:Int))=false:=by simp;omega
      have hmb:q*a0<=18446744065119617025:=by have:q*a0<=4294967295*4294967295:=GD (by omega) (by omega);omega
      have em:IntKind.u64.wrap ((q:Int)*(a0:Int))=((q*a0:Nat):Int):=by rw[← GJ];exact iH _ (by omega)
      by_cases hc:4294967296*r+u0 < q*a0
      . obtain⟨hpos,hdn⟩:=hH.down hV1 hu0 (.inr hc)
        generalize q*a0=z at *;obtain⟨q',hq'⟩:=du (q-1);obtain⟨r',hr'⟩:=du (r+a1);rw[← hq',← hr']at hdn
        have eq':(q:Int)-1=(q':Int):=by omega
        have er':(r:Int)+(a1:Int)=(r':Int):=by omega
        have hb1:1<=q:=hpos
        have hb2:r'<=8589934591:=by omega
        have hb3:q'<=V1:=by omega
        have hb4:Hid (q' < q):=lY (by omega);clear hq' hr'
        by_cases hr2:4294967296<=r'
        . have hfin:=lY (hdn.far ha1 ha0 hV1 hr2)
          have hrB:decide ((4294967296:Int)<=(r':Int))=true:=by simp;omega
          go_wp2
          go_meet;exact⟨rfl,by rw[hQ0.out,← hfin.out]⟩
        . have hrB:decide ((4294967296:Int)<=(r':Int))=false:=by simp;omega
          go_wp2
          go_round
          case rel=>exact⟨q',r',rfl,rfl,hdn,by omega,hb3⟩
          case measure=>simp[intOf];exact hb4.out
      . have hfin:=lY (hH.done ha1 (by omega))
        generalize q*a0=z at *
        go_wp2
        go_meet;exact⟨rfl,by rw[hQ0.out,← hfin.out]⟩
  case rest =>
   obtain⟨rfl,rfl⟩:=hcut;go_wp2_with fail
   go_ret2
   exact⟨rfl,0,rfl⟩
theorem jV {U u Q:Nat}(h:U*4294967296+u=Q*Y+V)(hV:V < ai):
 IntKind.u64.wrap (IntKind.u64.wrap (IntKind.u64.wrap ((U:Int)*4294967296)+(u:Int))-IntKind.u64.wrap ((Q:Int)*(Y:Int)))=(V:Int):=by
 rw[← GJ];exact xE h hV
theorem DK {D U1 U0 Q1 Q0 V1 V0 u1 u0:Nat}(hB:ai=D*D)(hU:N*2^s=U1*ai+U0)(hY:Y=y*2^s)(hu:U0=u1*D+u0)(h1:U1*D+u1=Q1*Y+V1)(h2:V1*D+u0=Q0*Y+V0)(hV:V0 < Y)(hy:0 < y):
 N/y=Q1*D+Q0/\N%y=V0/2^s:=by
 have e1:N*2^s=(Q1*D+Q0)*Y+V0:=by
  have e2:(U1*D+u1)*D=(Q1*Y+V1)*D:=by rw[h1]
  have e3:Q1*D*Y=Q1*Y*D:=by ac_rfl
  have e4:U1*ai=U1*D*D:=by rw[hB];ac_rfl
  rw[oM]at e2;rw[oM]at e2
  have e5:V1*D=Q0*Y+V0-u0:=by omega
  rw[hU,e4,hu,oM,e3];omega
 generalize Q1*D+Q0=q at *;have hp:0 < 2^s:=Gr s
 have e5:q*Y=q*y*2^s:=by rw[hY];ac_rfl
 have hle:q*y<=N:=by
  have:q*y*2^s<=N*2^s:=by omega
  exact GE this hp
 have e6:V0=(N-q*y)*2^s:=by rw[Hf];omega
 have e7:V0/2^s=N-q*y:=by rw[e6,GN _ hp]
 have e8:N-q*y < y:=by
  rw[e6,hY]at hV;exact GF hV
 have e9:N=q*y+(N-q*y):=by omega
 refine⟨?_,?_⟩
 . rw[e9,EM,Gu _ _ hy,Gw (by omega),Bl]
 . rw[e7,e9,EM,tz,Bx (by omega)]
   omega
theorem qg (hi lo y:Nat)(w:World)(h1:hi < y)(h2:y < ai)(h3:lo < ai):
 Calls oY 199 #[.int .u64 (hi:Int),.int .u64 (lo:Int),.int .u64 (y:Int)] w (ju w ((hi*ai+lo)/y) ((hi*ai+lo)%y)):=by
 rcases qK hi with h0 | h0
 . subst h0
   rw[Gt,Bl];exact vj lo y w (by omega) h2 h3
 obtain⟨l1,l2,l3,l4⟩:=iQ y (by omega) h2;have LZ:=GI (y:Int) w (by omega) (by unfold ai at h2;omega);rw[GQ]at LZ;generalize Hk y=L at *;obtain⟨s,hs⟩:=du (64-L);rw[show(64:Int)-(L:Int)=(s:Int) by omega]at LZ;have hB:=bv
 have hYlo:2^63<=y*2^s:=by
  have h:=mF (2^s) l3;rw[← Gn,show L-1+s=63 by omega]at h;exact h
 have hYhi:y*2^s < ai:=by
  have h:=Gm l4 (Gr s);rw[← Gn,show L+s=64 by omega,← bv]at h;exact h
 have hUlt:(hi*ai+lo)*2^s/ai < y*2^s:=by
  apply yb
  have h:(hi+1)*ai<=y*ai:=mF _ h1;rw[oM,DF]at h;have h':(hi*ai+lo)*2^s < y*ai*2^s:=Gm (by omega) (Gr s)
  rw[show ai*(y*2^s)=y*ai*2^s by ac_rfl];exact h'
 have eU1:=sR hi lo s h3 (by omega);rw[Bx (GR hUlt hYhi)]at eU1
 have e4:bits .or .u64 (IntKind.u64.wrap ((hi:Int)*2^s)) ((lo:Int)/2^(64-s))=(((hi*ai+lo)*2^s/ai:Nat):Int):=by
  rw[gC,fU,mr _ _ _ h3 (by omega),eU1]
 have eU0:lo*2^s%ai=(hi*ai+lo)*2^s%ai:=by
  rw[oM,show hi*ai*2^s=hi*2^s*ai by ac_rfl,EM,tz]
 have hUdm:=Gq ((hi*ai+lo)*2^s) ai
 have e5:IntKind.u64.wrap ((lo:Int)*2^s)=(((hi*ai+lo)*2^s%ai:Nat):Int):=by rw[gC,eU0]
 have hU0lt:(hi*ai+lo)*2^s%ai < ai:=Gv _ bm
 have e1:IntKind.u64.wrap ((y:Int)*2^s)=((y*2^s:Nat):Int):=by rw[gC,Bx hYhi]
 clear eU1 eU0 l3 l4;have hY:Hid (y*2^s=y*2^s):=lY rfl;generalize hYe:y*2^s=Y at *;generalize(hi*ai+lo)*2^s/ai=U1 at *;generalize(hi*ai+lo)*2^s%ai=U0 at *;have e3:=t8 Y hYhi;have e7:=t8 U0 hU0lt
 have hY6:Y<=18446744073709551615:=by unfold ai at hYhi;omega
 have hU6:U0<=18446744073709551615:=by unfold ai at hU0lt;omega
 have hYs:Y=Y/4294967296*4294967296+Y%4294967296:=by omega
 have hT1:=Gq (U1*4294967296+U0/4294967296) Y;have hV1:(U1*4294967296+U0/4294967296)%Y < Y:=Gv _ (by omega)
 have hQ1:(U1*4294967296+U0/4294967296)/Y < 4294967296:=by
  apply yb
  have:(U1+1)*4294967296<=Y*4294967296:=mF _ hUlt
  omega
 obtain⟨Q1,hQ1e⟩:=du ((U1*4294967296+U0/4294967296)/Y);rw[← hQ1e]at hT1 hQ1;generalize(U1*4294967296+U0/4294967296)%Y=V1 at *;have hT0:=Gq (V1*4294967296+U0%4294967296) Y;have hV0:(V1*4294967296+U0%4294967296)%Y < Y:=Gv _ (by omega)
 have hQ0:(V1*4294967296+U0%4294967296)/Y < 4294967296:=by
  apply yb
  have:(V1+1)*4294967296<=Y*4294967296:=mF _ hV1
  omega
 obtain⟨Q0,hQ0e⟩:=du ((V1*4294967296+U0%4294967296)/Y);rw[← hQ0e]at hT0 hQ0;generalize(V1*4294967296+U0%4294967296)%Y=V0 at *;rw[DE Y]at hT1 hT0;have hfin:=DK (D:=4294967296) (N:=hi*ai+lo) (y:=y) (s:=s) (by unfold ai;rfl) (by rw[DE ai]at hUdm;exact hUdm.symm) hYe.symm (show U0=U0/4294967296*4294967296+U0%4294967296 by omega) hT1.symm hT0.symm hV0 (by omega);rw[hfin.1,hfin.2]
 refine vk hi lo y s Y (Y/4294967296) (Y%4294967296) U1 U0 (U0/4294967296) (U0%4294967296) Q1 Q0 V1 V0 (V0/2^s) w h0 h1 h2 h3 (by omega) ?_ e1 rfl e3 e4 e5 rfl e7 (by omega) (by omega) (by omega) (by omega) (by omega)
  (by omega) (by omega) (lY (by rw[← hYs];exact hQ1e)) (jV hT1.symm (by omega)) (by omega) (by omega) (lY (by rw[← hYs];exact hQ0e)) (by omega) (by omega) (jV hT0.symm (by omega)) (fU V0 s)
 exact lY (LZ.mono fun e w' ⟨he,hw⟩=>⟨he,hw.symm⟩)
theorem zB {x H L o1 h1 o2 c' d2:Nat}(hx:x < ai)(hy:y < ai)(hs:s < ai)(hc:c < ai)(hp:H*ai+L=x*y)(e1:l1+o1*ai=L+s+0)(e2:h1+d1*ai=H+0+o1)
 (e3:r+o2*ai=l1+c+0) (e4:c'+d2*ai=h1+0+o2):r+c'*ai=s+x*y+c:=by
 have hB:=bm;have ht:x*y<=(ai-1)*(ai-1):=GD (by omega) (by omega)
 have hsq:(ai-1)*(ai-1)+2*ai=ai*ai+1:=by
  obtain⟨k,hk⟩:∃ k,ai=k+1:=⟨ai-1,by omega⟩
  rw[hk];simp only[GG,oM,Gs];omega
 have h0:(H+o1+o2)*ai+r=s+x*y+c:=by rw[oM,oM];omega
 have hlt:H+o1+o2 < ai:=by
  rcases Gk (H+o1+o2) ai with h | h
  . exact h
  . have h5:ai*ai<=(H+o1+o2)*ai:=mF _ h
    omega
 have z1:d1=0:=by
  rcases qK d1 with h | h
  . exact h
  . have:1*ai<=d1*ai:=mF _ h
    omega
 subst z1
 have z2:d2=0:=by
  rcases qK d2 with h | h
  . exact h
  . have:1*ai<=d2*ai:=mF _ h
    omega
 subst z2
 have e5:c'=H+o1+o2:=by omega
 rw[e5];omega
theorem ix (x y:Nat)(hx:x < ai)(hy:y < ai)(w:World):
 ∃ H L:Nat,H*ai+L=x*y/\H < ai/\L < ai/\Calls oY 178 #[.int .u64 x,.int .u64 y] w fun e w'=>e=.returned (.tuple #[.int .u64 (H:Int),.int .u64 (L:Int)])/\w'=w:=by
 refine⟨x*y/18446744073709551616,x*y%18446744073709551616,?_,?_,?_,Tryz.bits_Mul64 x y hx hy w⟩
 . unfold ai;omega
 . unfold ai at *
   exact yb (Nat.mul_lt_mul'' hx hy)
 . unfold ai;omega
def ye (t:TypeId)(w:World)(g N off:Nat)(F:Nat->Nat)(y:Nat->Nat)(m x:Nat)(e:Ending)(w':World):Prop :=
 ∃ F' d,e=.returned (.int .u64 ((d:Nat):Int))/\eC t (ai-1) w w' g N off F F' (fun j=>x*y j) m m d
theorem lz (g off n c N:Nat)(F:Nat->Nat)(A:OA)(m cb:Nat)(y:Nat->Nat)(x:Nat)(w:World)(hr:dG 51 w g N F)(hoff:off+m<=N)(hN:N<=1000000)(hcap:n<=c)
 (hy:Sl w A m cb y) (hmn:m<=n) (hne:0 < m->∀ ad,A=some ad->ad.block≠g) (hx:x < ai) :
 Calls oY 147 #[.slice (some ⟨g,off,none⟩) n c,.slice A m cb,.int .u64 (x:Int)] w (ye 51 w g N off F y m x):=by
 go_enter Tryz.func147,Tryz.ntmps147
 go_wp2
 go_loopw [7,19] (fun cy i wr=>∃ k d F',k<=m/\i=.int .i64 ((k:Nat):Int)/\cy=.int .u64 ((d:Nat):Int)/\eC 51 (ai-1) w wr g N off F F' (fun j=>x*y j) m k d) (fun _ i _=>m-(intOf i).toNat)
 case atStart=>exact⟨0,0,F,GK _,rfl,rfl,eC.start hr⟩
 case round =>
  obtain⟨k,d,F',hk,rfl,rfl,hinv⟩:=hrel
  by_cases hlt:k < m
  . obtain⟨ad,rfl,hb,hy64,hcell⟩:=(hy.only hinv.2.2.1 hne).at_ hlt
    have hrc:=hinv.2.1.cell (i:=off+k) (by omega);have hrf:=hinv.2.1.frozen (off+k);have hF:Hid (F' (off+k)=F (off+k)):=hinv.2.2.2.1 _ (by omega);have hFs:=hinv.2.1.2 (off+k) (by omega)
    have hd64:d < ai:=by have:=hinv.1;have:=bm;omega
    obtain⟨H,L,hp,hH,hL,hmul⟩:=ix x (y k) hx hy64 wr;obtain⟨l1,o1,e1,g1,g1',a1⟩:=ee L (F' (off+k)) 0 (by omega) wr;have ho1:=g1' hL hFs;obtain⟨h1,d1,e2,g2,g2',a2⟩:=ee H 0 o1 ho1 wr;obtain⟨r,o2,e3,g3,g3',a3⟩:=ee l1 d 0 (by omega) wr;have ho2:=g3' g1 hd64;obtain⟨c',d2,e4,g4,g4',a4⟩:=ee h1 0 o2 ho2 (wr.setCell ⟨g,off+k,none⟩ (.int .u64 (r:Int)));rw[show((0:Nat):Int)=0 from rfl]at a1 a2 a3 a4;have key:Hid (r+c'*ai=F' (off+k)+x*y k+d):=lY (zB hx hy64 hFs hd64 hp e1 e2 e3 e4);have HM:=lY hmul;clear hp e1 e2 e3 e4 g1' g2' g3' g4' hmul;go_wp2_with fail;refine HM.out.mono ?_;rintro e w' ⟨rfl,rfl⟩;go_wp2_with fail;go_roundw
    case rel=>exact⟨k+1,c',fF F' (off+k) r,by omega,by go_num,rfl,hinv.step (by rw[← hF.out,if_pos hlt];exact key.out) g3 (by omega)⟩
    case measure=>simp[intOf];omega
  . obtain rfl:k=m:=by omega
    go_wp2
    go_ret;exact⟨F',d,rfl,hinv⟩
def yf (w:World)(l0 l1 l2 d0 d1:Nat)(e:Ending)(w':World):Prop:=∃ q:Nat,e=.returned (.int .u64 (q:Int))/\fP l0 l1 l2 d0 d1 q/\∃ k,w'=w.drewN k
def Ed (w:World)(a b:Addr)(l0 l1 l2 d0 d1:Nat):Prop :=
 w.cell? a=some (.int .u64 (l0:Int))/\w.cell? ⟨a.block,a.off+1,none⟩=some (.int .u64 (l1:Int))/\w.cell? ⟨a.block,a.off+2,none⟩=some (.int .u64 (l2:Int)) /\
  w.cell? b=some (.int .u64 (d0:Int))/\w.cell? ⟨b.block,b.off+1,none⟩=some (.int .u64 (d1:Int))
def AE (U d1 d0 l0:Nat)(s7 s8 s9 s10:Value):Prop :=
 ∃ q r o v:Nat,s7=.int .u64 (q:Int)/\s8=.int .u64 (r:Int)/\s9=.int .u64 (o:Int)/\s10=.int .u64 (v:Int)/\jv ai U d1 d0 l0 q r/\q < ai/\r < ai/\o*ai+v=q*d0/\o < ai/\v < ai
theorem fP.mk (h1:l2 < d1)(h2:q < ai)(h3:q=((l2*ai+l1)*ai+l0)/(d1*ai+d0)):fP l0 l1 l2 d0 d1 q:=⟨h2,.inr ⟨h1,h3⟩⟩
theorem fS (z:Nat)(h:z < ai):IntKind.u64.wrap (z:Int)=(z:Int):=IntWalk.u64_in _ (by unfold ai at h;omega)
theorem jS (r d:Nat)(hr:r < ai)(hd:d < ai)(h:ai<=r+d):IntKind.u64.wrap ((r:Int)+(d:Int))=((r+d-ai:Nat):Int):=by
 rw[IntKind.wrap_u64];unfold ai at *;omega
theorem xI (a b:Addr)(n m c d:Nat)(l0 l1 l2 d0 d1:Nat)(w:World)(h5:Ed w a b l0 l1 l2 d0 d1)(hn:3<=n)(hm:2<=m)(hn':n<=1000000)(hm':m<=1000000)(hl0:l0 < ai)(hl1:l1 < ai)(hd0:d0 < ai)(hd1:d1 < ai)(hd:0 < d1):
 Calls oY 201 #[.slice (some a) n c,.slice (some b) m d] w (yf w l0 l1 l2 d0 d1):=by
 obtain⟨c0,c1,c2,k0,k1⟩:=h5
 by_cases hge:d1<=l2
 . go_enter Hb,G6
   go_wp2_with fail
   go_quiet (fail)
   go_wp2_with fail;go_ret;exact⟨18446744073709551615,rfl,⟨by unfold ai;omega,.inl ⟨hge,by unfold ai;omega⟩⟩,_,rfl⟩
 . have hlt:l2 < d1:=by omega
   go_enter Hb,G6;go_wp2_with fail
   go_quiet (fail)
   go_wp2_with fail;have c0':(w.drewN nq).cell? a=some (.int .u64 (l0:Int)):=c0;have c1':(w.drewN nq).cell? ⟨a.block,a.off+1,none⟩=some (.int .u64 (l1:Int)):=c1;have c2':(w.drewN nq).cell? ⟨a.block,a.off+2,none⟩=some (.int .u64 (l2:Int)):=c2;have hw1:Hid (∃ k,w.drewN nq=w.drewN k):=lY ⟨nq,rfl⟩;clear c0 c1 c2 k0 k1;generalize w.drewN nq=w1 at *
   have D64:Hid (∀ u:World,Calls oY 199 #[.int .u64 (l2:Int),.int .u64 (l1:Int),.int .u64 (d1:Int)] u fun e w'=>e=.returned (.tuple #[.int .u64 (((l2*ai+l1)/d1:Nat):Int),.int .u64 (((l2*ai+l1)%d1:Nat):Int)])/\∃ k,w'=u.drewN k) :=
    lY fun u=>qg l2 l1 d1 u hlt hd1 hl1
   have hst:=jv.start (U:=l2*ai+l1) (a0:=d0) hd hl0
   have hq0:(l2*ai+l1)/d1 < ai:=by
    apply yb
    have:(l2+1)*ai<=d1*ai:=mF _ hlt
    rw[oM,DF]at this;omega
   have hr0:(l2*ai+l1)%d1 < ai:=GR (Gv _ hd) hd1;have hpp:Hid (0 < d1*ai+d0):=lY (by have:1*ai<=d1*ai:=mF _ hd;have:=bm;omega);obtain⟨U,hU⟩:=du (l2*ai+l1);rw[← hU]at D64 hst hq0 hr0;have HU:=lY hU;clear hU;generalize U/d1=q0 at *;generalize U%d1=r0 at *
   go_quiet ((go_at_call 199;exact Calls.quiet_of (D64.out _)))
   have FIN:Hid (∃ k,w1.drewN nq=w.drewN k):=lY (by obtain⟨k,hk⟩:=hw1.out;exact⟨k+nq,by rw[hk,World.drewN_drewN]⟩);have c0'':(w1.drewN nq).cell? a=some (.int .u64 (l0:Int)):=c0';clear c0' c1' c2' D64 hw1;generalize w1.drewN nq=w2 at *;obtain⟨H0,L0,hp0,hH0,hL0,hmul0⟩:=ix q0 d0 hq0 hd0 w2;have HM0:=lY hmul0;have HP0:=lY hp0;clear hmul0 hp0;go_wp2_with fail;refine HM0.out.mono ?_;rintro e w3 ⟨rfl,rfl⟩;go_wp2_with fail
   go_loop [7,8,9,10] (fun s7 s8 s9 s10=>AE U d1 d0 l0 s7 s8 s9 s10) (fun s7 _ _ _=>(intOf s7).toNat)
   case atStart=>exact⟨q0,r0,H0,L0,rfl,rfl,rfl,rfl,hst,hq0,hr0,HP0.out,hH0,hL0⟩
   case round =>
    clear hst hq0 hr0 HM0 HP0;obtain⟨q,r,o,v,rfl,rfl,rfl,rfl,hH,hq64,hr64,hov,ho64,hv64⟩:=hrel;rw[HU.out]at hH;have HOV:=lY hov
    by_cases h1:r < o
    . have h1B:decide (r < o)=true:=by simpa using h1
      have hov:=HOV.out;obtain⟨hpos,hdn⟩:=hH.down (mU hov hl0 hv64 |>.2 (.inl h1));obtain⟨q',hq'⟩:=du (q-1);rw[← hq']at hdn
      have eq':IntKind.u64.wrap ((q:Int)-1)=(q':Int):=by rw[IntWalk.u64_in _ (by unfold ai at hq64;omega)];omega
      have eq2:IntKind.u64.wrap (q':Int)=(q':Int):=fS _ (by omega)
      have hq'64:q' < ai:=by omega
      have hb4:Hid (q' < q):=lY (by omega);clear hq'
      by_cases hovf:r+d1 < ai
      . obtain⟨r',hr'⟩:=du (r+d1)
        rw[← hr']at hdn hovf
        have er':IntKind.u64.wrap ((r:Int)+(d1:Int))=(r':Int):=by rw[show(r:Int)+(d1:Int)=((r':Nat):Int) by omega];exact fS _ hovf
        have hnl:¬ r' < d1:=by omega
        have hnlB:decide (r' < d1)=false:=by simp;omega
        obtain⟨H,L,hp,hH',hL',hmul⟩:=ix q' d0 hq'64 hd0 w3;have HM:=lY hmul;have HP:=lY hp;have HD:=lY hdn;clear hmul hp hdn hr' hH hov HOV;go_wp2_with fail;refine HM.out.mono ?_;rintro e w4 ⟨rfl,rfl⟩;go_wp2_with fail
        go_round
        case rel=>exact⟨q',r',H,L,rfl,rfl,rfl,rfl,by rw[HU.out];exact HD.out,hq'64,hovf,HP.out,hH',hL'⟩
        case measure=>simp[intOf];exact hb4.out
      . have hfin:=lY (hdn.far hpp.out hq'64 hd0 (by omega))
        have er':=jS r d1 hr64 hd1 (by omega);obtain⟨r',hr'⟩:=du (r+d1-ai);rw[← hr']at er'
        have hnl:r' < d1:=by omega
        have hnlB:decide (r' < d1)=true:=by simp;omega
        clear hdn hr' hH hov HOV;go_wp2_with fail;go_ret;exact⟨q',rfl,fP.mk hlt hq'64 hfin.out,FIN.out⟩
    . have h1B:decide (r < o)=false:=by simpa using h1
      by_cases h2:o=r
      . subst h2
        have h2B:((o:Int) == (o:Int))=true:=by simp
        by_cases h3:l0 < v
        . have h3B:decide (l0 < v)=true:=by simpa using h3
          have hov:=HOV.out;obtain⟨hpos,hdn⟩:=hH.down (mU hov hl0 hv64 |>.2 (.inr ⟨rfl,h3⟩));obtain⟨q',hq'⟩:=du (q-1);rw[← hq']at hdn
          have eq':IntKind.u64.wrap ((q:Int)-1)=(q':Int):=by rw[IntWalk.u64_in _ (by unfold ai at hq64;omega)];omega
          have eq2:IntKind.u64.wrap (q':Int)=(q':Int):=fS _ (by omega)
          have hq'64:q' < ai:=by omega
          have hb4:Hid (q' < q):=lY (by omega);clear hq'
          by_cases hovf:o+d1 < ai
          . obtain⟨r',hr'⟩:=du (o+d1)
            rw[← hr']at hdn hovf
            have er':IntKind.u64.wrap ((o:Int)+(d1:Int))=(r':Int):=by rw[show(o:Int)+(d1:Int)=((r':Nat):Int) by omega];exact fS _ hovf
            have hnl:¬ r' < d1:=by omega
            have hnlB:decide (r' < d1)=false:=by simp;omega
            obtain⟨H,L,hp,hH',hL',hmul⟩:=ix q' d0 hq'64 hd0 w3;have HM:=lY hmul;have HP:=lY hp;have HD:=lY hdn;clear hmul hp hdn hr' hH hov HOV;go_wp2_with fail;refine HM.out.mono ?_;rintro e w4 ⟨rfl,rfl⟩;go_wp2_with fail
            go_round
            case rel=>exact⟨q',r',H,L,rfl,rfl,rfl,rfl,by rw[HU.out];exact HD.out,hq'64,hovf,HP.out,hH',hL'⟩
            case measure=>simp[intOf];exact hb4.out
          . have hfin:=lY (hdn.far hpp.out hq'64 hd0 (by omega))
            have er':=jS o d1 hr64 hd1 (by omega);obtain⟨r',hr'⟩:=du (o+d1-ai);rw[← hr']at er'
            have hnl:r' < d1:=by omega
            have hnlB:decide (r' < d1)=true:=by simp;omega
            clear hdn hr' hH hov HOV;go_wp2_with fail;go_ret;exact⟨q',rfl,fP.mk hlt hq'64 hfin.out,FIN.out⟩
        . have h3B:decide (l0 < v)=false:=by simpa using h3
          have hfin:=lY (hH.done hpp.out (GV fun h=>(mU HOV.out hl0 hv64 |>.1 h).elim (fun h=>by omega) (fun h=>h3 h.2)));clear hov hH HOV;go_wp2_with fail;go_ret;exact⟨q,rfl,fP.mk hlt hq64 hfin.out,FIN.out⟩
      . have h2B:((o:Int) == (r:Int))=false:=by simp;omega
        have hfin:=lY (hH.done hpp.out (GV fun h=>(mU HOV.out hl0 hv64 |>.1 h).elim (fun h=>h1 h) (fun h=>h2 h.1)));clear hov hH HOV;go_wp2_with fail;go_ret;exact⟨q,rfl,fP.mk hlt hq64 hfin.out,FIN.out⟩
theorem nx {x H L o1 h1 o2 c' d2:Nat}(hx:x < ai)(hy:y < ai)(hc:c < ai)(hr:r < ai)(hp:H*ai+L=x*y)(e1:l1+o1*ai=L+c+0)(e2:h1+d1*ai=H+0+o1)
 (e3:r+(l1+0)=s+o2*ai) (e4:c'+d2*ai=h1+0+o2):r+(x*y+c)=s+c'*ai:=by
 have hB:=bm;have ht:x*y<=(ai-1)*(ai-1):=GD (by omega) (by omega)
 have hsq:(ai-1)*(ai-1)+2*ai=ai*ai+1:=by
  obtain⟨k,hk⟩:∃ k,ai=k+1:=⟨ai-1,by omega⟩
  rw[hk];simp only[GG,oM,Gs];omega
 have h0:s+(H+o1+o2)*ai=r+(x*y+c):=by rw[oM,oM];omega
 have hlt:H+o1+o2 < ai:=by
  rcases Gk (H+o1+o2) ai with h | h
  . exact h
  . have h5:ai*ai<=(H+o1+o2)*ai:=mF _ h
    omega
 have z1:d1=0:=by
  rcases qK d1 with h | h
  . exact h
  . have:1*ai<=d1*ai:=mF _ h
    omega
 subst z1
 have z2:d2=0:=by
  rcases qK d2 with h | h
  . exact h
  . have:1*ai<=d2*ai:=mF _ h
    omega
 subst z2
 have e5:c'=H+o1+o2:=by omega
 rw[e5];omega
def rH (t:TypeId)(w:World)(g N off:Nat)(F:Nat->Nat)(y:Nat->Nat)(m x:Nat)(e:Ending)(w':World):Prop :=
 ∃ F' d,e=.returned (.int .u64 ((d:Nat):Int))/\fp t (ai-1) w w' g N off F F' (fun j=>x*y j) m m d
theorem qx (g off n c N:Nat)(F:Nat->Nat)(A:OA)(m cb:Nat)(y:Nat->Nat)(x:Nat)(w:World)(hr:dG 51 w g N F)(hoff:off+m<=N)(hN:N<=1000000)(hcap:n<=c)
 (hy:Sl w A m cb y) (hmn:m<=n) (hne:0 < m->∀ ad,A=some ad->ad.block≠g) (hx:x < ai) :
 Calls oY 202 #[.slice (some ⟨g,off,none⟩) n c,.slice A m cb,.int .u64 (x:Int)] w (rH 51 w g N off F y m x):=by
 go_enter Tryz.func202,Tryz.ntmps202
 go_wp2
 go_loopw [7,19] (fun cy i wr=>∃ k d F',k<=m/\i=.int .i64 ((k:Nat):Int)/\cy=.int .u64 ((d:Nat):Int)/\fp 51 (ai-1) w wr g N off F F' (fun j=>x*y j) m k d) (fun _ i _=>m-(intOf i).toNat)
 case atStart=>exact⟨0,0,F,GK _,rfl,rfl,fp.start hr⟩
 case round =>
  obtain⟨k,d,F',hk,rfl,rfl,hinv⟩:=hrel
  by_cases hlt:k < m
  . obtain⟨ad,rfl,hb,hy64,hcell⟩:=(hy.only hinv.2.2.1 hne).at_ hlt
    have hrc:=hinv.2.1.cell (i:=off+k) (by omega);have hrf:=hinv.2.1.frozen (off+k);have hF:Hid (F' (off+k)=F (off+k)):=hinv.2.2.2.1 _ (by omega);have hFs:=hinv.2.1.2 (off+k) (by omega)
    have hd64:d < ai:=by have:=hinv.1;have:=bm;omega
    obtain⟨H,L,hp,hH,hL,hmul⟩:=ix x (y k) hx hy64 wr;obtain⟨l1,o1,e1,g1,g1',a1⟩:=ee L d 0 (by omega) wr;have ho1:=g1' hL hd64;obtain⟨h1,d1,e2,g2,g2',a2⟩:=ee H 0 o1 ho1 wr;obtain⟨r,o2,e3,g3,g3',a3⟩:=lF (F' (off+k)) l1 0 hFs g1 (by omega) wr;obtain⟨c',d2,e4,g4,g4',a4⟩:=ee h1 0 o2 g3' (wr.setCell ⟨g,off+k,none⟩ (.int .u64 (r:Int)));rw[show((0:Nat):Int)=0 from rfl]at a1 a2 a3 a4;have key:Hid (r+(x*y k+d)=F' (off+k)+c'*ai):=lY (nx hx hy64 hd64 g3 hp e1 e2 e3 e4);have HM:=lY hmul;clear hp e1 e2 e3 e4 g1' g2' g4' hmul;go_wp2_with fail;refine HM.out.mono ?_;rintro e w' ⟨rfl,rfl⟩;go_wp2_with fail;go_roundw
    case rel=>exact⟨k+1,c',fF F' (off+k) r,by omega,by go_num,rfl,hinv.step (by rw[← hF.out,if_pos hlt];exact key.out) g3 (by omega)⟩
    case measure=>simp[intOf];omega
  . obtain rfl:k=m:=by omega
    go_wp2
    go_ret;exact⟨F',d,rfl,hinv⟩
def gq (l0 l1 l2 d0 d1:Nat):Nat:=if d1<=l2 then ai-1 else((l2*ai+l1)*ai+l0)/(d1*ai+d0)
theorem E3 (h:fP l0 l1 l2 d0 d1 q):q=gq l0 l1 l2 d0 d1:=by
 unfold gq
 rcases h.2 with⟨h1,h2⟩ | ⟨h1,h2⟩
 . rw[if_pos h1];exact h2
 . rw[if_neg (by omega)];exact h2
theorem C9 (hl1:l1 < ai)(hl0:l0 < ai):fP l0 l1 l2 d0 d1 (gq l0 l1 l2 d0 d1):=by
 have hB:=bm;unfold gq
 by_cases h:d1<=l2
 . rw[if_pos h];exact⟨by omega,.inl ⟨h,rfl⟩⟩
 . rw[if_neg h]
   refine⟨?_,.inr ⟨by omega,rfl⟩⟩
   apply yb
   have h1:(l2+1)*ai<=d1*ai:=mF _ (by omega);rw[oM,DF]at h1;have h2:(l2*ai+l1+1)*ai<=(d1*ai+d0)*ai:=mF _ (by omega);rw[oM,DF]at h2;omega
theorem xH (a b:Addr)(n m c d:Nat)(l0 l1 l2 d0 d1:Nat)(w:World)(h5:Ed w a b l0 l1 l2 d0 d1)(hn:3<=n)(hm:2<=m)(hn':n<=1000000)(hm':m<=1000000)(hl0:l0 < ai)(hl1:l1 < ai)(hd0:d0 < ai)(hd1:d1 < ai)(hd:0 < d1):
 Calls oY 201 #[.slice (some a) n c,.slice (some b) m d] w fun e w'=>e=.returned (.int .u64 ((gq l0 l1 l2 d0 d1:Nat):Int))/\∃ k,w'=w.drewN k :=
 (xI a b n m c d l0 l1 l2 d0 d1 w h5 hn hm hn' hm' hl0 hl1 hd0 hd1 hd).mono fun e w' ⟨q,he,hq,hw⟩=>⟨by rw[← E3 hq];exact he,hw⟩
theorem yk (b:Nat)(f:Nat->Nat):vs b f 3=(f 2*b+f 1)*b+f 0:=by
 simp only[vs,Gz,GH,Bl,GW];rw[oM,show f 2*b^2=f 2*b*b by rw[Nat.pow_two,Gx]];omega
theorem Dk (b:Nat)(f:Nat->Nat):vs b f 2=f 1*b+f 0:=by
 simp only[vs,Gz,GH,Bl,GW];omega
theorem uu (hZ:Z=A+ln*Pn)(hs:A1+q*V=A+bor*Pn)(hge:bor<=ln)(hV:V<=Pn)(hR:R < V)
 (hn:Z=q*V+R\/(0 < q/\Z=(q-1)*V+R/\Z < q*V)):Z=q*V+A1/\A1 < V:=by
 obtain⟨d,rfl⟩:∃ d,ln=bor+d:=⟨ln-bor,by omega⟩;rw[oM]at hZ
 have e:Z=q*V+A1+d*Pn:=by omega
 rcases hn with h | ⟨_,_,h⟩
 . have h1:d*Pn < Pn:=by omega
   have:d=0:=by
    rcases qK d with h0 | h0
    . exact h0
    . have:1*Pn<=d*Pn:=mF _ h0
      omega
   subst this;rw[Gt]at e;omega
 . omega
theorem wP {A2:Nat}(hZ:Z=A+ln*Pn)(hs:A1+q*V=A+bor*Pn)(hlt:ln < bor)(hA1:A1 < Pn)(hV:V<=Pn)(hA2:A2 < Pn)(hR:R < V)
 (hn:Z=q*V+R\/(0 < q/\Z=(q-1)*V+R/\Z < q*V)) (ha:A2+c*Pn=A1+V):0 < q/\Z=(q-1)*V+A2/\A2 < V:=by
 obtain⟨d,rfl⟩:∃ d,bor=ln+(d+1):=⟨bor-ln-1,by omega⟩;rw[oM,oM,DF]at hs
 rcases hn with h | ⟨h0,h1,_⟩
 . omega
 . obtain⟨k,rfl⟩:∃ k,q=k+1:=⟨q-1,by omega⟩
   simp only[GG]at h1 ⊢;rw[oM,DF]at hs
   have e:A2+c*Pn=R+(d+1)*Pn:=by rw[oM,DF];omega
   have e2:A2=R:=by
    have a1:(A2+c*Pn)%Pn=A2:=by rw[tz,Bx hA2]
    have a2:(R+(d+1)*Pn)%Pn=R:=by rw[tz,Bx (by omega)]
    rw[← a1,← a2,e]
   subst e2;exact⟨h0,h1,hR⟩
theorem At (hA1:A1 < Pn)(hZ:Z=A+ln*Pn)(hs:A1+q*V=A+bor*Pn)(hlt:ln < bor)(hn:Z=q*V+R\/(0 < q/\Z=(q-1)*V+R/\Z < q*V)):0 < q:=by
 rcases hn with h | ⟨h,_⟩
 . rcases qK q with h0 | h0
   . subst h0
     have h3:(ln+1)*Pn<=bor*Pn:=mF _ hlt;rw[oM,DF]at h3;rw[Gt]at hs h;omega
   . exact h0
 . exact h
def Az (t:TypeId)(w:World)(g N off n V Z:Nat)(F:Nat->Nat)(e:Ending)(w':World):Prop :=
 ∃ q F',e=.returned (.int .u64 ((q:Nat):Int))/\q < ai/\dG t w' g N F'/\az w w' g/\(∀ j,j < off\/off+n+1<=j->F' j=F j)/\F' (off+n)=0/\Z=q*V+vs ai (fun j=>F' (off+j)) n/\vs ai (fun j=>F' (off+j)) n < V
theorem uK {a:World}(h:az a w g)(n:Nat):az a (w.drewN n) g:=⟨h.os,h.tape,h.output,h.size,h.block⟩
theorem tK (g off k c N cd:Nat)(F y:Nat->Nat)(bd:Addr)(w:World)(hr:dG 51 w g N F)(hoff:off+(k+3)<=N)(hN:N<=1000000)(hcap:k+3<=c)(hy:Sl w (some bd) (k+2) cd y)(hne:bd.block≠g)
 (htop:ai<=2*y (k+1)) (hlt:vs ai (fun j=>F (off+j)) (k+3) < vs ai y (k+2)*ai) :
 Calls oY 200 #[.slice (some ⟨g,off,none⟩) (k+3) c,.slice (some bd) (k+2) cd] w (Az 51 w g N off (k+2) (vs ai y (k+2)) (vs ai (fun j=>F (off+j)) (k+3)) F):=by
 have hB:=bm;have hcd:=hy.cap;have c0:=hr.cell (i:=off+k) (by omega);have c1:=hr.cell (i:=off+k+1) (by omega);have c2:=hr.cell (i:=off+k+2) (by omega);have b0:=hr.2 (off+k) (by omega);have b1:=hr.2 (off+k+1) (by omega);have b2:=hr.2 (off+k+2) (by omega);obtain⟨_,e0,_,d0,v0⟩:=hy.at_ (k:=k) (by omega)
 injection e0 with e0
 subst e0;obtain⟨_,e1,_,d1,v1⟩:=hy.at_ (k:=k+1) (by omega)
 injection e1 with e1
 subst e1
 have h5:Hid (∀ m,Ed (w.drewN m) ⟨g,off+k,none⟩ (bd.add k) (F (off+k)) (F (off+k+1)) (F (off+k+2)) (y k) (y (k+1))):=lY fun m=>by
  refine⟨c0,c1,c2,v0,?_⟩;rw[show(⟨(bd.add k).block,(bd.add k).off+1,none⟩:Addr)=bd.add (k+1) from by rw[← oO];simp[Addr.add]];exact v1
 have hd1:0 < y (k+1):=by omega
 have hnear:=uT (P:=ai^k) (a:=vs ai (fun j=>F (off+j)) k) (v:=vs ai y k) (C9 (l0:=F (off+k)) (l1:=F (off+k+1)) (l2:=F (off+k+2)) (d0:=y k) b1 b0) htop d0
  (bL fun j hj=>hr.2 _ (by omega)) (bL fun j hj=>hy.small j (by omega))
 have eZ:vs ai (fun j=>F (off+j)) (k+3)=vs ai (fun j=>F (off+j)) k+ai^k*((F (off+k+2)*ai+F (off+k+1))*ai+F (off+k)):=by
  rw[cW,yk];simp only[GC,G7]
 have eV:vs ai y (k+2)=vs ai y k+ai^k*(y (k+1)*ai+y k):=by rw[cW,Dk];simp only[GC]
 rw[← eZ,← eV]at hnear;obtain⟨R,hR,hn⟩:=hnear hlt;have hqB:=(C9 (l0:=F (off+k)) (l1:=F (off+k+1)) (l2:=F (off+k+2)) (d0:=y k) (d1:=y (k+1)) b1 b0).1;have hVlt:=bL hy.small;have hZs:vs ai (fun j=>F (off+j)) (k+3)=vs ai (fun j=>F (off+j)) (k+2)+F (off+(k+2))*ai^(k+2):=aA _ _ _
 have G:Hid (∀ u m,u=w.drewN m->Calls oY 201 #[.slice (some ⟨g,off+k,none⟩) 3 (c-k),.slice (some (bd.add k)) 2 (cd-k)] u fun e w'=>e=.returned (.int .u64 ((gq (F (off+k)) (F (off+k+1)) (F (off+k+2)) (y k) (y (k+1)):Nat):Int))/\∃ j,w'=u.drewN j) :=
  lY fun u m hu=>by rw[hu];exact xH _ _ 3 2 _ _ _ _ _ _ _ _ (h5.out m) (by omega) (by omega) (by omega) (by omega) b0 b1 d0 d1 hd1
 generalize gq (F (off+k)) (F (off+k+1)) (F (off+k+2)) (y k) (y (k+1))=q at *;clear c0 c1 v0 v1 h5 eZ eV hlt
 have hc1:¬ c=k:=by omega
 have hc2:¬ cd=k:=by omega
 have q1:IntKind.i64.wrap (((k+2:Nat):Int)-2)=(k:Int):=by rw[IntWalk.i64_in _ (by omega)];omega
 have q2:IntKind.i64.wrap ((k:Int)+2-2)=(k:Int):=by rw[IntWalk.i64_in _ (by omega)];omega
 have HR:=lY hR;have HN:=lY hn;have HZ:=lY hZs;clear hR hn hZs;generalize hVV:vs ai y (k+2)=V at *;have HV:=lY hVV;clear hVV;go_enter Tryz.func200,Tryz.ntmps200;go_wp2_with fail
 go_quiet ((go_at_call 201;exact Calls.quiet_of (G.out _ _ rfl)))
 have hr1:=hr.drewN nq;have hy1:=hy.drewN nq;have on1:az w (w.drewN nq) g:=uK (az.refl _ _) nq
 have far1:0 < k+2->∀ ad,some bd=some ad->ad.block≠g:=fun _ ad h=>by injection h with h;rw[← h];exact hne
 clear q1 q2 G c2;generalize w.drewN nq=w1 at *;go_wp2_with fail;refine(qx g off (k+2) c N F (some bd) (k+2) cd y q w1 hr1 (by omega) hN (by omega) hy1 (ou _) far1 hqB).mono ?_;rintro e w2 ⟨F1,bor,rfl,hinv⟩;obtain⟨hborB,hr2,on2,hag2,hs2⟩:=hinv;rw[fl _ _ _ _ (ou _),ul,HV.out]at hs2;have hln:Hid (F1 (off+(k+2))=F (off+(k+2))):=lY (hag2 _ (by omega));have hrc:=hr2.cell (i:=off+(k+2)) (by omega);have hrf:=hr2.frozen (off+(k+2));have hA1:=bL (f:=fun j=>F1 (off+j)) (n:=k+2) (fun j hj=>hr2.2 _ (by omega));have hlnB:=hr2.2 (off+(k+2)) (by omega);rw[hln.out]at hrc hlnB;have HS:=lY hs2;have HAG:=lY hag2;clear hs2 hag2 hr1;have on12:=on1.trans on2;generalize hlne:F (off+(k+2))=ln at *;have HLN:=lY hlne;clear hlne
 by_cases hge:bor<=ln
 . have hres:=lY (uu HZ.out HS.out hge (GT hVlt) HR.out HN.out)
   have hgeB:¬ ln < bor:=by omega
   go_wp2_with fail;go_ret;refine⟨q,fF F1 (off+(k+2)) 0,rfl,hqB,hr2.set_ _ 0 hB,on12.set_ _ _,fun j hj=>?_,bO _ _ _,?_,?_⟩
   . rw[aU _ _ _ _ (by omega)];exact HAG.out j (by omega)
   . rw[bg (g:=fun j=>F1 (off+j)) fun j hj=>aU _ _ _ _ (by omega)];exact hres.out.1
   . rw[bg (g:=fun j=>F1 (off+j)) fun j hj=>aU _ _ _ _ (by omega)];exact hres.out.2
 . have hltB:ln < bor:=by omega
   obtain⟨q',hq'⟩:=du (q-1);have hq0:0 < q:=At hA1 HZ.out HS.out hltB HN.out
   have eq':IntKind.u64.wrap ((q:Int)-1)=(q':Int):=by rw[IntWalk.u64_in _ (by unfold ai at hqB;omega)];omega
   have eq2:IntKind.u64.wrap (q':Int)=(q':Int):=fS _ (by omega);have HQ:=lY hq';clear hq';have hy2:=hy1.only on2 far1;go_wp2_with fail;refine(js g off (k+2) c N F1 (some bd) (k+2) cd y w2 hr2 (by omega) hN hy2 (ou _) far1).mono ?_;rintro e w3 ⟨F2,cy,rfl,hinv3⟩;obtain⟨_,hr3,on3,hag3,hs3⟩:=hinv3;rw[fl _ _ _ _ (ou _),HV.out]at hs3;have hA2:=bL (f:=fun j=>F2 (off+j)) (n:=k+2) (fun j hj=>hr3.2 _ (by omega));have hres:=lY (wP HZ.out HS.out hltB hA1 (GT hVlt) hA2 HR.out HN.out hs3);have hrc3:=hr3.cell (i:=off+(k+2)) (by omega);have hrf3:=hr3.frozen (off+(k+2));have HAG3:=lY hag3;clear hs3 hag3;go_wp2_with fail;go_ret;refine⟨q',fF F2 (off+(k+2)) 0,rfl,by have:=HQ.out;omega,hr3.set_ _ 0 hB,(on12.trans on3).set_ _ _,fun j hj=>?_,bO _ _ _,?_,?_⟩
   . rw[aU _ _ _ _ (by omega),HAG3.out j (by omega)];exact HAG.out j (by omega)
   . rw[bg (g:=fun j=>F2 (off+j)) fun j hj=>aU _ _ _ _ (by omega),HQ.out];exact hres.out.2.1
   . rw[bg (g:=fun j=>F2 (off+j)) fun j hj=>aU _ _ _ _ (by omega)];exact hres.out.2.2
def lB (w:World)(Q R:Nat)(e:Ending)(w':World):Prop:=∃ v u,e=.returned (.tuple #[v,u,.bool true])/\am w' v Q/\am w' u R/\Below w.heap.size w w'
theorem gf (t:TypeId)(w:World)(r:Nat)(hr:r < ai):Sl (w.alloc (.cells #[.int .u64 ((r:Nat):Int)] t)) (some ⟨w.heap.size,0,none⟩) 1 1 (fun _=>r) :=
 ⟨ou _,fun _ _=>hr,fun _=>⟨_,rfl,by simp,fun j hj=>by
  obtain rfl:j=0:=by omega
  rw[rF,World.cell?_alloc_at _ _ _ _ rfl];rfl⟩⟩
theorem f5 (b r:Nat):vs b (fun _=>r) 1=r:=by simp[vs]
theorem tF (A B:OA)(n m c d:Nat)(x y:Nat->Nat)(w:World)(ha:Sl w A n c x)(hb:Sl w B m d y)(hn:n<=1000000)(hm:m<=1000000)(ht:tl y m=1)(hle:vs ai y m<=vs ai x n)
 (hD:Hid (∀ (hi lo:Nat) (w:World),hi < y 0->lo < ai->(tl x n=1->hi=0)->Calls oY 199 #[.int .u64 (hi:Int),.int .u64 (lo:Int),.int .u64 (y 0:Int)] w (ju w ((hi*ai+lo)/y 0) ((hi*ai+lo)%y 0)))) :
 Calls oY 183 #[.slice A n c,.slice B m d] w (lB w (vs ai x n/vs ai y m) (vs ai x n%vs ai y m)):=by
 obtain⟨A1,c1,e1,s1⟩:=cm ha;obtain⟨B1,d1,e2,s2⟩:=cm hb;have l1:=cJ x n;have V1:=bn A n c x w ha (by omega);have V2:=bn B m d y w hb (by omega);have cy:=fT y m;rw[e1]at V1;rw[e2]at V2;rw[← dK ai x n,← dK ai y m]at hle ⊢;rw[ht]at V2 s2 cy hle ⊢;clear e1 e2 ht;generalize tl x n=p at *
 have ey:vs ai y 1=y 0:=by rw[aA,aL];simp
 rw[ey]at hle ⊢
 have hy0:0 < y 0:=by rcases cy with h | h <;> simp at h;omega
 have hy1:=s2.small 0 (by omega)
 have hp0:0 < p:=by
  rcases qK p with h | h
  . subst h;rw[aL]at hle;omega
  . exact h
 have V3:=ic A1 B1 p 1 c1 d1 x y w s1 s2 (by omega) (by omega);rw[ey]at V3
 obtain⟨r,hr0,hr1⟩:∃ r:Nat,cQ (vs ai x p) (y 0)=(r:Int)/\r<=1:=by
  rcases Gk (y 0) (vs ai x p) with h | h
  . exact⟨1,by rw[cO h];rfl,by omega⟩
  . exact⟨0,by rw[GZ h hle,eA];rfl,by omega⟩
 rw[hr0]at V3;clear hr0;have H1:=lY V1;have H2:=lY V2;have H3:=lY V3;clear V1 V2 V3 ey;go_enter GU,GM;go_wp2_with fail;refine H1.out.mono ?_;rintro e w' ⟨rfl,rfl⟩;go_wp2_with fail;refine H2.out.mono ?_;rintro e w' ⟨rfl,rfl⟩;go_wp2_with fail;refine H3.out.mono ?_;rintro e w1 ⟨rfl,hb1⟩;obtain⟨bd,rfl,hbb,hy64,hcell⟩:=(s2.below hb1).at_ (k:=0) (by omega);rw[show bd.add 0=bd from by simp[Addr.add]]at hcell;go_wp2_with fail;refine(tJ A1 p c1 x (y 0) w1 (s1.below hb1) (by omega) hp0 hy0 hD).mono ?_;rintro e w2 ⟨v,rfl,hnum,hb2⟩;have hR:vs ai x p%y 0 < ai:=GR (Gv _ hy0) hy1;generalize vs ai x p/y 0=Q at *;generalize vs ai x p%y 0=R at *;have s3q:=gf 51 w2 R hR;go_wp2_with fail;refine(bn _ 1 1 _ _ s3q (by omega)).mono ?_;rintro e w5 ⟨rfl,rfl⟩;have hnum2:=eE s3q;rw[f5]at hnum2;go_wp2_with fail
 go_ret3
 have hb3:Below w2.heap.size w2 (w2.alloc (.cells #[.int .u64 ((R:Nat):Int)] 51)):=(Below.refl _ _).alloc (ou _) _;exact⟨_,_,rfl,hnum.below hb3,hnum2,(hb1.trans (hb2.mono hb1.size)).trans (hb3.mono (GP hb1.size hb2.size))⟩
theorem yt {f:Nat->Nat}(hf:∀ j,j < m->f j < ai)(hc:Cn m f)(hv:vs ai f m=V)(h1:ai^(k+1)<=2*V)(h2:V < ai^(k+1)):m=k+1/\ai<=2*f k:=by
 have hB:=bm
 have hm:m=k+1:=by
  have a:=ib fq hc (by rw[hv];exact h2)
  rcases Gk m (k+1) with h | h
  . have b:=bL hf
    have c:ai^m<=ai^k:=Gy hB (by omega);have d:ai^k*2<=ai^k*ai:=GL _ fq;rw[Gl]at h1;omega
  . omega
 subst hm;refine⟨rfl,?_⟩;rw[aA]at hv;have hlow:=bL (fun j hj=>hf j (by omega):∀ j,j < k->f j < ai)
 rcases Gk (2*f k) ai with h | h
 . have h3:(2*f k+2)*ai^k<=ai*ai^k:=by
    apply mF
    have:ai%2=0:=by unfold ai;decide
    omega
   rw[Gl,DE]at h1;rw[oM,Gx]at h3;omega
 . exact h
def lC (t:TypeId)(w1 wr:World)(g1 g2 N n m V X k:Nat):Prop :=
 ∃ L F,dG t wr g1 N L/\dG t wr g2 m F/\Below g1 w1 wr/\(∀ j,k+n<=j->j < N->L j=0)/\vs ai L (k+n) < V*ai^k/\X=vs ai (fun j=>F (k+j)) (m-k)*(ai^k*V)+vs ai L (k+n)
theorem BQ (h:vs ai L (i+1+n) < V*ai^(i+1)):vs ai (fun j=>L (i+j)) (n+1) < V*ai:=by
 rw[show i+1+n=i+(n+1) by omega,cW,Gl]at h
 have h1:ai^i*vs ai (fun j=>L (i+j)) (n+1) < ai^i*(V*ai):=by
  rw[show ai^i*(V*ai)=V*(ai^i*ai) by ac_rfl];omega
 exact Nat.lt_of_mul_lt_mul_left h1
theorem lC.step {w1 w':World}{g1 g2:Nat}{L':Nat->Nat}(him:i < m)(hN:i+n < N)(hL:∀ j,j < N->L j < ai)(hrowL:dG t w' g1 N L')(hrowF:dG t wr g2 m F)(hon:az wr w' g1)(hne:g1≠g2)(hg:g1<=g2)(hb:Below g1 w1 wr)(hgw:g1<=wr.heap.size)
 (hz:∀ j,i+1+n<=j->j < N->L j=0) (hX:X=vs ai (fun j=>F (i+1+j)) (m-(i+1))*(ai^(i+1)*V)+vs ai L (i+1+n))
 (hq:q < ai) (hag:∀ j,j < i\/i+n+1<=j->L' j=L j) (hz':L' (i+n)=0) (hZ:vs ai (fun j=>L (i+j)) (n+1)=q*V+vs ai (fun j=>L' (i+j)) n) (hR:vs ai (fun j=>L' (i+j)) n < V) :
 lC t w1 (w'.setCell ⟨g2,i,none⟩ (.int .u64 ((q:Nat):Int))) g1 g2 N n m V X i:=by
 refine⟨L',fF F i q,hrowL.of_block (Below.heap_setCell w' _ _ g1 hne),(hrowF.other hon (fun e=>hne e.symm)).set_ i q hq,(az.below hb hon hgw (ou _)).setCell hg _,fun j hj hjN=>?_,?_,?_⟩
 . rcases Gk j (i+n+1) with h | h
   . rw[show j=i+n by omega];exact hz'
   . rw[hag j (by omega)];exact hz j (by omega) hjN
 . rw[cW]
   have e1:vs ai L' i=vs ai L i:=bg fun j hj=>hag j (by omega)
   have h1:=bL (fun j hj=>hL j (by omega):∀ j,j < i->L j < ai);rw[e1];generalize vs ai (fun j=>L' (i+j)) n=R at *;have h2:ai^i*(R+1)<=ai^i*V:=GL _ hR;rw[Gs,GH]at h2;rw[DE V];omega
 . rw[cW ai L']
   have e1:vs ai L' i=vs ai L i:=bg fun j hj=>hag j (by omega)
   rw[hX,show i+1+n=i+(n+1) by omega,cW ai L,hZ,e1];obtain⟨r,hr⟩:∃ r,m-i=r+1:=⟨m-i-1,by omega⟩;rw[hr,fv,show m-(i+1)=r by omega]
   have e2:vs ai (fun j=>fF F i q (i+(j+1))) r=vs ai (fun j=>F (i+1+j)) r:=bg fun j _=>by rw[aU _ _ _ _ (by omega)];congr 1;omega
   rw[e2];simp only[GC];rw[bO];generalize vs ai (fun j=>F (i+1+j)) r=Q at *;generalize vs ai (fun j=>L' (i+j)) n=R at *;generalize vs ai L i=S at *;rw[oM,Gs,Gl]
   have e3:Q*(ai^i*ai*V)=ai*Q*(ai^i*V):=by ac_rfl
   have e4:ai^i*(q*V)=q*(ai^i*V):=by ac_rfl
   rw[e3,e4];omega
theorem ym {b:Nat}(h:∀ j,n<=j->j < N->L j=0)(hn:n<=N):vs b L N=vs b L n:=by
 obtain⟨i,rfl⟩:=Nat.exists_eq_add_of_le hn;clear hn
 induction i with
 | zero=>rfl
 | succ i ih =>
  rw[← G7,aA,ih (fun j h1 h2=>h j h1 (by omega)),h (n+i) (by omega) (by omega),Gt,GC]
theorem xD {b:Nat}(h:X=vs b (fun j=>F (0+j)) (m-0)*(b^0*V)+vs b L (0+n))(hl:vs b L (0+n) < V*b^0):X=vs b F m*V+vs b L n/\vs b L n < V:=by
 rw[Bl]at h hl;rw[Gz,GH]at hl;rw[Gz,DF,Ha,bg (g:=F) fun j _=>by rw[Bl]]at h;exact⟨h,hl⟩
def uc (w:World)(Q R:Nat)(e:Ending)(w':World):Prop:=∃ v u,e=.returned (.tuple #[v,u])/\am w' v Q/\am w' u R/\Below w.heap.size w w'
theorem zJ {Xa Q:Nat}(hX:X=Xa*2^s)(h:X=Q*(Y*2^s)+R)(hR:R < Y*2^s)(hY:0 < Y):Q=Xa/Y/\R/2^s=Xa%Y:=by
 have hp:0 < 2^s:=Gr s
 have hle:Q*Y<=Xa:=by
  have:Q*Y*2^s<=Xa*2^s:=by rw[← hX,h,Gx];omega
  exact GE this hp
 have e6:R=(Xa-Q*Y)*2^s:=by rw[Hf,← hX,h,Gx];omega
 have e7:R/2^s=Xa-Q*Y:=by rw[e6,GN _ hp]
 have e8:Xa-Q*Y < Y:=by rw[e6]at hR;exact GF hR
 have e9:Xa=Q*Y+(Xa-Q*Y):=by omega
 refine⟨?_,?_⟩
 . rw[e9,EM,Gu _ _ hY,Gw (by omega),Bl]
 . rw[e7,e9,EM,tz,Bx (by omega)]
   omega
theorem Dq (h:V < ai^n)(hs:s<=64):V*2^s < ai^(n+1):=by
 rw[Gl];exact Gp h (nN s hs) bm
theorem uL {y:Nat->Nat}{L:Nat}(hy:∀ j,j < k+2->y j < ai)(hL1:1<=L)(hL2:L<=64)(h1:2^(L-1)<=y (k+1))(h2:y (k+1) < 2^L)(hs:s=64-L):
 ai^(k+2)<=2*(vs ai y (k+2)*2^s)/\vs ai y (k+2)*2^s < ai^(k+2):=by
 have hlow:=bL (fun j hj=>hy j (by omega):∀ j,j < k+1->y j < ai);have hB:=bv;rw[aA];have hp:0 < 2^s:=Gr s
 have e64:ai=2^L*2^s:=by rw[← Gn,hB];congr 1;omega
 have e63:ai=2*(2^(L-1)*2^s):=by rw[← Gn,hB,show(64:Nat)=1+(L-1+s) by omega,Gn]
 refine⟨?_,?_⟩
 . have h3:2^(L-1)*2^s*ai^(k+1)<=y (k+1)*2^s*ai^(k+1):=mF _ (mF _ h1)
   have e1:ai^(k+2)=2*(2^(L-1)*2^s*ai^(k+1)):=by rw[Gl ai (k+1),DE,← Gx,← e63]
   have e2:(vs ai y (k+1)+y (k+1)*ai^(k+1))*2^s=vs ai y (k+1)*2^s+y (k+1)*2^s*ai^(k+1):=by rw[oM];congr 1;ac_rfl
   rw[e1,e2];omega
 . have h3:(y (k+1)+1)*ai^(k+1)<=2^L*ai^(k+1):=mF _ h2
   rw[oM,DF]at h3;have h4:(vs ai y (k+1)+y (k+1)*ai^(k+1))*2^s < 2^L*ai^(k+1)*2^s:=Gm (by omega) hp
   have e1:ai^(k+2)=2^L*ai^(k+1)*2^s:=by rw[Gl ai (k+1),DE,e64];ac_rfl
   rw[e1];exact h4
theorem tL (A:OA)(bd:Addr)(la k ca cb:Nat)(x y:Nat->Nat)(w:World)(ha:Sl w A la ca x)(hb:Sl w (some bd) (k+2) cb y)(hla:k+2<=la)(hla':la<=300000)(htop:0 < y (k+1)):
 Calls oY 196 #[.slice A la ca,.slice (some bd) (k+2) cb] w (uc w (vs ai x la/vs ai y (k+2)) (vs ai x la%vs ai y (k+2))):=by
 have hyB:=hb.small (k+1) (by omega);obtain⟨_,e0,_,_,ctop⟩:=hb.at_ (k:=k+1) (by omega)
 injection e0 with e0
 subst e0;rw[show bd.add (k+1)=⟨bd.block,bd.off+(k+1),none⟩ from by simp[Addr.add]]at ctop;obtain⟨l1,l2,l3,l4⟩:=iQ (y (k+1)) htop hyB;have LZ:=GI (y (k+1):Int) w (by omega) (by unfold ai at hyB;omega);rw[GQ]at LZ;obtain⟨n1,n2⟩:=uL hb.small l1 l2 l3 l4 rfl;generalize Hk (y (k+1))=Lb at *;obtain⟨s,hs⟩:=du (64-Lb);rw[← hs]at n1 n2;rw[show(64:Int)-(Lb:Int)=(s:Int) by omega]at LZ
 have hs63:s<=63:=by omega
 clear l1 l2 l3 l4 hs;have HL:Hid (Calls oY 191 #[.int .u64 (y (k+1):Int)] w fun e w'=>e=.returned (.int .i64 (s:Int))/\w=w'):=lY (LZ.mono fun e w' ⟨he,hw⟩=>⟨he,hw.symm⟩);have N1:=lY n1;have N2:=lY n2;clear LZ n1 n2
 have hYpos:Hid (0 < vs ai y (k+2)):=lY (by
  rw[aA]
  have:1*ai^(k+1)<=y (k+1)*ai^(k+1):=mF _ htop
  have:=Hg (n:=k+1) bm
  omega)
 have hXb:Hid (vs ai x la*2^s < ai^(la+1)):=lY (Dq (bL ha.small) (by omega))
 have hXV:Hid (vs ai x la*2^s < vs ai y (k+2)*2^s*ai^(la-(k+2)+1)):=lY (by
  have h1:=bL ha.small;have h2:=N1.out
  have h3:2^s*2<=ai:=by rw[bv,← Gl];exact Gy (by omega) (by omega)
  have h4:vs ai x la*(2^s*2) < ai^la*ai:=Gp h1 h3 bm;have h5:ai^(k+2)*ai^(la-(k+2)+1)<=2*(vs ai y (k+2)*2^s)*ai^(la-(k+2)+1):=mF _ h2;rw[← Gn,show k+2+(la-(k+2)+1)=la+1 by omega,Gl]at h5
  have e1:vs ai x la*(2^s*2)=2*(vs ai x la*2^s):=by ac_rfl
  have e2:2*(vs ai y (k+2)*2^s)*ai^(la-(k+2)+1)=2*(vs ai y (k+2)*2^s*ai^(la-(k+2)+1)):=by ac_rfl
  omega)
 go_enter Tryz.func196,Tryz.ntmps196;go_wp2_with fail;refine HL.out.mono ?_;rintro e w' ⟨rfl,rfl⟩;go_wp2_with fail;refine(pH (some bd) (k+2) cb y s w hb (by omega) (by omega)).mono ?_;rintro e w1 ⟨v,rfl,⟨A2,nn,c2,f2,rfl,sd,cd2,hv2⟩,b1⟩;obtain⟨hnn,htop2⟩:=yt (k:=k+1) sd.small cd2 hv2 N1.out N2.out;obtain rfl:nn=k+2:=hnn;obtain⟨bd2,rfl,hbd2,_,_⟩:=sd.at_ (k:=0) (by omega);have HV:=lY hv2;clear hv2 ctop HL;have ha1:=ha.below b1
 have hmk1:∀ u:World,(Instr.makeSlice 22 (.int .i64 ((la:Int)+1)) (.int .i64 ((la:Int)+1))).run oY u =
  .ok (.slice (some ⟨u.heap.size,0,none⟩) (la+1) (la+1)) (u.alloc (.cells (madeCells #[.int .u64 0] (la+1)) 51)):=fun u=>ec (la+1) (by omega) u
 have hrow1:=dG.made 51 w1 (la+1);go_wp2_with fail;refine(pH A la ca x s _ (ha1.alloc _) (by omega) (by omega)).mono ?_;rintro e w2 ⟨v3,rfl,⟨A3,n3,c3,f3,rfl,s3q,Ef,hv3⟩,b2⟩;have hn3:n3<=la+1:=ib fq Ef (by rw[hv3];exact hXb.out);have HX:=lY hv3;clear hv3 hmk1;have hrow2:=hrow1.below b2 (by simp);have b2':Below w1.heap.size w1 w2:=((Below.refl _ w1).alloc (ou _) _).trans (b2.mono (by simp));obtain⟨m,hm⟩:=du (la-(k+2)+1);rw[← hm]at hXV
 have hm1:m+(k+1)<=la:=by omega
 have hm2:la<=m+(k+1):=by omega
 clear hm
 have hmk2:∀ u:World,(Instr.makeSlice 22 (.int .i64 ((la:Int)-((k:Int)+2)+1)) (.int .i64 ((la:Int)-((k:Int)+2)+1))).run oY u =
  .ok (.slice (some ⟨u.heap.size,0,none⟩) m m) (u.alloc (.cells (madeCells #[.int .u64 0] m) 51)):=fun u=>by
  have h:=ec m (by omega) u;rw[show(m:Int)=(la:Int)-((k:Int)+2)+1 by omega]at h;exact h
 go_wp2_with (with_reducible refine eG rfl (.tmp 26) (.tmp 29) 22 rfl 51 Tryz.underlying22 qA 51 w1.heap.size (la+1) (la+1) (la+1) _ A3 n3 c3 f3 rfl rfl hrow2 (ou _) s3q hn3 ?_;intro w3 hrow3 hon3)
 clear hmk2;have bw3:Below w1.heap.size w1 w3:=az.below b2' hon3 b2'.size (ou _);have hlt13:w1.heap.size < w3.heap.size:=hrow3.lt
 have h00:lC 51 w1 (w3.alloc (.cells (madeCells #[.int .u64 0] m) 51)) w1.heap.size w3.heap.size (la+1) (k+2) m (vs ai f2 (k+2)) (vs ai x la*2^s) m:=by
  have e1:vs ai (fun j=>if j < n3 then f3 j else 0) (la+1)=vs ai x la*2^s:=by rw[fl _ _ _ _ hn3];exact HX.out
  refine⟨_,_,hrow3.alloc _,dG.made 51 w3 m,bw3.alloc bw3.size _,fun j h1 h2=>by omega,?_,?_⟩
  . rw[show m+(k+2)=la+1 by omega,e1,HV.out];exact hXV.out
  . rw[show m+(k+2)=la+1 by omega,e1,G9,aL,Gt,Bl]
 clear hrow3 hrow2 hrow1 hon3
 go_loopw [10] (fun s10 wr=>∃ i:Nat,i<=m/\s10=.int .i64 ((i:Int)-1)/\lC 51 w1 wr w1.heap.size w3.heap.size (la+1) (k+2) m (vs ai f2 (k+2)) (vs ai x la*2^s) i) (fun s10 _=>(intOf s10+1).toNat)
 case atStart=>exact⟨m,ou _,rfl,h00⟩
 case round =>
  clear h00;obtain⟨i,hi,rfl,L,F,hrL,hrF,hbw,hz,hlt,hX⟩:=hrel;have HZ:=lY hz;have HX2:=lY hX;have HLT:=lY hlt;clear hz hX hlt
  rcases i with _ | i
  . go_wp2_with fail
    have hslF:=hrF.sl0 m m (ou _) (ou _);have hslL:=hrL.sl0 (la+1) (la+1) (ou _) (ou _);refine(bn _ m m _ wr hslF (by omega)).mono ?_;rintro e w5 ⟨rfl,rfl⟩;go_wp2_with fail;refine(bn _ (la+1) (la+1) _ wr hslL (by omega)).mono ?_;rintro e w5 ⟨rfl,rfl⟩;obtain⟨A7,c7,e7,s7⟩:=cm hslL;have l7:=cJ L (la+1);rw[e7];go_wp2_with fail;refine(pR A7 _ c7 L s wr s7 (by omega) (by omega)).mono ?_;rintro e w8 ⟨v8,rfl,n8,b8⟩;have hq:=eE hslF;go_wp2_with fail
    go_ret2
    obtain⟨h1,h2⟩:=xD HX2.out HLT.out;rw[HV.out]at h1 h2;obtain⟨q1,q2⟩:=zJ rfl h1 h2 hYpos.out;have e8:vs ai L (la+1)=vs ai L (k+2):=ym (fun j h1 h2=>HZ.out j (by omega) h2) (by omega);rw[dK,e8,q2]at n8;rw[q1]at hq;exact⟨_,v8,rfl,hq.below b8,n8,b1.trans ((hbw.trans (b8.mono hbw.size)).mono b1.size)⟩
  . rw[show(((i+1:Nat):Int)-1)=(i:Int) from by omega]
    have hci:¬ la+1=i:=by omega
    have sdw:=sd.below hbw;go_wp2_with fail;rw[show i+(k+2)+1-i=k+3 by omega]
    have hbd2':bd2.block≠w1.heap.size:=by omega
    refine(tK w1.heap.size i k (la+1-i) (la+1) c2 L f2 bd2 wr hrL (by omega) (by omega) (by omega) sdw hbd2' htop2 (BQ HLT.out)).mono ?_;rintro e w6 ⟨q,L',rfl,hq,hrL',hon,hag,hz',hZ,hR⟩;have hrF6:=hrF.other hon (by omega);have hrc:=hrF6.cell (i:=i) (by omega);have hrf:=hrF6.frozen i;have hst:=lY (lC.step (n:=k+2) (by omega:i < m) (by omega) hrL.2 hrL' hrF hon (by omega) (by omega) hbw (GT hrL.lt) HZ.out HX2.out hq hag hz' hZ hR);clear hag hz' hZ hR;go_wp2_with fail;go_roundw
    case rel=>exact⟨i,by omega,by go_num,hst.out⟩
    case measure=>simp[intOf]
theorem tI (A B:OA)(n m c d:Nat)(x y:Nat->Nat)(w:World)(ha:Sl w A n c x)(hb:Sl w B m d y)(hn:n<=1000000)(hm:m<=1000000)(hlt:vs ai x n < vs ai y m):
 Calls oY 183 #[.slice A n c,.slice B m d] w (lB w (vs ai x n/vs ai y m) (vs ai x n%vs ai y m)):=by
 rw[Gw hlt,Bx hlt];obtain⟨A1,c1,e1,s1⟩:=cm ha;obtain⟨B1,d1,e2,s2⟩:=cm hb;have l1:=cJ x n;have l2:=cJ y m;have V1:=bn A n c x w ha (by omega);have V2:=bn B m d y w hb (by omega);rw[e1]at V1;rw[e2]at V2;rw[← dK ai x n]at hlt ⊢;rw[← dK ai y m]at hlt;clear e1 e2;generalize tl x n=p at *
 have hq0:0 < tl y m:=by
  rcases qK (tl y m) with h | h
  . rw[h,aL]at hlt;omega
  . exact h
 generalize tl y m=q at *;have V3:=ic A1 B1 p q c1 d1 x y w s1 s2 (by omega) (by omega);rw[dn hlt]at V3;have H1:=lY V1;have H2:=lY V2;have H3:=lY V3
 have hqb:((q:Int) == 0)=false:=by simp;omega
 clear V1 V2 V3;go_enter GU,GM;go_wp2_with fail;refine H1.out.mono ?_;rintro e w' ⟨rfl,rfl⟩;go_wp2_with fail;refine H2.out.mono ?_;rintro e w' ⟨rfl,rfl⟩;go_wp2_with fail;refine H3.out.mono ?_;rintro e w1 ⟨rfl,b1⟩;go_wp2_with fail;refine(yq A1 p c1 x w1 (s1.below b1) (by omega)).mono ?_;rintro e w2 ⟨v,rfl,hnum,b2⟩;go_wp2_with fail
 go_ret3
 exact⟨_,v,rfl,⟨none,0,0,x,rfl,Sl.none_ _ _ _ _,.inl rfl,rfl⟩,hnum,b1.trans (b2.mono b1.size)⟩
theorem tH (A B:OA)(n m c d:Nat)(x y:Nat->Nat)(w:World)(ha:Sl w A n c x)(hb:Sl w B m d y)(hn:n<=300000)(hm:m<=300000)(ht:2<=tl y m)(hle:vs ai y m<=vs ai x n):
 Calls oY 183 #[.slice A n c,.slice B m d] w (lB w (vs ai x n/vs ai y m) (vs ai x n%vs ai y m)):=by
 obtain⟨A1,c1,e1,s1⟩:=cm ha;obtain⟨B1,d1,e2,s2⟩:=cm hb;have l1:=cJ x n;have V1:=bn A n c x w ha (by omega);have V2:=bn B m d y w hb (by omega);have l2:=cJ y m;have cy:=fT y m;rw[e1]at V1;rw[e2]at V2;rw[← dK ai x n,← dK ai y m]at hle ⊢;clear e1 e2;generalize tl x n=p at *;generalize tl y m=q at *;obtain⟨k,rfl⟩:∃ k,q=k+2:=⟨q-2,by omega⟩;have hqp:k+2<=p:=ib fq cy (GO hle (bL s1.small))
 have htop:0 < y (k+1):=by
  rcases cy with h | h
  . omega
  . have:k+2-1=k+1:=by omega
    rw[this]at h;omega
 obtain⟨bd,rfl,_,_,_⟩:=s2.at_ (k:=0) (by omega);have V3:=ic A1 (some bd) p (k+2) c1 d1 x y w s1 s2 (by omega) (by omega)
 obtain⟨r,hr0,hr1⟩:∃ r:Nat,cQ (vs ai x p) (vs ai y (k+2))=(r:Int)/\r<=1:=by
  rcases Gk (vs ai y (k+2)) (vs ai x p) with h | h
  . exact⟨1,by rw[cO h];rfl,by omega⟩
  . exact⟨0,by rw[GZ h hle,eA];rfl,by omega⟩
 rw[hr0]at V3;clear hr0;have H1:=lY V1;have H2:=lY V2;have H3:=lY V3;clear V1 V2 V3 hle
 have L:Hid (∀ w1,Below w.heap.size w w1->Calls oY 196 #[.slice A1 p c1,.slice (some bd) (k+2) d1] w1 (uc w1 (vs ai x p/vs ai y (k+2)) (vs ai x p%vs ai y (k+2)))) :=
  lY fun w1 b1=>tL A1 bd p k c1 d1 x y w1 (s1.below b1) (s2.below b1) hqp (by omega) htop
 generalize vs ai x p/vs ai y (k+2)=Q at *;generalize vs ai x p%vs ai y (k+2)=R at *
 have hk0:((k:Int)+2 == 0)=false:=by simp;omega
 have hk1:((k:Int)+2 == 1)=false:=by simp;omega
 go_enter GU,GM;go_wp2_with fail;refine H1.out.mono ?_;rintro e w' ⟨rfl,rfl⟩;go_wp2_with fail;refine H2.out.mono ?_;rintro e w' ⟨rfl,rfl⟩;go_wp2_with fail;refine H3.out.mono ?_;rintro e w1 ⟨rfl,b1⟩;go_wp2_with fail;refine(L.out w1 b1).mono ?_;rintro e w2 ⟨v,u,rfl,n1,n2,b2⟩;go_wp2_with fail
 go_ret3
 exact⟨v,u,rfl,n1,n2,b1.trans (b2.mono b1.size)⟩
theorem oB (A B:OA)(n m c d:Nat)(x y:Nat->Nat)(w:World)(ha:Sl w A n c x)(hb:Sl w B m d y)(hn:n<=300000)(hm:m<=300000)(h0:0 < vs ai y m):
 Calls oY 183 #[.slice A n c,.slice B m d] w (lB w (vs ai x n/vs ai y m) (vs ai x n%vs ai y m)):=by
 rcases Gk (vs ai x n) (vs ai y m) with h | h
 . exact tI A B n m c d x y w ha hb (by omega) (by omega) h
 . rcases Gk (tl y m) 2 with h1 | h1
   . have h2:tl y m=1:=by
      have:tl y m≠0:=fun e=>by
       have h3:=dK ai y m;rw[e,aL]at h3;omega
      omega
     have l2:=cJ y m;exact tF A B n m c d x y w ha hb (by omega) (by omega) h2 h (lY fun hi lo u a1 a2 _=>qg hi lo (y 0) u a1 (hb.small 0 (by omega)) a2)
   . exact tH A B n m c d x y w ha hb hn hm h1 h
theorem am.sl' {v:Value}{K:Nat}(h:am w v V)(hK:V < ai^K):∃ A n c f,v=.slice A n c/\Sl w A n c f/\n<=K/\Cn n f/\vs ai f n=V:=by
 obtain⟨A,n,c,f,hv,hs,hc,he⟩:=h;exact⟨A,n,c,f,hv,hs,ib fq hc (by rw[he];exact hK),hc,he⟩
theorem xn (h:X < ai^n):X*2^k < ai^(n+(k/64+1)):=by
 have h1:(2:Nat)^k<=ai^(k/64+1):=by
  rw[bv,← Hi];exact Gy (by omega) (by omega)
 rw[Gn];exact Gp h h1 (Hg bm)
def rJ (t:TypeId)(w wr:World)(g N q:Nat)(x y:Nat->Nat)(i:Nat):Prop :=
 ∃ F,dG t wr g N F/\Below g w wr/\vs ai F (i+q)=vs ai x i*vs ai y q/\∀ j,i+q<=j->j < N->F j=0
theorem pP {w3:World}{xi cy:Nat}{F' x y:Nat->Nat}(hxi:x i=xi)(hb:Below g w wr)(hg:g < wr.heap.size)
 (hv:vs ai F (i+q)=vs ai x i*vs ai y q) (hz:∀ j,i+q<=j->j < N->F j=0) (h:eC t (ai-1) wr w3 g N i F F' (fun j=>xi*y j) q q cy) :
 rJ t w (w3.setCell ⟨g,i+q,none⟩ (.int .u64 ((cy:Nat):Int))) g N q x y (i+1):=by
 obtain⟨h1,h2,h3,h4,h5⟩:=h
 have hcy:cy < ai:=by have:=bm;omega
 refine⟨fF F' (i+q) cy,h2.set_ _ _ hcy,(az.below hb h3 (by omega) (ou _)).setCell (ou _) _,?_,fun j hj hjN=>?_⟩
 . have e1:i+1+q=i+q+1:=by omega
   rw[e1,aA,bO,dU _ _ _ _ _ (ou _),cW,aA,hxi,oM,← hv,cW ai F]
   have e2:vs ai F' i=vs ai F i:=bg fun j hj=>h4 j (by omega)
   rw[fl _ _ _ _ (ou _),ul]at h5
   have e3:ai^i*(vs ai (fun j=>F' (i+j)) q+cy*ai^q)=ai^i*(vs ai (fun j=>F (i+j)) q+xi*vs ai y q):=by rw[h5]
   rw[Gs,Gs]at e3
   have e4:cy*ai^(i+q)=ai^i*(cy*ai^q):=by rw[Gn];ac_rfl
   have e5:xi*ai^i*vs ai y q=ai^i*(xi*vs ai y q):=by ac_rfl
   omega
 . rw[aU _ _ _ _ (by omega),h4 j (by omega)];exact hz j (by omega) hjN
theorem sZ (A B:OA)(p q c d:Nat)(x y:Nat->Nat)(w:World)(s1:Sl w A p c x)(s2:Sl w B q d y)(hp:p<=q)(hq:q<=400000)(A0 B0:OA)(n m c0 d0:Nat)
 (sw:Bool)
 (H1:Hid (Calls oY 132 #[.slice A0 n c0] w fun e w'=>e=.returned (if sw then .slice B q d else .slice A p c)/\w=w'))
 (H2:Hid (Calls oY 132 #[.slice B0 m d0] w fun e w'=>e=.returned (if sw then .slice A p c else .slice B q d)/\w=w')) (hsw:sw=true->p < q) :
 Calls oY 80 #[.slice A0 n c0,.slice B0 m d0] w (cU w (vs ai x p*vs ai y q)):=by
 have hmk:∀ u:World,(Instr.makeSlice 22 (.int .i64 ((p:Int)+(q:Int))) (.int .i64 ((p:Int)+(q:Int)))).run oY u =
  .ok (.slice (some ⟨u.heap.size,0,none⟩) (p+q) (p+q)) (u.alloc (.cells (madeCells #[.int .u64 0] (p+q)) 51)):=fun u=>by
  have h:=ec (p+q) (by omega) u;rw[Int.natCast_add]at h;exact h
 have hrow:=dG.made 51 w (p+q)
 have h00:rJ 51 w (w.alloc (.cells (madeCells #[.int .u64 0] (p+q)) 51)) w.heap.size (p+q) q x y 0 :=
  ⟨_,hrow,(Below.refl _ w).alloc (ou _) _,by
   rw[aL,Gt,Bl]
   have:∀ k,vs ai (fun _=>0) k=0:=fun k=>by induction k with | zero=>rfl | succ k ih=>rw[aA,ih];simp
   exact this q,fun _ _ _=>rfl⟩
 generalize hN:p+q=N at *;have HN:=lY hN
 have hN1:p+q<=N:=by omega
 have hN2:N<=p+q:=by omega
 clear hN hrow;cases sw
 . have hlt:¬ q < p:=by omega
   simp only[Bool.false_eq_true,if_false]at H1 H2;clear hsw;go_enter Hj,He;go_wp2_with fail;refine H1.out.mono ?_;rintro e w' ⟨rfl,rfl⟩;go_wp2_with fail;refine H2.out.mono ?_;rintro e w' ⟨rfl,rfl⟩;go_wp2_with fail
   go_loopw [28] (fun i wr=>∃ k:Nat,k<=p/\i=.int .i64 ((k:Nat):Int)/\rJ 51 w wr w.heap.size N q x y k) (fun i _=>p-(intOf i).toNat)
   case atStart=>exact⟨0,GK _,rfl,h00⟩
   case round =>
    obtain⟨k,hk,rfl,F,hrow,hbw,hv,hz⟩:=hrel;have hv':=lY hv;have hz':=lY hz;clear hv hz h00
    by_cases hlt2:k < p
    . obtain⟨ad,rfl,hb,hx64,hcell⟩:=(s1.below hbw).at_ hlt2
      go_wp2_with fail;refine(lz w.heap.size k q (N-k) N F B q d y (x k) wr hrow (by omega) (by omega) (by omega) (s2.below hbw) (ou _) (s2.far (ou _)) hx64).mono ?_;rintro e w3 ⟨F',cy,rfl,hinv⟩;have hrc:=hinv.2.1.cell (i:=k+q) (by omega);have hrf:=hinv.2.1.frozen (k+q);go_wp2_with fail;go_roundw
      case rel=>exact⟨k+1,by omega,by go_num,pP rfl hbw hrow.lt hv'.out hz'.out hinv⟩
      case measure=>simp[intOf];omega
    . obtain rfl:k=p:=by omega
      go_wp2_with fail;refine(bn _ N N _ wr (hrow.sl0 N N (ou _) (ou _)) (by omega)).mono ?_;rintro e w5 ⟨rfl,rfl⟩;go_wp2_with fail;go_ret;have hnum:=eE (hrow.sl0 N N (ou _) (ou _));rw[← HN.out,hv'.out,HN.out]at hnum;exact⟨_,rfl,hnum,hbw⟩
 . have hlt:p < q:=hsw rfl
   simp only[if_true]at H1 H2;clear hsw;go_enter Hj,He;go_wp2_with fail;refine H1.out.mono ?_;rintro e w' ⟨rfl,rfl⟩;go_wp2_with fail;refine H2.out.mono ?_;rintro e w' ⟨rfl,rfl⟩;go_wp2_with fail
   go_loopw [28] (fun i wr=>∃ k:Nat,k<=p/\i=.int .i64 ((k:Nat):Int)/\rJ 51 w wr w.heap.size N q x y k) (fun i _=>p-(intOf i).toNat)
   case atStart=>exact⟨0,GK _,rfl,h00⟩
   case round =>
    obtain⟨k,hk,rfl,F,hrow,hbw,hv,hz⟩:=hrel;have hv':=lY hv;have hz':=lY hz;clear hv hz h00
    by_cases hlt2:k < p
    . obtain⟨ad,rfl,hb,hx64,hcell⟩:=(s1.below hbw).at_ hlt2
      go_wp2_with fail;refine(lz w.heap.size k q (N-k) N F B q d y (x k) wr hrow (by omega) (by omega) (by omega) (s2.below hbw) (ou _) (s2.far (ou _)) hx64).mono ?_;rintro e w3 ⟨F',cy,rfl,hinv⟩;have hrc:=hinv.2.1.cell (i:=k+q) (by omega);have hrf:=hinv.2.1.frozen (k+q);go_wp2_with fail;go_roundw
      case rel=>exact⟨k+1,by omega,by go_num,pP rfl hbw hrow.lt hv'.out hz'.out hinv⟩
      case measure=>simp[intOf];omega
    . obtain rfl:k=p:=by omega
      go_wp2_with fail;refine(bn _ N N _ wr (hrow.sl0 N N (ou _) (ou _)) (by omega)).mono ?_;rintro e w5 ⟨rfl,rfl⟩;go_wp2_with fail;go_ret;have hnum:=eE (hrow.sl0 N N (ou _) (ou _));rw[← HN.out,hv'.out,HN.out]at hnum;exact⟨_,rfl,hnum,hbw⟩
theorem BL (A B:OA)(n m c d:Nat)(x y:Nat->Nat)(w:World)(ha:Sl w A n c x)(hb:Sl w B m d y)(hn:n<=400000)(hm:m<=400000):
 Calls oY 80 #[.slice A n c,.slice B m d] w (cU w (vs ai x n*vs ai y m)):=by
 obtain⟨A1,c1,e1,s1⟩:=cm ha;obtain⟨B1,d1,e2,s2⟩:=cm hb;have l1:=cJ x n;have l2:=cJ y m;have V1:=bn A n c x w ha (by omega);have V2:=bn B m d y w hb (by omega);rw[e1]at V1;rw[e2]at V2;rw[← dK ai x n,← dK ai y m];clear e1 e2;generalize tl x n=p at *;generalize tl y m=q at *
 by_cases h:p<=q
 . exact sZ A1 B1 p q c1 d1 x y w s1 s2 h (by omega) A B n m c d false (lY V1) (lY V2) (fun h=>by cases h)
 . rw[DE]
   exact sZ B1 A1 q p d1 c1 y x w s2 s1 (by omega) (by omega) A B n m c d true (lY V1) (lY V2) (fun _=>by omega)
theorem Cj {B:Nat}(hB:fE V B)(hV:V < ai^n):B<=64*n:=by
 rcases qK V with h0 | h0
 . have:=hB.2.1 h0;omega
 . have h1:=(hB.2.2 (by omega)).2
   rw[bv,← Hi]at hV
   have:=(Nat.pow_lt_pow_iff_right (by omega:1 < 2)).1 (GO h1 hV)
   omega
end Go.Proofs.YtmbmohibpkepdaaGreatDoor
