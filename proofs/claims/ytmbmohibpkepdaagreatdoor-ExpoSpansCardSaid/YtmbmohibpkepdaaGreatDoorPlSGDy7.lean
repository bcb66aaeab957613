import Derived.Test.YtmbmohibpkepdaaGreatDoorPlSGDy5
set_option maxRecDepth 8000
set_option maxHeartbeats 4000000
open Go.Lib renaming hid->lY
open Go.Proofs.Tryz renaming results98->mF
open Nat renaming mul_assoc->ou, add_mul_mod_self_left->oM, div_div_eq_div_mul->oY, add_mul_div_left->qK, eq_zero_or_pos->tz, lt_of_le_of_lt->yb, pow_add->Bl, two_pow_pos->Bx, pow_zero->DE, zero_le->DF, le_refl->EM
namespace Go.Proofs.YtmbmohibpkepdaaGreatDoor
open Go.RowKit
theorem Aq (f:Nat->Nat)(p z:Nat)(hf:∀ j,j < p->f j < ai)(hz:z/64 < p):f (z/64)/2^(z%64)%2=vs ai f p/2^z%2:=by
 obtain⟨q,hq⟩:∃ q,p=z/64+(q+1):=⟨p-z/64-1,by omega⟩
 have h1:vs ai f (z/64) < ai^(z/64):=bL fun j hj=>hf j (by omega)
 rw[gu z,← oY,hq,cW,qK _ _ (Nat.pow_pos bm),Nat.div_eq_of_lt h1,Nat.zero_add,fv]
 have hr:z%64<=63:=by omega
 generalize z%64=r at *;rw[Nat.add_zero];generalize vs ai (fun j=>f (z/64+(j+1))) q=T;rw[bv,show(2:Nat)^64=2^r*(2*2^(63-r)) by rw[← Nat.pow_succ',← Bl];congr 1;omega,ou,qK _ _ (Bx r),ou,oM]
theorem tB {V z:Nat}(h0:0 < V)(hz:z<=v2 V):V/2^z%2=(if z < v2 V then 0 else 1):=by
 obtain⟨h1,h2⟩:=eP h0
 have e:V/2^z=od V*2^(v2 V-z):=by
  have:V=od V*2^(v2 V-z)*2^z:=by rw[ou,← Bl,Nat.sub_add_cancel hz];exact h1
  exact Nat.div_eq_of_eq_mul_left (Bx z) this
 rw[e]
 by_cases h:z < v2 V
 . rw[if_pos h,show v2 V-z=(v2 V-z-1)+1 by omega,Nat.pow_succ,← ou,Nat.mul_mod_left]
 . rw[if_neg h,show v2 V-z=0 by omega,DE,Nat.mul_one];exact h2
theorem Cx {V p:Nat}(h0:0 < V)(h:V < ai^p):v2 V < 64*p:=by
 obtain⟨h1,h2⟩:=eP h0;rw[bv,← Nat.pow_mul]at h;have h3:1*2^v2 V<=od V*2^v2 V:=Nat.mul_le_mul_right _ (jc h0);exact(Nat.pow_lt_pow_iff_right (by omega:1 < 2)).1 (by omega)
theorem zn {neg:Bool}{n:Nat}{f:Nat->Nat}{V:Nat}{e:Int}(h0:0 < V)(hc:Cn n f)(hv:vs ai f n=od V):aj neg n f e=(decide (nb (od V)<=MB) && decide (cR e)):=by
 have h1:=(eP h0).2
 have hn:n≠0:=fun e=>by subst e;rw[aL]at hv;omega
 obtain⟨m,rfl⟩:∃ m,n=m+1:=⟨n-1,by omega⟩
 have h2:f 0%2=1:=by
  rw[← hv,fv,bv,show(2:Nat)^64=2*2^63 by decide,ou,oM]at h1;exact h1
 have h3:f m≠0:=by
  rcases hc with h | h
  . omega
  . simpa using h
 unfold aj;rw[if_neg (by omega),hv]
 simp[h2,h3]
theorem jC (neg:Bool)(A:OA)(n c:Nat)(x:Nat->Nat)(e:Int)(w:World)(ha:Sl w A n c x)(hn:n<=16000)(hT:bx w)(he1:-9223372036854775808<=e)(he2:e<=9223372036854775807):
 Calls Tryz.prog 98 #[.bool neg,.slice A n c,.int .i64 e] w (fI w (bH neg (vs ai x n) e)):=by
 have S:=F1.start w hT;have KX:=lY (bL ha.small);go_enter Tryz.func98,Tryz.ntmps98;go_wp2_with fail;generalize w.alloc (.cells #[.bool false,.slice none 0 0,.int .i64 0] 24)=w1 at *;refine(eO A n c x w1 (ha.below S.bel) (by omega)).mono ?_;rintro e' w2 ⟨v2',rfl,n2,b⟩;have F:=S.adv b S.sz;clear S b;generalize vs ai x n=V at *;obtain⟨B,p,d,f,rfl,sf,lp,cf,ef⟩:=n2.sl' KX.out;clear n2 ha;obtain⟨cr0,cr1,cr2⟩:=F.kr.cell;obtain⟨fr0,fr1,fr2⟩:=F.kr.frozen
 rcases tz V with h0 | h0
 . subst h0
   obtain rfl:p=0:=jZ bm cf ef;go_wp2_with fail;rw[zD];refine bodyPost_ret (v:=.tuple #[.agg #[.bool false,.slice none 0 0,.int .i64 0],.bool true]) (by simp[results,mF,go_sem,cr0,cr1,cr2]) rfl ⟨_,rfl,aq _,ak F.bel (by omega) F.bel.size _ _ _⟩
 . have hp0:p≠0:=fun e=>by subst e;rw[aL]at ef;omega
   have hpb:((p:Int) == 0)=false:=by simp;omega
   have hvp:v2 V < 64*p:=Cx h0 (by rw[← ef];exact bL sf.small)
   have BIT:Hid (∀ z,z<=v2 V->f (z/64)/2^(z%64)%2=if z < v2 V then 0 else 1):=lY (fun z hz=>by
    rw[Aq f p z sf.small (by omega),ef];exact tB h0 hz)
   obtain⟨Z,hZ⟩:∃ Z,Hid (Z=v2 V):=⟨_,lY rfl⟩;rw[← hZ.out]at hvp BIT;go_wp2_with fail
   go_loop [9] (fun s9=>∃ z:Nat,z<=Z/\s9=.int .i64 (z:Int)) (fun s9=>Z-(intOf s9).toNat)
   case atStart=>exact⟨0,DF _,rfl⟩
   case round =>
    obtain⟨z,hz,rfl⟩:=hrel;obtain⟨ad,rfl,hab,hx64,hcell⟩:=sf.at_ (k:=z/64) (by omega);have hbit:=BIT.out z hz;obtain⟨q,hq⟩:∃ q:Nat,(z:Int)/64=(q:Int)/\Hid (q=z/64):=⟨z/64,by omega,lY rfl⟩;obtain⟨r,hr⟩:∃ r:Nat,(z:Int)%64=(r:Int)/\Hid (r=z%64):=⟨z%64,by omega,lY rfl⟩;obtain⟨hq1,hq2⟩:=hq;obtain⟨hr1,hr2⟩:=hr
    have hr64:r < 64:=by have:=hr2.out;omega
    have hqp:q < p:=by have:=hq2.out;omega
    rw[← hq2.out]at hcell hx64 hbit;rw[← hr2.out]at hbit;have hsh:=fU (f q) r;generalize f q=y at *
    have hrem:((y/2^r:Nat):Int)%2=((y/2^r%2:Nat):Int):=by omega
    rw[hbit]at hrem;generalize y/2^r=y2 at *;clear hbit
    by_cases hlt:z < Z
    . rw[if_pos hlt]at hrem
      go_wp2_with fail
      go_round
      case rel=>exact⟨z+1,by omega,by go_num⟩
      case measure=>simp[intOf];omega
    . rw[if_neg hlt]at hrem
      obtain rfl:z=Z:=by omega
      have hZn:z<=1024000:=by omega
      have SP:Hid (bH neg V e=if nb (od V)<=MB/\cR (e+(z:Int)) then⟨true,neg,od V,e+(z:Int)⟩ else DR.no):=lY (by unfold bH;rw[if_neg (by omega),← hZ.out]);have OD:Hid (od V=V/2^z):=lY (by unfold od;rw[← hZ.out]);clear hlt hz BIT
      by_cases hE1:e<=262144
      . by_cases hE2:-1000000000<=e
        . have KV:Hid (V < ai^n):=KX
          have KO:Hid (od V < ai^n):=lY (yb (pN V) KV.out);go_wp2_with fail
          go_loopw [8,10] (fun s8 s10 wr=>∃ (k:Nat) (L:OA) (l cl:Nat) (g:Nat->Nat),k<=z/\s10=.int .i64 (k:Int)/\s8=.slice L l cl/\Sl wr L l cl g/\l<=n/\Cn l g/\Hid (vs ai g l=V/2^(z-k))/\F1 w wr) (fun _ s10 _=>(intOf s10).toNat)
          case atStart=>exact⟨z,some ad,p,d,f,EM _,rfl,rfl,sf,lp,cf,lY (by rw[Nat.sub_self,DE,Nat.div_one];exact ef),F⟩
          case round =>
           clear cr0 cr1 cr2 fr0 fr1 fr2 F sf cf ef hrem hsh hq1 hr1 hpb hcell hab;obtain⟨k,L,l1,cl,g,hk,rfl,rfl,sg,hl,cg,eg,F⟩:=hrel
           rcases tz k with hk0 | hk0
           . subst hk0
             rw[Nat.sub_zero]at eg;have HPL:=lY (zn (neg:=neg) (e:=e+(z:Int)) h0 cg (eg.out.trans OD.out.symm));have bA:Below wr.heap.size wr (wr.alloc (.cells #[.bool neg,.slice L l1 cl,.int .i64 (e+(z:Int))] 24)):=(Below.refl _ wr).alloc (EM _) _;have FA:=F.adv bA F.sz;have PL:=dr neg L l1 cl g (e+(z:Int)) _ (sg.below bA) (by omega);rw[HPL.out]at PL;have HPP:=lY PL;have kA:=cA.made wr (.bool neg) (.slice L l1 cl) (.int .i64 (e+(z:Int)))
             have hgs:wr.heap.size < (wr.alloc (.cells #[.bool neg,.slice L l1 cl,.int .i64 (e+(z:Int))] 24)).heap.size:=by simp
             have szA:=FA.sz;clear PL;go_wp2_with fail;refine HPP.out.mono ?_;rintro e' w4 ⟨rfl,b⟩;have F4:=FA.adv b szA;have s4:=(sg.below bA).below b;obtain⟨ka0,ka1,ka2⟩:=(kA.below b hgs).cell;clear b HPP bA FA kA hgs szA F
             by_cases hok:nb (od V)<=MB/\cR (e+(z:Int))
             . have HYES:=lY (SP.out.trans (if_pos hok))
               rw[show(decide (nb (od V)<=MB) && decide (cR (e+(z:Int))))=true by simp[hok.1,hok.2]];obtain⟨zr0,zr1,zr2⟩:=F4.kr.cell;obtain⟨yr0,yr1,yr2⟩:=F4.kr.frozen;have nL:am w4 (.slice L l1 cl) (od V):=⟨L,l1,cl,g,rfl,s4,cg,eg.out.trans OD.out.symm⟩;go_wp2_with fail;rw[HYES.out]
               refine bodyPost_ret (v:=.tuple #[.agg #[.bool neg,.slice L l1 cl,.int .i64 (e+(z:Int))],.bool true]) (by simp[results,mF,go_sem,zr0,zr1,zr2]) rfl
                ⟨_,rfl,am.put3 nL F4.kr (aD _) (av _ _ _) (aI _) _ _ _,ak F4.bel (by omega) F4.bel.size _ _ _⟩
             . have HNO:=lY (SP.out.trans (if_neg hok))
               rw[show(decide (nb (od V)<=MB) && decide (cR (e+(z:Int))))=false by simpa using fun h1 h2=>hok ⟨h1,h2⟩];obtain⟨zr0,zr1,zr2⟩:=F4.kr.cell;obtain⟨yr0,yr1,yr2⟩:=F4.kr.frozen;go_wp2_with fail;rw[HNO.out];refine bodyPost_ret (v:=.tuple #[.agg #[.bool false,.slice none 0 0,.int .i64 0],.bool false]) (by simp[results,mF,go_sem,zr0,zr1,zr2]) rfl ⟨_,rfl,aq _,ak F4.bel (by omega) F4.bel.size _ _ _⟩
           . have hmin:min (k:Int) 1048576=(k:Int):=by omega
             have RS:=sC L l1 cl g k wr sg (by omega) (by omega);rw[eg.out,oY,← Bl,show z-k+k=z-0 by omega]at RS;have HRS:=lY RS;clear RS
             have hkp:(0:Int) < (k:Int):=by omega
             go_wp2_with fail;refine HRS.out.mono ?_;rintro e' w4 ⟨v4,rfl,n4,b⟩;have F4:=F.adv b F.sz;obtain⟨L4,l4,cl4,g4,rfl,s4,lp4,cn4,e4⟩:=n4.sl' (yb (Nat.div_le_self _ _) KV.out);clear b HRS F sg n4;go_wp2_with fail;go_roundw
             case rel=>exact⟨0,L4,l4,cl4,g4,DF _,by go_num,rfl,s4,lp4,cn4,lY e4,F4⟩
             case measure=>first | (simp[intOf];done) | (simp[intOf];omega)
        . have HNO:=lY (SP.out.trans (if_neg (fun h=>by have:=h.2.1;omega)))
          obtain⟨zr0,zr1,zr2⟩:=F.kr.cell;obtain⟨yr0,yr1,yr2⟩:=F.kr.frozen;go_wp2_with fail;rw[HNO.out];refine bodyPost_ret (v:=.tuple #[.agg #[.bool false,.slice none 0 0,.int .i64 0],.bool false]) (by simp[results,mF,go_sem,zr0,zr1,zr2]) rfl ⟨_,rfl,aq _,ak F.bel (by omega) F.bel.size _ _ _⟩
      . have HNO:=lY (SP.out.trans (if_neg (fun h=>by have:=h.2.2;omega)))
        obtain⟨zr0,zr1,zr2⟩:=F.kr.cell;obtain⟨yr0,yr1,yr2⟩:=F.kr.frozen;go_wp2_with fail;rw[HNO.out];refine bodyPost_ret (v:=.tuple #[.agg #[.bool false,.slice none 0 0,.int .i64 0],.bool false]) (by simp[results,mF,go_sem,zr0,zr1,zr2]) rfl ⟨_,rfl,aq _,ak F.bel (by omega) F.bel.size _ _ _⟩
end Go.Proofs.YtmbmohibpkepdaaGreatDoor
