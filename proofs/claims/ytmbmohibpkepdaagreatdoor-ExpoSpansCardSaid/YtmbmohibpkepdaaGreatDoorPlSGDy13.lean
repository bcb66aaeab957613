import Derived.BigQuiet
import Derived.Test.YtmbmohibpkepdaaGreatDoorPlSGDy11
set_option maxRecDepth 8000
set_option maxHeartbeats 8000000
open Go.Lib renaming hid->lY
open Nat renaming eq_zero_or_pos->mF, add_zero->oM, mul_le_mul_right->tz, two_pow_pos->yb, pow_add->DF, sub_le->Gk, mul_pos->Gl, zero_le->Gm, mul_assoc->Gp, zero_add->Gq, zero_mul->Gr, le_trans->Gs, sub_mul->Gt
open Go.Proofs.Tryz renaming results150->ou, prog->Bl, results83->Bx, results103->DE, results181->Gn
open Bool renaming false_eq_true->oY, true_eq_false->qK, true_and->EM
namespace Go.Proofs.YtmbmohibpkepdaaGreatDoor
open Go.RowKit
variable {g j:Nat} {hi lo:Int} {w w1:World}
def fZ (neg:Bool)(V:Nat)(e:Int):DR:=if V=0 then .zero else⟨true,neg,od V,e+(v2 V:Int)⟩
theorem gB (neg:Bool)(e:Int):fZ neg 0 e=.zero:=rfl
theorem qr (neg:Bool)(V z:Nat)(e:Int):fZ neg (V*2^z) (e-(z:Int))=fZ neg V e:=by
 unfold fZ
 rcases mF V with h | h
 . subst h;simp
 . obtain⟨h1,h2⟩:=zu V z h
   have h3:¬ V*2^z=0:=by have:=Gl h (yb z);omega
   rw[h1,h2,if_neg h3,if_neg (by omega:¬ V=0)];rw[show e-(z:Int)+((v2 V+z:Nat):Int)=e+(v2 V:Int) by omega]
theorem zE (neg:Bool)(V:Nat)(e:Int):bH neg V e=if aR (fZ neg V e).neg (fZ neg V e).m (fZ neg V e).e then fZ neg V e else DR.no:=by
 unfold bH fZ
 rcases mF V with h | h
 . subst h;rfl
 . obtain⟨g1,g2⟩:=eP h
   have hp:=jc h
   have h0:¬ V=0:=by omega
   simp only[h0,if_false];unfold aR;rw[if_neg (show ¬ od V=0 by omega),show decide (od V%2=1)=true by simp[g2],EM]
   by_cases hc:nb (od V)<=MB/\cR (e+(v2 V:Int))
   . rw[if_pos hc];simp[hc.1,hc.2]
   . rw[if_neg hc]
     have:(decide (nb (od V)<=MB) && decide (cR (e+(v2 V:Int))))=false:=by simpa using fun h1 h2=>hc ⟨h1,h2⟩
     rw[this];simp
def fg (w:World)(r:DR)(e:Ending)(w':World):Prop:=∃ A p c,e=.returned (.agg #[.bool r.neg,.slice A p c,.int .i64 r.e])/\am w' (.slice A p c) r.m/\Below w.heap.size w w'
theorem kE {V:Nat}(h:0 < V):v2 V < nb V:=by
 obtain⟨g1,g2⟩:=eP h;have e1:1*2^v2 V<=od V*2^v2 V:=tz _ (jc h);have e2:=dZ V;exact(Nat.pow_lt_pow_iff_right (by omega:1 < 2)).1 (by omega)
theorem eY (neg:Bool)(A:OA)(n c V:Nat)(e:Int)(w:World)(ha:am w (.slice A n c) V)(hV:nb V<=1000000)(hT:bx w)(he1:-1000000000<=e)(he2:e<=1000000000):
 Calls Bl 181 #[.bool neg,.slice A n c,.int .i64 e] w (fg w (fZ neg V e)):=by
 have S:=F1.start w hT;have TR:=lY (Ds _ (ha.below S.bel) (by omega));go_enter Tryz.func181,Tryz.ntmps181;go_wp2_with fail;generalize w.alloc (.cells #[.bool false,.slice none 0 0,.int .i64 0] 24)=w1 at *;refine TR.out.mono ?_;rintro e' w2 ⟨B,p,d,rfl,n2,b⟩;have F:=S.adv b S.sz;clear S b TR ha;have lp:=n2.len 15625 (by omega);obtain⟨_,_,_,f,hh,sf,cf,ef⟩:=id n2;cases hh;obtain⟨cr0,cr1,cr2⟩:=F.kr.cell;obtain⟨fr0,fr1,fr2⟩:=F.kr.frozen
 rcases mF V with h0 | h0
 . subst h0
   obtain rfl:p=0:=jZ bm cf ef;go_wp2_with fail;rw[gB];refine bodyPost_ret (v:=.agg #[.bool false,.slice none 0 0,.int .i64 0]) (by simp[results,Gn,go_sem,cr0,cr1,cr2]) rfl ⟨none,0,0,rfl,aq _,ak F.bel (by omega) F.bel.size _ _ _⟩
 . have hp0:p≠0:=fun e=>by subst e;rw[aL]at ef;omega
   have hpb:((p:Int) == 0)=false:=by simp;omega
   have hvp:v2 V < 64*p:=Cx h0 (by rw[← ef];exact bL sf.small);have hvn:=kE h0
   have BIT:Hid (∀ z,z<=v2 V->f (z/64)/2^(z%64)%2=if z < v2 V then 0 else 1):=lY (fun z hz=>by
    rw[Aq f p z sf.small (by omega),ef];exact tB h0 hz)
   have HYES:Hid (fZ neg V e=⟨true,neg,V/2^v2 V,e+(v2 V:Int)⟩):=lY (by unfold fZ;rw[if_neg (by omega)];rfl);obtain⟨Z,hZ⟩:∃ Z,Hid (Z=v2 V):=⟨_,lY rfl⟩;rw[← hZ.out]at hvp BIT HYES hvn;go_wp2_with fail
   go_loop [8] (fun s8=>∃ z:Nat,z<=Z/\s8=.int .i64 (z:Int)) (fun s8=>Z-(intOf s8).toNat)
   case atStart=>exact⟨0,Gm _,rfl⟩
   case round =>
    obtain⟨z,hz,rfl⟩:=hrel;obtain⟨ad,rfl,hab,hx64,hcell⟩:=sf.at_ (k:=z/64) (by omega);have hbit:=BIT.out z hz;obtain⟨q,hq⟩:∃ q:Nat,(z:Int)/64=(q:Int)/\Hid (q=z/64):=⟨z/64,by omega,lY rfl⟩;obtain⟨r,hr⟩:∃ r:Nat,(z:Int)%64=(r:Int)/\Hid (r=z%64):=⟨z%64,by omega,lY rfl⟩;obtain⟨hq1,hq2⟩:=hq;obtain⟨hr1,hr2⟩:=hr
    have hr64:r < 64:=by have:=hr2.out;omega
    have hqp:q < p:=by have:=hq2.out;omega
    rw[← hq2.out]at hcell hx64 hbit;rw[← hr2.out]at hbit;have hsh:=fU (f q) r;generalize f q=y at *
    have hrem:((y/2^r:Nat):Int)%2=((y/2^r%2:Nat):Int):=by omega
    rw[hbit]at hrem;generalize y/2^r=y2 at *;clear hbit
    by_cases hlt:z < Z
    . rw[if_pos hlt]at hrem
      go_wp2_with fail
      go_round
      case rel=>exact⟨z+1,by omega,by go_num⟩
      case measure=>simp[intOf];omega
    . rw[if_neg hlt]at hrem
      obtain rfl:z=Z:=by omega
      have hzn:z<=1000000:=by omega
      have SR:=lY (yN (s:=z) w2 n2 (by omega) (by omega));clear hlt hz BIT hZ hvn;go_wp2_with fail;refine SR.out.mono ?_;rintro e' w9 ⟨A9,p9,c9,rfl,n9,b9⟩;have F9:=F.adv b9 F.sz;clear b9 F SR cr0 cr1 cr2 fr0 fr1 fr2;obtain⟨cF0,cF1,cF2⟩:=F9.kr.cell;obtain⟨fF0,fF1,fF2⟩:=F9.kr.frozen;go_wp2_with fail;rw[HYES.out]
      refine bodyPost_ret (v:=.agg #[.bool neg,.slice A9 p9 c9,.int .i64 (e+(z:Int))]) (by simp[results,Gn,go_sem,cF0,cF1,cF2]) rfl
       ⟨A9,p9,c9,rfl,n9.put3 F9.kr (aD _) (av _ _ _) (aI _) _ _ _,ak F9.bel (by omega) F9.bel.size _ _ _⟩
theorem lW {X Y K:Nat}(h1:nb X<=K)(h2:nb Y<=K):nb (X+Y)<=K+1:=by
 refine(bi _ _).2 ?_;have h1:=(bi X K).1 h1;have h2:=(bi Y K).1 h2;rw[Nat.pow_succ];omega
def gU (na nb':Bool)(Va Vb:Nat)(ea eb:Int):DR :=
 if 0 < dS Va Vb ea eb/\0 < dV Va Vb ea eb/\na≠nb' then
  (if dV Va Vb ea eb<=dS Va Vb ea eb then fZ na (dS Va Vb ea eb-dV Va Vb ea eb) (eH Va Vb ea eb) else fZ nb' (dV Va Vb ea eb-dS Va Vb ea eb) (eH Va Vb ea eb))
 else fZ (na || (decide (dS Va Vb ea eb=0) && nb')) (dS Va Vb ea eb+dV Va Vb ea eb) (eH Va Vb ea eb)
theorem ua (na nb':Bool)(A B:OA)(n c m d Va Vb:Nat)(ea eb:Int)(w:World)(ha:am w (.slice A n c) Va)(hb:am w (.slice B m d) Vb)(hVa:nb Va<=1000000)(hVb:nb Vb<=1000000)
 (ea1:-400000<=ea) (ea2:ea<=600000) (eb1:-400000<=eb) (eb2:eb<=600000) (hX9:nb (dS Va Vb ea eb)<=900000) (hY9:nb (dV Va Vb ea eb)<=900000) (hT:bx w) :
 Calls Bl 150 #[aP na A n c ea,aP nb' B m d eb] w (fg w (gU na nb' Va Vb ea eb)):=by
 have S:=F3.start w na A n c ea nb' B m d eb hT;have SD:=lY (px na nb' A B n c m d Va Vb ea eb _ (ha.below S.bel) (hb.below S.bel) hVa hVb ea1 ea2 eb1 eb2)
 have hE:-400000<=eH Va Vb ea eb/\eH Va Vb ea eb<=600000:=by
  unfold eH
  split
  . omega
  . split <;> omega
 go_enter Tryz.func150,Tryz.ntmps150;go_wp2_with fail;generalize((w.alloc (.cells #[.bool na,.slice A n c,.int .i64 ea] 24)).alloc (.cells #[.bool nb',.slice B m d,.int .i64 eb] 24)).alloc (.cells #[.bool false,.slice none 0 0,.int .i64 0] 24)=w1 at *;refine SD.out.mono ?_;rintro e' w2 ⟨A4,p4,c4,A5,p5,c5,rfl,n4,n5,b⟩;have F:=S.adv b;clear S b SD ha hb hVa hVb ea1 ea2 eb1 eb2 hT;have HD:Hid (gU na nb' Va Vb ea eb=gU na nb' Va Vb ea eb):=lY rfl;have HA:Hid (∀ X Y E,dS Va Vb ea eb=X->dV Va Vb ea eb=Y->eH Va Vb ea eb=E->gU na nb' Va Vb ea eb=if 0 < X/\0 < Y/\na≠nb' then(if Y<=X then fZ na (X-Y) E else fZ nb' (Y-X) E) else fZ (na || (decide (X=0) && nb')) (X+Y) E):=lY (fun X Y E h1 h2 h3=>by subst h1;subst h2;subst h3;rfl);generalize hX:dS Va Vb ea eb=X at *;generalize hY:dV Va Vb ea eb=Y at *;generalize hEE:eH Va Vb ea eb=E at *;have HADD:=lY (HA.out X Y E rfl rfl rfl);clear HA hX hY hEE HD;generalize gU na nb' Va Vb ea eb=R at *;have lx:=n4.len 14063 (by omega);have ly:=n5.len 14063 (by omega);have zx:=n4.empty;have zy:=n5.empty;have AD:=lY (yZ w2 n4 n5 (by omega) (by omega));have hsum:nb (X+Y)<=900001:=lW hX9 hY9;go_wp2_with fail;refine AD.out.mono ?_;rintro e' w3 ⟨A6,p6,c6,rfl,n6,b⟩;have F3':=F.adv b;have n43:=n4.below b;have n53:=n5.below b;clear F b AD n4 n5;obtain⟨ca0,ca1,ca2⟩:=F3'.ka.cell;obtain⟨cb0,cb1,cb2⟩:=F3'.kb.cell
 by_cases hx0:p4=0
 . have hX0:=zx.1 hx0
   subst hX0;subst hx0;rw[Gq]at n6 hsum;cases na
   . skip
     have HYES:=lY (HADD.out.trans (show _=fZ nb' (Y) E by simp));have WI:=lY (eY nb' A6 p6 c6 (Y) E w3 n6 (by omega) F3'.tab (by omega) (by omega));clear HADD n43 n53;go_wp2_with fail;refine WI.out.mono ?_;rintro e' w9 ⟨A9,p9,c9,rfl,n9,b9⟩;have F9:=F3'.adv b9;clear b9 F3' ca0 ca1 ca2 cb0 cb1 cb2 WI;obtain⟨cF0,cF1,cF2⟩:=F9.kr.cell;obtain⟨fF0,fF1,fF2⟩:=F9.kr.frozen;generalize fZ nb' (Y) E=r at *;go_wp2_with fail;rw[HYES.out]
     refine bodyPost_ret (v:=.agg #[.bool r.neg,.slice A9 p9 c9,.int .i64 r.e]) (by simp[results,ou,go_sem,cF0,cF1,cF2]) rfl
      ⟨A9,p9,c9,rfl,n9.put3 F9.kr (aD _) (av _ _ _) (aI _) _ _ _,ak F9.bel (by omega) F9.bel.size _ _ _⟩
   . skip
     have HYES:=lY (HADD.out.trans (show _=fZ true (Y) E by simp));have WI:=lY (eY true A6 p6 c6 (Y) E w3 n6 (by omega) F3'.tab (by omega) (by omega));clear HADD n43 n53;go_wp2_with fail;refine WI.out.mono ?_;rintro e' w9 ⟨A9,p9,c9,rfl,n9,b9⟩;have F9:=F3'.adv b9;clear b9 F3' ca0 ca1 ca2 cb0 cb1 cb2 WI;obtain⟨cF0,cF1,cF2⟩:=F9.kr.cell;obtain⟨fF0,fF1,fF2⟩:=F9.kr.frozen;generalize fZ true (Y) E=r at *;go_wp2_with fail;rw[HYES.out]
     refine bodyPost_ret (v:=.agg #[.bool r.neg,.slice A9 p9 c9,.int .i64 r.e]) (by simp[results,ou,go_sem,cF0,cF1,cF2]) rfl
      ⟨A9,p9,c9,rfl,n9.put3 F9.kr (aD _) (av _ _ _) (aI _) _ _ _,ak F9.bel (by omega) F9.bel.size _ _ _⟩
 . have hX0:0 < X:=by
    rcases mF X with h | h
    . exact absurd (zx.2 h) hx0
    . exact h
   have hxb:((p4:Int) == 0)=false:=by simp;omega
   have hx1:(0:Int) < (p4:Int):=by omega
   have HNG:Hid ((na || (decide (X=0) && nb'))=na):=lY (by rw[show decide (X=0)=false by simp;omega];simp)
   by_cases hy0:p5=0
   . have hY0:=zy.1 hy0
     subst hY0;subst hy0;rw[oM]at n6 hsum;have HRES:Hid (R=fZ na X E):=lY (HADD.out.trans (by rw[if_neg (by omega),HNG.out,oM]));clear HNG;cases na
     . have HYES:=HRES
       have WI:=lY (eY false A6 p6 c6 (X) E w3 n6 (by omega) F3'.tab (by omega) (by omega));clear HADD n43 n53 HRES;go_wp2_with fail;refine WI.out.mono ?_;rintro e' w9 ⟨A9,p9,c9,rfl,n9,b9⟩;have F9:=F3'.adv b9;clear b9 F3' ca0 ca1 ca2 cb0 cb1 cb2 WI;obtain⟨cF0,cF1,cF2⟩:=F9.kr.cell;obtain⟨fF0,fF1,fF2⟩:=F9.kr.frozen;generalize fZ false (X) E=r at *;go_wp2_with fail;rw[HYES.out]
       refine bodyPost_ret (v:=.agg #[.bool r.neg,.slice A9 p9 c9,.int .i64 r.e]) (by simp[results,ou,go_sem,cF0,cF1,cF2]) rfl
        ⟨A9,p9,c9,rfl,n9.put3 F9.kr (aD _) (av _ _ _) (aI _) _ _ _,ak F9.bel (by omega) F9.bel.size _ _ _⟩
     . have HYES:=HRES
       have WI:=lY (eY true A6 p6 c6 (X) E w3 n6 (by omega) F3'.tab (by omega) (by omega));clear HADD n43 n53 HRES;go_wp2_with fail;refine WI.out.mono ?_;rintro e' w9 ⟨A9,p9,c9,rfl,n9,b9⟩;have F9:=F3'.adv b9;clear b9 F3' ca0 ca1 ca2 cb0 cb1 cb2 WI;obtain⟨cF0,cF1,cF2⟩:=F9.kr.cell;obtain⟨fF0,fF1,fF2⟩:=F9.kr.frozen;generalize fZ true (X) E=r at *;go_wp2_with fail;rw[HYES.out]
       refine bodyPost_ret (v:=.agg #[.bool r.neg,.slice A9 p9 c9,.int .i64 r.e]) (by simp[results,ou,go_sem,cF0,cF1,cF2]) rfl
        ⟨A9,p9,c9,rfl,n9.put3 F9.kr (aD _) (av _ _ _) (aI _) _ _ _,ak F9.bel (by omega) F9.bel.size _ _ _⟩
   . have hY0:0 < Y:=by
      rcases mF Y with h | h
      . exact absurd (zy.2 h) hy0
      . exact h
     have hy1:(0:Int) < (p5:Int):=by omega
     by_cases hs:na=nb'
     . subst hs
       have HRES:Hid (R=fZ na (X+Y) E):=lY (HADD.out.trans (by rw[if_neg (fun h=>h.2.2 rfl),HNG.out]))
       have hss:(na != na)=false:=by simp
       clear HNG;cases na
       . have HYES:=HRES
         have WI:=lY (eY false A6 p6 c6 (X+Y) E w3 n6 (by omega) F3'.tab (by omega) (by omega));clear HADD n43 n53 HRES;go_wp2_with fail;refine WI.out.mono ?_;rintro e' w9 ⟨A9,p9,c9,rfl,n9,b9⟩;have F9:=F3'.adv b9;clear b9 F3' ca0 ca1 ca2 cb0 cb1 cb2 WI;obtain⟨cF0,cF1,cF2⟩:=F9.kr.cell;obtain⟨fF0,fF1,fF2⟩:=F9.kr.frozen;generalize fZ false (X+Y) E=r at *;go_wp2_with fail;rw[HYES.out]
         refine bodyPost_ret (v:=.agg #[.bool r.neg,.slice A9 p9 c9,.int .i64 r.e]) (by simp[results,ou,go_sem,cF0,cF1,cF2]) rfl
          ⟨A9,p9,c9,rfl,n9.put3 F9.kr (aD _) (av _ _ _) (aI _) _ _ _,ak F9.bel (by omega) F9.bel.size _ _ _⟩
       . have HYES:=HRES
         have WI:=lY (eY true A6 p6 c6 (X+Y) E w3 n6 (by omega) F3'.tab (by omega) (by omega));clear HADD n43 n53 HRES;go_wp2_with fail;refine WI.out.mono ?_;rintro e' w9 ⟨A9,p9,c9,rfl,n9,b9⟩;have F9:=F3'.adv b9;clear b9 F3' ca0 ca1 ca2 cb0 cb1 cb2 WI;obtain⟨cF0,cF1,cF2⟩:=F9.kr.cell;obtain⟨fF0,fF1,fF2⟩:=F9.kr.frozen;generalize fZ true (X+Y) E=r at *;go_wp2_with fail;rw[HYES.out]
         refine bodyPost_ret (v:=.agg #[.bool r.neg,.slice A9 p9 c9,.int .i64 r.e]) (by simp[results,ou,go_sem,cF0,cF1,cF2]) rfl
          ⟨A9,p9,c9,rfl,n9.put3 F9.kr (aD _) (av _ _ _) (aI _) _ _ _,ak F9.bel (by omega) F9.bel.size _ _ _⟩
     . have hss:(na != nb')=true:=by simpa using hs
       have HRES:Hid (R=if Y<=X then fZ na (X-Y) E else fZ nb' (Y-X) E):=lY (HADD.out.trans (by rw[if_pos ⟨hX0,hY0,hs⟩]));have CM:=lY (uG w3 n43 n53 (by omega) (by omega));clear HNG HADD n6;cases na
       . obtain rfl:nb'=true:=by cases nb' <;> simp at hs ⊢
         clear hs;go_wp2_with fail;refine CM.out.mono ?_;rintro e' w4 ⟨rfl,b⟩;have F4:=F3'.adv b;have n44:=n43.below b;have n54:=n53.below b;clear F3' b CM n43 n53 ca0 ca1 ca2 cb0 cb1 cb2;obtain⟨ca0,ca1,ca2⟩:=F4.ka.cell;obtain⟨cb0,cb1,cb2⟩:=F4.kb.cell
         by_cases hle:Y<=X
         . have hc:(0:Int)<=cQ X Y:=by unfold cQ;rw[if_neg (by omega)];split <;> omega
           have HYES:=lY (HRES.out.trans (if_pos hle));have SB:=lY (vV w4 n44 n54 (by omega) (by omega) hle);generalize cQ X Y=cc at *;clear HRES;go_wp2_with fail;refine SB.out.mono ?_;rintro e' w5 ⟨A7,p7,c7,rfl,n7,b⟩;have F5:=F4.adv b;clear F4 b SB n44 n54 ca0 ca1 ca2 cb0 cb1 cb2;obtain⟨ca0,ca1,ca2⟩:=F5.ka.cell;have WI:=lY (eY false A7 p7 c7 (X-Y) E w5 n7 (by have:=bQ (Gk X Y);omega) F5.tab (by omega) (by omega));go_wp2_with fail;refine WI.out.mono ?_;rintro e' w9 ⟨A9,p9,c9,rfl,n9,b9⟩;have F9:=F5.adv b9;clear b9 F5 ca0 ca1 ca2 WI;obtain⟨cF0,cF1,cF2⟩:=F9.kr.cell;obtain⟨fF0,fF1,fF2⟩:=F9.kr.frozen;generalize fZ false (X-Y) E=r at *;go_wp2_with fail;rw[HYES.out]
           refine bodyPost_ret (v:=.agg #[.bool r.neg,.slice A9 p9 c9,.int .i64 r.e]) (by simp[results,ou,go_sem,cF0,cF1,cF2]) rfl
            ⟨A9,p9,c9,rfl,n9.put3 F9.kr (aD _) (av _ _ _) (aI _) _ _ _,ak F9.bel (by omega) F9.bel.size _ _ _⟩
         . have hc:¬ (0:Int)<=cQ X Y:=by unfold cQ;rw[if_pos (by omega)];omega
           have HYES:=lY (HRES.out.trans (if_neg hle));have SB:=lY (vV w4 n54 n44 (by omega) (by omega) (by omega));generalize cQ X Y=cc at *;clear HRES;go_wp2_with fail;refine SB.out.mono ?_;rintro e' w5 ⟨A7,p7,c7,rfl,n7,b⟩;have F5:=F4.adv b;clear F4 b SB n44 n54 ca0 ca1 ca2 cb0 cb1 cb2;obtain⟨cb0,cb1,cb2⟩:=F5.kb.cell;have WI:=lY (eY true A7 p7 c7 (Y-X) E w5 n7 (by have:=bQ (Gk Y X);omega) F5.tab (by omega) (by omega));go_wp2_with fail;refine WI.out.mono ?_;rintro e' w9 ⟨A9,p9,c9,rfl,n9,b9⟩;have F9:=F5.adv b9;clear b9 F5 cb0 cb1 cb2 WI;obtain⟨cF0,cF1,cF2⟩:=F9.kr.cell;obtain⟨fF0,fF1,fF2⟩:=F9.kr.frozen;generalize fZ true (Y-X) E=r at *;go_wp2_with fail;rw[HYES.out]
           refine bodyPost_ret (v:=.agg #[.bool r.neg,.slice A9 p9 c9,.int .i64 r.e]) (by simp[results,ou,go_sem,cF0,cF1,cF2]) rfl
            ⟨A9,p9,c9,rfl,n9.put3 F9.kr (aD _) (av _ _ _) (aI _) _ _ _,ak F9.bel (by omega) F9.bel.size _ _ _⟩
       . obtain rfl:nb'=false:=by cases nb' <;> simp at hs ⊢
         clear hs;go_wp2_with fail;refine CM.out.mono ?_;rintro e' w4 ⟨rfl,b⟩;have F4:=F3'.adv b;have n44:=n43.below b;have n54:=n53.below b;clear F3' b CM n43 n53 ca0 ca1 ca2 cb0 cb1 cb2;obtain⟨ca0,ca1,ca2⟩:=F4.ka.cell;obtain⟨cb0,cb1,cb2⟩:=F4.kb.cell
         by_cases hle:Y<=X
         . have hc:(0:Int)<=cQ X Y:=by unfold cQ;rw[if_neg (by omega)];split <;> omega
           have HYES:=lY (HRES.out.trans (if_pos hle));have SB:=lY (vV w4 n44 n54 (by omega) (by omega) hle);generalize cQ X Y=cc at *;clear HRES;go_wp2_with fail;refine SB.out.mono ?_;rintro e' w5 ⟨A7,p7,c7,rfl,n7,b⟩;have F5:=F4.adv b;clear F4 b SB n44 n54 ca0 ca1 ca2 cb0 cb1 cb2;obtain⟨ca0,ca1,ca2⟩:=F5.ka.cell;have WI:=lY (eY true A7 p7 c7 (X-Y) E w5 n7 (by have:=bQ (Gk X Y);omega) F5.tab (by omega) (by omega));go_wp2_with fail;refine WI.out.mono ?_;rintro e' w9 ⟨A9,p9,c9,rfl,n9,b9⟩;have F9:=F5.adv b9;clear b9 F5 ca0 ca1 ca2 WI;obtain⟨cF0,cF1,cF2⟩:=F9.kr.cell;obtain⟨fF0,fF1,fF2⟩:=F9.kr.frozen;generalize fZ true (X-Y) E=r at *;go_wp2_with fail;rw[HYES.out]
           refine bodyPost_ret (v:=.agg #[.bool r.neg,.slice A9 p9 c9,.int .i64 r.e]) (by simp[results,ou,go_sem,cF0,cF1,cF2]) rfl
            ⟨A9,p9,c9,rfl,n9.put3 F9.kr (aD _) (av _ _ _) (aI _) _ _ _,ak F9.bel (by omega) F9.bel.size _ _ _⟩
         . have hc:¬ (0:Int)<=cQ X Y:=by unfold cQ;rw[if_pos (by omega)];omega
           have HYES:=lY (HRES.out.trans (if_neg hle));have SB:=lY (vV w4 n54 n44 (by omega) (by omega) (by omega));generalize cQ X Y=cc at *;clear HRES;go_wp2_with fail;refine SB.out.mono ?_;rintro e' w5 ⟨A7,p7,c7,rfl,n7,b⟩;have F5:=F4.adv b;clear F4 b SB n44 n54 ca0 ca1 ca2 cb0 cb1 cb2;obtain⟨cb0,cb1,cb2⟩:=F5.kb.cell;have WI:=lY (eY false A7 p7 c7 (Y-X) E w5 n7 (by have:=bQ (Gk Y X);omega) F5.tab (by omega) (by omega));go_wp2_with fail;refine WI.out.mono ?_;rintro e' w9 ⟨A9,p9,c9,rfl,n9,b9⟩;have F9:=F5.adv b9;clear b9 F5 cb0 cb1 cb2 WI;obtain⟨cF0,cF1,cF2⟩:=F9.kr.cell;obtain⟨fF0,fF1,fF2⟩:=F9.kr.frozen;generalize fZ false (Y-X) E=r at *;go_wp2_with fail;rw[HYES.out]
           refine bodyPost_ret (v:=.agg #[.bool r.neg,.slice A9 p9 c9,.int .i64 r.e]) (by simp[results,ou,go_sem,cF0,cF1,cF2]) rfl
            ⟨A9,p9,c9,rfl,n9.put3 F9.kr (aD _) (av _ _ _) (aI _) _ _ _,ak F9.bel (by omega) F9.bel.size _ _ _⟩
def jY (P M:Nat)(lo:Int):DR:=if M<=P then fZ false (P-M) lo else fZ true (M-P) lo
theorem rP (P M:Nat)(lo:Int):∃ (sg:Bool) (U:Nat),jY P M lo=fZ sg U lo/\(sg=false->P=M+U)/\(sg=true->M=P+U/\0 < U):=by
 unfold jY
 by_cases h:M<=P
 . rw[if_pos h];exact⟨false,P-M,rfl,fun _=>by omega,fun h=>by cases h⟩
 . rw[if_neg h];exact⟨true,M-P,rfl,(fun h=>by cases h),fun _=>by omega⟩
theorem yj {sg:Bool}{U:Nat}(h:0 < U):fZ sg U lo=⟨true,sg,od U,lo+(v2 U:Int)⟩:=by
 unfold fZ;rw[if_neg (by omega)]
theorem Au (P M:Nat)(lo:Int)(ng:Bool)(v:Nat)(e:Int)(hz:v=0->ng=false/\e=0)(he:v=0\/lo<=e):
 gU (jY P M lo).neg ng (jY P M lo).m v (jY P M lo).e e=jY (P+if ng=false then v*2^(e-lo).toNat else 0) (M+if ng=true then v*2^(e-lo).toNat else 0) lo:=by
 obtain⟨sg,U,hw,h1,h2⟩:=rP P M lo;rw[hw]
 rcases mF U with hU | hU
 . subst hU
   have hPM:P=M:=by
    cases sg
    . exact h1 rfl
    . have:=(h2 rfl).2;omega
   subst hPM;rw[gB];unfold gU dS dV eH;simp only[DR.zero,if_true];rw[if_neg (by omega)];simp only[decide_true,EM,Bool.false_or,Gq]
   rcases mF v with hv | hv
   . obtain⟨rfl,rfl⟩:=hz hv
     subst hv;simp only[gB,Gr,oM,if_true]
     simp[jY,gB]
   . have he':lo<=e:=by rcases he with h | h <;> omega
     obtain⟨k,hk⟩:∃ k:Nat,e-lo=(k:Int):=⟨(e-lo).toNat,by omega⟩;have e1:=qr ng v k e;rw[show e-(k:Int)=lo by omega]at e1;rw[← e1,hk,Int.toNat_natCast];have hp:=Gl hv (yb k);unfold jY;cases ng
     . simp only[if_true,oY,if_false,oM]
       rw[if_pos (by omega),show P+v*2^k-P=v*2^k by omega]
     . simp only[if_true,qK,if_false,oM]
       rw[if_neg (by omega),show P+v*2^k-P=v*2^k by omega]
 . obtain⟨g1,g2⟩:=eP hU
   have ho:=jc hU;rw[yj hU]
   simp only
   rcases mF v with hv | hv
   . obtain⟨rfl,rfl⟩:=hz hv
     subst hv;unfold gU dS dV eH
     have h0:¬ od U=0:=by omega
     simp only[h0,if_false,if_true,Gr,oM,decide_false,Bool.false_and,Bool.or_false];rw[if_neg (fun h=>by have:=h.2.1;omega)];have e1:=qr sg (od U) (v2 U) (lo+(v2 U:Int));rw[← g1,show lo+(v2 U:Int)-(v2 U:Int)=lo by omega]at e1;rw[← e1,← hw]
     simp
   . have he':lo<=e:=by rcases he with h | h <;> omega
     obtain⟨k,hk⟩:∃ k:Nat,e-lo=(k:Int):=⟨(e-lo).toNat,by omega⟩;obtain⟨E,hE⟩:=du (min (lo+(v2 U:Int)) e);obtain⟨t,ht⟩:∃ t:Nat,E-lo=(t:Int):=⟨(E-lo).toNat,by omega⟩;obtain⟨X,hX⟩:=du (cF (od U) (lo+(v2 U:Int)) e);obtain⟨Y,hY⟩:=du (cF v e (lo+(v2 U:Int)))
     have hXt:X*2^t=U:=by
      rw[hX,cF,← hE,Gp,← DF,show(lo+(v2 U:Int)-E).toNat+t=v2 U by omega];exact g1.symm
     have hYt:Y*2^t=v*2^k:=by
      rw[hY,cF,show min e (lo+(v2 U:Int))=E by omega,Gp,← DF,show(e-E).toNat+t=k by omega]
     have hX0:0 < X:=by rw[hX];exact fN ho
     have hY0:0 < Y:=by rw[hY];exact fN hv
     have hA:gU sg ng (od U) v (lo+(v2 U:Int)) e=if sg≠ng then(if Y<=X then fZ sg (X-Y) E else fZ ng (Y-X) E) else fZ sg (X+Y) E:=by
      have h0:¬ od U=0:=by omega
      have h3:¬ v=0:=by omega
      unfold gU dS dV eH;simp only[h0,h3,if_false];rw[← hX,← hY,← hE]
      have h4:¬ X=0:=by omega
      simp[hX0,hY0,h4]
     have hwd:∀ (s:Bool) (m:Nat),fZ s m E=fZ s (m*2^t) lo:=fun s m=>by
      have e1:=qr s m t E;rw[show E-(t:Int)=lo by omega]at e1;exact e1.symm
     rw[hA,hk,Int.toNat_natCast,← hYt]
     have hle:Y<=X ↔ Y*2^t<=U:=by
      rw[← hXt];exact⟨fun h=>tz _ h,fun h=>Nat.le_of_mul_le_mul_right h (yb t)⟩
     have hYt0:=Gl hY0 (yb t)
     have e1:(X+Y)*2^t=U+Y*2^t:=by rw[Nat.add_mul,hXt]
     have e2:(X-Y)*2^t=U-Y*2^t:=by rw[Gt,hXt]
     have e3:(Y-X)*2^t=Y*2^t-U:=by rw[Gt,hXt]
     rw[hwd,hwd,hwd,e1,e2,e3];generalize Y*2^t=y at *;unfold jY;cases sg
     . have hP:=h1 rfl
       cases ng
       . simp only[ne_eq,not_true_eq_false,if_false,if_true,oY,oM]
         rw[if_pos (by omega),show P+y-M=U+y by omega]
       . simp only[ne_eq,oY,qK,not_false_eq_true,if_true,if_false,oM]
         by_cases h5:Y<=X
         . have h6:=hle.1 h5
           rw[if_pos h5,if_pos (by omega),show P-(M+y)=U-y by omega]
         . have h6:¬ y<=U:=fun h=>h5 (hle.2 h)
           rw[if_neg h5,if_neg (by omega),show M+y-P=y-U by omega]
     . obtain⟨hM,_⟩:=h2 rfl
       cases ng
       . simp only[ne_eq,qK,oY,not_false_eq_true,if_true,if_false,oM]
         by_cases h5:Y<=X
         . have h6:=hle.1 h5
           rw[if_pos h5]
           by_cases h7:y=U
           . rw[if_pos (by omega),show U-y=0 by omega,show P+y-M=0 by omega,gB,gB]
           . rw[if_neg (by omega),show M-(P+y)=U-y by omega]
         . have h6:¬ y<=U:=fun h=>h5 (hle.2 h)
           rw[if_neg h5,if_pos (by omega),show P+y-M=y-U by omega]
       . simp only[ne_eq,not_true_eq_false,if_false,if_true,qK,oM]
         rw[if_neg (by omega),show M+y-P=U+y by omega]
theorem BX (l:DL)(k:Nat)(hP:∀ j,j < k->nb (l.v j)<=16384):∃ lo hi en fd,eF l k lo hi en fd:=by
 induction k with
 | zero=>exact⟨0,0,0,false,eF.start l⟩
 | succ k ih =>
  obtain⟨lo,hi,en,fd,h⟩:=ih fun j hj=>hP j (by omega)
  by_cases h0:l.n k=0
  . exact⟨lo,hi,en,fd,h.zero h0⟩
  . cases fd
    . exact⟨_,_,_,_,eF.first h h0 (hP k (by omega))⟩
    . exact⟨_,_,_,_,eF.more h h0 (hP k (by omega))⟩
theorem pf {P M K:Nat}(hP:nb P<=K)(hM:nb M<=K):nb (jY P M lo).m<=K/\((jY P M lo).m=0->(jY P M lo).e=0/\(jY P M lo).neg=false)/\(0 < (jY P M lo).m->lo<=(jY P M lo).e/\(jY P M lo).e<=lo+(K:Int))/\(jY P M lo).ok=true /\
 ∀ t:Nat,0 < (jY P M lo).m->(jY P M lo).e-lo=(t:Int)->nb ((jY P M lo).m*2^t)<=K:=by
 obtain⟨sg,U,hw,h1,h2⟩:=rP P M lo
 have hUK:nb U<=K:=by
  cases sg
  . have:=bQ (show U<=P by have:=h1 rfl;omega);omega
  . have:=bQ (show U<=M by have:=(h2 rfl).1;omega);omega
 rw[hw]
 rcases mF U with hU | hU
 . subst hU
   rw[gB];exact⟨by simp only[DR.zero];rw[aX];omega,fun _=>⟨rfl,rfl⟩,fun h=>absurd h (by decide),rfl,fun _ h=>absurd h (by decide)⟩
 . obtain⟨g1,g2⟩:=eP hU
   have ho:=jc hU;have hv:=kE hU;rw[yj hU];refine⟨by simp only;have:=bQ (pN U);omega,fun h=>by simp only at h;omega,fun _=>⟨by simp only;omega,by simp only;omega⟩,rfl,fun t _ ht=>?_⟩
   simp only at ht ⊢
   obtain rfl:t=v2 U:=by omega
   rw[← g1];exact hUK
theorem xj (na nb':Bool)(A B:OA)(n c m d:Nat)(x y:Nat->Nat)(ea eb:Int)(w:World)(ha:Sl w A n c x)(hb:Sl w B m d y)(hn:n<=400000)(hm:m<=400000)(hT:bx w):
 Calls Bl 103 #[aP na A n c ea,aP nb' B m d eb] w
  (fI w (qY (aj na n x ea && aj nb' m y eb) na nb' (vs ai x n) (vs ai y m) ea eb)):=by
 have S:=F3.start w na A n c ea nb' B m d eb hT;go_enter Tryz.func103,Tryz.ntmps103;go_wp2_with fail;generalize((w.alloc (.cells #[.bool na,.slice A n c,.int .i64 ea] 24)).alloc (.cells #[.bool nb',.slice B m d,.int .i64 eb] 24)).alloc (.cells #[.bool false,.slice none 0 0,.int .i64 0] 24)=w1 at *;refine(dr na A n c x ea w1 (ha.below S.bel) hn).mono ?_;rintro e' w2 ⟨rfl,b⟩;have F2:=S.adv b;clear S b
 by_cases hpa:aj na n x ea=true
 . rw[hpa]
   obtain⟨cb0,cb1,cb2⟩:=F2.kb.cell;go_wp2_with fail;refine(dr nb' B m d y eb w2 (hb.below F2.bel) hm).mono ?_;rintro e' w3 ⟨rfl,b⟩;have F3':=F2.adv b;clear F2 b cb0 cb1 cb2
   by_cases hpb:aj nb' m y eb=true
   . rw[hpb]
     have HYES:=lY (show qY (aj na n x ea && aj nb' m y eb) na nb' (vs ai x n) (vs ai y m) ea eb=bH (na != nb') (vs ai x n*vs ai y m) (ea+eb) by rw[hpa,hpb];rfl);have PA:=aS hpa;have PB:=aS hpb;have ln:=PA.len;have lm:=PB.len;have ea1:=PA.e1;have ea2:=PA.e2;have eb1:=PB.e1;have eb2:=PB.e2;clear hpa hpb PA PB
     have KM:Hid (vs ai x n*vs ai y m < ai^(n+m)):=lY (by
      rw[DF];exact Nat.mul_lt_mul'' (bL ha.small) (bL hb.small))
     have MU:Hid (∀ w',Below w3.heap.size w3 w'->Calls Bl 161 #[.slice A n c,.slice B m d] w' fun e w''=>∃ A6 p6 c6 f6,e=.returned (.slice A6 p6 c6)/\Sl w'' A6 p6 c6 f6/\p6<=n+m/\Hid (vs ai f6 p6=vs ai x n*vs ai y m)/\Below w3.heap.size w3 w''):=lY (fun w' h=>by
      refine(yQ A B n m c d x y w' ((ha.below F3'.bel).below h) ((hb.below F3'.bel).below h) (by omega) (by omega)).mono ?_;rintro e' w6 ⟨v6,rfl,n6,b⟩;obtain⟨A6,p6,c6,f6,rfl,q6,lp6,_,e6⟩:=n6.sl' KM.out
      exact⟨A6,p6,c6,f6,rfl,q6,lp6,lY e6,h.trans (b.mono h.size)⟩)
     obtain⟨r,hr⟩:∃ r,Hid (r=bH (na != nb') (vs ai x n*vs ai y m) (ea+eb)):=⟨_,lY rfl⟩
     have MK:Hid (∀ A6 p6 c6 f6 w',Sl w' A6 p6 c6 f6->p6<=n+m->Hid (vs ai f6 p6=vs ai x n*vs ai y m)->bx w'->Calls Bl 98 #[.bool (na != nb'),.slice A6 p6 c6,.int .i64 (ea+eb)] w' fun e w''=>∃ A7 p7 c7,e=.returned (.tuple #[.agg #[.bool r.neg,.slice A7 p7 c7,.int .i64 r.e],.bool r.ok])/\am w'' (.slice A7 p7 c7) r.m/\Below w'.heap.size w' w''):=lY (fun A6 p6 c6 f6 w' q6 lp6 E6 t6=>by
      refine(jC (na != nb') A6 p6 c6 f6 (ea+eb) w' q6 (by omega) t6 (by omega) (by omega)).mono ?_;rw[E6.out,← hr.out];rintro e' w7 ⟨v7,rfl,n7,b7⟩;obtain⟨A7,p7,c7,f7,rfl,m7⟩:=n7
      exact⟨A7,p7,c7,rfl,⟨A7,p7,c7,f7,rfl,m7⟩,b7⟩)
     have G:=F3'.drew;have SX:=G.six;unfold yh at SX;have hw1:IntKind.i64.wrap (ea+eb)=ea+eb:=aE (by omega) (by omega);go_wp2_with fail
     go_region_held3 (fun w'=>(w'.cell? ⟨w.heap.size,0,none⟩=some (.bool na)/\w'.cell? ⟨w.heap.size,1,none⟩=some (.slice A n c)/\w'.cell? ⟨w.heap.size,2,none⟩=some (.int .i64 ea)) /\
      (w'.cell? ⟨w.heap.size+1,0,none⟩=some (.bool nb')/\w'.cell? ⟨w.heap.size+1,1,none⟩=some (.slice B m d)/\w'.cell? ⟨w.heap.size+1,2,none⟩=some (.int .i64 eb)))
      (first | exact S7.put _ _ _ | exact S7 | exact S6 | exact SX)
      (first
       | (go_at_call 161;refine(MU.out _ ((Below.refl _ w3).drew)).mono ?_;rintro e' w6 ⟨A6,p6,c6,f6,rfl,q6,lp6,E6,b6⟩;have F6:=F3'.adv b6;have S6:=F6.six)
       | (go_at_call 98;refine(MK.out A6 p6 c6 f6 w6 q6 lp6 E6 F6.tab).mono ?_;rintro e' w7 ⟨A7,p7,c7,rfl,n7,b7⟩;have F7:=F6.adv b7;have S7:=F7.six;obtain⟨cF0,cF1,cF2⟩:=F7.kr.cell;obtain⟨fF0,fF1,fF2⟩:=F7.kr.frozen))
     all_goals (go_wp2_with fail)
     rw[HYES.out,← hr.out]
     refine bodyPost_ret (v:=.tuple #[.agg #[.bool r.neg,.slice A7 p7 c7,.int .i64 r.e],.bool r.ok]) (by simp[results,DE,go_sem,cF0,cF1,cF2]) rfl
      ⟨_,rfl,n7.put3 F7.kr (aD _) (av _ _ _) (aI _) _ _ _,ak F7.bel (by omega) F7.bel.size _ _ _⟩
   . have hpb':aj nb' m y eb=false:=by simpa using hpb
     rw[hpb'];have HNO:=lY (show qY (aj na n x ea && aj nb' m y eb) na nb' (vs ai x n) (vs ai y m) ea eb=DR.no by rw[hpb'];simp[qY]);obtain⟨cr0,cr1,cr2⟩:=F3'.kr.cell;obtain⟨fr0,fr1,fr2⟩:=F3'.kr.frozen;go_wp2_with fail;rw[HNO.out];refine bodyPost_ret (v:=.tuple #[.agg #[.bool false,.slice none 0 0,.int .i64 0],.bool false]) (by simp[results,DE,go_sem,cr0,cr1,cr2]) rfl ⟨_,rfl,aq _,ak F3'.bel (by omega) F3'.bel.size _ _ _⟩
 . have hpa':aj na n x ea=false:=by simpa using hpa
   rw[hpa'];have HNO:=lY (show qY (aj na n x ea && aj nb' m y eb) na nb' (vs ai x n) (vs ai y m) ea eb=DR.no by rw[hpa'];simp[qY]);obtain⟨cr0,cr1,cr2⟩:=F2.kr.cell;obtain⟨fr0,fr1,fr2⟩:=F2.kr.frozen;go_wp2_with fail;rw[HNO.out];refine bodyPost_ret (v:=.tuple #[.agg #[.bool false,.slice none 0 0,.int .i64 0],.bool false]) (by simp[results,DE,go_sem,cr0,cr1,cr2]) rfl ⟨_,rfl,aq _,ak F2.bel (by omega) F2.bel.size _ _ _⟩
def gn (l:DL)(j:Nat)(lo hi:Int)(fd:Bool):Prop:=match kt l j with
 | none=>fd=false/\lo=0/\hi=0
 | some (a,b)=>fd=true/\lo=a/\hi=b
theorem gn.start (l:DL):gn l 0 0 0 false:=⟨rfl,rfl,rfl⟩
theorem gn.zero {l:DL}{fd:Bool}(h:gn l j lo hi fd)(h0:l.n j=0):gn l (j+1) lo hi fd:=by
 unfold gn at *
 rw[kt,if_pos h0];exact h
theorem gn.first {l:DL}(h:gn l j lo hi false)(h0:l.n j≠0):gn l (j+1) (l.e j) (l.e j) true:=by
 unfold gn at *;rw[kt,if_neg h0]
 cases he:kt l j with
 | none=>exact⟨rfl,rfl,rfl⟩
 | some p=>rw[he]at h;obtain⟨a,b⟩:=p;exact absurd h.1 (by decide)
theorem gn.more {l:DL}(h:gn l j lo hi true)(h0:l.n j≠0):gn l (j+1) (min lo (l.e j)) (max hi (l.e j)) true:=by
 unfold gn at *;rw[kt,if_neg h0]
 cases he:kt l j with
 | none=>rw[he]at h;exact absurd h.1 (by decide)
 | some p=>rw[he]at h;obtain⟨a,b⟩:=p;obtain⟨_,rfl,rfl⟩:=h;exact⟨rfl,rfl,rfl⟩
theorem gn.lohi {l:DL}{k:Nat}{fd:Bool}(h:gn l k lo hi fd):lo=kh l k/\hi=uR l k:=by
 unfold gn at h;unfold kh uR
 cases he:kt l k with
 | none=>rw[he]at h;obtain⟨_,rfl,rfl⟩:=h;exact⟨rfl,rfl⟩
 | some p=>rw[he]at h;obtain⟨a,b⟩:=p;obtain⟨_,rfl,rfl⟩:=h;exact⟨rfl,rfl⟩
theorem F1.drewN (h:F1 w w1)(k:Nat):F1 w (w1.drewN k):=⟨cu h.bel k,h.kr,h.sz,h.tab0⟩
theorem F1.drew (h:F1 w w1):F1 w w1.drew:=⟨h.bel.drew,h.kr,h.sz,h.tab0⟩
theorem F1.only {w2:World}(h:F1 w w1)(o:az w1 w2 g)(hg:w.heap.size+1<=g):F1 w w2 :=
 ⟨ct h.bel o (by omega),(o.block w.heap.size (by have:=h.sz;omega) (by simp;omega)).trans h.kr,Gs h.sz o.size,h.tab0⟩
theorem wO (P M:Nat)(lo:Int):(if M<=P then bH false (P-M) lo else bH true (M-P) lo)=if aR (jY P M lo).neg (jY P M lo).m (jY P M lo).e then jY P M lo else DR.no:=by
 unfold jY
 by_cases h:M<=P
 . simp only[h,if_true];exact zE _ _ _
 . simp only[h,if_false];exact zE _ _ _
theorem K3.drewN {a b c:Value}(h:K3 w g a b c)(k:Nat):K3 (w.drewN k) g a b c:=h
theorem K3.drew {a b c:Value}(h:K3 w g a b c):K3 w.drew g a b c:=h
theorem yL (L:OA)(k cp:Nat)(l:DL)(w:World)(h:Ls w L k cp l)(hk:k<=1000)(hlen:∀ j,j < k->l.n j<=400000)(hT:bx w)(he64:∀ j,j < k->-9223372036854775808<=l.e j/\l.e j<=9223372036854775807):
 Calls Bl 83 #[.slice L k cp] w (fI w (jO (gP l k) l k)):=by
 have S:=F1.start w hT;have HLEN:=lY hlen;have HE64:=lY he64;clear hlen he64;have S1:=S.adv (ag _ (bJ (.bool false) (.slice none 0 0) (.int .i64 0))) S.sz;have KS:=K3.made (w.alloc (.cells #[.bool false,.slice none 0 0,.int .i64 0] 24)) (.bool false) (.slice none 0 0) (.int .i64 0);rw[show(w.alloc (.cells #[.bool false,.slice none 0 0,.int .i64 0] 24)).heap.size=w.heap.size+1 by simp]at KS;go_enter Tryz.func83,Tryz.ntmps83;go_wp2_with fail;clear S;generalize(w.alloc (.cells #[.bool false,.slice none 0 0,.int .i64 0] 24)).alloc (.cells #[.bool false,.slice none 0 0,.int .i64 0] 24)=w1 at *
 go_loopw [5,6,7,8] (fun s5 s6q s7 s8 wr=>∃ (j:Nat) (lo hi:Int) (fd:Bool),j<=k/\s5=.int .i64 lo/\s6q=.int .i64 hi/\s7=.bool fd/\s8=.int .i64 (j:Int)/\Hid (gP l j=true)/\Hid (gn l j lo hi fd)/\F1 w wr/\K3 wr (w.heap.size+1) (.bool false) (.slice none 0 0) (.int .i64 0)) (fun _ _ _ s8 _=>k-(intOf s8).toNat)
 case atStart=>exact⟨0,0,0,false,Gm _,rfl,rfl,rfl,rfl,lY rfl,lY (gn.start l),S1,KS⟩
 case round =>
  clear S1 KS;obtain⟨j,lo,hi,fd,hj,rfl,rfl,rfl,rfl,hall,hinv,F,KS⟩:=hrel
  by_cases hlt:j < k
  . obtain⟨ad,rfl,hb,hc⟩:=h.2.1 (by omega)
    obtain⟨c0,c1,c2⟩:=hc j hlt;have d0:=(F.bel.cell (p:=ad.add (j*3)) (by rw[ao];exact hb)).trans c0;have d1:=(F.bel.cell (p:=⟨(ad.add (j*3)).block,(ad.add (j*3)).off+1,none⟩) (by simp only[ao];exact hb)).trans c1;have d2:=(F.bel.cell (p:=⟨(ad.add (j*3)).block,(ad.add (j*3)).off+2,none⟩) (by simp only[ao];exact hb)).trans c2;have sj:=(h.2.2 j hlt).below F.bel;have hln:=HLEN.out j hlt
    have hlt':(j:Int) < (k:Int):=by omega
    have HS:Hid (gP l (j+1)=aj (l.ng j) (l.n j) (l.x j) (l.e j)):=lY (by rw[gP,hall.out,EM]);have HNO:Hid (aj (l.ng j) (l.n j) (l.x j) (l.e j)=false->jO (gP l k) l k=DR.no):=lY (fun hp=>by rw[oN hlt hp];simp[jO])
    have HC:Hid (∀ w',Below w.heap.size w w'->w'.cell? (ad.add (j*3))=some (.bool (l.ng j))/\w'.cell? ⟨(ad.add (j*3)).block,(ad.add (j*3)).off+1,none⟩=some (.slice (l.A j) (l.n j) (l.c j))/\w'.cell? ⟨(ad.add (j*3)).block,(ad.add (j*3)).off+2,none⟩=some (.int .i64 (l.e j))):=lY (fun w' h' =>
     ⟨(h'.cell (p:=ad.add (j*3)) (by rw[ao];exact hb)).trans c0,(h'.cell (p:=⟨(ad.add (j*3)).block,(ad.add (j*3)).off+1,none⟩) (by simp only[ao];exact hb)).trans c1,(h'.cell (p:=⟨(ad.add (j*3)).block,(ad.add (j*3)).off+2,none⟩) (by simp only[ao];exact hb)).trans c2⟩)
    clear c0 c1 c2 hc hall;have PL:=lY (dr (l.ng j) (l.A j) (l.n j) (l.c j) (l.x j) (l.e j) wr sj hln);have HZ:Hid (l.n j=0->gn l (j+1) lo hi fd):=lY (fun h0=>hinv.out.zero h0);have HF:Hid (fd=false->l.n j≠0->gn l (j+1) (l.e j) (l.e j) true):=lY (fun h1 h0=>gn.first (h1 ▸ hinv.out) h0);have HM:Hid (fd=true->l.n j≠0->gn l (j+1) (min lo (l.e j)) (max hi (l.e j)) true):=lY (fun h1 h0=>gn.more (h1 ▸ hinv.out) h0);have szF:=F.sz;clear hinv;go_wp2_with fail;refine PL.out.mono ?_;rintro e' w2 ⟨rfl,b⟩;have G:=F.adv b szF;have KG:=KS.adv b;clear b PL sj d0 d1 d2 F KS szF;obtain⟨d0,d1,d2⟩:=HC.out w2 G.bel;clear HC;obtain⟨p,hp⟩:∃ p,Hid (aj (l.ng j) (l.n j) (l.x j) (l.e j)=p):=⟨_,lY rfl⟩;rw[hp.out]at HS HNO ⊢;cases p
    . have HN:=lY (HNO.out rfl)
      obtain⟨zr0,zr1,zr2⟩:=G.kr.cell;obtain⟨yr0,yr1,yr2⟩:=G.kr.frozen;go_wp2_with fail;rw[HN.out];refine bodyPost_ret (v:=.tuple #[.agg #[.bool false,.slice none 0 0,.int .i64 0],.bool false]) (by simp[results,Bx,go_sem,zr0,zr1,zr2]) rfl ⟨_,rfl,aq _,ak G.bel (by omega) G.bel.size _ _ _⟩
    . generalize l.ng j=ng at *
      generalize l.A j=A at *;generalize l.n j=n at *;generalize l.c j=c at *;generalize l.x j=x at *;generalize l.e j=e at *
      by_cases hn0:n=0
      . have hn1:¬ (0:Int) < (n:Int):=by omega
        have HI:=lY (HZ.out hn0);clear HZ HF HM HNO hp;go_wp2_with fail;go_roundw
        case rel=>exact⟨j+1,lo,hi,fd,by omega,rfl,rfl,rfl,by go_num,HS,HI,G,KG⟩
        case measure=>simp[intOf];omega
      . have hn1:(0:Int) < (n:Int):=by omega
        cases fd
        . have HI:=lY (HF.out rfl hn0)
          have hmi:min e e=e:=Int.min_self e;have hma:max e e=e:=Int.max_self e;clear HZ HF HM HNO hp;go_wp2_with fail
          go_quiet (fail)
          all_goals (go_wp2_with fail)
          all_goals go_roundw
          all_goals first
           | exact⟨j+1,e,e,true,by omega,rfl,rfl,rfl,by go_num,HS,HI,G.drewN _,KG.drewN _⟩
           | (simp[intOf];omega)
        . have HI:=lY (HM.out rfl hn0)
          clear HZ HF HM HNO hp;go_wp2_with fail;go_roundw
          case rel=>exact⟨j+1,min lo e,max hi e,true,by omega,rfl,rfl,rfl,by go_num,HS,HI,G,KG⟩
          case measure=>simp[intOf];omega
  . obtain rfl:j=k:=by omega
    clear hlt
    have hP:∀ i,i < j->gR (l.ng i) (l.n i) (l.x i) (l.e i):=fun i hi=>aS (l9 hall.out i hi)
    obtain⟨lo',hi',en,fd',hE⟩:=BX l j fun i hi=>(hP i hi).bits
    obtain⟨g1,g2,g3,g4⟩:=hE.bound hP;have g5:=hE.en;have hlo:lo=lo':=hinv.out.lohi.1.trans hE.lohi.1.symm;have hhi:hi=hi':=hinv.out.lohi.2.trans hE.lohi.2.symm;subst hlo;subst hhi;have HLO:=lY hinv.out.lohi;clear hinv
    by_cases hfar:hi-lo<=262144
    . have hfar':¬ (262144:Int) < hi-lo:=by omega
      have HYES:Hid (jO (gP l j) l j=if aY l true lo j<=aY l false lo j then bH false (aY l false lo j-aY l true lo j) lo else bH true (aY l true lo j-aY l false lo j) lo):=lY (by
       unfold jO;rw[hall.out,← HLO.out.1,← HLO.out.2];simp[hfar])
      have HB:Hid (∀ i,i<=j->∀ sg,nb (aY l sg lo i)<=280000):=lY (fun i hi sg=>by
       have h1:=we hE sg i hi;have h2:i*2^(en-lo).toNat<=2^10*2^(en-lo).toNat:=tz _ (by omega);rw[← DF]at h2;have h3:aY l sg lo i < 2^(10+(en-lo).toNat+1):=Nat.lt_of_le_of_lt (Gs h1 h2) (Nat.pow_lt_pow_right (by omega) (by omega));have h4:=(bi _ _).2 h3
       omega)
      have HIT:Hid (∀ i,i < j->(l.v i=0->l.ng i=false/\l.e i=0)/\(l.v i=0\/lo<=l.e i)/\l.e i<=lo+262144+262144/\nb (l.v i)<=16384/\-262144<=l.e i/\l.e i<=262144/\(0 < l.v i->l.e i<=hi)):=lY (fun i hi'=>by
       have P:=hP i hi'
       have hz:l.v i=0->l.n i=0:=fun h0=>by
        have:=P.pos
        have h1:vs ai (l.x i) (l.n i)=0:=h0;omega
       refine⟨fun h0=>⟨(P.zero (hz h0)).2,(P.zero (hz h0)).1⟩,?_,by have:=P.e2;omega,P.bits,P.e1,P.e2,fun hv=>?_⟩
       . by_cases h0:l.n i=0
         . exact .inl (by unfold DL.v;rw[h0,aL])
         . exact .inr (hE.item hi' h0).1
       . have h0:l.n i≠0:=fun h0=>by unfold DL.v at hv;rw[h0,aL]at hv;omega
         exact(hE.item hi' h0).2.1)
      have HNM:Hid (∀ i w',i < j->Below w.heap.size w w'->am w' (.slice (l.A i) (l.n i) (l.c i)) (l.v i)):=lY (fun i w' hi' h'=>(hP i hi').num ((h.2.2 i hi').below h'));clear hP hE hall HLO;go_wp2_with fail
      go_loopw [9] (fun s9 wr=>∃ (i:Nat) (A:OA) (p c:Nat),i<=j/\s9=.int .i64 (i:Int)/\K3 wr (w.heap.size+1) (.bool (jY (aY l false lo i) (aY l true lo i) lo).neg) (.slice A p c) (.int .i64 (jY (aY l false lo i) (aY l true lo i) lo).e)/\am wr (.slice A p c) (jY (aY l false lo i) (aY l true lo i) lo).m/\F1 w wr) (fun s9 _=>j-(intOf s9).toNat)
      case atStart=>exact⟨0,none,0,0,Gm _,rfl,KS,aq _,F⟩
      case round =>
       clear KS F;obtain⟨i,A,p,c,hi',rfl,KS,NS,F⟩:=hrel
       by_cases hlt:i < j
       . obtain⟨ad,rfl,hb,hc⟩:=h.2.1 (by omega)
         obtain⟨c0,c1,c2⟩:=hc i hlt;have d0:=(F.drew.bel.cell (p:=ad.add (i*3)) (by rw[ao];exact hb)).trans c0;have d1:=(F.drew.bel.cell (p:=⟨(ad.add (i*3)).block,(ad.add (i*3)).off+1,none⟩) (by simp only[ao];exact hb)).trans c1;have d2:=(F.drew.bel.cell (p:=⟨(ad.add (i*3)).block,(ad.add (i*3)).off+2,none⟩) (by simp only[ao];exact hb)).trans c2;clear c0 c1 c2 hc
         have hlt':(i:Int) < (j:Int):=by omega
         have HIi:=HIT.out i hlt;have WB:=pf (lo:=lo) (HB.out i hi' false) (HB.out i hi' true);have HST:=Au (aY l false lo i) (aY l true lo i) lo (l.ng i) (l.v i) (l.e i) HIi.1 HIi.2.1;rw[show(aY l false lo i+if l.ng i=false then l.v i*2^(l.e i-lo).toNat else 0)=aY l false lo (i+1) from rfl,show(aY l true lo i+if l.ng i=true then l.v i*2^(l.e i-lo).toNat else 0)=aY l true lo (i+1) from rfl]at HST;have HR:=lY HST;clear HST;generalize jY (aY l false lo i) (aY l true lo i) lo=r at *;generalize hr':jY (aY l false lo (i+1)) (aY l true lo (i+1)) lo=r' at *
         have AD:Hid (∀ w',Below w.heap.size w w'->am w' (.slice A p c) r.m->Calls Bl 150 #[aP r.neg A p c r.e,aP (l.ng i) (l.A i) (l.n i) (l.c i) (l.e i)] w' (fg w' r')):=lY (fun w' h1 h2=>by
          obtain⟨b1,b2,b3,_,_⟩:=WB;obtain⟨i1,i2,i3,i4,i5,i6,i7⟩:=HIi
          have hre:-262144<=r.e/\r.e<=542144/\(0 < r.m->lo<=r.e/\r.e<=lo+280000):=by
           rcases mF r.m with h0 | h0
           . have:=(b2 h0).1;exact⟨by omega,by omega,fun h=>by omega⟩
           . have:=b3 h0;exact⟨by omega,by omega,fun _=>by omega⟩
          have hX9:nb (dS r.m (l.v i) r.e (l.e i))<=900000:=by
           unfold dS
           split
           . rw[aX];omega
           . split
             . omega
             . have h3:=iv r.m (r.e-min r.e (l.e i)).toNat
               unfold cF
               have:=hre.2.2 (by omega)
               rcases i2 with i2 | i2 <;> omega
          have hY9:nb (dV r.m (l.v i) r.e (l.e i))<=900000:=by
           unfold dV
           split
           . omega
           . split
             . rw[aX];omega
             . have h3:=iv (l.v i) (l.e i-min (l.e i) r.e).toNat
               unfold cF
               have:=hre.2.2 (by omega)
               have:=i7 (by omega)
               rcases i2 with i2 | i2 <;> omega
          have:=ua r.neg (l.ng i) A (l.A i) p c (l.n i) (l.c i) r.m (l.v i) r.e (l.e i) w' h2 (HNM.out i w' hlt h1) (by omega) (by omega) (by omega) (by omega) (by omega) (by omega) hX9 hY9 (hT.below h1)
          rw[HR.out]at this
          exact this)
         clear HR WB HIi;have G:=F.drew;have KD:=KS.drew;have ND:am wr.drew (.slice A p c) r.m:=NS.below (Below.refl _ wr).drew;have BD:=G.bel;obtain⟨ks0,ks1,ks2,ks3⟩:=KD.cell;clear KS NS F;generalize l.ng i=ng at *;generalize l.A i=Ai at *;generalize l.n i=ni at *;generalize l.c i=ci at *;generalize l.e i=ei at *;go_wp2_with fail
         go_region_with (go_at_call 150;refine(AD.out _ BD ND).mono ?_;rintro e' w5 ⟨A5,p5,c5,rfl,n5,b5⟩;have KD5:=KD.adv b5;obtain⟨kf0,kf1,kf2⟩:=KD5.frozen;obtain⟨kc0,kc1,kc2,kc3⟩:=KD5.cell)
         all_goals (go_wp2_with fail)
         all_goals go_roundw
         all_goals first
          | exact⟨i+1,A5,p5,c5,by omega,by go_num,by rw[hr'];exact KD5.put _ _ _,by rw[hr'];exact zv n5 KD5 (aZ _ _ _ _ _),(G.adv b5 G.sz).only (aZ _ _ _ _ _) (Nat.le_refl _)⟩
          | (simp[intOf];omega)
       . obtain rfl:i=j:=by omega
         clear hlt
         have hlt':¬ (i:Int) < (i:Int):=by omega
         have WB:=pf (lo:=lo) (HB.out i hi' false) (HB.out i hi' true);have HRES:=lY (HYES.out.trans (wO (aY l false lo i) (aY l true lo i) lo));clear HYES HB HIT HNM;generalize jY (aY l false lo i) (aY l true lo i) lo=r at *;have hok:=WB.2.2.2.1;have lp:=NS.len 4375 (by have:=WB.1;omega);obtain⟨_,_,_,f,hh,sf,cf,ef⟩:=id NS;cases hh;have PL:=dr r.neg A p c f r.e wr sf (by omega);rw[mS cf,ef]at PL;have HPL:=lY PL;have szF:=F.sz;clear PL WB sf cf ef lp;obtain⟨ks0,ks1,ks2,ks3⟩:=KS.cell;go_wp2_with fail;refine HPL.out.mono ?_;rintro e' w3 ⟨rfl,b⟩;have G:=F.adv b szF;have KG:=KS.adv b;have NG:=NS.below b;clear b HPL F KS NS szF ks0 ks1 ks2 ks3;obtain⟨ks0,ks1,ks2,ks3⟩:=KG.cell
         by_cases hpl:aR r.neg r.m r.e=true
         . have HX:=lY (HRES.out.trans (if_pos hpl))
           rw[hpl];obtain⟨cF0,cF1,cF2⟩:=G.kr.cell;obtain⟨fF0,fF1,fF2⟩:=G.kr.frozen;obtain⟨A9,p9,c9,f9,hA9,m9⟩:=NG;cases hA9;go_wp2_with fail;rw[HX.out]
           refine bodyPost_ret (v:=.tuple #[.agg #[.bool r.neg,.slice A p c,.int .i64 r.e],.bool true]) (by simp[results,Bx,go_sem,cF0,cF1,cF2]) rfl
            ⟨.slice A p c,by rw[hok],am.put3 ⟨A,p,c,f9,rfl,m9⟩ G.kr (aD _) (av _ _ _) (aI _) _ _ _,ak G.bel (by omega) G.bel.size _ _ _⟩
         . have hpl':aR r.neg r.m r.e=false:=by simpa using hpl
           have HN:=lY (HRES.out.trans (if_neg hpl));rw[hpl'];obtain⟨zr0,zr1,zr2⟩:=G.kr.cell;obtain⟨yr0,yr1,yr2⟩:=G.kr.frozen;go_wp2_with fail;rw[HN.out];refine bodyPost_ret (v:=.tuple #[.agg #[.bool false,.slice none 0 0,.int .i64 0],.bool false]) (by simp[results,Bx,go_sem,zr0,zr1,zr2]) rfl ⟨_,rfl,aq _,ak G.bel (by omega) G.bel.size _ _ _⟩
    . have hfar':(262144:Int) < hi-lo:=by omega
      have HN:Hid (jO (gP l j) l j=DR.no):=lY (by
       unfold jO;rw[← HLO.out.1,← HLO.out.2];simp[hfar])
      obtain⟨zr0,zr1,zr2⟩:=F.kr.cell;obtain⟨yr0,yr1,yr2⟩:=F.kr.frozen;go_wp2_with fail;rw[HN.out];refine bodyPost_ret (v:=.tuple #[.agg #[.bool false,.slice none 0 0,.int .i64 0],.bool false]) (by simp[results,Bx,go_sem,zr0,zr1,zr2]) rfl ⟨_,rfl,aq _,ak F.bel (by omega) F.bel.size _ _ _⟩
end Go.Proofs.YtmbmohibpkepdaaGreatDoor
