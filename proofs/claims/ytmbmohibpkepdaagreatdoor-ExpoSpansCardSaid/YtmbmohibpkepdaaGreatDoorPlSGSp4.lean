import Derived.Test.YtmbmohibpkepdaaGreatDoorPlSGSp3
set_option maxHeartbeats 4000000
set_option maxRecDepth 8000
open Go.Lib renaming hid->lY
open Go.Proofs.Tryz renaming prog->mF, results126->oY, results57->Bl, results70->Bx, results94->DE
open Nat renaming div_le_self->ou, le_trans->oM, div_mul_le_self->qK, lt_of_le_of_lt->tz, le_refl->yb, add_zero->DF
namespace Go.Proofs.YtmbmohibpkepdaaGreatDoor
open Go.RowKit
variable {A B:OA} {c d m n:Nat} {r:DR}
theorem zw (neg:Bool)(A:OA)(n c:Nat)(x:Nat->Nat)(e:Int)(p:Nat)(up:Bool)(w:World)(ha:Sl w A n c x)(hn:n<=16000)(hp:p<=8192)(hT:bx w)(he1:-1000000000<=e)(he2:e<=1000000000):
 Calls mF 126 #[aP neg A n c e,.int .i64 (p:Int),.bool up] w (fI w (cj neg (vs ai x n) e false p up)):=by
 have bA:Below w.heap.size w (w.alloc (.cells #[.bool neg,.slice A n c,.int .i64 e] 78)):=(Below.refl _ w).alloc (yb _) _;have bB:=bA.alloc bA.size (.cells #[.bool false,.slice none 0 0,.int .i64 0] 24);have kd:=(KC.made 78 w #[.bool neg,.slice A n c,.int .i64 e]).adv ((Below.refl _ _).alloc (yb _) (.cells #[.bool false,.slice none 0 0,.int .i64 0] 24));have kr:=cA.made (w.alloc (.cells #[.bool neg,.slice A n c,.int .i64 e] 78)) (.bool false) (.slice none 0 0) (.int .i64 0);rw[show(w.alloc (.cells #[.bool neg,.slice A n c,.int .i64 e] 78)).heap.size=w.heap.size+1 by simp]at kr
 have hsz:((w.alloc (.cells #[.bool neg,.slice A n c,.int .i64 e] 78)).alloc (.cells #[.bool false,.slice none 0 0,.int .i64 0] 24)).heap.size=w.heap.size+2:=by simp
 have hnb:=kY (bL ha.small);have KX:=lY (bL ha.small);obtain⟨L,hL⟩:∃ L,Hid (L=nb (vs ai x n)):=⟨_,lY rfl⟩;rw[← hL.out]at hnb;obtain⟨D,hD⟩:∃ D,Hid (D=L-p):=⟨_,lY rfl⟩
 have hmax:max ((L:Int)-(p:Int)) 0=(D:Int):=by have:=hD.out;omega
 have hDn:D<=64*n:=by have:=hD.out;omega
 go_enter Tryz.func126,Tryz.ntmps126;go_wp2_with fail;generalize(w.alloc (.cells #[.bool neg,.slice A n c,.int .i64 e] 78)).alloc (.cells #[.bool false,.slice none 0 0,.int .i64 0] 24)=w1 at *;have s1:=ha.below bB;have t1:=hT.below bB;refine(fs A n c x _ s1 (by omega)).mono ?_;rintro e' w2 ⟨B,rfl,hB,rfl⟩;obtain rfl:B=L:=(hJ hB).trans hL.out.symm;clear hB;obtain⟨cd0,cd1,cd2⟩:=kd.c3;obtain⟨cr0,cr1,cr2⟩:=kr.cell;obtain⟨fr0,fr1,fr2⟩:=kr.frozen;go_wp2_with fail;refine(mP A n c x D w1 s1 (by omega) (by omega)).mono ?_;rintro e' w2 ⟨v2,rfl,n2,b⟩;have b2:=bB.trans (b.mono bB.size);have kd2:=kd.adv b;have kr2:=kr.below b (by omega);have s2:=s1.below b;have t2:=t1.below b
 have hsz2:w.heap.size+2<=w2.heap.size:=by have:=b.size;omega
 clear b s1 t1 kd kr cd0 cd1 cd2 cr0 cr1 cr2 fr0 fr1 fr2 hsz hT;obtain⟨A2,p2,c2,f2,rfl,q2,lp2,cn2,e2⟩:=n2.sl' (tz (ou _ _) KX.out);have E2:=lY e2;clear n2 e2
 have QL:Hid (vs ai x n/2^D < 2^p\/D=0):=lY (by
  rcases Nat.eq_zero_or_pos D with h | h
  . exact .inr h
  . refine .inl ((bi _ _).1 ?_)
    rw[gH,← hL.out]
    have:=hD.out;omega)
 obtain⟨cd0,cd1,cd2⟩:=kd2.c3;obtain⟨cr0,cr1,cr2⟩:=kr2.cell;have KM:Hid (vs ai x n/2^D*2^D < ai^n):=lY (tz (qK _ _) KX.out)
 have SHL:Hid (∀ w',Sl w' A2 p2 c2 f2->Calls mF 123 #[.slice A2 p2 c2,.int .i64 (D:Int)] w' fun e w''=>∃ A4 p4 c4 f4,e=.returned (.slice A4 p4 c4)/\Sl w'' A4 p4 c4 f4/\p4<=n/\Hid (vs ai f4 p4=vs ai x n/2^D*2^D)/\Below w'.heap.size w' w''):=lY (fun w' h=>by
  refine(mQ A2 p2 c2 f2 D w' h (by omega) (by omega)).mono ?_;rintro e' w4 ⟨v4,rfl,n4,b⟩;rw[E2.out]at n4;obtain⟨A4,p4,c4,f4,rfl,q4,lp4,_,e4⟩:=n4.sl' KM.out
  exact⟨A4,p4,c4,f4,rfl,q4,lp4,lY e4,b⟩)
 have hg1:w.heap.size < w2.heap.size:=by omega
 have KQ1:Hid (vs ai x n/2^D+1 < ai^(n+1)):=lY (by have:=jl 1 (by omega) KX.out;have:=ou (vs ai x n) (2^D);omega);have KQ1:Hid (vs ai x n/2^D+1 < ai^(n+1)):=lY (by have:=jl 1 (by omega) KX.out;have:=ou (vs ai x n) (2^D);omega);have KQ1:Hid (vs ai x n/2^D+1 < ai^(n+1)):=lY (by have:=jl 1 (by omega) KX.out;have:=ou (vs ai x n) (2^D);omega);have KQ1:Hid (vs ai x n/2^D+1 < ai^(n+1)):=lY (by have:=jl 1 (by omega) KX.out;have:=ou (vs ai x n) (2^D);omega);go_wp2_with fail
 go_region_held3 (fun w'=>w'.cell? ⟨w.heap.size,1,none⟩=some (.slice A n c)) (first | go_keep | exact(b4.cell (by first | exact hg1 | (simp;omega))).trans cd1 | exact(b5.cell (by have:=b4.size;simp at this ⊢;omega)).trans ((b4.cell (by first | exact hg1 | (simp;omega))).trans cd1))
  (first
   | (go_at_call 123;refine(SHL.out _ (by first | exact q2 | exact q2.drew)).mono ?_;rintro e' w4 ⟨A4,p4,c4,f4,rfl,q4,lp4,E4,b4⟩)
   | (go_at_call 122;refine(ic A4 A p4 n c4 c f4 x _ (by exact q4) (by exact s2.drew.below b4) (by omega) (by omega)).mono ?_;rintro e' w5 ⟨rfl,b5⟩))
 have b25:Below w2.heap.size w2 w5:=Below.trans (show Below w2.heap.size w2 w4 from⟨b4.os,b4.tape,b4.output,b4.size,b4.block⟩) (b5.mono b4.size);have bC:=b2.trans (b25.mono b2.size);have qC:=q2.below b25;have tC:=t2.below b25;have kdC:=kd2.adv b25;have krC:=kr2.below b25 (by omega)
 have hC:w.heap.size+2<=w5.heap.size:=by have:=b25.size;omega
 clear b25 b4 b5 q4 kd2 kr2 s2 t2 q2 cd0 cd1 cd2 cr0 cr1 cr2 SHL;obtain⟨cd0,cd1,cd2⟩:=kdC.c3;rw[E4.out];generalize w5=wC at *
 by_cases hK:vs ai x n/2^D*2^D=vs ai x n
 . have HR:=lY (fX (p:=p) hL.out e neg false up false (by rw[← hD.out];simp[hK]))
   rw[← hD.out]at HR;simp only[Bool.false_eq_true,if_false,DF]at HR;rw[hK,eA];clear hK KM E4;go_wp2_with fail;have MK:=de neg A2 p2 c2 f2 (e+(D:Int)) wC qC (by omega) tC (by omega) (by omega);rw[E2.out]at MK;have HMK:=lY MK;clear MK;refine HMK.out.mono ?_;rintro e' w9 ⟨v9,rfl,n9,b9⟩;have bF:=bC.trans (b9.mono bC.size);have kF:=krC.below b9 (by omega);obtain⟨cF0,cF1,cF2⟩:=kF.cell;obtain⟨fF0,fF1,fF2⟩:=kF.frozen;clear HMK b9;generalize bH neg (vs ai x n/2^D) (e+(D:Int))=r at *;obtain⟨A9,p9,c9,f9,rfl,m9⟩:=n9;go_wp2_with fail;rw[HR.out]
   refine bodyPost_ret (v:=.tuple #[.agg #[.bool r.neg,.slice A9 p9 c9,.int .i64 r.e],.bool r.ok]) (by simp[results,oY,go_sem,cF0,cF1,cF2]) rfl
    ⟨_,rfl,am.put3 ⟨A9,p9,c9,f9,rfl,m9⟩ kF (aD _) (av _ _ _) (aI _) _ _ _,ak bF (by omega) bF.size _ _ _⟩
 . obtain⟨r0,hr0,hr1⟩:∃ r0:Int,cQ (vs ai x n/2^D*2^D) (vs ai x n)=r0/\(r0 != 0)=true:=by
    refine⟨_,rfl,?_⟩;have h1:=qK (vs ai x n) (2^D)
    rw[dn (by omega)];rfl
   rw[hr0];have HNE:=lY hK;clear hr0 hK KM E4
   by_cases hun:up=neg
   . subst hun
     have HR:=lY (fX (p:=p) hL.out e up false up false (by simp));rw[← hD.out]at HR;simp only[Bool.false_eq_true,if_false,DF]at HR;go_wp2_with fail;have MK:=de up A2 p2 c2 f2 (e+(D:Int)) wC qC (by omega) tC (by omega) (by omega);rw[E2.out]at MK;have HMK:=lY MK;clear MK;refine HMK.out.mono ?_;rintro e' w9 ⟨v9,rfl,n9,b9⟩;have bF:=bC.trans (b9.mono bC.size);have kF:=krC.below b9 (by omega);obtain⟨cF0,cF1,cF2⟩:=kF.cell;obtain⟨fF0,fF1,fF2⟩:=kF.frozen;clear HMK b9;generalize bH up (vs ai x n/2^D) (e+(D:Int))=r at *;obtain⟨A9,p9,c9,f9,rfl,m9⟩:=n9;go_wp2_with fail;rw[HR.out]
     refine bodyPost_ret (v:=.tuple #[.agg #[.bool r.neg,.slice A9 p9 c9,.int .i64 r.e],.bool r.ok]) (by simp[results,oY,go_sem,cF0,cF1,cF2]) rfl
      ⟨_,rfl,am.put3 ⟨A9,p9,c9,f9,rfl,m9⟩ kF (aD _) (av _ _ _) (aI _) _ _ _,ak bF (by omega) bF.size _ _ _⟩
   . have hun1:(up == neg)=false:=by simpa using hun
     have HR:=lY (fX (p:=p) hL.out e neg false up true (by rw[← hD.out,bne,hun1];simpa using HNE.out));rw[← hD.out]at HR;simp only[if_true]at HR;go_wp2_with fail;have bA3:Below wC.heap.size wC (wC.alloc (.cells #[.int .u64 ((1:Nat):Int)] 51)):=(Below.refl _ wC).alloc (yb _) _;have o3:=gf 51 wC 1 (by unfold ai;omega);have AD:=nj A2 _ p2 1 c2 1 f2 (fun _=>1) _ (qC.below bA3) o3 (by omega) (by omega);rw[E2.out,f5]at AD;have HAD:=lY AD;clear AD;refine HAD.out.mono ?_;rintro e' w7 ⟨v7,rfl,n7,b⟩;have b37:=bA3.trans (b.mono bA3.size);have b7:=bC.trans (b37.mono bC.size);have t7:=tC.below b37;have kr7:=krC.below b37 (by omega);have k7:=kdC.adv b37;obtain⟨c70,c71,c72⟩:=k7.c3;clear k7
     have h7:w.heap.size+2<=w7.heap.size:=by have:=b37.size;omega
     obtain⟨A7,p7,c7,f7,rfl,q7,lp7,_,e7⟩:=n7.sl' KQ1.out;have E7:=lY e7;clear b b37 n7 e7 HAD o3 bA3 tC krC kdC cd0 cd1 cd2 qC;go_wp2_with fail;have MK:=de neg A7 p7 c7 f7 (e+(D:Int)) w7 q7 (by omega) t7 (by omega) (by omega);rw[E7.out]at MK;have HMK:=lY MK;clear MK;refine HMK.out.mono ?_;rintro e' w9 ⟨v9,rfl,n9,b9⟩;have bF:=b7.trans (b9.mono b7.size);have kF:=kr7.below b9 (by omega);obtain⟨cF0,cF1,cF2⟩:=kF.cell;obtain⟨fF0,fF1,fF2⟩:=kF.frozen;clear HMK b9;generalize bH neg (vs ai x n/2^D+1) (e+(D:Int))=r at *;obtain⟨A9,p9,c9,f9,rfl,m9⟩:=n9;go_wp2_with fail;rw[HR.out]
     refine bodyPost_ret (v:=.tuple #[.agg #[.bool r.neg,.slice A9 p9 c9,.int .i64 r.e],.bool r.ok]) (by simp[results,oY,go_sem,cF0,cF1,cF2]) rfl
      ⟨_,rfl,am.put3 ⟨A9,p9,c9,f9,rfl,m9⟩ kF (aD _) (av _ _ _) (aI _) _ _ _,ak bF (by omega) bF.size _ _ _⟩
theorem CV {neg:Bool}{V:Nat}{e:Int}(P:Nat)(up:Bool)(w:World)(h:am w (.slice A n c) V)(hV:nb V<=1000000)(he1:-1000000000<=e)(he2:e<=1000000000)(hP:P<=8192)(hT:bx w):
 Calls mF 126 #[aP neg A n c e,.int .i64 (P:Int),.bool up] w (DP w (cj neg V e false P up)):=by
 have l:=h.len 15625 (by omega);obtain⟨_,_,_,x,hv,hs,hc,he⟩:=h;cases hv
 have:=zw neg A n c x e P up w hs (by omega) hP hT he1 he2
 rw[he]at this
 exact this.mono fun _ _ h=>h.dp
def ll (r:DR)(p:Int)(up:Bool):DR:=oZ (r.ok && aJ p) r.neg r.m r.e p up
theorem CG (p:Int)(up:Bool)(w:World)(h:aC w A n c r)(hT:bx w):
 Calls mF 107 #[aP r.neg A n c r.e,.int .i64 p,.bool up] w (DP w (ll r p up)):=by
 obtain⟨x,a1,a2,a3,a4⟩:=h
 have:=yV r.neg A n c x r.e p up w a1 a2 hT
 unfold ll;rw[a3,a4]
 exact this.mono fun _ _ h=>h.dp
def eI (p:Int)(bad:Bool)(lo hi:DR):SRes:=il (eD p bad lo hi) (ll lo p false) (ll hi p true)
theorem kO {lo hi:DR}(g:Nat)(p:Int)(bad:Bool)(w:World)(hW:Wk 49 w g p bad)(ha:aC w A n c lo)(hb:aC w B m d hi)(hT:bx w):
 Calls mF 57 #[.pointer (some ⟨g,0,none⟩),aG lo.neg A n c lo.e hi.neg B m d hi.e] w (ap 49 w g p (eI p bad lo hi)):=by
 have S:=ui hW (.bool lo.neg) (.slice A n c) (.int .i64 lo.e) (.bool hi.neg) (.slice B m d) (.int .i64 hi.e);have TK:=qJ g p bad _ S.W (ha.wk hW S.O) (hb.wk hW S.O);rw[show((w.alloc (ce (.bool lo.neg) (.slice A n c) (.int .i64 lo.e) (.bool hi.neg) (.slice B m d) (.int .i64 hi.e))).alloc z6).heap.size=w.heap.size+1+1 by simp]at TK;have TKH:=lY TK;clear TK;have RC:Hid (∀ up w',az w w' g->Calls mF 107 #[aP lo.neg A n c lo.e,.int .i64 p,.bool up] w' (DP w' (ll lo p up))):=lY (fun up w' o=>CG p up w' (ha.wk hW o) (hT.wk hW o));have RC2:Hid (∀ up w',az w w' g->Calls mF 107 #[aP hi.neg B m d hi.e,.int .i64 p,.bool up] w' (DP w' (ll hi p up))):=lY (fun up w' o=>CG p up w' (hb.wk hW o) (hT.wk hW o));have k0:=S.ks.2.1.1;obtain⟨k0_0,k0_1,k0_2,k0_3,k0_4,k0_5⟩:=k0.c6;have k0l:=k0.2;clear k0;go_enter Tryz.func57,Tryz.ntmps57;go_wp2_with fail;refine TKH.out.mono ?_;clear TKH k0_0 k0_1 k0_2 k0_3 k0_4 k0_5 k0l;generalize(w.alloc (ce (.bool lo.neg) (.slice A n c) (.int .i64 lo.e) (.bool hi.neg) (.slice B m d) (.int .i64 hi.e))).alloc z6=w1 at *;rintro e' w2 ⟨rfl,hW2,o2⟩;replace S:=S.only o2 hW2;clear o2 hW2;obtain⟨bo,hbo⟩:∃ b:Bool,Hid (eD p bad lo hi=b):=⟨_,lY rfl⟩;rw[hbo.out]at S;rw[hbo.out];cases bo
 rotate_left
 . have HT:Hid (eI p bad lo hi=SRes.no):=lY (by unfold eI;rw[hbo.out];rfl)
   have kR:=S.ks.1.1;obtain⟨s0,s1,s2,s3q,s4,s5⟩:=kR.c6;obtain⟨rf0,rf1,rf2,rf3,rf4,rf5⟩:=kR.f6;go_wp2_with fail;rw[HT.out];obtain⟨q1,q2,q3,q4⟩:=S.give (lo:=DR.zero) (hi:=DR.zero) (aq _) (aq _) kR (by omega);exact bodyPost_ret (v:=aG false none 0 0 0 false none 0 0 0) (by simp[results,Bl,go_sem,s0,s1,s2,s3q,s4,s5]) rfl ⟨none,0,0,none,0,0,rfl,q1,q2,q3,q4⟩
 . skip
   have HT:Hid (eI p bad lo hi=cG false (ll lo p false) (ll hi p true) ((ll lo p false).ok && (ll hi p true).ok)):=lY (by unfold eI;rw[hbo.out];rfl);have D1:=lY (RC.out false);have D2:=lY (RC2.out true);clear RC RC2 hbo;generalize ll lo p false=r1 at *;generalize ll hi p true=r2 at *;go_upto_region 3 with fail
   go_cut [5,6] (fun sd so wx=>∃ g1 A1 n1 c1,sd=.pointer (some ⟨g1,0,none⟩)/\so=.bool r1.ok/\w.heap.size<=g1/\St 49 w g p false wx [(24,g1,s3 r1 A1 n1 c1),(31,w.heap.size+1,zs),(31,w.heap.size,s6 lo A n c hi B m d)] [(.slice A1 n1 c1,r1.m)])
   case first =>
    have HC:Hid (∀ w',St 49 w g p false w' [(31,w.heap.size+1,zs),(31,w.heap.size,s6 lo A n c hi B m d)] []->C3 w' (w.heap.size) (.bool lo.neg) (.slice A n c) (.int .i64 lo.e)/\w'.cell? ⟨g,0,none⟩=some (.int .i64 p)):=lY (fun w' h=>⟨h.ks.2.1.1.c3,h.wc.1⟩);have hz0:=S.ks.1.1.2;have hz1:=S.ks.2.1.1.2;have hz:w.heap.size<=w2.heap.size:=S.size;have SD:=S.drew;have SA:=SD.below (ag w2.drew (bJ (.bool false) (.slice none 0 0) (.int .i64 0)));have XS1:=HC.out _ SD;clear S
    go_region_held3 (fun w'=>C3 w' (w.heap.size) (.bool lo.neg) (.slice A n c) (.int .i64 lo.e)/\w'.cell? ⟨g,0,none⟩=some (.int .i64 p))
     (first | exact XS1 | exact HC.out _ (SD.below b1) | exact HC.out _ SA | exact HC.out _ (SA.below b1) | exact HC.out _ ((SD.below b1).below (ag _ _)) | exact HC.out _ ((SA.below b1).put KZ1.kc hz ⟨by omega,by omega,trivial⟩ _ _ _))
     (first | (go_at_call 107;refine(D1.out _ (by first | exact SD.O | exact SA.O)).mono ?_;rintro e' v1 ⟨A1,p1,c1,rfl,n1,b1⟩;first | (have KZ1:K3 v1 w2.heap.size (.bool false) (.slice none 0 0) (.int .i64 0):=(K3.made w2.drew (.bool false) (.slice none 0 0) (.int .i64 0)).adv b1;obtain⟨kf0,kf1,kf2⟩:=KZ1.frozen;obtain⟨kc0,kc1,kc2,kc3⟩:=KZ1.cell) | skip))
    all_goals (go_wp2_with fail;go_meet;first | exact⟨_,_,_,_,rfl,rfl,oM hz b1.size,((SD.below b1).num n1).alloc _ _⟩ | exact⟨_,_,_,_,rfl,rfl,hz,((SA.below b1).num n1).putK KZ1.kc hz ⟨by omega,by omega,trivial⟩ _ _ _⟩)
   case rest =>
    clear S;obtain⟨g1,A1,n1,c1,rfl,rfl,hg1,S⟩:=hcut;go_upto_region 4 with fail
    go_cut [7,8] (fun sd so wx=>∃ g2 A2 n2 c2,sd=.pointer (some ⟨g2,0,none⟩)/\so=.bool r2.ok/\w.heap.size<=g2/\St 49 w g p false wx [(24,g2,s3 r2 A2 n2 c2),(24,g1,s3 r1 A1 n1 c1),(31,w.heap.size+1,zs),(31,w.heap.size,s6 lo A n c hi B m d)] [(.slice A2 n2 c2,r2.m),(.slice A1 n1 c1,r1.m)])
    case first =>
     have HC:Hid (∀ w',St 49 w g p false w' [(24,g1,s3 r1 A1 n1 c1),(31,w.heap.size+1,zs),(31,w.heap.size,s6 lo A n c hi B m d)] [(.slice A1 n1 c1,r1.m)]->w'.cell? ⟨w.heap.size,3,none⟩=some (.bool hi.neg)/\w'.cell? ⟨w.heap.size,4,none⟩=some (.slice B m d)/\w'.cell? ⟨w.heap.size,5,none⟩=some (.int .i64 hi.e)/\w'.cell? ⟨g,0,none⟩=some (.int .i64 p)):=lY (fun w' h=>⟨h.ks.2.2.1.1.at_ 3 _ rfl,h.ks.2.2.1.1.at_ 4 _ rfl,h.ks.2.2.1.1.at_ 5 _ rfl,h.wc.1⟩);have hz0:=S.ks.1.1.2;have hz1:=S.ks.2.1.1.2;have hz2:=S.ks.2.2.1.1.2;have hz:w.heap.size<=wc.heap.size:=S.size;have SD:=S.drew;have SA:=SD.below (ag wc.drew (bJ (.bool false) (.slice none 0 0) (.int .i64 0)));have XS1:=HC.out _ SD;clear S
     go_region_held3 (fun w'=>w'.cell? ⟨w.heap.size,3,none⟩=some (.bool hi.neg)/\w'.cell? ⟨w.heap.size,4,none⟩=some (.slice B m d)/\w'.cell? ⟨w.heap.size,5,none⟩=some (.int .i64 hi.e)/\w'.cell? ⟨g,0,none⟩=some (.int .i64 p))
      (first | exact XS1 | exact HC.out _ (SD.below b1) | exact HC.out _ SA | exact HC.out _ (SA.below b1) | exact HC.out _ ((SD.below b1).below (ag _ _)) | exact HC.out _ ((SA.below b1).put KZ1.kc hz ⟨by omega,by omega,by omega,trivial⟩ _ _ _))
      (first | (go_at_call 107;refine(D2.out _ (by first | exact SD.O | exact SA.O)).mono ?_;rintro e' v1 ⟨A1,p1,c1,rfl,n1,b1⟩;first | (have KZ1:K3 v1 wc.heap.size (.bool false) (.slice none 0 0) (.int .i64 0):=(K3.made wc.drew (.bool false) (.slice none 0 0) (.int .i64 0)).adv b1;obtain⟨kf0,kf1,kf2⟩:=KZ1.frozen;obtain⟨kc0,kc1,kc2,kc3⟩:=KZ1.cell) | skip))
     all_goals (go_wp2_with fail;go_meet;first | exact⟨_,_,_,_,rfl,rfl,oM hz b1.size,((SD.below b1).num n1).alloc _ _⟩ | exact⟨_,_,_,_,rfl,rfl,hz,((SA.below b1).num n1).putK KZ1.kc hz ⟨by omega,by omega,by omega,trivial⟩ _ _ _⟩)
    case rest =>
     clear S;obtain⟨g2,A2,n2,c2,rfl,rfl,hg2,S⟩:=hcut;have k3:=S.ks.2.1.1;obtain⟨k3_0,k3_1,k3_2⟩:=k3.c3;have k3l:=k3.2;clear k3;have k4:=S.ks.1.1;obtain⟨k4_0,k4_1,k4_2⟩:=k4.c3;have k4l:=k4.2;clear k4;go_wp2_with fail;refine(lf g p false r1 r2 A1 A2 n1 c1 n2 c2 r1.ok r2.ok _ S.W S.ns.2.1 S.ns.1).mono ?_;rintro e' w6 ⟨A9,p9,c9,B9,q9,d9,rfl,m1,m2,hW9,o9⟩;replace S:=S.only o9 hW9;clear o9 hW9 k3_0 k3_1 k3_2 k3l k4_0 k4_1 k4_2 k4l;generalize cG false r1 r2 (r1.ok && r2.ok)=r at *;have kR:=S.ks.2.2.1.1;obtain⟨s0,s1,s2,s3q,s4,s5⟩:=kR.c6;obtain⟨rf0,rf1,rf2,rf3,rf4,rf5⟩:=kR.f6;go_wp2_with fail;rw[HT.out];obtain⟨q1,q2,q3,q4⟩:=S.give (lo:=r.lo) (hi:=r.hi) m1 m2 kR (by omega);exact bodyPost_ret (v:=aG r.lo.neg A9 p9 c9 r.lo.e r.hi.neg B9 q9 d9 r.hi.e) (by simp[results,Bl,go_sem,s0,s1,s2,s3q,s4,s5]) rfl ⟨A9,p9,c9,B9,q9,d9,rfl,q1,q2,q3,q4⟩
section
variable {TW:TypeId}
abbrev Ef (a b c:Value):Obj:=.cells #[a,b,c] 78
theorem FJ {T:TypeId}{w:World}{g:Nat}{p:Int}{bad:Bool}(hW:Wk T w g p bad)(a b c a' b' c':Value):
 St T w g p bad (((w.alloc (Ef a b c)).alloc (Ef a' b' c')).alloc z6) [(31,w.heap.size+1+1,zs),(78,w.heap.size+1,#[a',b',c']),(78,w.heap.size,#[a,b,c])] []:=by
 have h:=(((St.start hW).alloc 78 #[a,b,c]).alloc 78 #[a',b',c']).alloc 31 zs;rw[show((w.alloc (.cells #[a,b,c] 78)).alloc (.cells #[a',b',c'] 78)).heap.size=w.heap.size+1+1 by simp,show(w.alloc (.cells #[a,b,c] 78)).heap.size=w.heap.size+1 by simp]at h;exact h
structure wJ (r:DR):Prop where
 bits:nb r.m<=1000000
 e1:-1000000000<=r.e
 e2:r.e<=1000000000
def gF (P:Nat)(x y:DR):SRes:=cG false (cj x.neg x.m x.e false P false) (cj y.neg y.m y.e false P true) ((cj x.neg x.m x.e false P false).ok && (cj y.neg y.m y.e false P true).ok)
theorem ja {x y:DR}(g P:Nat)(hP:P<=8192)(w:World)(hW:Wk TW w g (P:Int) false)(ha:am w (.slice A n c) x.m)(hb:am w (.slice B m d) y.m)(hx:wJ x)(hy:wJ y)(hT:bx w):
 Calls mF 70 #[.pointer (some ⟨g,0,none⟩),aP x.neg A n c x.e,aP y.neg B m d y.e] w (ap TW w g (P:Int) (gF P x y)):=by
 have S:=FJ hW (.bool x.neg) (.slice A n c) (.int .i64 x.e) (.bool y.neg) (.slice B m d) (.int .i64 y.e);have D1:Hid (∀ w',az w w' g->Calls mF 126 #[aP x.neg A n c x.e,.int .i64 (P:Int),.bool false] w' (DP w' (cj x.neg x.m x.e false P false))):=lY (fun w' o=>CV P false w' (gG hW o ha) hx.bits hx.e1 hx.e2 hP (hT.wk hW o));have D2:Hid (∀ w',az w w' g->Calls mF 126 #[aP y.neg B m d y.e,.int .i64 (P:Int),.bool true] w' (DP w' (cj y.neg y.m y.e false P true))):=lY (fun w' o=>CV P true w' (gG hW o hb) hy.bits hy.e1 hy.e2 hP (hT.wk hW o));have HT:Hid (gF P x y=cG false (cj x.neg x.m x.e false P false) (cj y.neg y.m y.e false P true) ((cj x.neg x.m x.e false P false).ok && (cj y.neg y.m y.e false P true).ok)):=lY rfl;generalize cj x.neg x.m x.e false P false=r1 at *;generalize cj y.neg y.m y.e false P true=r2 at *;obtain⟨p,hp⟩:∃ p:Int,p=(P:Int):=⟨_,rfl⟩;rw[← hp]at hW S D1 D2;rw[← hp];clear hp hx hy;go_enter Tryz.func70,Tryz.ntmps70;go_upto_region 1 with fail;generalize((w.alloc (Ef (.bool x.neg) (.slice A n c) (.int .i64 x.e))).alloc (Ef (.bool y.neg) (.slice B m d) (.int .i64 y.e))).alloc z6=w1 at *;go_upto_region 1 with fail
 go_cut [7,8] (fun sd so wx=>∃ g0 A0 n0 c0,sd=.pointer (some ⟨g0,0,none⟩)/\so=.bool r1.ok/\w.heap.size<=g0/\St TW w g p false wx [(24,g0,s3 r1 A0 n0 c0),(31,w.heap.size+1+1,zs),(78,w.heap.size+1,s3 y B m d),(78,w.heap.size,s3 x A n c)] [(.slice A0 n0 c0,r1.m)])
 case first =>
  have HC:Hid (∀ w',St TW w g p false w' [(31,w.heap.size+1+1,zs),(78,w.heap.size+1,s3 y B m d),(78,w.heap.size,s3 x A n c)] []->C3 w' (w.heap.size) (.bool x.neg) (.slice A n c) (.int .i64 x.e)/\w'.cell? ⟨g,0,none⟩=some (.int .i64 p)):=lY (fun w' h=>⟨h.ks.2.2.1.1.c3,h.wc.1⟩);have hz0:=S.ks.1.1.2;have hz1:=S.ks.2.1.1.2;have hz2:=S.ks.2.2.1.1.2;have hz:w.heap.size<=w1.heap.size:=S.size;have SD:=S.drew;have SA:=SD.below (ag w1.drew (bJ (.bool false) (.slice none 0 0) (.int .i64 0)));have X1:=HC.out _ SD;clear S
  go_region_held3 (fun w'=>C3 w' (w.heap.size) (.bool x.neg) (.slice A n c) (.int .i64 x.e)/\w'.cell? ⟨g,0,none⟩=some (.int .i64 p))
   (first | exact X1 | exact HC.out _ (SD.below b1) | exact HC.out _ SA | exact HC.out _ (SA.below b1) | exact HC.out _ ((SD.below b1).below (ag _ _)) | exact HC.out _ ((SA.below b1).put KZ1.kc hz ⟨by omega,by omega,by omega,trivial⟩ _ _ _))
   (first | (go_at_call 126;refine(D1.out _ (by first | exact SD.O | exact SA.O)).mono ?_;rintro e' v1 ⟨A1,p1,c1,rfl,n1,b1⟩;first | (have KZ1:K3 v1 w1.heap.size (.bool false) (.slice none 0 0) (.int .i64 0):=(K3.made w1.drew (.bool false) (.slice none 0 0) (.int .i64 0)).adv b1;obtain⟨kf0,kf1,kf2⟩:=KZ1.frozen;obtain⟨kc0,kc1,kc2,kc3⟩:=KZ1.cell) | skip))
  all_goals (go_wp2_with fail;go_meet;first | exact⟨_,_,_,_,rfl,rfl,oM hz b1.size,((SD.below b1).num n1).alloc _ _⟩ | exact⟨_,_,_,_,rfl,rfl,hz,((SA.below b1).num n1).putK KZ1.kc hz ⟨by omega,by omega,by omega,trivial⟩ _ _ _⟩)
 case rest =>
  clear S;obtain⟨g0,A0,n0,c0,rfl,rfl,hg0,S⟩:=hcut;go_upto_region 2 with fail
  go_cut [9,10] (fun sd so wx=>∃ g1 A1 n1 c1,sd=.pointer (some ⟨g1,0,none⟩)/\so=.bool r2.ok/\w.heap.size<=g1/\St TW w g p false wx [(24,g1,s3 r2 A1 n1 c1),(24,g0,s3 r1 A0 n0 c0),(31,w.heap.size+1+1,zs),(78,w.heap.size+1,s3 y B m d),(78,w.heap.size,s3 x A n c)] [(.slice A1 n1 c1,r2.m),(.slice A0 n0 c0,r1.m)])
  case first =>
   have HC:Hid (∀ w',St TW w g p false w' [(24,g0,s3 r1 A0 n0 c0),(31,w.heap.size+1+1,zs),(78,w.heap.size+1,s3 y B m d),(78,w.heap.size,s3 x A n c)] [(.slice A0 n0 c0,r1.m)]->C3 w' (w.heap.size+1) (.bool y.neg) (.slice B m d) (.int .i64 y.e)/\w'.cell? ⟨g,0,none⟩=some (.int .i64 p)):=lY (fun w' h=>⟨h.ks.2.2.1.1.c3,h.wc.1⟩);have hz0:=S.ks.1.1.2;have hz1:=S.ks.2.1.1.2;have hz2:=S.ks.2.2.1.1.2;have hz3:=S.ks.2.2.2.1.1.2;have hz:w.heap.size<=wc.heap.size:=S.size;have SD:=S.drew;have SA:=SD.below (ag wc.drew (bJ (.bool false) (.slice none 0 0) (.int .i64 0)));have X1:=HC.out _ SD;clear S
   go_region_held3 (fun w'=>C3 w' (w.heap.size+1) (.bool y.neg) (.slice B m d) (.int .i64 y.e)/\w'.cell? ⟨g,0,none⟩=some (.int .i64 p))
    (first | exact X1 | exact HC.out _ (SD.below b1) | exact HC.out _ SA | exact HC.out _ (SA.below b1) | exact HC.out _ ((SD.below b1).below (ag _ _)) | exact HC.out _ ((SA.below b1).put KZ1.kc hz ⟨by omega,by omega,by omega,by omega,trivial⟩ _ _ _))
    (first | (go_at_call 126;refine(D2.out _ (by first | exact SD.O | exact SA.O)).mono ?_;rintro e' v1 ⟨A1,p1,c1,rfl,n1,b1⟩;first | (have KZ1:K3 v1 wc.heap.size (.bool false) (.slice none 0 0) (.int .i64 0):=(K3.made wc.drew (.bool false) (.slice none 0 0) (.int .i64 0)).adv b1;obtain⟨kf0,kf1,kf2⟩:=KZ1.frozen;obtain⟨kc0,kc1,kc2,kc3⟩:=KZ1.cell) | skip))
   all_goals (go_wp2_with fail;go_meet;first | exact⟨_,_,_,_,rfl,rfl,oM hz b1.size,((SD.below b1).num n1).alloc _ _⟩ | exact⟨_,_,_,_,rfl,rfl,hz,((SA.below b1).num n1).putK KZ1.kc hz ⟨by omega,by omega,by omega,by omega,trivial⟩ _ _ _⟩)
  case rest =>
   clear S;obtain⟨g1,A1,n1,c1,rfl,rfl,hg1,S⟩:=hcut;have k2:=S.ks.2.1.1;obtain⟨k2_0,k2_1,k2_2⟩:=k2.c3;have k2l:=k2.2;clear k2;have k3:=S.ks.1.1;obtain⟨k3_0,k3_1,k3_2⟩:=k3.c3;have k3l:=k3.2;clear k3;cases hr1:r1.ok
   . skip
     rw[hr1]at HT
     first | rw[Bool.false_and]at HT | rw[Bool.true_and]at HT
     go_wp2_with fail;refine(gJ g p false r1 r2 A0 A1 n0 c0 n1 c1 (false) _ S.W S.ns.2.1 S.ns.1).mono ?_;rintro e' w5 ⟨A9,p9,c9,B9,q9,d9,rfl,m1,m2,hW9,o9⟩;replace S:=S.only o9 hW9;clear o9 hW9 k2_0 k2_1 k2_2 k2l k3_0 k3_1 k3_2 k3l;generalize cG false r1 r2 (false)=r at *;have kR:=S.ks.2.2.1.1;obtain⟨s0,s1,s2,s3q,s4,s5⟩:=kR.c6;obtain⟨rf0,rf1,rf2,rf3,rf4,rf5⟩:=kR.f6;go_wp2_with fail;rw[HT.out];obtain⟨q1,q2,q3,q4⟩:=S.give (lo:=r.lo) (hi:=r.hi) m1 m2 kR (by omega);exact bodyPost_ret (v:=aG r.lo.neg A9 p9 c9 r.lo.e r.hi.neg B9 q9 d9 r.hi.e) (by simp[results,Bx,go_sem,s0,s1,s2,s3q,s4,s5]) rfl ⟨A9,p9,c9,B9,q9,d9,rfl,q1,q2,q3,q4⟩
   . skip
     rw[hr1]at HT
     first | rw[Bool.false_and]at HT | rw[Bool.true_and]at HT
     go_wp2_with fail;refine(gJ g p false r1 r2 A0 A1 n0 c0 n1 c1 (r2.ok) _ S.W S.ns.2.1 S.ns.1).mono ?_;rintro e' w6 ⟨A9,p9,c9,B9,q9,d9,rfl,m1,m2,hW9,o9⟩;replace S:=S.only o9 hW9;clear o9 hW9 k2_0 k2_1 k2_2 k2l k3_0 k3_1 k3_2 k3l;generalize cG false r1 r2 (r2.ok)=r at *;have kR:=S.ks.2.2.1.1;obtain⟨s0,s1,s2,s3q,s4,s5⟩:=kR.c6;obtain⟨rf0,rf1,rf2,rf3,rf4,rf5⟩:=kR.f6;go_wp2_with fail;rw[HT.out];obtain⟨q1,q2,q3,q4⟩:=S.give (lo:=r.lo) (hi:=r.hi) m1 m2 kR (by omega);exact bodyPost_ret (v:=aG r.lo.neg A9 p9 c9 r.lo.e r.hi.neg B9 q9 d9 r.hi.e) (by simp[results,Bx,go_sem,s0,s1,s2,s3q,s4,s5]) rfl ⟨A9,p9,c9,B9,q9,d9,rfl,q1,q2,q3,q4⟩
theorem vy (h:bl r):wJ r:=⟨by have:=h.bits;omega,by have:=h.e1;omega,by have:=h.e2;omega⟩
theorem iA {P:Nat}{up:Bool}(h:r.ok=true)(h1:1<=P)(h2:P<=8192):ll r (P:Int) up=cj r.neg r.m r.e false P up:=by
 unfold ll oZ aJ;rw[h]
 have h3:(1:Int)<=(P:Int):=by omega
 have h4:(P:Int)<=8192:=by omega
 simp[h3,h4]
theorem ny {lo hi:DR}(g:Nat)(p:Int)(bad:Bool)(w:World)(hW:Wk TW w g p bad)(ha:aC w A n c lo)(hb:aC w B m d hi)(hT:bx w):
 Calls mF 94 #[.pointer (some ⟨g,0,none⟩),aG lo.neg A n c lo.e hi.neg B m d hi.e] w (ap TW w g p (eI p bad lo hi)):=by
 have S:=ui hW (.bool lo.neg) (.slice A n c) (.int .i64 lo.e) (.bool hi.neg) (.slice B m d) (.int .i64 hi.e);have TK:=CF g p bad _ S.W (ha.wk hW S.O) (hb.wk hW S.O);rw[show((w.alloc (ce (.bool lo.neg) (.slice A n c) (.int .i64 lo.e) (.bool hi.neg) (.slice B m d) (.int .i64 hi.e))).alloc z6).heap.size=w.heap.size+1+1 by simp]at TK;have TKH:=lY TK;clear TK;have k0:=S.ks.2.1.1;obtain⟨k0_0,k0_1,k0_2,k0_3,k0_4,k0_5⟩:=k0.c6;have k0l:=k0.2;clear k0;go_enter Tryz.func94,Tryz.ntmps94;go_wp2_with fail;refine TKH.out.mono ?_;clear TKH k0_0 k0_1 k0_2 k0_3 k0_4 k0_5 k0l;generalize(w.alloc (ce (.bool lo.neg) (.slice A n c) (.int .i64 lo.e) (.bool hi.neg) (.slice B m d) (.int .i64 hi.e))).alloc z6=w1 at *;rintro e' w2 ⟨rfl,hW2,o2⟩;replace S:=S.only o2 hW2;clear o2 hW2;obtain⟨bo,hbo⟩:∃ b:Bool,Hid (eD p bad lo hi=b):=⟨_,lY rfl⟩;rw[hbo.out]at S;rw[hbo.out];cases bo
 rotate_left
 . have HT:Hid (eI p bad lo hi=SRes.no):=lY (by unfold eI;rw[hbo.out];rfl)
   have kR:=S.ks.1.1;obtain⟨s0,s1,s2,s3q,s4,s5⟩:=kR.c6;obtain⟨rf0,rf1,rf2,rf3,rf4,rf5⟩:=kR.f6;go_wp2_with fail;rw[HT.out];obtain⟨q1,q2,q3,q4⟩:=S.give (lo:=DR.zero) (hi:=DR.zero) (aq _) (aq _) kR (by omega);exact bodyPost_ret (v:=aG false none 0 0 0 false none 0 0 0) (by simp[results,DE,go_sem,s0,s1,s2,s3q,s4,s5]) rfl ⟨none,0,0,none,0,0,rfl,q1,q2,q3,q4⟩
 . skip
   obtain⟨hbad,hp,hR⟩:=gN hbo.out;obtain⟨P,rfl⟩:∃ P:Nat,p=(P:Int):=⟨p.toNat,by omega⟩
   have HT:Hid (eI (P:Int) bad lo hi=gF P lo hi):=lY (by
    unfold eI;rw[hbo.out];unfold il gF
    rw[iA hR.l (by omega) (by omega),iA hR.h (by omega) (by omega)];rfl)
   have OW:Hid (∀ w',Wk TW w' g (P:Int) false->az w w' g->Calls mF 70 #[.pointer (some ⟨g,0,none⟩),aP lo.neg A n c lo.e,aP hi.neg B m d hi.e] w' (ap TW w' g (P:Int) (gF P lo hi))):=lY (fun w' k o =>
    ja g P (by omega) w' k ((ha.wk hW o).num hR.l) ((hb.wk hW o).num hR.h) (vy (ha.plain hR.l)) (vy (hb.plain hR.h)) (hT.wk hW o))
   clear hbo hbad hR;have k1:=S.ks.2.1.1;obtain⟨k1_0,k1_1,k1_2,k1_3,k1_4,k1_5⟩:=k1.c6;have k1l:=k1.2;clear k1;go_wp2_with fail;refine(OW.out _ S.W S.O).mono ?_;rintro e' w3 ⟨A9,p9,c9,B9,q9,d9,rfl,m1,m2,hW9,o9⟩;replace S:=S.only o9 hW9;clear o9 hW9 k1_0 k1_1 k1_2 k1_3 k1_4 k1_5 k1l;generalize gF P lo hi=r at *;clear OW;have kR:=S.ks.1.1;obtain⟨s0,s1,s2,s3q,s4,s5⟩:=kR.c6;obtain⟨rf0,rf1,rf2,rf3,rf4,rf5⟩:=kR.f6;go_wp2_with fail;rw[HT.out];obtain⟨q1,q2,q3,q4⟩:=S.give (lo:=r.lo) (hi:=r.hi) m1 m2 kR (by omega);exact bodyPost_ret (v:=aG r.lo.neg A9 p9 c9 r.lo.e r.hi.neg B9 q9 d9 r.hi.e) (by simp[results,DE,go_sem,s0,s1,s2,s3q,s4,s5]) rfl ⟨A9,p9,c9,B9,q9,d9,rfl,q1,q2,q3,q4⟩
end
end Go.Proofs.YtmbmohibpkepdaaGreatDoor
