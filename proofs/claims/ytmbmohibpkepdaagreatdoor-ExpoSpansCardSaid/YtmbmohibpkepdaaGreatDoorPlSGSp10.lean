import Derived.Test.YtmbmohibpkepdaaGreatDoorPlSGSp6
import Derived.Test.YtmbmohibpkepdaaGreatDoorPlSGSp9
set_option maxRecDepth 8000
set_option maxHeartbeats 4000000
open Go.Lib renaming hid->lY
open Go.Proofs.Tryz renaming prog->mF, results130->tz, results71->yb, ntmps71->Bl, func71->DF, results128->Gl, results29->Gm
open Go.Value renaming bool->ou, slice->oM, agg->oY, int->qK
open Bool renaming not_false->Bx, false_eq_true->DE, not_true->EM, or_self->Gk, true_or->Gn, or_true->Gp
namespace Go.Proofs.YtmbmohibpkepdaaGreatDoor
open Go.RowKit
variable {A A' B B':OA} {T U:TypeId} {c c' d d' m m' n n':Nat} {hi hi' lo lo' r s:DR} {ns:List (Value×Nat)} {w wi:World}
def aH (r s:DR):DR:=⟨true,r.neg != s.neg,r.m*s.m,r.e+s.e⟩
theorem Bt (T T' U:TypeId)(w:World)(x y z:Array Value):Pu w (((w.alloc (.cells x T)).alloc (.cells y T')).alloc (.cells z U)) [(U,w.heap.size+1+1,z),(T',w.heap.size+1,y),(T,w.heap.size,x)] []:=by
 have h:=((Pu.alloc (⟨Below.refl _ w,trivial,trivial⟩:Pu w w [] []) T x).alloc T' y).alloc U z;rw[show((w.alloc (.cells x T)).alloc (.cells y T')).heap.size=w.heap.size+1+1 by simp,show(w.alloc (.cells x T)).heap.size=w.heap.size+1 by simp]at h;exact h
theorem el (w:World)(ha:am w (.slice A n c) r.m)(hb:am w (.slice B m d) s.m)(hr:bl r)(hs:bl s):
 Calls mF 127 #[aP r.neg A n c r.e,aP s.neg B m d s.e] w (fg w (aH r s)):=by
 have P:=Bt 24 24 78 w #[.bool r.neg,.slice A n c,.int .i64 r.e] #[.bool s.neg,.slice B m d,.int .i64 s.e] zd;have e1:=hr.e1;have e2:=hr.e2;have e3:=hs.e1;have e4:=hs.e2;have b5:=hr.bits;have b6:=hs.bits;have hw:IntKind.i64.wrap (r.e+s.e)=r.e+s.e:=aE (by omega) (by omega);have MU:Hid (∀ w',Below w.heap.size w w'->Calls mF 80 #[.slice A n c,.slice B m d] w' (NP w' (r.m*s.m))):=lY (fun w' b=>zC w' (ha.below b) (hb.below b) (by omega) (by omega));obtain⟨sq',hsg⟩:∃ b:Bool,(r.neg == s.neg)=b:=⟨_,rfl⟩;have HT:Hid (aH r s=⟨true,!sq',r.m*s.m,r.e+s.e⟩):=lY (by unfold aH bne;rw[hsg]);have HC:Hid (∀ w' ns,Pu w w' [(78,w.heap.size+1+1,zd),(24,w.heap.size+1,s3 s B m d),(24,w.heap.size,s3 r A n c)] ns->C3 w' (w.heap.size) (.bool r.neg) (.slice A n c) (.int .i64 r.e)/\C3 w' (w.heap.size+1) (.bool s.neg) (.slice B m d) (.int .i64 s.e)):=lY (fun w' ns h=>⟨h.ks.2.2.1.c3,h.ks.2.1.c3⟩);have HK:Hid (∀ w' w9 ns,Pu w w' [(78,w.heap.size+1+1,zd),(24,w.heap.size+1,s3 s B m d),(24,w.heap.size,s3 r A n c)] ns->az w' w9 (w.heap.size+1+1)->C3 w9 (w.heap.size) (.bool r.neg) (.slice A n c) (.int .i64 r.e)/\C3 w9 (w.heap.size+1) (.bool s.neg) (.slice B m d) (.int .i64 s.e)):=lY (fun w' w9 ns h o=>⟨(h.ks.2.2.1.only o (by omega)).c3,(h.ks.2.1.only o (by omega)).c3⟩);go_enter Tryz.func127,Tryz.ntmps127;go_upto_region 1 with fail;generalize((w.alloc (bJ (.bool r.neg) (.slice A n c) (.int .i64 r.e))).alloc (bJ (.bool s.neg) (.slice B m d) (.int .i64 s.e))).alloc (.cells zd 78)=w1 at *;have PC:=P.drew;clear P;have XS:=HC.out _ _ PC
 go_region_held3 (fun w'=>C3 w' (w.heap.size) (.bool r.neg) (.slice A n c) (.int .i64 r.e)/\C3 w' (w.heap.size+1) (.bool s.neg) (.slice B m d) (.int .i64 s.e))
  (first | with_reducible exact HC.out v3 _ P9 | (refine HK.out v3 _ _ P9 ?_;with_reducible exact aZ _ _ _ _ _) | with_reducible exact XS)
  (first | (go_at_call 80;refine(MU.out _ PC.bel).mono ?_;rintro e' v3 ⟨A6,p6,c6,rfl,n6,b6'⟩;have P9:=(PC.below b6').num n6;obtain⟨q0,q1,q2⟩:=P9.ks.1.c3;obtain⟨qf0,qf1,qf2⟩:=P9.ks.1.f3))
 go_wp2_with fail;rw[HT.out];obtain⟨hn9,hb9⟩:=P9.give P9.ks.1 (by omega) P9.ns.1 (.bool (!sq')) (.slice A6 p6 c6) (.int .i64 (r.e+s.e));exact bodyPost_ret (v:=.agg #[.bool (!sq'),.slice A6 p6 c6,.int .i64 (r.e+s.e)]) (by simp[results,Tryz.results127,go_sem,q0,q1,q2]) rfl ⟨A6,p6,c6,rfl,hn9,hb9⟩
theorem iS (b:Bool)(w:World)(ha:am w (.slice A n c) r.m)(hb:am w (.slice B m d) s.m):
 Calls mF 128 #[.bool b,aP r.neg A n c r.e,aP s.neg B m d s.e] w (fg w (aF b r s)):=by
 have P:=Bt 24 24 24 w #[.bool r.neg,.slice A n c,.int .i64 r.e] #[.bool s.neg,.slice B m d,.int .i64 s.e] zd;go_enter Tryz.func128,Tryz.ntmps128;cases b
 . skip
   obtain⟨k0,k1,k2⟩:=P.ks.2.1.c3;go_upto_region 3 with fail;generalize((w.alloc (bJ (.bool r.neg) (.slice A n c) (.int .i64 r.e))).alloc (bJ (.bool s.neg) (.slice B m d) (.int .i64 s.e))).alloc (bJ (.bool false) (.slice none 0 0) (.int .i64 0))=w1 at *;obtain⟨q0,q1,q2⟩:=P.ks.1.c3;obtain⟨qf0,qf1,qf2⟩:=P.ks.1.f3;go_wp2_with fail;obtain⟨hn9,hb9⟩:=P.give P.ks.1 (by omega) (hb.below P.bel) (.bool s.neg) (.slice B m d) (.int .i64 s.e);exact bodyPost_ret (v:=.agg #[.bool s.neg,.slice B m d,.int .i64 s.e]) (by simp[results,Gl,go_sem,q0,q1,q2]) rfl ⟨B,m,d,rfl,hn9,hb9⟩
 . skip
   obtain⟨k0,k1,k2⟩:=P.ks.2.2.1.c3;go_upto_region 2 with fail;generalize((w.alloc (bJ (.bool r.neg) (.slice A n c) (.int .i64 r.e))).alloc (bJ (.bool s.neg) (.slice B m d) (.int .i64 s.e))).alloc (bJ (.bool false) (.slice none 0 0) (.int .i64 0))=w1 at *;obtain⟨q0,q1,q2⟩:=P.ks.1.c3;obtain⟨qf0,qf1,qf2⟩:=P.ks.1.f3;go_wp2_with fail;obtain⟨hn9,hb9⟩:=P.give P.ks.1 (by omega) (ha.below P.bel) (.bool r.neg) (.slice A n c) (.int .i64 r.e);exact bodyPost_ret (v:=.agg #[.bool r.neg,.slice A n c,.int .i64 r.e]) (by simp[results,Gl,go_sem,q0,q1,q2]) rfl ⟨A,n,c,rfl,hn9,hb9⟩
def dt (r:DR):Bool:=!r.neg && decide (r.m≠0)
theorem gA (w:World)(ha:am w (.slice A n c) r.m):
 Calls mF 129 #[aP r.neg A n c r.e] w (di w (dt r)):=by
 have b0:=ag w (bJ (.bool r.neg) (.slice A n c) (.int .i64 r.e));have kA:=KC.made 24 w #[.bool r.neg,.slice A n c,.int .i64 r.e];have k0:=kA.at_ 0 _ rfl;have k1:=kA.at_ 1 _ rfl;have hA:=ha.empty;go_enter Tryz.func129,Tryz.ntmps129;cases hn:r.neg
 . skip
   have HT:Hid (dt r=decide (r.m≠0)):=lY (by unfold dt;rw[hn];rfl)
   by_cases h0:n=0
   . skip
     have h1:decide ((0:Int) < (n:Int))=false:=by simp;omega
     have h2:¬ (0:Int) < (n:Int):=by omega
     rw[hn]at k0;have HT2:=lY (HT.out.trans (by simp[hA.1 h0]):dt r=false);clear hA h0 HT;go_wp2_with fail;go_ret;exact⟨by rw[HT2.out];first | rfl | (simp;omega),by first | exact b0 | (rw[← hn];exact b0)⟩
   . skip
     have h1:decide ((0:Int) < (n:Int))=true:=by simp;omega
     have h2:(0:Int) < (n:Int):=by omega
     rw[hn]at k0;have HT2:=lY (HT.out.trans (by simp;exact fun h=>h0 (hA.2 h)):dt r=true);clear hA h0 HT;go_wp2_with fail;go_ret;exact⟨by rw[HT2.out];first | rfl | (simp;omega),by first | exact b0 | (rw[← hn];exact b0)⟩
 . skip
   have HT2:Hid (dt r=false):=lY (by unfold dt;rw[hn];rfl);rw[hn]at k0;clear hA;go_wp2_with fail;go_ret;exact⟨by rw[HT2.out];rfl,by first | exact b0 | (rw[← hn];exact b0)⟩
theorem sU (w:World)(ha:am w (.slice A n c) r.m)(hV:nb r.m<=100000)(he1:-1000000<=r.e)(he2:r.e<=1000000):
 Calls mF 169 #[aP r.neg A n c r.e] w (IP w (r.e+(nb r.m:Int))):=by
 have b0:=ag w (.cells #[.bool r.neg,.slice A n c,.int .i64 r.e] 78);have kA:=KC.made 78 w #[.bool r.neg,.slice A n c,.int .i64 r.e];have hw:IntKind.i64.wrap (r.e+(nb r.m:Int))=r.e+(nb r.m:Int):=aE (by omega) (by omega);have BI:Hid (∀ w',Below w.heap.size w w'->Calls mF 117 #[.slice A n c] w' (IP w' (nb r.m:Int))):=lY (fun w' b=>Dg w' (ha.below b) (by omega));have HC:Hid (∀ w',KC 78 w' w.heap.size #[.bool r.neg,.slice A n c,.int .i64 r.e]->w'.cell? ⟨w.heap.size,1,none⟩=some (.slice A n c)/\w'.cell? ⟨w.heap.size,2,none⟩=some (.int .i64 r.e)):=lY (fun w' h=>⟨h.at_ 1 _ rfl,h.at_ 2 _ rfl⟩);generalize nb r.m=N at *;go_enter Tryz.func169,Tryz.ntmps169;go_upto_region 1 with fail;generalize w.alloc (.cells #[.bool r.neg,.slice A n c,.int .i64 r.e] 78)=w1 at *;have kD:=kA.drew;have BD:=aB b0 (Below.refl _ w1).drew;have XS:=HC.out _ kD
 go_region_held3 (fun w'=>w'.cell? ⟨w.heap.size,1,none⟩=some (.slice A n c)/\w'.cell? ⟨w.heap.size,2,none⟩=some (.int .i64 r.e))
  (first | with_reducible exact HC.out v3 k9 | with_reducible exact XS)
  (first | (go_at_call 117;refine(BI.out _ BD).mono ?_;rintro e' v3 ⟨rfl,b3⟩;have k9:=kD.adv b3;have B9:=aB BD b3))
 go_wp2_with fail;go_ret;exact⟨rfl,B9⟩
def pW (r s:DR):DR:=if cF r.m r.e s.e < cF s.m s.e r.e then s else r
theorem tk (w:World)(ha:am w (.slice A n c) r.m)(hb:am w (.slice B m d) s.m)(r0:0 < r.m)(s0:0 < s.m)(rb:nb r.m<=100000)(sb:nb s.m<=100000)
 (re1:-600000<=r.e) (re2:r.e<=600000) (se1:-600000<=s.e) (se2:s.e<=600000) :
 Calls mF 130 #[aP r.neg A n c r.e,aP s.neg B m d s.e] w (fg w (pW r s)):=by
 have P:=Bt 78 78 78 w #[.bool r.neg,.slice A n c,.int .i64 r.e] #[.bool s.neg,.slice B m d,.int .i64 s.e] zd;obtain⟨tr,htr⟩:∃ z,r.e+(nb r.m:Int)=z:=⟨_,rfl⟩;obtain⟨ts,hts⟩:∃ z,s.e+(nb s.m:Int)=z:=⟨_,rfl⟩;have T1:Hid (∀ w',Below w.heap.size w w'->Calls mF 169 #[aP r.neg A n c r.e] w' (IP w' tr)):=lY (fun w' b=>by rw[← htr];exact sU w' (ha.below b) (by omega) (by omega) (by omega));have T2:Hid (∀ w',Below w.heap.size w w'->Calls mF 169 #[aP s.neg B m d s.e] w' (IP w' ts)):=lY (fun w' b=>by rw[← hts];exact sU w' (hb.below b) (by omega) (by omega) (by omega));obtain⟨E,hE⟩:∃ E,min r.e s.e=E:=⟨_,rfl⟩;obtain⟨j,hj⟩:∃ j:Nat,r.e-E=(j:Int):=⟨(r.e-E).toNat,by omega⟩;obtain⟨k,hk⟩:∃ k:Nat,s.e-E=(k:Int):=⟨(s.e-E).toNat,by omega⟩
 have hX:r.m*2^j=cF r.m r.e s.e:=by unfold cF;rw[hE,hj,Int.toNat_natCast]
 have hY:s.m*2^k=cF s.m s.e r.e:=by unfold cF;rw[show min s.e r.e=E by omega,hk,Int.toNat_natCast]
 have HLT:tr < ts->cF r.m r.e s.e < cF s.m s.e r.e:=fun h=>qQ s0 (by omega)
 have HGT:ts < tr->cF s.m s.e r.e < cF r.m r.e s.e:=fun h=>qQ r0 (by omega)
 have HG:Hid (pW r s=if cF r.m r.e s.e < cF s.m s.e r.e then s else r):=lY rfl
 have hw1:IntKind.i64.wrap (r.e-E)=(j:Int):=by rw[aE (by omega) (by omega),hj]
 have hw2:IntKind.i64.wrap (s.e-E)=(k:Int):=by rw[aE (by omega) (by omega),hk]
 have hjk:tr=ts->j<=1048576/\k<=1048576:=fun h=>by omega
 have H1:tr=ts->Hid (∀ w',Below w.heap.size w w'->Calls mF 123 #[.slice A n c,.int .i64 (j:Int)] w' (NP w' (cF r.m r.e s.e))):=fun h=>lY (fun w' b=>by rw[← hX];exact oV w' (ha.below b) (by omega) (hjk h).1)
 have H2:tr=ts->Hid (∀ w',Below w.heap.size w w'->Calls mF 123 #[.slice B m d,.int .i64 (k:Int)] w' (NP w' (cF s.m s.e r.e))):=fun h=>lY (fun w' b=>by rw[← hY];exact oV w' (hb.below b) (by omega) (hjk h).2)
 have bX:tr=ts->nb (cF r.m r.e s.e)<=6000000:=fun h=>by rw[← hX,ch r0];have:=hjk h;omega
 have bY:tr=ts->nb (cF s.m s.e r.e)<=6000000:=fun h=>by rw[← hY,ch s0];have:=hjk h;omega
 clear hX hY htr hts hj hk hjk;generalize cF r.m r.e s.e=X at *;generalize cF s.m s.e r.e=Y at *;have HC:Hid (∀ w' ns,Pu w w' [(78,w.heap.size+1+1,zd),(78,w.heap.size+1,s3 s B m d),(78,w.heap.size,s3 r A n c)] ns->C3 w' (w.heap.size) (.bool r.neg) (.slice A n c) (.int .i64 r.e)/\C3 w' (w.heap.size+1) (.bool s.neg) (.slice B m d) (.int .i64 s.e)):=lY (fun w' ns h=>⟨h.ks.2.2.1.c3,h.ks.2.1.c3⟩);go_enter Tryz.func130,Tryz.ntmps130;go_upto_region 1 with fail;generalize((w.alloc (.cells #[.bool r.neg,.slice A n c,.int .i64 r.e] 78)).alloc (.cells #[.bool s.neg,.slice B m d,.int .i64 s.e] 78)).alloc (.cells zd 78)=w1 at *;have PC:=P.drew;clear P;have XS:=HC.out _ _ PC
 go_region_held3 (fun w'=>C3 w' (w.heap.size) (.bool r.neg) (.slice A n c) (.int .i64 r.e)/\C3 w' (w.heap.size+1) (.bool s.neg) (.slice B m d) (.int .i64 s.e))
  (first | with_reducible exact HC.out _ _ PC | with_reducible exact XS)
  (first
   | (go_at_call_of 169 (oY #[ou r.neg,oM A n c,qK .i64 r.e]);refine(T1.out _ PC.bel).mono ?_;rintro e' v1 ⟨rfl,b4⟩;have PQ:=PC.below b4;clear PC;have PC:=PQ;clear PQ b4)
   | (go_at_call_of 169 (oY #[ou s.neg,oM B m d,qK .i64 s.e]);refine(T2.out _ PC.bel).mono ?_;rintro e' v2 ⟨rfl,b4⟩;have PQ:=PC.below b4;clear PC;have PC:=PQ;clear PQ b4)
   | (go_at_call 67;refine(l8 tr ts _).mono ?_;rintro e' v3 ⟨rfl,rfl⟩))
 have P:=PC;clear PC XS T1 T2
 rcases Int.lt_trichotomy tr ts with hlt | heq | hgt
 . skip
   have hz:jp tr ts=-1:=by unfold jp;rw[if_pos hlt]
   have HT:=lY (HG.out.trans (if_pos (HLT hlt)));rw[hz];clear hz hlt HG H1 H2 bX bY HLT HGT hE hw1 hw2;obtain⟨k0,k1,k2⟩:=P.ks.2.1.c3;obtain⟨q0,q1,q2⟩:=P.ks.1.c3;obtain⟨qf0,qf1,qf2⟩:=P.ks.1.f3;go_wp2_with fail;rw[HT.out];obtain⟨hn9,hb9⟩:=P.give P.ks.1 (by omega) (hb.below P.bel) (.bool s.neg) (.slice B m d) (.int .i64 s.e);exact bodyPost_ret (v:=.agg #[.bool s.neg,.slice B m d,.int .i64 s.e]) (by simp[results,tz,go_sem,q0,q1,q2]) rfl ⟨B,m,d,rfl,hn9,hb9⟩
 . skip
   have hz:jp tr ts=0:=by unfold jp;rw[if_neg (by omega),if_neg (by omega)]
   have G1:=H1 heq;have G2:=H2 heq;have cX:=bX heq;have cY:=bY heq;rw[hz];clear hz heq H1 H2 bX bY HLT HGT;have k0:=P.ks.2.2.1.at_ 2 _ rfl;have k1:=P.ks.2.1.at_ 2 _ rfl;go_upto_region 4 with fail;clear k0 k1;have HC2:Hid (∀ w' ns,Pu w w' [(78,w.heap.size+1+1,zd),(78,w.heap.size+1,s3 s B m d),(78,w.heap.size,s3 r A n c)] ns->w'.cell? ⟨w.heap.size,1,none⟩=some (.slice A n c)/\w'.cell? ⟨w.heap.size,2,none⟩=some (.int .i64 r.e)/\w'.cell? ⟨w.heap.size+1,1,none⟩=some (.slice B m d)/\w'.cell? ⟨w.heap.size+1,2,none⟩=some (.int .i64 s.e)):=lY (fun w' ns h=>⟨h.ks.2.2.1.at_ 1 _ rfl,h.ks.2.2.1.at_ 2 _ rfl,h.ks.2.1.at_ 1 _ rfl,h.ks.2.1.at_ 2 _ rfl⟩);have PC:=P.drew;clear P HC;have XS:=HC2.out _ _ PC
   go_region_held3 (fun w'=>w'.cell? ⟨w.heap.size,1,none⟩=some (.slice A n c)/\w'.cell? ⟨w.heap.size,2,none⟩=some (.int .i64 r.e)/\w'.cell? ⟨w.heap.size+1,1,none⟩=some (.slice B m d)/\w'.cell? ⟨w.heap.size+1,2,none⟩=some (.int .i64 s.e))
    (first | with_reducible exact HC2.out _ _ PC | with_reducible exact XS)
    (first
     | (go_at_call_of 123 (oM A n c);refine(G1.out _ PC.bel).mono ?_;rintro e' v1 ⟨A4,p4,c4,rfl,n4,b4⟩;have PQ:=(PC.below b4).num n4;clear PC;have PC:=PQ;clear PQ n4 b4)
     | (go_at_call_of 123 (oM B m d);refine(G2.out _ PC.bel).mono ?_;rintro e' v2 ⟨A5,p5,c5,rfl,n5,b5⟩;have PQ:=(PC.below b5).num n5;clear PC;have PC:=PQ;clear PQ n5 b5)
     | (go_at_call 122;refine(Al _ PC.ns.2.1 PC.ns.1 cX cY).mono ?_;rintro e' v3 ⟨rfl,b6⟩;have PQ:=PC.below b6;clear PC;have PC:=PQ;clear PQ b6))
   have P:=PC;clear PC XS G1 G2
   rcases Nat.lt_trichotomy X Y with h | h | h
   . skip
     rw[dn h];have HT:=lY (HG.out.trans (if_pos h));clear HG h;obtain⟨k0,k1,k2⟩:=P.ks.2.1.c3;obtain⟨q0,q1,q2⟩:=P.ks.1.c3;obtain⟨qf0,qf1,qf2⟩:=P.ks.1.f3;go_wp2_with fail;rw[HT.out];obtain⟨hn9,hb9⟩:=P.give P.ks.1 (by omega) (hb.below P.bel) (.bool s.neg) (.slice B m d) (.int .i64 s.e);exact bodyPost_ret (v:=.agg #[.bool s.neg,.slice B m d,.int .i64 s.e]) (by simp[results,tz,go_sem,q0,q1,q2]) rfl ⟨B,m,d,rfl,hn9,hb9⟩
   . skip
     subst h;rw[eA];have HT:=lY (HG.out.trans (if_neg (Nat.lt_irrefl _)));clear HG;obtain⟨k0,k1,k2⟩:=P.ks.2.2.1.c3;obtain⟨q0,q1,q2⟩:=P.ks.1.c3;obtain⟨qf0,qf1,qf2⟩:=P.ks.1.f3;go_wp2_with fail;rw[HT.out];obtain⟨hn9,hb9⟩:=P.give P.ks.1 (by omega) (ha.below P.bel) (.bool r.neg) (.slice A n c) (.int .i64 r.e);exact bodyPost_ret (v:=.agg #[.bool r.neg,.slice A n c,.int .i64 r.e]) (by simp[results,tz,go_sem,q0,q1,q2]) rfl ⟨A,n,c,rfl,hn9,hb9⟩
   . skip
     rw[cO h];have HT:=lY (HG.out.trans (if_neg (by omega)));clear HG h;obtain⟨k0,k1,k2⟩:=P.ks.2.2.1.c3;obtain⟨q0,q1,q2⟩:=P.ks.1.c3;obtain⟨qf0,qf1,qf2⟩:=P.ks.1.f3;go_wp2_with fail;rw[HT.out];obtain⟨hn9,hb9⟩:=P.give P.ks.1 (by omega) (ha.below P.bel) (.bool r.neg) (.slice A n c) (.int .i64 r.e);exact bodyPost_ret (v:=.agg #[.bool r.neg,.slice A n c,.int .i64 r.e]) (by simp[results,tz,go_sem,q0,q1,q2]) rfl ⟨A,n,c,rfl,hn9,hb9⟩
 . skip
   have hz:jp tr ts=1:=by unfold jp;rw[if_neg (by omega),if_pos hgt]
   have HT:=lY (HG.out.trans (if_neg (by have:=HGT hgt;omega)));rw[hz];clear hz hgt HG H1 H2 bX bY HLT HGT hE hw1 hw2;obtain⟨k0,k1,k2⟩:=P.ks.2.2.1.c3;obtain⟨q0,q1,q2⟩:=P.ks.1.c3;obtain⟨qf0,qf1,qf2⟩:=P.ks.1.f3;go_wp2_with fail;rw[HT.out];obtain⟨hn9,hb9⟩:=P.give P.ks.1 (by omega) (ha.below P.bel) (.bool r.neg) (.slice A n c) (.int .i64 r.e);exact bodyPost_ret (v:=.agg #[.bool r.neg,.slice A n c,.int .i64 r.e]) (by simp[results,tz,go_sem,q0,q1,q2]) rfl ⟨A,n,c,rfl,hn9,hb9⟩
def dO (lo hi lo' hi':DR):DR×DR :=
 if lo'.neg then(aH hi (aF hi.neg hi' lo'),aH lo (aF lo.neg lo' hi')) else(aH lo (aF lo.neg hi' lo'),aH hi (aF hi.neg lo' hi'))
def dw (lo hi lo' hi':DR):DR×DR :=
 if !lo'.neg || !dt hi' then dO lo hi lo' hi' else if !lo.neg || !dt hi then dO lo' hi' lo hi else(pW (aH lo hi') (aH hi lo'),pW (aH lo lo') (aH hi hi'))
def Cr (w:World)(x:DR×DR)(e:Ending)(w':World):Prop:=∃ A n c B m d,e=.returned (.tuple #[.agg #[.bool x.1.neg,.slice A n c,.int .i64 x.1.e],.agg #[.bool x.2.neg,.slice B m d,.int .i64 x.2.e]])/\am w' (.slice A n c) x.1.m/\am w' (.slice B m d) x.2.m/\Below w.heap.size w w'
theorem KC.bel {w':World}{g B:Nat}{cs:Array Value}(h:KC T w g cs)(b:Below B w w')(hg:g < B):KC T w' g cs:=⟨(b.block g hg).trans h.1,Nat.lt_of_lt_of_le h.2 b.size⟩
theorem Pu.give2 {ks:List (TypeId×Nat×Array Value)}(h:Pu w wi ks ns){g1 g2:Nat}(k1:KC T wi g1 zd)(k2:KC U wi g2 zd)(h1:w.heap.size<=g1)(h2:w.heap.size<=g2)(hne:g2≠g1){v u:Value}{V U':Nat}(n:am wi v V)(n':am wi u U')(x y z a b c:Value):
 am (put3 (put3 wi g1 x y z) g2 a b c) v V/\am (put3 (put3 wi g1 x y z) g2 a b c) u U'/\Below w.heap.size w (put3 (put3 wi g1 x y z) g2 a b c):=by
 have k2':=k2.only (aZ wi g1 x y z) hne;exact⟨eK (eK n k1 x y z) k2' a b c,eK (eK n' k1 x y z) k2' a b c,ct (ct h.bel (aZ _ _ _ _ _) h1) (aZ _ _ _ _ _) h2⟩
theorem zh (w:World)(x y:Array Value):Pu w ((((w.alloc (.cells x 31)).alloc (.cells y 31)).alloc (.cells zd 78)).alloc (.cells zd 78))
 [(78,w.heap.size+1+1+1,zd),(78,w.heap.size+1+1,zd),(31,w.heap.size+1,y),(31,w.heap.size,x)] []:=by
 have h:=(Bt 31 31 78 w x y zd).alloc 78 zd;rw[show(((w.alloc (.cells x 31)).alloc (.cells y 31)).alloc (.cells zd 78)).heap.size=w.heap.size+1+1+1 by simp]at h;exact h
structure DN (w:World)(A:OA)(n c:Nat)(r:DR):Prop where
 num:am w (.slice A n c) r.m
 pl:bl r
theorem DN.below {w':World}(h:DN w A n c r)(b:Below w.heap.size w w'):DN w' A n c r:=⟨h.num.below b,h.pl⟩
theorem g6 {b:Bool}(h1:bl r)(h2:bl s):bl (aF b r s):=by unfold aF;split <;> assumption
theorem kQ (w:World)(ha:DN w A n c lo)(hb:DN w B m d hi)(ha':DN w A' n' c' lo')(hb':DN w B' m' d' hi')(hs:lo'.neg=false):
 Calls mF 71 #[aG lo.neg A n c lo.e hi.neg B m d hi.e,aG false A' n' c' lo'.e hi'.neg B' m' d' hi'.e] w (Cr w (dO lo hi lo' hi')):=by
 have HT:Hid (dO lo hi lo' hi'=(aH lo (aF lo.neg hi' lo'),aH hi (aF hi.neg lo' hi'))):=lY (by unfold dO;rw[hs];rfl);have E1:Hid (∀ w',Below w.heap.size w w'->Calls mF 128 #[.bool lo.neg,aP hi'.neg B' m' d' hi'.e,aP false A' n' c' lo'.e] w' (fg w' (aF lo.neg hi' lo'))):=lY (fun w' b=>by rw[← hs];exact iS _ w' (hb'.below b).num (ha'.below b).num);have E2:Hid (∀ w',Below w.heap.size w w'->Calls mF 128 #[.bool hi.neg,aP false A' n' c' lo'.e,aP hi'.neg B' m' d' hi'.e] w' (fg w' (aF hi.neg lo' hi'))):=lY (fun w' b=>by rw[← hs];exact iS _ w' (ha'.below b).num (hb'.below b).num);have F1:Hid (∀ w' X x y,Below w.heap.size w w'->am w' (.slice X x y) (aF lo.neg hi' lo').m->Calls mF 127 #[aP lo.neg A n c lo.e,aP (aF lo.neg hi' lo').neg X x y (aF lo.neg hi' lo').e] w' (fg w' (aH lo (aF lo.neg hi' lo')))):=lY (fun w' X x y b h=>el w' (ha.below b).num h ha.pl (g6 hb'.pl ha'.pl));have F2:Hid (∀ w' X x y,Below w.heap.size w w'->am w' (.slice X x y) (aF hi.neg lo' hi').m->Calls mF 127 #[aP hi.neg B m d hi.e,aP (aF hi.neg lo' hi').neg X x y (aF hi.neg lo' hi').e] w' (fg w' (aH hi (aF hi.neg lo' hi')))):=lY (fun w' X x y b h=>el w' (hb.below b).num h hb.pl (g6 ha'.pl hb'.pl));have HC:Hid (∀ w' ns,Pu w w' [(78,w.heap.size+1+1+1,zd),(78,w.heap.size+1+1,zd),(31,w.heap.size+1,#[.bool false,.slice A' n' c',.int .i64 lo'.e,.bool hi'.neg,.slice B' m' d',.int .i64 hi'.e]),(31,w.heap.size,s6 lo A n c hi B m d)] ns->D6 w' (w.heap.size) lo A n c hi B m d/\C6 w' (w.heap.size+1) (.bool false) (.slice A' n' c') (.int .i64 lo'.e) (.bool hi'.neg) (.slice B' m' d') (.int .i64 hi'.e)):=lY (fun w' ns h=>⟨h.ks.2.2.2.1.c6,h.ks.2.2.1.c6⟩);have HK:Hid (∀ w' w9 ns,Pu w w' [(78,w.heap.size+1+1+1,zd),(78,w.heap.size+1+1,zd),(31,w.heap.size+1,#[.bool false,.slice A' n' c',.int .i64 lo'.e,.bool hi'.neg,.slice B' m' d',.int .i64 hi'.e]),(31,w.heap.size,s6 lo A n c hi B m d)] ns->Below (w.heap.size+2) w' w9->D6 w9 (w.heap.size) lo A n c hi B m d/\C6 w9 (w.heap.size+1) (.bool false) (.slice A' n' c') (.int .i64 lo'.e) (.bool hi'.neg) (.slice B' m' d') (.int .i64 hi'.e)):=lY (fun w' w9 ns h b=>⟨(h.ks.2.2.2.1.bel b (by omega)).c6,(h.ks.2.2.1.bel b (by omega)).c6⟩)
 have P:=zh w #[.bool lo.neg,.slice A n c,.int .i64 lo.e,.bool hi.neg,.slice B m d,.int .i64 hi.e] #[.bool false,.slice A' n' c',.int .i64 lo'.e,.bool hi'.neg,.slice B' m' d',.int .i64 hi'.e];generalize aH lo (aF lo.neg hi' lo')=z1 at *;generalize aH hi (aF hi.neg lo' hi')=z2 at *;generalize(aF lo.neg hi' lo')=u at *;generalize(aF hi.neg lo' hi')=v at *;clear hs ha hb ha' hb';obtain⟨ka0,ka1,ka2,ka3,ka4,ka5⟩:=P.ks.2.2.2.1.c6;obtain⟨kb0,kb1,kb2,kb3,kb4,kb5⟩:=P.ks.2.2.1.c6;go_enter DF,Bl;go_upto_region 2 with fail;clear ka0 kb0 ka1 kb1 ka2 kb2 ka3 kb3 ka4 kb4 ka5 kb5;generalize(((w.alloc (ce (.bool lo.neg) (.slice A n c) (.int .i64 lo.e) (.bool hi.neg) (.slice B m d) (.int .i64 hi.e))).alloc (ce (.bool false) (.slice A' n' c') (.int .i64 lo'.e) (.bool hi'.neg) (.slice B' m' d') (.int .i64 hi'.e))).alloc (.cells zd 78)).alloc (.cells zd 78)=w1 at *;have PC:=P.drew;clear P;have XS:=HC.out _ _ PC
 go_region_held3 (fun w'=>D6 w' (w.heap.size) lo A n c hi B m d/\C6 w' (w.heap.size+1) (.bool false) (.slice A' n' c') (.int .i64 lo'.e) (.bool hi'.neg) (.slice B' m' d') (.int .i64 hi'.e))
  (first | with_reducible exact HC.out v4 _ P9 | (refine HK.out v4 _ _ P9 ?_;with_reducible exact ak (Below.refl _ _) (by omega) (by omega) _ _ _) | (refine HK.out v4 _ _ P9 ?_;with_reducible exact ak (ak (Below.refl _ _) (by omega) (by omega) _ _ _) (by omega) (by simp only[World.setCell,Array.size_modify];omega) _ _ _) | with_reducible exact HC.out _ _ PC | with_reducible exact XS)
  (first
   | (go_at_call_of 128 (ou lo.neg);refine(E1.out _ PC.bel).mono ?_;rintro e' v1 ⟨X1,x1,y1,rfl,m1,b1⟩;have PQ:=(PC.below b1).num m1;clear PC;have PC:=PQ;clear PQ m1 b1)
   | (go_at_call_of 128 (ou hi.neg);refine(E2.out _ PC.bel).mono ?_;rintro e' v3 ⟨X3,x3,y3,rfl,m3,b3⟩;have PQ:=(PC.below b3).num m3;clear PC;have PC:=PQ;clear PQ m3 b3)
   | (go_at_call_of 127 (oY #[ou lo.neg,oM A n c,qK .i64 lo.e]);refine(F1.out _ _ _ _ PC.bel PC.ns.1).mono ?_;rintro e' v2 ⟨X2,x2,y2,rfl,m2,b2⟩;have PQ:=(PC.below b2).num m2;clear PC;have PC:=PQ;clear PQ m2 b2)
   | (go_at_call_of 127 (oY #[ou hi.neg,oM B m d,qK .i64 hi.e]);refine(F2.out _ _ _ _ PC.bel PC.ns.1).mono ?_;rintro e' v4 ⟨X4,x4,y4,rfl,m4,b4⟩;have P9:=(PC.below b4).num m4;have hz9:=P9.ks.1.2;obtain⟨q0,q1,q2⟩:=P9.ks.2.1.c3;obtain⟨q3,q4,q5⟩:=P9.ks.1.c3;obtain⟨qf0,qf1,qf2⟩:=P9.ks.2.1.f3;obtain⟨qf3,qf4,qf5⟩:=P9.ks.1.f3))
 go_wp2_with fail;rw[HT.out];obtain⟨n1',n2',hb9⟩:=P9.give2 P9.ks.2.1 P9.ks.1 (by omega) (by omega) (by omega) P9.ns.2.2.1 P9.ns.1 (.bool z1.neg) (.slice X2 x2 y2) (.int .i64 z1.e) (.bool z2.neg) (.slice X4 x4 y4) (.int .i64 z2.e);exact bodyPost_ret (v:=.tuple #[.agg #[.bool z1.neg,.slice X2 x2 y2,.int .i64 z1.e],.agg #[.bool z2.neg,.slice X4 x4 y4,.int .i64 z2.e]]) (by simp[results,yb,go_sem,q0,q1,q2,q3,q4,q5]) rfl ⟨X2,x2,y2,X4,x4,y4,rfl,n1',n2',hb9⟩
theorem kS (w:World)(ha:DN w A n c lo)(hb:DN w B m d hi)(ha':DN w A' n' c' lo')(hb':DN w B' m' d' hi')(hs:lo'.neg=true)(h1:dt hi'=false):
 Calls mF 71 #[aG lo.neg A n c lo.e hi.neg B m d hi.e,aG true A' n' c' lo'.e hi'.neg B' m' d' hi'.e] w (Cr w (dO lo hi lo' hi')):=by
 have HT:Hid (dO lo hi lo' hi'=(aH hi (aF hi.neg hi' lo'),aH lo (aF lo.neg lo' hi'))):=lY (by unfold dO;rw[hs];rfl)
 have AB:Hid (∀ w',Below w.heap.size w w'->Calls mF 129 #[aP hi'.neg B' m' d' hi'.e] w' (di w' false)):=lY (fun w' b=>by
  have:=gA w' (hb'.below b).num
  rw[h1]at this
  exact this)
 clear h1;have E1:Hid (∀ w',Below w.heap.size w w'->Calls mF 128 #[.bool hi.neg,aP hi'.neg B' m' d' hi'.e,aP true A' n' c' lo'.e] w' (fg w' (aF hi.neg hi' lo'))):=lY (fun w' b=>by rw[← hs];exact iS _ w' (hb'.below b).num (ha'.below b).num);have E2:Hid (∀ w',Below w.heap.size w w'->Calls mF 128 #[.bool lo.neg,aP true A' n' c' lo'.e,aP hi'.neg B' m' d' hi'.e] w' (fg w' (aF lo.neg lo' hi'))):=lY (fun w' b=>by rw[← hs];exact iS _ w' (ha'.below b).num (hb'.below b).num);have F1:Hid (∀ w' X x y,Below w.heap.size w w'->am w' (.slice X x y) (aF hi.neg hi' lo').m->Calls mF 127 #[aP hi.neg B m d hi.e,aP (aF hi.neg hi' lo').neg X x y (aF hi.neg hi' lo').e] w' (fg w' (aH hi (aF hi.neg hi' lo')))):=lY (fun w' X x y b h=>el w' (hb.below b).num h hb.pl (g6 hb'.pl ha'.pl));have F2:Hid (∀ w' X x y,Below w.heap.size w w'->am w' (.slice X x y) (aF lo.neg lo' hi').m->Calls mF 127 #[aP lo.neg A n c lo.e,aP (aF lo.neg lo' hi').neg X x y (aF lo.neg lo' hi').e] w' (fg w' (aH lo (aF lo.neg lo' hi')))):=lY (fun w' X x y b h=>el w' (ha.below b).num h ha.pl (g6 ha'.pl hb'.pl));have HC:Hid (∀ w' ns,Pu w w' [(78,w.heap.size+1+1+1,zd),(78,w.heap.size+1+1,zd),(31,w.heap.size+1,#[.bool true,.slice A' n' c',.int .i64 lo'.e,.bool hi'.neg,.slice B' m' d',.int .i64 hi'.e]),(31,w.heap.size,s6 lo A n c hi B m d)] ns->D6 w' (w.heap.size) lo A n c hi B m d/\C6 w' (w.heap.size+1) (.bool true) (.slice A' n' c') (.int .i64 lo'.e) (.bool hi'.neg) (.slice B' m' d') (.int .i64 hi'.e)):=lY (fun w' ns h=>⟨h.ks.2.2.2.1.c6,h.ks.2.2.1.c6⟩);have HK:Hid (∀ w' w9 ns,Pu w w' [(78,w.heap.size+1+1+1,zd),(78,w.heap.size+1+1,zd),(31,w.heap.size+1,#[.bool true,.slice A' n' c',.int .i64 lo'.e,.bool hi'.neg,.slice B' m' d',.int .i64 hi'.e]),(31,w.heap.size,s6 lo A n c hi B m d)] ns->Below (w.heap.size+2) w' w9->D6 w9 (w.heap.size) lo A n c hi B m d/\C6 w9 (w.heap.size+1) (.bool true) (.slice A' n' c') (.int .i64 lo'.e) (.bool hi'.neg) (.slice B' m' d') (.int .i64 hi'.e)):=lY (fun w' w9 ns h b=>⟨(h.ks.2.2.2.1.bel b (by omega)).c6,(h.ks.2.2.1.bel b (by omega)).c6⟩)
 have P:=zh w #[.bool lo.neg,.slice A n c,.int .i64 lo.e,.bool hi.neg,.slice B m d,.int .i64 hi.e] #[.bool true,.slice A' n' c',.int .i64 lo'.e,.bool hi'.neg,.slice B' m' d',.int .i64 hi'.e];generalize aH hi (aF hi.neg hi' lo')=z1 at *;generalize aH lo (aF lo.neg lo' hi')=z2 at *;generalize(aF hi.neg hi' lo')=u at *;generalize(aF lo.neg lo' hi')=v at *;clear hs ha hb ha' hb';obtain⟨ka0,ka1,ka2,ka3,ka4,ka5⟩:=P.ks.2.2.2.1.c6;obtain⟨kb0,kb1,kb2,kb3,kb4,kb5⟩:=P.ks.2.2.1.c6;go_enter DF,Bl;go_upto_region 3 with fail;generalize(((w.alloc (ce (.bool lo.neg) (.slice A n c) (.int .i64 lo.e) (.bool hi.neg) (.slice B m d) (.int .i64 hi.e))).alloc (ce (.bool true) (.slice A' n' c') (.int .i64 lo'.e) (.bool hi'.neg) (.slice B' m' d') (.int .i64 hi'.e))).alloc (.cells zd 78)).alloc (.cells zd 78)=w1 at *;go_wp2_with fail;refine(AB.out _ P.bel).mono ?_;rintro e' w2 ⟨rfl,b2⟩;replace P:=P.below b2;clear b2 AB ka0 kb0 ka1 kb1 ka2 kb2 ka3 kb3 ka4 kb4 ka5 kb5;obtain⟨ka0,ka1,ka2,ka3,ka4,ka5⟩:=P.ks.2.2.2.1.c6;obtain⟨kb0,kb1,kb2,kb3,kb4,kb5⟩:=P.ks.2.2.1.c6;go_upto_region 4 with fail;clear ka0 kb0 ka1 kb1 ka2 kb2 ka3 kb3 ka4 kb4 ka5 kb5;have PC:=P.drew;clear P;have XS:=HC.out _ _ PC
 go_region_held3 (fun w'=>D6 w' (w.heap.size) lo A n c hi B m d/\C6 w' (w.heap.size+1) (.bool true) (.slice A' n' c') (.int .i64 lo'.e) (.bool hi'.neg) (.slice B' m' d') (.int .i64 hi'.e))
  (first | with_reducible exact HC.out v4 _ P9 | (refine HK.out v4 _ _ P9 ?_;with_reducible exact ak (Below.refl _ _) (by omega) (by omega) _ _ _) | (refine HK.out v4 _ _ P9 ?_;with_reducible exact ak (ak (Below.refl _ _) (by omega) (by omega) _ _ _) (by omega) (by simp only[World.setCell,Array.size_modify];omega) _ _ _) | with_reducible exact HC.out _ _ PC | with_reducible exact XS)
  (first
   | (go_at_call_of 128 (ou hi.neg);refine(E1.out _ PC.bel).mono ?_;rintro e' v1 ⟨X1,x1,y1,rfl,m1,b1⟩;have PQ:=(PC.below b1).num m1;clear PC;have PC:=PQ;clear PQ m1 b1)
   | (go_at_call_of 128 (ou lo.neg);refine(E2.out _ PC.bel).mono ?_;rintro e' v3 ⟨X3,x3,y3,rfl,m3,b3⟩;have PQ:=(PC.below b3).num m3;clear PC;have PC:=PQ;clear PQ m3 b3)
   | (go_at_call_of 127 (oY #[ou hi.neg,oM B m d,qK .i64 hi.e]);refine(F1.out _ _ _ _ PC.bel PC.ns.1).mono ?_;rintro e' v2 ⟨X2,x2,y2,rfl,m2,b2⟩;have PQ:=(PC.below b2).num m2;clear PC;have PC:=PQ;clear PQ m2 b2)
   | (go_at_call_of 127 (oY #[ou lo.neg,oM A n c,qK .i64 lo.e]);refine(F2.out _ _ _ _ PC.bel PC.ns.1).mono ?_;rintro e' v4 ⟨X4,x4,y4,rfl,m4,b4⟩;have P9:=(PC.below b4).num m4;have hz9:=P9.ks.1.2;obtain⟨q0,q1,q2⟩:=P9.ks.2.1.c3;obtain⟨q3,q4,q5⟩:=P9.ks.1.c3;obtain⟨qf0,qf1,qf2⟩:=P9.ks.2.1.f3;obtain⟨qf3,qf4,qf5⟩:=P9.ks.1.f3))
 go_wp2_with fail;rw[HT.out];obtain⟨n1',n2',hb9⟩:=P9.give2 P9.ks.2.1 P9.ks.1 (by omega) (by omega) (by omega) P9.ns.2.2.1 P9.ns.1 (.bool z1.neg) (.slice X2 x2 y2) (.int .i64 z1.e) (.bool z2.neg) (.slice X4 x4 y4) (.int .i64 z2.e);exact bodyPost_ret (v:=.tuple #[.agg #[.bool z1.neg,.slice X2 x2 y2,.int .i64 z1.e],.agg #[.bool z2.neg,.slice X4 x4 y4,.int .i64 z2.e]]) (by simp[results,yb,go_sem,q0,q1,q2,q3,q4,q5]) rfl ⟨X2,x2,y2,X4,x4,y4,rfl,n1',n2',hb9⟩
theorem nK (w:World)(ha:DN w A n c lo)(hb:DN w B m d hi)(ha':DN w A' n' c' lo')(hb':DN w B' m' d' hi')(hs:lo'.neg=true)(h1:dt hi'=true)(hs1:lo.neg=false):
 Calls mF 71 #[aG false A n c lo.e hi.neg B m d hi.e,aG true A' n' c' lo'.e hi'.neg B' m' d' hi'.e] w (Cr w (dO lo' hi' lo hi)):=by
 have PD:Hid (∀ w',Below w.heap.size w w'->Calls mF 71 #[aG true A' n' c' lo'.e hi'.neg B' m' d' hi'.e,aG false A n c lo.e hi.neg B m d hi.e] w' (Cr w' (dO lo' hi' lo hi))):=lY (fun w' b=>by have:=kQ w' (ha'.below b) (hb'.below b) (ha.below b) (hb.below b) hs1;rw[hs]at this;exact this)
 have A1:Hid (∀ w',Below w.heap.size w w'->Calls mF 129 #[aP hi'.neg B' m' d' hi'.e] w' (di w' true)):=lY (fun w' b=>by
  have:=gA w' (hb'.below b).num
  rw[h1]at this
  exact this)
 have P:=zh w #[.bool false,.slice A n c,.int .i64 lo.e,.bool hi.neg,.slice B m d,.int .i64 hi.e] #[.bool true,.slice A' n' c',.int .i64 lo'.e,.bool hi'.neg,.slice B' m' d',.int .i64 hi'.e];clear hs hs1 h1 ha hb ha' hb';obtain⟨x,hx⟩:∃ x,dO lo' hi' lo hi=x:=⟨_,rfl⟩;rw[hx]at PD;have HT:=lY hx;clear hx;obtain⟨ka0,ka1,ka2,ka3,ka4,ka5⟩:=P.ks.2.2.2.1.c6;obtain⟨kb0,kb1,kb2,kb3,kb4,kb5⟩:=P.ks.2.2.1.c6;go_enter DF,Bl;go_upto_region 3 with fail;generalize(((w.alloc (ce (.bool false) (.slice A n c) (.int .i64 lo.e) (.bool hi.neg) (.slice B m d) (.int .i64 hi.e))).alloc (ce (.bool true) (.slice A' n' c') (.int .i64 lo'.e) (.bool hi'.neg) (.slice B' m' d') (.int .i64 hi'.e))).alloc (.cells zd 78)).alloc (.cells zd 78)=w1 at *;go_wp2_with fail;refine(A1.out _ P.bel).mono ?_;rintro e' w2 ⟨rfl,b2⟩;replace P:=P.below b2;clear b2 A1 ka0 kb0 ka1 kb1 ka2 kb2 ka3 kb3 ka4 kb4 ka5 kb5;obtain⟨ka0,ka1,ka2,ka3,ka4,ka5⟩:=P.ks.2.2.2.1.c6;obtain⟨kb0,kb1,kb2,kb3,kb4,kb5⟩:=P.ks.2.2.1.c6;go_wp2_with fail;refine(PD.out _ P.bel).mono ?_;rintro e' w3 ⟨X1,x1,y1,X2,x2,y2,rfl,m1,m2,b3⟩;replace P:=((P.below b3).num m2).num m1;clear b3 m1 m2 PD ka0 kb0 ka1 kb1 ka2 kb2 ka3 kb3 ka4 kb4 ka5 kb5;have hz9:=P.ks.1.2;obtain⟨q0,q1,q2⟩:=P.ks.2.1.c3;obtain⟨q3,q4,q5⟩:=P.ks.1.c3;obtain⟨qf0,qf1,qf2⟩:=P.ks.2.1.f3;obtain⟨qf3,qf4,qf5⟩:=P.ks.1.f3;go_wp2_with fail;rw[HT.out];obtain⟨n1',n2',hb9⟩:=P.give2 P.ks.2.1 P.ks.1 (by omega) (by omega) (by omega) P.ns.1 P.ns.2.1 (.bool x.1.neg) (.slice X1 x1 y1) (.int .i64 x.1.e) (.bool x.2.neg) (.slice X2 x2 y2) (.int .i64 x.2.e);exact bodyPost_ret (v:=.tuple #[.agg #[.bool x.1.neg,.slice X1 x1 y1,.int .i64 x.1.e],.agg #[.bool x.2.neg,.slice X2 x2 y2,.int .i64 x.2.e]]) (by simp[results,yb,go_sem,q0,q1,q2,q3,q4,q5]) rfl ⟨X1,x1,y1,X2,x2,y2,rfl,n1',n2',hb9⟩
theorem nJ (w:World)(ha:DN w A n c lo)(hb:DN w B m d hi)(ha':DN w A' n' c' lo')(hb':DN w B' m' d' hi')(hs:lo'.neg=true)(h1:dt hi'=true)(hs1:lo.neg=true)(h3:dt hi=false):
 Calls mF 71 #[aG true A n c lo.e hi.neg B m d hi.e,aG true A' n' c' lo'.e hi'.neg B' m' d' hi'.e] w (Cr w (dO lo' hi' lo hi)):=by
 have PD:Hid (∀ w',Below w.heap.size w w'->Calls mF 71 #[aG true A' n' c' lo'.e hi'.neg B' m' d' hi'.e,aG true A n c lo.e hi.neg B m d hi.e] w' (Cr w' (dO lo' hi' lo hi))):=lY (fun w' b=>by have:=kS w' (ha'.below b) (hb'.below b) (ha.below b) (hb.below b) hs1 h3;rw[hs]at this;exact this)
 have A1:Hid (∀ w',Below w.heap.size w w'->Calls mF 129 #[aP hi'.neg B' m' d' hi'.e] w' (di w' true)):=lY (fun w' b=>by
  have:=gA w' (hb'.below b).num
  rw[h1]at this
  exact this)
 have A2:Hid (∀ w',Below w.heap.size w w'->Calls mF 129 #[aP hi.neg B m d hi.e] w' (di w' false)):=lY (fun w' b=>by
  have:=gA w' (hb.below b).num
  rw[h3]at this
  exact this)
 have P:=zh w #[.bool true,.slice A n c,.int .i64 lo.e,.bool hi.neg,.slice B m d,.int .i64 hi.e] #[.bool true,.slice A' n' c',.int .i64 lo'.e,.bool hi'.neg,.slice B' m' d',.int .i64 hi'.e];clear hs hs1 h1 ha hb ha' hb' h3;obtain⟨x,hx⟩:∃ x,dO lo' hi' lo hi=x:=⟨_,rfl⟩;rw[hx]at PD;have HT:=lY hx;clear hx;obtain⟨ka0,ka1,ka2,ka3,ka4,ka5⟩:=P.ks.2.2.2.1.c6;obtain⟨kb0,kb1,kb2,kb3,kb4,kb5⟩:=P.ks.2.2.1.c6;go_enter DF,Bl;go_upto_region 3 with fail;generalize(((w.alloc (ce (.bool true) (.slice A n c) (.int .i64 lo.e) (.bool hi.neg) (.slice B m d) (.int .i64 hi.e))).alloc (ce (.bool true) (.slice A' n' c') (.int .i64 lo'.e) (.bool hi'.neg) (.slice B' m' d') (.int .i64 hi'.e))).alloc (.cells zd 78)).alloc (.cells zd 78)=w1 at *;go_wp2_with fail;refine(A1.out _ P.bel).mono ?_;rintro e' w2 ⟨rfl,b2⟩;replace P:=P.below b2;clear b2 A1 ka0 kb0 ka1 kb1 ka2 kb2 ka3 kb3 ka4 kb4 ka5 kb5;obtain⟨ka0,ka1,ka2,ka3,ka4,ka5⟩:=P.ks.2.2.2.1.c6;obtain⟨kb0,kb1,kb2,kb3,kb4,kb5⟩:=P.ks.2.2.1.c6;go_wp2_with fail;refine(A2.out _ P.bel).mono ?_;rintro e' w2 ⟨rfl,b2⟩;replace P:=P.below b2;clear b2 A2 ka0 kb0 ka1 kb1 ka2 kb2 ka3 kb3 ka4 kb4 ka5 kb5;obtain⟨ka0,ka1,ka2,ka3,ka4,ka5⟩:=P.ks.2.2.2.1.c6;obtain⟨kb0,kb1,kb2,kb3,kb4,kb5⟩:=P.ks.2.2.1.c6;go_wp2_with fail;refine(PD.out _ P.bel).mono ?_;rintro e' w3 ⟨X1,x1,y1,X2,x2,y2,rfl,m1,m2,b3⟩;replace P:=((P.below b3).num m2).num m1;clear b3 m1 m2 PD ka0 kb0 ka1 kb1 ka2 kb2 ka3 kb3 ka4 kb4 ka5 kb5;have hz9:=P.ks.1.2;obtain⟨q0,q1,q2⟩:=P.ks.2.1.c3;obtain⟨q3,q4,q5⟩:=P.ks.1.c3;obtain⟨qf0,qf1,qf2⟩:=P.ks.2.1.f3;obtain⟨qf3,qf4,qf5⟩:=P.ks.1.f3;go_wp2_with fail;rw[HT.out];obtain⟨n1',n2',hb9⟩:=P.give2 P.ks.2.1 P.ks.1 (by omega) (by omega) (by omega) P.ns.1 P.ns.2.1 (.bool x.1.neg) (.slice X1 x1 y1) (.int .i64 x.1.e) (.bool x.2.neg) (.slice X2 x2 y2) (.int .i64 x.2.e);exact bodyPost_ret (v:=.tuple #[.agg #[.bool x.1.neg,.slice X1 x1 y1,.int .i64 x.1.e],.agg #[.bool x.2.neg,.slice X2 x2 y2,.int .i64 x.2.e]]) (by simp[results,yb,go_sem,q0,q1,q2,q3,q4,q5]) rfl ⟨X1,x1,y1,X2,x2,y2,rfl,n1',n2',hb9⟩
theorem Pu.put4 {T1 T2:TypeId}{g4 g5 b a:Nat}{c5 B A:Array Value}(h:Pu w wi [(U,g5,c5),(T,g4,zd),(T1,b,B),(T2,a,A)] ns)(hg:w.heap.size<=g4)(h1:g5≠g4)(h2:b≠g4)(h3:a≠g4)(x y z:Value):
 Pu w (put3 wi g4 x y z) [(U,g5,c5),(T,g4,#[x,y,z]),(T1,b,B),(T2,a,A)] ns:=by
 have o:=aZ wi g4 x y z;exact⟨ct h.bel o hg,⟨h.ks.1.only o h1,h.ks.2.1.put3 x y z,h.ks.2.2.1.only o h2,h.ks.2.2.2.1.only o h3,trivial⟩,h.ns.put3 h.ks.2.1 x y z⟩
theorem Pu.put5 {T1 T2:TypeId}{g4 g5 b a:Nat}{c4 B A:Array Value}(h:Pu w wi [(U,g5,zd),(T,g4,c4),(T1,b,B),(T2,a,A)] ns)(hg:w.heap.size<=g5)(h1:g4≠g5)(h2:b≠g5)(h3:a≠g5)(x y z:Value):
 Pu w (put3 wi g5 x y z) [(U,g5,#[x,y,z]),(T,g4,c4),(T1,b,B),(T2,a,A)] ns:=by
 have o:=aZ wi g5 x y z;exact⟨ct h.bel o hg,⟨h.ks.1.put3 x y z,h.ks.2.1.only o h1,h.ks.2.2.1.only o h2,h.ks.2.2.2.1.only o h3,trivial⟩,h.ns.put3 h.ks.1 x y z⟩
theorem Pu.give3 {ks:List (TypeId×Nat×Array Value)}(h:Pu w wi ks ns){g1 g2:Nat}{na nb':Bool}{e f:Int}(k1:KC T wi g1 #[.bool na,.slice A n c,.int .i64 e])(k2:KC U wi g2 #[.bool nb',.slice B m d,.int .i64 f])(h1:w.heap.size<=g1)(h2:w.heap.size<=g2)(hne:g2≠g1){v u:Value}{V U':Nat}(n:am wi v V)(n':am wi u U')(x y z a b c:Value):
 am (put3 (put3 wi g1 x y z) g2 a b c) v V/\am (put3 (put3 wi g1 x y z) g2 a b c) u U'/\Below w.heap.size w (put3 (put3 wi g1 x y z) g2 a b c):=by
 have k2':=k2.only (aZ wi g1 x y z) hne;exact⟨eK (eK n k1 x y z) k2' a b c,eK (eK n' k1 x y z) k2' a b c,ct (ct h.bel (aZ _ _ _ _ _) h1) (aZ _ _ _ _ _) h2⟩
theorem wl (h:bl r)(hn:r.neg=true):0 < r.m:=by
 rcases Nat.eq_zero_or_pos r.m with h0 | h0
 . have:=(h.zero h0).2;rw[this]at hn;cases hn
 . exact h0
theorem ft (h:dt r=true):0 < r.m/\r.neg=false:=by
 unfold dt at h
 simp at h
 exact⟨by omega,h.1⟩
theorem FZ {u v:DR}(w:World)(h1:am w (.slice A n c) (aH r s).m)(h2:am w (.slice B m d) (aH u v).m)(pr:bl r)(ps:bl s)(pu:bl u)(pv:bl v)(r0:0 < r.m)(s0:0 < s.m)(u0:0 < u.m)(v0:0 < v.m):
 Calls mF 130 #[aP (aH r s).neg A n c (aH r s).e,aP (aH u v).neg B m d (aH u v).e] w (fg w (pW (aH r s) (aH u v))):=by
 have b1:=lV r.m s.m;have b2:=lV u.m v.m
 have:=pr.bits
 have:=ps.bits
 have:=pu.bits
 have:=pv.bits
 have:=pr.e1
 have:=pr.e2
 have:=ps.e1
 have:=ps.e2
 have:=pu.e1
 have:=pu.e2
 have:=pv.e1
 have:=pv.e2
 exact tk w h1 h2 (Nat.mul_pos r0 s0) (Nat.mul_pos u0 v0) (by show nb (r.m*s.m)<=_;omega) (by show nb (u.m*v.m)<=_;omega) (by show _<=r.e+s.e;omega) (by show r.e+s.e<=_;omega) (by show _<=u.e+v.e;omega) (by show u.e+v.e<=_;omega)
theorem sI (w:World)(ha:DN w A n c lo)(hb:DN w B m d hi)(ha':DN w A' n' c' lo')(hb':DN w B' m' d' hi')(hs:lo'.neg=true)(h1:dt hi'=true)(hs1:lo.neg=true)(h3:dt hi=true):
 Calls mF 71 #[aG true A n c lo.e hi.neg B m d hi.e,aG true A' n' c' lo'.e hi'.neg B' m' d' hi'.e] w (Cr w (pW (aH lo hi') (aH hi lo'),pW (aH lo lo') (aH hi hi'))):=by
 have pha:=wl ha.pl hs1;have pha':=wl ha'.pl hs;have phb:=(ft h3).1;have phb':=(ft h1).1;have F1:Hid (∀ w',Below w.heap.size w w'->Calls mF 127 #[aP true A n c lo.e,aP hi'.neg B' m' d' hi'.e] w' (fg w' (aH lo hi'))):=lY (fun w' b=>by have:=el w' (ha.below b).num (hb'.below b).num ha.pl hb'.pl;first | (rw[hs,hs1]at this;exact this) | (rw[hs1]at this;exact this) | (rw[hs]at this;exact this) | exact this);have F2:Hid (∀ w',Below w.heap.size w w'->Calls mF 127 #[aP hi.neg B m d hi.e,aP true A' n' c' lo'.e] w' (fg w' (aH hi lo'))):=lY (fun w' b=>by have:=el w' (hb.below b).num (ha'.below b).num hb.pl ha'.pl;first | (rw[hs,hs1]at this;exact this) | (rw[hs1]at this;exact this) | (rw[hs]at this;exact this) | exact this);have F3:Hid (∀ w',Below w.heap.size w w'->Calls mF 127 #[aP true A n c lo.e,aP true A' n' c' lo'.e] w' (fg w' (aH lo lo'))):=lY (fun w' b=>by have:=el w' (ha.below b).num (ha'.below b).num ha.pl ha'.pl;first | (rw[hs,hs1]at this;exact this) | (rw[hs1]at this;exact this) | (rw[hs]at this;exact this) | exact this);have F4:Hid (∀ w',Below w.heap.size w w'->Calls mF 127 #[aP hi.neg B m d hi.e,aP hi'.neg B' m' d' hi'.e] w' (fg w' (aH hi hi'))):=lY (fun w' b=>by have:=el w' (hb.below b).num (hb'.below b).num hb.pl hb'.pl;first | (rw[hs,hs1]at this;exact this) | (rw[hs1]at this;exact this) | (rw[hs]at this;exact this) | exact this);have G1:Hid (∀ w' X x y Z z u,am w' (.slice X x y) (aH lo hi').m->am w' (.slice Z z u) (aH hi lo').m->Calls mF 130 #[aP (aH lo hi').neg X x y (aH lo hi').e,aP (aH hi lo').neg Z z u (aH hi lo').e] w' (fg w' (pW (aH lo hi') (aH hi lo')))):=lY (fun w' X x y Z z u h1 h2=>FZ w' h1 h2 ha.pl hb'.pl hb.pl ha'.pl pha phb' phb pha');have G2:Hid (∀ w' X x y Z z u,am w' (.slice X x y) (aH lo lo').m->am w' (.slice Z z u) (aH hi hi').m->Calls mF 130 #[aP (aH lo lo').neg X x y (aH lo lo').e,aP (aH hi hi').neg Z z u (aH hi hi').e] w' (fg w' (pW (aH lo lo') (aH hi hi')))):=lY (fun w' X x y Z z u h1 h2=>FZ w' h1 h2 ha.pl ha'.pl hb.pl hb'.pl pha pha' phb phb')
 have A1:Hid (∀ w',Below w.heap.size w w'->Calls mF 129 #[aP hi'.neg B' m' d' hi'.e] w' (di w' true)):=lY (fun w' b=>by
  have:=gA w' (hb'.below b).num
  rw[h1]at this
  exact this)
 have A2:Hid (∀ w',Below w.heap.size w w'->Calls mF 129 #[aP hi.neg B m d hi.e] w' (di w' true)):=lY (fun w' b=>by
  have:=gA w' (hb.below b).num
  rw[h3]at this
  exact this)
 have P:=zh w #[.bool true,.slice A n c,.int .i64 lo.e,.bool hi.neg,.slice B m d,.int .i64 hi.e] #[.bool true,.slice A' n' c',.int .i64 lo'.e,.bool hi'.neg,.slice B' m' d',.int .i64 hi'.e];clear hs hs1 h1 h3 ha hb ha' hb' pha pha' phb phb';obtain⟨x,hx⟩:∃ x:DR×DR,(pW (aH lo hi') (aH hi lo'),pW (aH lo lo') (aH hi hi'))=x:=⟨_,rfl⟩
 have hx1:pW (aH lo hi') (aH hi lo')=x.1:=by rw[← hx]
 have hx2:pW (aH lo lo') (aH hi hi')=x.2:=by rw[← hx]
 rw[hx1]at G1;rw[hx2]at G2;have HT:=lY hx;clear hx hx1 hx2;generalize aH lo hi'=u1 at *;generalize aH hi lo'=u2 at *;generalize aH lo lo'=u3 at *;generalize aH hi hi'=u4 at *;obtain⟨ka0,ka1,ka2,ka3,ka4,ka5⟩:=P.ks.2.2.2.1.c6;obtain⟨kb0,kb1,kb2,kb3,kb4,kb5⟩:=P.ks.2.2.1.c6;go_enter DF,Bl;go_upto_region 3 with fail;generalize(((w.alloc (ce (.bool true) (.slice A n c) (.int .i64 lo.e) (.bool hi.neg) (.slice B m d) (.int .i64 hi.e))).alloc (ce (.bool true) (.slice A' n' c') (.int .i64 lo'.e) (.bool hi'.neg) (.slice B' m' d') (.int .i64 hi'.e))).alloc (.cells zd 78)).alloc (.cells zd 78)=w1 at *;go_wp2_with fail;refine(A1.out _ P.bel).mono ?_;rintro e' w2 ⟨rfl,b2⟩;replace P:=P.below b2;clear b2 A1 ka0 kb0 ka1 kb1 ka2 kb2 ka3 kb3 ka4 kb4 ka5 kb5;obtain⟨ka0,ka1,ka2,ka3,ka4,ka5⟩:=P.ks.2.2.2.1.c6;obtain⟨kb0,kb1,kb2,kb3,kb4,kb5⟩:=P.ks.2.2.1.c6;go_wp2_with fail;refine(A2.out _ P.bel).mono ?_;rintro e' w2 ⟨rfl,b2⟩;replace P:=P.below b2;clear b2 A2 ka0 kb0 ka1 kb1 ka2 kb2 ka3 kb3 ka4 kb4 ka5 kb5;obtain⟨ka0,ka1,ka2,ka3,ka4,ka5⟩:=P.ks.2.2.2.1.c6;obtain⟨kb0,kb1,kb2,kb3,kb4,kb5⟩:=P.ks.2.2.1.c6;go_upto_region 7 with fail;clear ka0 kb0 ka1 kb1 ka2 kb2 ka3 kb3 ka4 kb4 ka5 kb5;have HC:Hid (∀ w' ns,Pu w w' [(78,w.heap.size+1+1+1,zd),(78,w.heap.size+1+1,zd),(31,w.heap.size+1,#[.bool true,.slice A' n' c',.int .i64 lo'.e,.bool hi'.neg,.slice B' m' d',.int .i64 hi'.e]),(31,w.heap.size,#[.bool true,.slice A n c,.int .i64 lo.e,.bool hi.neg,.slice B m d,.int .i64 hi.e])] ns->C6 w' (w.heap.size) (.bool true) (.slice A n c) (.int .i64 lo.e) (.bool hi.neg) (.slice B m d) (.int .i64 hi.e)/\C6 w' (w.heap.size+1) (.bool true) (.slice A' n' c') (.int .i64 lo'.e) (.bool hi'.neg) (.slice B' m' d') (.int .i64 hi'.e)):=lY (fun w' ns h=>by have ka:=h.ks.2.2.2.1;have kb:=h.ks.2.2.1;exact⟨ka.c6,kb.c6⟩)
 have HK:Hid (∀ w' w9 ns,Pu w w' [(78,w.heap.size+1+1+1,zd),(78,w.heap.size+1+1,zd),(31,w.heap.size+1,#[.bool true,.slice A' n' c',.int .i64 lo'.e,.bool hi'.neg,.slice B' m' d',.int .i64 hi'.e]),(31,w.heap.size,#[.bool true,.slice A n c,.int .i64 lo.e,.bool hi.neg,.slice B m d,.int .i64 hi.e])] ns->Below (w.heap.size+2) w' w9->C6 w9 (w.heap.size) (.bool true) (.slice A n c) (.int .i64 lo.e) (.bool hi.neg) (.slice B m d) (.int .i64 hi.e)/\C6 w9 (w.heap.size+1) (.bool true) (.slice A' n' c') (.int .i64 lo'.e) (.bool hi'.neg) (.slice B' m' d') (.int .i64 hi'.e)):=lY (fun w' w9 ns h b=>by have ka:=h.ks.2.2.2.1.bel b (by omega);have kb:=h.ks.2.2.1.bel b (by omega);exact⟨ka.c6,kb.c6⟩);have PC:=P.drew;clear P;have XS:=HC.out _ _ PC
 go_region_held3 (fun w'=>C6 w' (w.heap.size) (.bool true) (.slice A n c) (.int .i64 lo.e) (.bool hi.neg) (.slice B m d) (.int .i64 hi.e)/\C6 w' (w.heap.size+1) (.bool true) (.slice A' n' c') (.int .i64 lo'.e) (.bool hi'.neg) (.slice B' m' d') (.int .i64 hi'.e))
  (first | with_reducible exact HC.out v4 _ P9 | (refine HK.out v4 _ _ P9 ?_;with_reducible exact ak (Below.refl _ _) (by omega) (by omega) _ _ _) | with_reducible exact HC.out _ _ PC | with_reducible exact XS)
  (first
   | (go_at_call_of 127 (oY #[ou true,oM A n c,qK .i64 lo.e]);refine(F1.out _ PC.bel).mono ?_;rintro e' v1 ⟨X5,x5,y5,rfl,m1,b1⟩;have PQ:=(PC.below b1).num m1;clear PC;have PC:=PQ;clear PQ m1 b1)
   | (go_at_call_of 127 (oY #[ou hi.neg,oM B m d,qK .i64 hi.e]);refine(F2.out _ PC.bel).mono ?_;rintro e' v2 ⟨X6,x6,y6,rfl,m2,b2⟩;have PQ:=(PC.below b2).num m2;clear PC;have PC:=PQ;clear PQ m2 b2)
   | (go_at_call 130;refine(G1.out _ _ _ _ _ _ _ PC.ns.2.1 PC.ns.1).mono ?_;rintro e' v4 ⟨X1,x1,y1,rfl,m4,b4⟩;have P9:=(PC.below b4).num m4;have hz9:=P9.ks.1.2;obtain⟨q0,q1,q2⟩:=P9.ks.2.1.c3;obtain⟨qf0,qf1,qf2⟩:=P9.ks.2.1.f3))
 have P:Pu w (((v4.setCell ⟨w.heap.size+1+1,0,none⟩ (.bool x.1.neg)).setCell ⟨w.heap.size+1+1,1,none⟩ (.slice X1 x1 y1)).setCell ⟨w.heap.size+1+1,2,none⟩ (.int .i64 x.1.e)) [(78,w.heap.size+1+1+1,zd),(78,w.heap.size+1+1,s3 x.1 X1 x1 y1),(31,w.heap.size+1,#[.bool true,.slice A' n' c',.int .i64 lo'.e,.bool hi'.neg,.slice B' m' d',.int .i64 hi'.e]),(31,w.heap.size,#[.bool true,.slice A n c,.int .i64 lo.e,.bool hi.neg,.slice B m d,.int .i64 hi.e])] _:=P9.put4 (by omega) (by omega) (by omega) (by omega) (.bool x.1.neg) (.slice X1 x1 y1) (.int .i64 x.1.e);clear q0 q1 q2 qf0 qf1 qf2 HC HK XS hz9 P9 m4 b4 PC;go_upto_region 8 with fail;generalize((v4.setCell ⟨w.heap.size+1+1,0,none⟩ (.bool x.1.neg)).setCell ⟨w.heap.size+1+1,1,none⟩ (.slice X1 x1 y1)).setCell ⟨w.heap.size+1+1,2,none⟩ (.int .i64 x.1.e)=w7 at *;clear v4;have HC:Hid (∀ w' ns,Pu w w' [(78,w.heap.size+1+1+1,zd),(78,w.heap.size+1+1,s3 x.1 X1 x1 y1),(31,w.heap.size+1,#[.bool true,.slice A' n' c',.int .i64 lo'.e,.bool hi'.neg,.slice B' m' d',.int .i64 hi'.e]),(31,w.heap.size,#[.bool true,.slice A n c,.int .i64 lo.e,.bool hi.neg,.slice B m d,.int .i64 hi.e])] ns->C6 w' (w.heap.size) (.bool true) (.slice A n c) (.int .i64 lo.e) (.bool hi.neg) (.slice B m d) (.int .i64 hi.e)/\C6 w' (w.heap.size+1) (.bool true) (.slice A' n' c') (.int .i64 lo'.e) (.bool hi'.neg) (.slice B' m' d') (.int .i64 hi'.e)):=lY (fun w' ns h=>by have ka:=h.ks.2.2.2.1;have kb:=h.ks.2.2.1;exact⟨ka.c6,kb.c6⟩);have HK:Hid (∀ w' w9 ns,Pu w w' [(78,w.heap.size+1+1+1,zd),(78,w.heap.size+1+1,s3 x.1 X1 x1 y1),(31,w.heap.size+1,#[.bool true,.slice A' n' c',.int .i64 lo'.e,.bool hi'.neg,.slice B' m' d',.int .i64 hi'.e]),(31,w.heap.size,#[.bool true,.slice A n c,.int .i64 lo.e,.bool hi.neg,.slice B m d,.int .i64 hi.e])] ns->Below (w.heap.size+2) w' w9->C6 w9 (w.heap.size) (.bool true) (.slice A n c) (.int .i64 lo.e) (.bool hi.neg) (.slice B m d) (.int .i64 hi.e)/\C6 w9 (w.heap.size+1) (.bool true) (.slice A' n' c') (.int .i64 lo'.e) (.bool hi'.neg) (.slice B' m' d') (.int .i64 hi'.e)):=lY (fun w' w9 ns h b=>by have ka:=h.ks.2.2.2.1.bel b (by omega);have kb:=h.ks.2.2.1.bel b (by omega);exact⟨ka.c6,kb.c6⟩)
 have PC:=P.drew;clear P;have XS:=HC.out _ _ PC
 go_region_held3 (fun w'=>C6 w' (w.heap.size) (.bool true) (.slice A n c) (.int .i64 lo.e) (.bool hi.neg) (.slice B m d) (.int .i64 hi.e)/\C6 w' (w.heap.size+1) (.bool true) (.slice A' n' c') (.int .i64 lo'.e) (.bool hi'.neg) (.slice B' m' d') (.int .i64 hi'.e))
  (first | with_reducible exact HC.out v4 _ P9 | (refine HK.out v4 _ _ P9 ?_;with_reducible exact ak (Below.refl _ _) (by omega) (by omega) _ _ _) | with_reducible exact HC.out _ _ PC | with_reducible exact XS)
  (first
   | (go_at_call_of 127 (oY #[ou true,oM A n c,qK .i64 lo.e]);refine(F3.out _ PC.bel).mono ?_;rintro e' v1 ⟨X5,x5,y5,rfl,m1,b1⟩;have PQ:=(PC.below b1).num m1;clear PC;have PC:=PQ;clear PQ m1 b1)
   | (go_at_call_of 127 (oY #[ou hi.neg,oM B m d,qK .i64 hi.e]);refine(F4.out _ PC.bel).mono ?_;rintro e' v2 ⟨X6,x6,y6,rfl,m2,b2⟩;have PQ:=(PC.below b2).num m2;clear PC;have PC:=PQ;clear PQ m2 b2)
   | (go_at_call 130;refine(G2.out _ _ _ _ _ _ _ PC.ns.2.1 PC.ns.1).mono ?_;rintro e' v4 ⟨X2,x2,y2,rfl,m4,b4⟩;have P9:=(PC.below b4).num m4;have hz9:=P9.ks.1.2;obtain⟨q0,q1,q2⟩:=P9.ks.1.c3;obtain⟨qf0,qf1,qf2⟩:=P9.ks.1.f3))
 have P:Pu w (((v4.setCell ⟨w.heap.size+1+1+1,0,none⟩ (.bool x.2.neg)).setCell ⟨w.heap.size+1+1+1,1,none⟩ (.slice X2 x2 y2)).setCell ⟨w.heap.size+1+1+1,2,none⟩ (.int .i64 x.2.e)) [(78,w.heap.size+1+1+1,s3 x.2 X2 x2 y2),(78,w.heap.size+1+1,s3 x.1 X1 x1 y1),(31,w.heap.size+1,#[.bool true,.slice A' n' c',.int .i64 lo'.e,.bool hi'.neg,.slice B' m' d',.int .i64 hi'.e]),(31,w.heap.size,#[.bool true,.slice A n c,.int .i64 lo.e,.bool hi.neg,.slice B m d,.int .i64 hi.e])] _:=P9.put5 (by omega) (by omega) (by omega) (by omega) (.bool x.2.neg) (.slice X2 x2 y2) (.int .i64 x.2.e);clear q0 q1 q2 qf0 qf1 qf2 HC HK XS hz9 P9 m4 b4 PC;go_upto_region 9 with fail;generalize((v4.setCell ⟨w.heap.size+1+1+1,0,none⟩ (.bool x.2.neg)).setCell ⟨w.heap.size+1+1+1,1,none⟩ (.slice X2 x2 y2)).setCell ⟨w.heap.size+1+1+1,2,none⟩ (.int .i64 x.2.e)=w8 at *;clear v4;have hz9:=P.ks.1.2;obtain⟨q0,q1,q2⟩:=P.ks.2.1.c3;obtain⟨q3,q4,q5⟩:=P.ks.1.c3;obtain⟨qf0,qf1,qf2⟩:=P.ks.2.1.f3;obtain⟨qf3,qf4,qf5⟩:=P.ks.1.f3
 go_region_with (fail)
 all_goals (
  go_wp2_with fail;rw[HT.out];obtain⟨n1',n2',hb9⟩:=P.give3 P.ks.2.1 P.ks.1 (by omega) (by omega) (by omega) P.ns.2.2.2.1 P.ns.1 (.bool x.1.neg) (.slice X1 x1 y1) (.int .i64 x.1.e) (.bool x.2.neg) (.slice X2 x2 y2) (.int .i64 x.2.e)
  exact bodyPost_ret (v:=.tuple #[.agg #[.bool x.1.neg,.slice X1 x1 y1,.int .i64 x.1.e],.agg #[.bool x.2.neg,.slice X2 x2 y2,.int .i64 x.2.e]]) (by simp[results,yb,go_sem,q0,q1,q2,q3,q4,q5]) rfl ⟨X1,x1,y1,X2,x2,y2,rfl,n1'.below (Below.refl _ _).drew,n2'.below (Below.refl _ _).drew,hb9.drew⟩)
theorem qL (w:World)(ha:DN w A n c lo)(hb:DN w B m d hi)(ha':DN w A' n' c' lo')(hb':DN w B' m' d' hi'):Calls mF 71 #[aG lo.neg A n c lo.e hi.neg B m d hi.e,aG lo'.neg A' n' c' lo'.e hi'.neg B' m' d' hi'.e] w (Cr w (dw lo hi lo' hi')):=by
 unfold dw;cases hs:lo'.neg
 . simp only[Bx,Gn,if_true]
   exact kQ w ha hb ha' hb' hs
 . cases h1:dt hi'
   . simp only[Bx,Gp,if_true]
     exact kS w ha hb ha' hb' hs h1
   . cases hs1:lo.neg
     . simp only[EM,Gk,DE,if_false,Bx,Gn,if_true]
       exact nK w ha hb ha' hb' hs h1 hs1
     . cases h3:dt hi
       . simp only[EM,Gk,DE,if_false,Bx,Gp,if_true]
         exact nJ w ha hb ha' hb' hs h1 hs1 h3
       . simp only[EM,Gk,DE,if_false]
         exact sI w ha hb ha' hb' hs h1 hs1 h3
section
variable {TW:TypeId}
structure jX (r:DR):Prop where
 bits:nb r.m<=32768
 e1:-524288<=r.e
 e2:r.e<=524288
theorem i8 (h1:bl r)(h2:bl s):jX (aH r s):=by
 have b1:=lV r.m s.m
 have:=h1.bits
 have:=h2.bits
 have:=h1.e1
 have:=h1.e2
 have:=h2.e1
 have:=h2.e2
 exact⟨by show nb (r.m*s.m)<=_;omega,by show _<=r.e+s.e;omega,by show r.e+s.e<=_;omega⟩
theorem EZ (h1:jX r)(h2:jX s):jX (pW r s):=by unfold pW;split <;> assumption
theorem sJ (h1:bl lo)(h2:bl hi)(h3:bl lo')(h4:bl hi'):jX (dO lo hi lo' hi').1/\jX (dO lo hi lo' hi').2:=by
 unfold dO
 split
 . exact⟨i8 h2 (g6 h4 h3),i8 h1 (g6 h3 h4)⟩
 . exact⟨i8 h1 (g6 h4 h3),i8 h2 (g6 h3 h4)⟩
theorem Bw (h1:bl lo)(h2:bl hi)(h3:bl lo')(h4:bl hi'):jX (dw lo hi lo' hi').1/\jX (dw lo hi lo' hi').2:=by
 unfold dw
 split
 . exact sJ h1 h2 h3 h4
 . split
   . exact sJ h3 h4 h1 h2
   . exact⟨EZ (i8 h1 h4) (i8 h2 h3),EZ (i8 h1 h3) (i8 h2 h4)⟩
theorem jX.wide (h:jX r):wJ r:=⟨by have:=h.bits;omega,by have:=h.e1;omega,by have:=h.e2;omega⟩
def lc (p:Int)(bad:Bool)(lo hi lo' hi':DR):SRes:=if dL p bad lo hi lo' hi' then SRes.no else gF p.toNat (dw lo hi lo' hi').1 (dw lo hi lo' hi').2
theorem yF (g:Nat)(p:Int)(bad:Bool)(w:World)(hW:Wk TW w g p bad)(ha:aC w A n c lo)(hb:aC w B m d hi)(ha':aC w A' n' c' lo')(hb':aC w B' m' d' hi')(hT:bx w):
 Calls mF 29 #[.pointer (some ⟨g,0,none⟩),aG lo.neg A n c lo.e hi.neg B m d hi.e,aG lo'.neg A' n' c' lo'.e hi'.neg B' m' d' hi'.e] w (ap TW w g p (lc p bad lo hi lo' hi')):=by
 have S:=yB hW (.bool lo.neg) (.slice A n c) (.int .i64 lo.e) (.bool hi.neg) (.slice B m d) (.int .i64 hi.e) (.bool lo'.neg) (.slice A' n' c') (.int .i64 lo'.e) (.bool hi'.neg) (.slice B' m' d') (.int .i64 hi'.e);have TK:=vI g p bad _ S.W (ha.wk hW S.O) (hb.wk hW S.O) (ha'.wk hW S.O) (hb'.wk hW S.O);rw[show(((w.alloc (ce (.bool lo.neg) (.slice A n c) (.int .i64 lo.e) (.bool hi.neg) (.slice B m d) (.int .i64 hi.e))).alloc (ce (.bool lo'.neg) (.slice A' n' c') (.int .i64 lo'.e) (.bool hi'.neg) (.slice B' m' d') (.int .i64 hi'.e))).alloc z6).heap.size=w.heap.size+1+1+1 by simp]at TK;have TKH:=lY TK;clear TK;have k0:=S.ks.2.2.1.1;obtain⟨k0_0,k0_1,k0_2,k0_3,k0_4,k0_5⟩:=k0.c6;have k0l:=k0.2;clear k0;have k1:=S.ks.2.1.1;obtain⟨k1_0,k1_1,k1_2,k1_3,k1_4,k1_5⟩:=k1.c6;have k1l:=k1.2;clear k1;go_enter Tryz.func29,Tryz.ntmps29;go_wp2_with fail;refine TKH.out.mono ?_;clear TKH k0_0 k0_1 k0_2 k0_3 k0_4 k0_5 k0l k1_0 k1_1 k1_2 k1_3 k1_4 k1_5 k1l;generalize((w.alloc (ce (.bool lo.neg) (.slice A n c) (.int .i64 lo.e) (.bool hi.neg) (.slice B m d) (.int .i64 hi.e))).alloc (ce (.bool lo'.neg) (.slice A' n' c') (.int .i64 lo'.e) (.bool hi'.neg) (.slice B' m' d') (.int .i64 hi'.e))).alloc z6=w1 at *;rintro e' w2 ⟨rfl,hW2,o2⟩;replace S:=S.only o2 hW2;clear o2 hW2;obtain⟨bo,hbo⟩:∃ b:Bool,Hid (dL p bad lo hi lo' hi'=b):=⟨_,lY rfl⟩;rw[hbo.out]at S;rw[hbo.out];cases bo
 rotate_left
 . have HT:Hid (lc p bad lo hi lo' hi'=SRes.no):=lY (by unfold lc;rw[hbo.out];rfl)
   have kR:=S.ks.1.1;obtain⟨s0,s1,s2,s3q,s4,s5⟩:=kR.c6;obtain⟨rf0,rf1,rf2,rf3,rf4,rf5⟩:=kR.f6;go_wp2_with fail;rw[HT.out];obtain⟨q1,q2,q3,q4⟩:=S.give (lo:=DR.zero) (hi:=DR.zero) (aq _) (aq _) kR (by omega);exact bodyPost_ret (v:=aG false none 0 0 0 false none 0 0 0) (by simp[results,Gm,go_sem,s0,s1,s2,s3q,s4,s5]) rfl ⟨none,0,0,none,0,0,rfl,q1,q2,q3,q4⟩
 . skip
   obtain⟨hbad,hp,hR,hR'⟩:=eB hbo.out;obtain⟨P,hP⟩:∃ P:Nat,p=(P:Int):=⟨p.toNat,by omega⟩
   have hPt:p.toNat=P:=by omega
   have HT:Hid (lc p bad lo hi lo' hi'=gF P (dw lo hi lo' hi').1 (dw lo hi lo' hi').2):=lY (by unfold lc;rw[hbo.out,hPt];rfl);have HPR:Hid (∀ w',az w w' g->Calls mF 71 #[aG lo.neg A n c lo.e hi.neg B m d hi.e,aG lo'.neg A' n' c' lo'.e hi'.neg B' m' d' hi'.e] w' (Cr w' (dw lo hi lo' hi'))):=lY (fun w' o=>qL w' ⟨(ha.wk hW o).num hR.l,ha.plain hR.l⟩ ⟨(hb.wk hW o).num hR.h,hb.plain hR.h⟩ ⟨(ha'.wk hW o).num hR'.l,ha'.plain hR'.l⟩ ⟨(hb'.wk hW o).num hR'.h,hb'.plain hR'.h⟩);have WB:=Bw (ha.plain hR.l) (hb.plain hR.h) (ha'.plain hR'.l) (hb'.plain hR'.h);generalize dw lo hi lo' hi'=x at *
   have OW:Hid (∀ w' A1 n1 c1 A2 n2 c2,Wk TW w' g p false->az w w' g->am w' (.slice A1 n1 c1) x.1.m->am w' (.slice A2 n2 c2) x.2.m->Calls mF 70 #[.pointer (some ⟨g,0,none⟩),aP x.1.neg A1 n1 c1 x.1.e,aP x.2.neg A2 n2 c2 x.2.e] w' (ap TW w' g p (gF P x.1 x.2))):=lY (fun w' A1 n1 c1 A2 n2 c2 k o h1 h2=>by
    rw[hP]at k ⊢
    exact ja g P (by omega) w' k h1 h2 WB.1.wide WB.2.wide (hT.wk hW o))
   clear WB;generalize gF P x.1 x.2=z at *;clear hbo hbad hP hPt hR hR';have k2:=S.ks.2.2.1.1;obtain⟨k2_0,k2_1,k2_2,k2_3,k2_4,k2_5⟩:=k2.c6;have k2l:=k2.2;clear k2;have k3:=S.ks.2.1.1;obtain⟨k3_0,k3_1,k3_2,k3_3,k3_4,k3_5⟩:=k3.c6;have k3l:=k3.2;clear k3;go_wp2_with fail;refine(HPR.out _ S.O).mono ?_;rintro e' v1 ⟨A1,n1,c1,A2,n2,c2,rfl,m1,m2,b1⟩;replace S:=((S.below b1).num m2).num m1;clear m1 m2 b1 HPR k2_0 k2_1 k2_2 k2_3 k2_4 k2_5 k2l k3_0 k3_1 k3_2 k3_3 k3_4 k3_5 k3l;go_wp2_with fail;refine(OW.out _ _ _ _ _ _ _ S.W S.O S.ns.1 S.ns.2.1).mono ?_;rintro e' w5 ⟨A9,p9,c9,B9,q9,d9,rfl,m1,m2,hW9,o9⟩;replace S:=S.only o9 hW9;clear o9 hW9 OW;have kR:=S.ks.1.1;obtain⟨s0,s1,s2,s3q,s4,s5⟩:=kR.c6;obtain⟨rf0,rf1,rf2,rf3,rf4,rf5⟩:=kR.f6;go_wp2_with fail;rw[HT.out];obtain⟨q1,q2,q3,q4⟩:=S.give (lo:=z.lo) (hi:=z.hi) m1 m2 kR (by omega);exact bodyPost_ret (v:=aG z.lo.neg A9 p9 c9 z.lo.e z.hi.neg B9 q9 d9 z.hi.e) (by simp[results,Gm,go_sem,s0,s1,s2,s3q,s4,s5]) rfl ⟨A9,p9,c9,B9,q9,d9,rfl,q1,q2,q3,q4⟩
end
end Go.Proofs.YtmbmohibpkepdaaGreatDoor
