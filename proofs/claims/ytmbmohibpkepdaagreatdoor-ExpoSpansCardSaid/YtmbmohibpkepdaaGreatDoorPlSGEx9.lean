import Derived.Test.YtmbmohibpkepdaaGreatDoorPlSGEx7
import Derived.Test.YtmbmohibpkepdaaGreatDoorPlSGEx8
set_option maxRecDepth 8000
set_option maxHeartbeats 4000000
open Go.Lib renaming hid->lY
open Go.Proofs.Tryz renaming prog->mF, results45->qK, ntmps45->EM, func45->Gl
open Rat renaming mul_le_mul_of_nonneg_right->ou, mul_le_mul_of_nonneg_left->yb, le_of_lt->Bl, mul_lt_mul_of_pos_right->Bx, zero_mul->DF, mul_one->Gm, natCast_add->Gn, natCast_pos->Gp, not_le->Gq, one_mul->Gr, le_refl->Gs
open Nat renaming ne_of_lt->oM, ne_of_gt->oY, eq_zero_or_pos->tz, pos_of_ne_zero->DE, zero_mul->Gk
namespace Go.Proofs.YtmbmohibpkepdaaGreatDoor
open Go.RowKit
variable {A:OA} {B:Int} {P c d m n:Nat} {a b hi lo x:DR} {r:SRes}
section
variable {TW:TypeId}
def jf:DR:=⟨true,false,1,16⟩
def jh:DR:=⟨true,true,1,16⟩
def cM (lo hi:DR):Bool:=aw jh lo && aw lo hi && aw hi jf
theorem fB:Tq 64 jf/\Tq 64 jh/\rv jf=65536/\rv jh=-65536:=by
 have h1:nb 1=1:=sX
 have h2:aR false 1 16=true/\aR true 1 16=true:=by
  constructor <;>
  . unfold aR cR
    rw[if_neg (by decide),h1,iD]
    decide
 have e:((2^16:Nat):Rat)=65536:=rfl
 have e16:tp 16=65536:=by
  have h:=dH 16;rw[e]at h;exact h
 refine⟨⟨rfl,h2.1,by show nb 1<=9000;omega,by show(-64:Int)<=16;omega,by show(16:Int)+(nb 1:Int)<=64;omega⟩,⟨rfl,h2.2,by show nb 1<=9000;omega,by show(-64:Int)<=16;omega,by show(16:Int)+(nb 1:Int)<=64;omega⟩,?_,?_⟩
 . show((1:Nat):Rat)*tp 16=65536
   rw[e16,show((1:Nat):Rat)=1 from rfl,Gr]
 . show -(((1:Nat):Rat)*tp 16)=-65536
   rw[e16,show((1:Nat):Rat)=1 from rfl,Gr]
theorem cP (h:Tq B a)(k:Tq B b)(hr:aw a b=true):rv a<=rv b:=by
 have R:=(dW hr).le;exact(iV (.inr h.e1) (.inr k.e1)).2 (wg h.e1 k.e1 R)
structure Cs (x:DR):Prop where
 b:nb x.m<=8000
 e1:-30000<=x.e
theorem ip {w:World}(h:aC w A n c x)(ho:x.ok=true):aR x.neg x.m x.e=true:=by
 exact(h.plain ho).pl
theorem lQ (hp:aR x.neg x.m x.e=true)(ho:x.ok=true)(hn:Cs x)(h1:aw jh x=true)(h2:aw x jf=true):ma x/\Tq 262144 x/\sz x<=65536:=by
 have P:=aV hp;have T:Tq 300000 x:=⟨ho,hp,by have:=hn.b;omega,by have:=P.e1;omega,by have:=P.e2;have:=hn.b;omega⟩;obtain⟨m1,m2,m3,m4⟩:=fB;have r1:=cP (m2.more (by omega)) T h1;have r2:=cP T (m1.more (by omega)) h2;rw[m4]at r1;rw[m3]at r2
 have hs:sz x<=65536:=by
  cases hneg:x.neg
  . rw[lK hneg]at r2;exact r2
  . rw[qI hneg]at r1;grind
 have ht:x.e+(nb x.m:Int)<=17:=by
  rcases tz x.m with h0 | h0
  . rw[h0,aX,(P.zero h0).1];omega
  . have h4:=ou (bW (fA h0)) (Bl (dD x.e))
    rw[cI]at h4;have e:((2^16:Nat):Rat)=65536:=rfl
    have h5:tw (((nb x.m-1:Nat):Int)+x.e)<=tw ((16:Nat):Int):=by
     rw[fx,e];exact Rat.le_trans h4 hs
    have:=vE h5
    omega
 exact⟨⟨ho,hp,hn.b,hn.e1,ht,hs⟩,⟨ho,hp,by have:=hn.b;omega,by have:=hn.e1;omega,by omega⟩,hs⟩
theorem gO (w:World)(o:Obj):(w.alloc o).heap.size=w.heap.size+1:=by simp
theorem rk {B:OA}(w:World)(ha:aC w A n c lo)(hb:aC w B m d hi):
 Calls mF 86 #[aG lo.neg A n c lo.e hi.neg B m d hi.e] w fun o w'=>o=.returned (.bool (cM lo hi))/\Below w.heap.size w w':=by
 have S:=((((⟨Below.refl _ w,trivial,trivial⟩:Pu w w [] []).alloc 31 #[.bool lo.neg,.slice A n c,.int .i64 lo.e,.bool hi.neg,.slice B m d,.int .i64 hi.e]).alloc 51 #[.int .u64 1]).alloc 51 #[.int .u64 65536]);have S5:=(S.alloc 24 #[.bool false,.slice (some ⟨w.heap.size+1,0,none⟩) 1 1,.int .i64 16]).alloc 24 #[.bool true,.slice (some ⟨w.heap.size+1,0,none⟩) 1 1,.int .i64 16];have n1:=iN (kV 51 (w.alloc (ce (.bool lo.neg) (.slice A n c) (.int .i64 lo.e) (.bool hi.neg) (.slice B m d) (.int .i64 hi.e))) 1 _ 1 (by unfold ai;omega) rfl rfl) (by omega);have n65:=kV 51 ((w.alloc (ce (.bool lo.neg) (.slice A n c) (.int .i64 lo.e) (.bool hi.neg) (.slice B m d) (.int .i64 hi.e))).alloc (.cells #[.int .u64 1] 51)) 65536 _ 65536 (by unfold ai;omega) rfl rfl;replace n1:=((n1.below (ag _ (.cells #[.int .u64 65536] 51))).below (ag _ (.cells #[.bool false,.slice (some ⟨w.heap.size+1,0,none⟩) 1 1,.int .i64 16] 24))).below (ag _ (.cells #[.bool true,.slice (some ⟨w.heap.size+1,0,none⟩) 1 1,.int .i64 16] 24));simp only[gO]at S S5 n1 n65;obtain⟨m1,m2,_,_⟩:=fB;have R1:Hid (cM lo hi=(aw jh lo && aw lo hi && aw hi jf)):=lY rfl;rw[R1.out];have C1:Hid (∀ w',Below w.heap.size w w'->am w' (.slice (some ⟨w.heap.size+1,0,none⟩) 1 1) 1->Calls mF 151 #[aP true (some ⟨w.heap.size+1,0,none⟩) 1 1 16,aP lo.neg A n c lo.e] w' (fun o w''=>o=.returned (.bool (aw jh lo))/\Below w'.heap.size w' w'')):=lY (fun w' b h=>fe (r:=jh) w' (aC.of_num h m2.pl m2.ok) (ha.below b));have C2:Hid (∀ w',Below w.heap.size w w'->Calls mF 151 #[aP lo.neg A n c lo.e,aP hi.neg B m d hi.e] w' (fun o w''=>o=.returned (.bool (aw lo hi))/\Below w'.heap.size w' w'')):=lY (fun w' b=>fe w' (ha.below b) (hb.below b));have C3q:Hid (∀ w',Below w.heap.size w w'->am w' (.slice (some ⟨w.heap.size+1,0,none⟩) 1 1) 1->Calls mF 151 #[aP hi.neg B m d hi.e,aP false (some ⟨w.heap.size+1,0,none⟩) 1 1 16] w' (fun o w''=>o=.returned (.bool (aw hi jf))/\Below w'.heap.size w' w'')):=lY (fun w' b h=>fe (s:=jf) w' (hb.below b) (aC.of_num h m1.pl m1.ok))
 have BT:Hid (∀ w' a,Sl w' (some ⟨a,0,none⟩) 1 1 (fun _=>65536)->Calls mF 117 #[.slice (some ⟨a,0,none⟩) 1 1] w' (fun r w''=>r=.returned (.int .i64 17)/\w'=w'')):=lY (fun w' a h=>by
  refine(fs _ 1 1 _ w' h (by omega)).mono ?_;rintro e' w2 ⟨B,rfl,hB,rfl⟩;obtain rfl:=hJ hB
  have:nb (vs ai (fun _=>65536) 1)=17:=by rw[f5];exact jU (B:=16) (by decide) (by decide)
  rw[this]
  exact⟨rfl,rfl⟩)
 have K0:=lY (BT.out _ _ n65);generalize aw jh lo=q1 at *;generalize aw lo hi=q2 at *;generalize aw hi jf=q3 at *;have S6:=S5.num n1;clear R1 ha hb BT m1 m2 S n1 n65 S5;go_enter Tryz.func86,Tryz.ntmps86;go_wp2_with fail;refine K0.out.mono ?_;rintro e' w2 ⟨rfl,rfl⟩;clear K0;go_upto_region 3 with fail;generalize((((w.alloc (ce (.bool lo.neg) (.slice A n c) (.int .i64 lo.e) (.bool hi.neg) (.slice B m d) (.int .i64 hi.e))).alloc (.cells #[.int .u64 1] 51)).alloc (.cells #[.int .u64 65536] 51)).alloc (.cells #[.bool false,.slice (some ⟨w.heap.size+1,0,none⟩) 1 1,.int .i64 16] 24)).alloc (.cells #[.bool true,.slice (some ⟨w.heap.size+1,0,none⟩) 1 1,.int .i64 16] 24)=v at *;obtain⟨y0_0,y0_1,y0_2⟩:=S6.ks.1.c3;obtain⟨y1_0,y1_1,y1_2⟩:=S6.ks.2.1.c3;obtain⟨y2_0,y2_1,y2_2,y2_3,y2_4,y2_5⟩:=S6.ks.2.2.2.2.1.c6;have y0l:=S6.ks.1.2;have y1l:=S6.ks.2.1.2;have y2l:=S6.ks.2.2.2.2.1.2;go_wp2_with fail;refine(C1.out _ S6.bel S6.ns.1).mono ?_;rintro e' v1 ⟨rfl,b1⟩;have S7:=S6.below b1;clear y0_0 y0_1 y0_2 y1_0 y1_1 y1_2 y2_0 y2_1 y2_2 y2_3 y2_4 y2_5 y0l y1l y2l S6 b1 C1;cases q1
 . go_wp2_with fail
   go_ret;exact⟨by simp,S7.bel⟩
 obtain⟨y0_0,y0_1,y0_2,y0_3,y0_4,y0_5⟩:=S7.ks.2.2.2.2.1.c6;obtain⟨y1_0,y1_1,y1_2⟩:=S7.ks.2.1.c3;have y0l:=S7.ks.2.2.2.2.1.2;have y1l:=S7.ks.2.1.2;go_wp2_with fail;refine(C2.out _ S7.bel).mono ?_;rintro e' v2 ⟨rfl,b2⟩;have S8:=S7.below b2;clear y0_0 y0_1 y0_2 y0_3 y0_4 y0_5 y1_0 y1_1 y1_2 y0l y1l S7 b2 C2;cases q2
 . go_wp2_with fail
   go_ret;exact⟨by simp,S8.bel⟩
 obtain⟨y0_0,y0_1,y0_2,y0_3,y0_4,y0_5⟩:=S8.ks.2.2.2.2.1.c6;obtain⟨y1_0,y1_1,y1_2⟩:=S8.ks.2.1.c3;have y0l:=S8.ks.2.2.2.2.1.2;have y1l:=S8.ks.2.1.2;go_wp2_with fail;refine(C3q.out _ S8.bel S8.ns.1).mono ?_;rintro e' v3 ⟨rfl,b3⟩;have S9:=S8.below b3;clear y0_0 y0_1 y0_2 y0_3 y0_4 y0_5 y1_0 y1_1 y1_2 y0l y1l S8 b3 C3q;go_wp2_with fail;go_ret;exact⟨by simp,S9.bel⟩
theorem gK {B:OA}(g:Nat)(p:Int)(bad:Bool)(w:World)(hW:Wk TW w g p bad)(ha:aC w A n c lo)(hb:aC w B m d hi)(hp1:16<=p)(hp2:p<=7000):
 Calls mF 43 #[.pointer (some ⟨g,0,none⟩),aG lo.neg A n c lo.e hi.neg B m d hi.e] w fun o w'=>o=.returned (.bool (!(bad || !cM lo hi)))/\Wk TW w' g p (bad || !cM lo hi)/\az w w' g:=by
 have S:=(St.start hW).alloc 31 #[.bool lo.neg,.slice A n c,.int .i64 lo.e,.bool hi.neg,.slice B m d,.int .i64 hi.e];have C1:Hid (∀ w' ks ns,St TW w g p bad w' ks ns->Calls mF 86 #[aG lo.neg A n c lo.e hi.neg B m d hi.e] w' (fun o w''=>o=.returned (.bool (cM lo hi))/\Below w'.heap.size w' w'')):=lY (fun w' ks ns h=>rk w' (ha.wk hW h.O) (hb.wk hW h.O));have d1:decide (p < 16)=false:=decide_eq_false (by omega);have d2:decide (7000 < p)=false:=decide_eq_false (by omega);have d3:decide (p > 7000)=false:=decide_eq_false (by omega);generalize cM lo hi=q at *;clear ha hb hp1 hp2;go_enter Tryz.func43,Tryz.ntmps43;go_upto_region 3 with fail;generalize w.alloc (.cells #[.bool lo.neg,.slice A n c,.int .i64 lo.e,.bool hi.neg,.slice B m d,.int .i64 hi.e] 31)=w1 at *;obtain⟨c0,c1⟩:=S.wc;have cl:=S.lt;obtain⟨y0_0,y0_1,y0_2,y0_3,y0_4,y0_5⟩:=S.ks.1.1.c6;have y0l:=S.ks.1.1.2;go_wp2_with fail;refine(C1.out _ _ _ S).mono ?_;rintro e' w2 ⟨rfl,b⟩;replace S:=S.below b;clear y0_0 y0_1 y0_2 y0_3 y0_4 y0_5 y0l c0 c1 cl b C1;cases q
 . have FL:=lY (jm g p bad w2 S.W)
   have cl:=S.lt;go_wp2_with fail;refine FL.out.mono ?_;rintro e' w3 ⟨rfl,W3,o3⟩;have S3:=S.only o3 W3;obtain⟨c0,c1⟩:=S3.wc;have cl3:=S3.lt;clear FL;go_wp2_with fail;go_ret;refine⟨by simp,?_,S3.O⟩
   have e:(bad || !false)=true:=by simp
   rw[e];exact S3.W
 . obtain⟨c0,c1⟩:=S.wc
   have cl:=S.lt;go_wp2_with fail;go_ret;refine⟨by simp,?_,S.O⟩
   have e:(bad || !true)=bad:=by simp
   rw[e];exact S.W
structure fu (P:Nat)(B:Int)(r:SRes)(sl sh:Nat->Rat)(lone:Bool):Prop where
 q:Sq B r
 hl:Hl (rv r.lo) (rv r.hi) sl
 hh:Hl (rv r.lo) (rv r.hi) sh
 rel:lone=true->(0<=rv r.lo/\rv r.hi<=rv r.lo*(1+4*uP P))\/(rv r.hi<=0/\rv r.hi*(1+4*uP P)<=rv r.lo)
theorem cV.lone {sl sh:Nat->Rat}(h:cV P B r sl)(e:sh=sl):fu P B r sl sh true:=⟨h.q,h.hl,e ▸ h.hl,fun _=>h.rel⟩
theorem cV.hull {s:SRes}{sl sh:Nat->Rat}(hP1:1<=P)(hP2:P<=8000)(h:cV P B r sl)(k:cV P B s sh):fu P B (dy (P:Int) false r.lo r.hi s.lo s.hi) sl sh false:=by
 obtain⟨q,⟨l1,l2,_⟩,u1,u2,_⟩:=uQ (p:=(P:Int)) (by omega) (by omega) h.q k.q;exact⟨q,h.hl.mono l1 u1,k.hl.mono l2 u2,fun h=>by cases h⟩
theorem mZ (h:Tq B lo)(k:Tq B hi)(h1:aw lo hi=true)(h2:aw hi lo=true):rv hi=rv lo:=by
 have:=cP h k h1
 have:=cP k h h2
 grind
theorem dJ (x:DR):sz x=if 0<=rv x then rv x else-rv x:=by
 have:=bR x
 cases hn:x.neg
 . have:=lK hn
   split <;> grind
 . have:=qI hn
   split <;> grind
theorem xP {B:OA}(g P:Nat)(X:Int)(w:World)(hW:Wk TW w g (P:Int) false)(ha:am w (.slice A n c) lo.m)(hb:am w (.slice B m d) hi.m)(hl:ma lo)(hh:ma hi)(hr:aw lo hi=true)(hT:bx w)(hP1:16<=P)(hP2:P<=1000)(hB:jw X (sz lo))(hB':jw X (sz hi))(hB2:X<=132000):
 Calls mF 45 #[.pointer (some ⟨g,0,none⟩),aG lo.neg A n c lo.e hi.neg B m d hi.e,.func (.func 46) #[.pointer (some ⟨g,0,none⟩)] #[]] w (fun e w'=>∃ r,fu P (X+40000) r (aW (rv lo)) (aW (rv hi)) (aw hi lo)/\ap TW w g (P:Int) r e w'):=by
 have S:=((ui hW (.bool lo.neg) (.slice A n c) (.int .i64 lo.e) (.bool hi.neg) (.slice B m d) (.int .i64 hi.e)).num ((hb.below (ag w _)).below (ag _ _))).num ((ha.below (ag w _)).below (ag _ _));have TB:Hid (∀ w' ks ns,St TW w g (P:Int) false w' ks ns->bx w'):=lY (fun w' ks ns h=>hT.wk hW h.O);have hbb:=hB.b;have TL:Tq 300000 lo:=⟨hl.ok,hl.pl,by have:=hl.b;omega,by have:=hl.e1;omega,by have:=hl.t;omega⟩;have TH:Tq 300000 hi:=⟨hh.ok,hh.pl,by have:=hh.b;omega,by have:=hh.e1;omega,by have:=hh.t;omega⟩;obtain⟨p,hp⟩:∃ p:Int,p=(P:Int):=⟨_,rfl⟩;have CL:Hid (∀ w' ks ns,St TW w g (P:Int) false w' ks ns->am w' (.slice A n c) lo.m->Calls mF 46 #[.pointer (some ⟨g,0,none⟩),aP lo.neg A n c lo.e] w' (fun e w''=>∃ r,cV P (X+40000) r (aW (rv lo))/\ap TW w' g (P:Int) r e w'')):=lY (fun w' ks ns h h1=>(oz (x:=lo) g P X w' h.W h1 hl (TB.out _ _ _ h) hP1 hP2 hB hB2).mono fun e w'' ⟨r,a,b⟩=>⟨r,⟨a.q.more (by omega),a.hl,a.rel⟩,b⟩);have CHi:Hid (∀ w' ks ns,St TW w g (P:Int) false w' ks ns->am w' (.slice B m d) hi.m->Calls mF 46 #[.pointer (some ⟨g,0,none⟩),aP hi.neg B m d hi.e] w' (fun e w''=>∃ r,cV P (X+40000) r (aW (rv hi))/\ap TW w' g (P:Int) r e w'')):=lY (fun w' ks ns h h1=>(oz (x:=hi) g P X w' h.W h1 hh (TB.out _ _ _ h) hP1 hP2 hB' hB2).mono fun e w'' ⟨r,a,b⟩=>⟨r,⟨a.q.more (by omega),a.hl,a.rel⟩,b⟩);have CI:Hid (∀ w' ks ns,St TW w g (P:Int) false w' ks ns->am w' (.slice A n c) lo.m->am w' (.slice B m d) hi.m->Calls mF 88 #[aG lo.neg A n c lo.e hi.neg B m d hi.e] w' (fun o w''=>o=.returned (.bool (aw hi lo))/\Below w'.heap.size w' w'')):=lY (fun w' ks ns h h1 h2=>fY w' (aC.of_num h1 hl.pl hl.ok) (aC.of_num h2 hh.pl hh.ok));have CU:Hid (∀ w' ks ns r s A0 n0 c0 B0 m0 d0 A7 n7 c7 B7 m7 d7,cV P (X+40000) r (aW (rv lo))->cV P (X+40000) s (aW (rv hi))->St TW w g (P:Int) false w' ks ns->am w' (.slice A0 n0 c0) r.lo.m->am w' (.slice B0 m0 d0) r.hi.m->am w' (.slice A7 n7 c7) s.lo.m->am w' (.slice B7 m7 d7) s.hi.m->Calls mF 62 #[.pointer (some ⟨g,0,none⟩),aG r.lo.neg A0 n0 c0 r.lo.e r.hi.neg B0 m0 d0 r.hi.e,aG s.lo.neg A7 n7 c7 s.lo.e s.hi.neg B7 m7 d7 s.hi.e] w' (fun e w''=>∃ o,fu P (X+40000) o (aW (rv lo)) (aW (rv hi)) false/\ap TW w' g (P:Int) o e w'')):=lY (fun w' ks ns r s _ _ _ _ _ _ _ _ _ _ _ _ a b h h1 h2 h3 h4=>(jk g (P:Int) false w' h.W (aC.of_num h1 a.q.l.pl a.q.l.ok) (aC.of_num h2 a.q.h.pl a.q.h.ok) (aC.of_num h3 b.q.l.pl b.q.l.ok) (aC.of_num h4 b.q.h.pl b.q.h.ok)).mono fun e w'' hp=>⟨_,a.hull (by omega) (by omega) b,hp⟩)
 have LN:Hid (aw hi lo=true->(aW (rv hi))=(aW (rv lo))):=lY (fun h=>by
  have e:=mZ TL TH hr h
  rw[e])
 generalize aw hi lo=q at *;rw[← hp]at S CL CHi CI CU ⊢;clear hp TB hT hW hB hB' hB2 hbb hl hh ha hb hr TL TH;go_enter Gl,EM;go_upto_region 1 with fail;generalize((w.alloc (ce (.bool lo.neg) (.slice A n c) (.int .i64 lo.e) (.bool hi.neg) (.slice B m d) (.int .i64 hi.e))).alloc z6)=w1 at *;obtain⟨y0_0,y0_1,y0_2,y0_3,y0_4,y0_5⟩:=S.ks.2.1.1.c6;have y0l:=S.ks.2.1.1.2;have hgl:=S.lt;have KY1:=lY (CL.out _ _ _ S S.ns.1);go_wp2_with fail;refine KY1.out.mono ?_;rintro e' v2 ⟨rl,AL,A1,n1,c1,B1,m1,d1,rfl,N1,M1,W1,o1⟩;have W1':Wk TW v2 g p false:=(by rw[← AL.q.bad];exact W1);have S2:=((S.only o1 W1').num M1).num N1;have S3:=S2.alloc 31 #[.bool rl.lo.neg,.slice A1 n1 c1,.int .i64 rl.lo.e,.bool rl.hi.neg,.slice B1 m1 d1,.int .i64 rl.hi.e];clear y0_0 y0_1 y0_2 y0_3 y0_4 y0_5 y0l S KY1 CL o1 W1 W1' hgl;have hsz:=S2.size;have hk1:=S2.ks.1.1.2;have hk2:=S2.ks.2.1.1.2;obtain⟨y0_0,y0_1,y0_2,y0_3,y0_4,y0_5⟩:=S2.ks.2.1.1.c6;have y0l:=S2.ks.2.1.1.2;go_upto_region 2 with fail;clear y0_0 y0_1 y0_2 y0_3 y0_4 y0_5 y0l;generalize v2.alloc (.cells #[.bool rl.lo.neg,.slice A1 n1 c1,.int .i64 rl.lo.e,.bool rl.hi.neg,.slice B1 m1 d1,.int .i64 rl.hi.e] 31)=v3 at *;clear S2;obtain⟨y0_0,y0_1,y0_2,y0_3,y0_4,y0_5⟩:=S3.ks.2.2.1.1.c6;have y0l:=S3.ks.2.2.1.1.2;have KY2:=lY (CI.out _ _ _ S3 S3.ns.2.2.1 S3.ns.2.2.2.1);go_wp2_with fail;refine KY2.out.mono ?_;rintro e' v4 ⟨rfl,b4⟩;replace S3:=S3.below b4;clear KY2 CI b4 y0_0 y0_1 y0_2 y0_3 y0_4 y0_5 y0l;cases q
 . go_upto_region 4 with fail
   have SD:=S3.drew;have sd1:am v4.drew (.slice B m d) hi.m:=SD.ns.2.2.2.1;have HCC:Hid (∀ b' w' ns,St TW w g p b' w' [(31,v2.heap.size,s6 rl.lo A1 n1 c1 rl.hi B1 m1 d1),(31,w.heap.size+1,zs),(31,w.heap.size,s6 lo A n c hi B m d)] ns->D6 w' (v2.heap.size) rl.lo A1 n1 c1 rl.hi B1 m1 d1/\D6 w' (w.heap.size) lo A n c hi B m d):=lY (fun b' w' ns h=>⟨h.ks.1.1.c6,h.ks.2.2.1.1.c6⟩);have HPP:Hid (∀ b' w' ns,St TW w g p b' w' [(31,v2.heap.size,s6 rl.lo A1 n1 c1 rl.hi B1 m1 d1),(31,w.heap.size+1,zs),(31,w.heap.size,s6 lo A n c hi B m d)] ns->∀ q1 q2 q3 q4 q5 q6,C6 (put6 w' (w.heap.size+1) q1 q2 q3 q4 q5 q6) (v2.heap.size) (.bool rl.lo.neg) (.slice A1 n1 c1) (.int .i64 rl.lo.e) (.bool rl.hi.neg) (.slice B1 m1 d1) (.int .i64 rl.hi.e)/\C6 (put6 w' (w.heap.size+1) q1 q2 q3 q4 q5 q6) (w.heap.size) (.bool lo.neg) (.slice A n c) (.int .i64 lo.e) (.bool hi.neg) (.slice B m d) (.int .i64 hi.e)):=lY (fun b' w' ns h q1 q2 q3 q4 q5 q6=>⟨(h.ks.1.1.only (aK w' (w.heap.size+1) q1 q2 q3 q4 q5 q6) (by omega)).c6,(h.ks.2.2.1.1.only (aK w' (w.heap.size+1) q1 q2 q3 q4 q5 q6) (by omega)).c6⟩)
   have XS:=HCC.out _ _ _ SD;clear S3
   go_region_held3 (fun w'=>D6 w' (v2.heap.size) rl.lo A1 n1 c1 rl.hi B1 m1 d1/\D6 w' (w.heap.size) lo A n c hi B m d)
    (first | with_reducible exact HPP.out _ _ _ V2 _ _ _ _ _ _ | with_reducible exact HCC.out _ _ _ V2 | with_reducible exact HCC.out _ _ _ V1 | with_reducible exact XS)
    (first
     | (go_at_call 46;refine(CHi.out _ _ _ SD sd1).mono ?_;rintro e' v5 ⟨rh,AH,A2,n2,c2,B2,m2,d2,rfl,N2,M2,W2,o2⟩;have W2':Wk TW v5 g p false:=(by rw[← AH.q.bad];exact W2);have V1:=((SD.only o2 W2').num M2).num N2;have u1:=V1.ns.1;have u2:=V1.ns.2.1;have u3:=V1.ns.2.2.1;have u4:=V1.ns.2.2.2.1)
     | (go_at_call 62;refine(CU.out _ _ _ _ _ _ _ _ _ _ _ _ _ _ _ _ _ AL AH V1 u3 u4 u1 u2).mono ?_;rintro e' v6 ⟨r,EO,A3,n3,c3,B3,m3,d3,rfl,N3,M3,W3,o3⟩;have V2:=((V1.only o3 W3).num M3).num N3;have z1:=V2.ks.2.1.1;obtain⟨z1c0,z1c1,z1c2,z1c3,z1c4,z1c5⟩:=z1.c6;obtain⟨z1f0,z1f1,z1f2,z1f3,z1f4,z1f5⟩:=z1.f6;have z1l:=z1.2;have z1n:=oM z1.2;have z1n2:=oY z1.2))
   go_wp2_with fail;obtain⟨x1,x2,x3,x4⟩:=V2.give (lo:=r.lo) (hi:=r.hi) V2.ns.1 V2.ns.2.1 z1 (by omega);exact bodyPost_ret (v:=aG r.lo.neg A3 n3 c3 r.lo.e r.hi.neg B3 m3 d3 r.hi.e) (by simp[results,qK,go_sem,z1c0,z1c1,z1c2,z1c3,z1c4,z1c5]) rfl ⟨r,EO,A3,n3,c3,B3,m3,d3,rfl,x1,x2,x3,x4⟩
 . have z2:=S3.ks.1.1
   obtain⟨z2c0,z2c1,z2c2,z2c3,z2c4,z2c5⟩:=z2.c6;obtain⟨z2f0,z2f1,z2f2,z2f3,z2f4,z2f5⟩:=z2.f6;have z2l:=z2.2;have z2n:=oM z2.2;have z2n2:=oY z2.2;have z1:=S3.ks.2.1.1;obtain⟨z1c0,z1c1,z1c2,z1c3,z1c4,z1c5⟩:=z1.c6;obtain⟨z1f0,z1f1,z1f2,z1f3,z1f4,z1f5⟩:=z1.f6;have z1l:=z1.2;have z1n:=oM z1.2;have z1n2:=oY z1.2;go_wp2_with fail;have S4:St TW w g p false v4 [(31,w.heap.size+1,zs)] [(.slice A1 n1 c1,rl.lo.m),(.slice B1 m1 d1,rl.hi.m)]:=⟨S3.hg,S3.O,S3.W,⟨S3.ks.2.1,trivial⟩,S3.ns.1,S3.ns.2.1,trivial⟩;obtain⟨x1,x2,x3,x4⟩:=S4.give (lo:=rl.lo) (hi:=rl.hi) S4.ns.1 S4.ns.2.1 S4.ks.1.1 (by omega);exact bodyPost_ret (v:=aG rl.lo.neg A1 n1 c1 rl.lo.e rl.hi.neg B1 m1 d1 rl.hi.e) (by simp[results,qK,go_sem,z1c0,z1c1,z1c2,z1c3,z1c4,z1c5]) rfl ⟨rl,AL.lone (LN.out trivial),A1,n1,c1,B1,m1,d1,rfl,x1,x2,by rw[AL.q.bad];exact x3,x4⟩
theorem vd {B:OA}(g P:Nat)(X:Int)(w:World)(hW:Wk TW w g (P:Int) false)(ha:am w (.slice A n c) lo.m)(hb:am w (.slice B m d) hi.m)(hl:ma lo)(hh:ma hi)(hr:aw lo hi=true)(hT:bx w)(hP1:16<=P)(hP2:P<=1000)(hB:jw X (sz lo))(hB':jw X (sz hi))(hB2:X<=132000):
 Calls mF 45 #[.pointer (some ⟨g,0,none⟩),aG lo.neg A n c lo.e hi.neg B m d hi.e,.func (.func 58) #[.pointer (some ⟨g,0,none⟩)] #[]] w (fun e w'=>∃ r,fu P (X+40000) r (fG (rv lo)) (fG (rv hi)) (aw hi lo)/\ap TW w g (P:Int) r e w'):=by
 have S:=((ui hW (.bool lo.neg) (.slice A n c) (.int .i64 lo.e) (.bool hi.neg) (.slice B m d) (.int .i64 hi.e)).num ((hb.below (ag w _)).below (ag _ _))).num ((ha.below (ag w _)).below (ag _ _));have TB:Hid (∀ w' ks ns,St TW w g (P:Int) false w' ks ns->bx w'):=lY (fun w' ks ns h=>hT.wk hW h.O);have hbb:=hB.b;have TL:Tq 300000 lo:=⟨hl.ok,hl.pl,by have:=hl.b;omega,by have:=hl.e1;omega,by have:=hl.t;omega⟩;have TH:Tq 300000 hi:=⟨hh.ok,hh.pl,by have:=hh.b;omega,by have:=hh.e1;omega,by have:=hh.t;omega⟩;obtain⟨p,hp⟩:∃ p:Int,p=(P:Int):=⟨_,rfl⟩;have CL:Hid (∀ w' ks ns,St TW w g (P:Int) false w' ks ns->am w' (.slice A n c) lo.m->Calls mF 58 #[.pointer (some ⟨g,0,none⟩),aP lo.neg A n c lo.e] w' (fun e w''=>∃ r,cV P (X+40000) r (fG (rv lo))/\ap TW w' g (P:Int) r e w'')):=lY (fun w' ks ns h h1=>(mt (x:=lo) g P X w' h.W h1 hl (TB.out _ _ _ h) hP1 hP2 hB hB2).mono fun e w'' ⟨r,a,b⟩=>⟨r,⟨a.q.more (by omega),a.hl,a.rel⟩,b⟩);have CHi:Hid (∀ w' ks ns,St TW w g (P:Int) false w' ks ns->am w' (.slice B m d) hi.m->Calls mF 58 #[.pointer (some ⟨g,0,none⟩),aP hi.neg B m d hi.e] w' (fun e w''=>∃ r,cV P (X+40000) r (fG (rv hi))/\ap TW w' g (P:Int) r e w'')):=lY (fun w' ks ns h h1=>(mt (x:=hi) g P X w' h.W h1 hh (TB.out _ _ _ h) hP1 hP2 hB' hB2).mono fun e w'' ⟨r,a,b⟩=>⟨r,⟨a.q.more (by omega),a.hl,a.rel⟩,b⟩);have CI:Hid (∀ w' ks ns,St TW w g (P:Int) false w' ks ns->am w' (.slice A n c) lo.m->am w' (.slice B m d) hi.m->Calls mF 88 #[aG lo.neg A n c lo.e hi.neg B m d hi.e] w' (fun o w''=>o=.returned (.bool (aw hi lo))/\Below w'.heap.size w' w'')):=lY (fun w' ks ns h h1 h2=>fY w' (aC.of_num h1 hl.pl hl.ok) (aC.of_num h2 hh.pl hh.ok));have CU:Hid (∀ w' ks ns r s A0 n0 c0 B0 m0 d0 A7 n7 c7 B7 m7 d7,cV P (X+40000) r (fG (rv lo))->cV P (X+40000) s (fG (rv hi))->St TW w g (P:Int) false w' ks ns->am w' (.slice A0 n0 c0) r.lo.m->am w' (.slice B0 m0 d0) r.hi.m->am w' (.slice A7 n7 c7) s.lo.m->am w' (.slice B7 m7 d7) s.hi.m->Calls mF 62 #[.pointer (some ⟨g,0,none⟩),aG r.lo.neg A0 n0 c0 r.lo.e r.hi.neg B0 m0 d0 r.hi.e,aG s.lo.neg A7 n7 c7 s.lo.e s.hi.neg B7 m7 d7 s.hi.e] w' (fun e w''=>∃ o,fu P (X+40000) o (fG (rv lo)) (fG (rv hi)) false/\ap TW w' g (P:Int) o e w'')):=lY (fun w' ks ns r s _ _ _ _ _ _ _ _ _ _ _ _ a b h h1 h2 h3 h4=>(jk g (P:Int) false w' h.W (aC.of_num h1 a.q.l.pl a.q.l.ok) (aC.of_num h2 a.q.h.pl a.q.h.ok) (aC.of_num h3 b.q.l.pl b.q.l.ok) (aC.of_num h4 b.q.h.pl b.q.h.ok)).mono fun e w'' hp=>⟨_,a.hull (by omega) (by omega) b,hp⟩)
 have LN:Hid (aw hi lo=true->(fG (rv hi))=(fG (rv lo))):=lY (fun h=>by
  have e:=mZ TL TH hr h
  rw[e])
 generalize aw hi lo=q at *;rw[← hp]at S CL CHi CI CU ⊢;clear hp TB hT hW hB hB' hB2 hbb hl hh ha hb hr TL TH;go_enter Gl,EM;go_upto_region 1 with fail;generalize((w.alloc (ce (.bool lo.neg) (.slice A n c) (.int .i64 lo.e) (.bool hi.neg) (.slice B m d) (.int .i64 hi.e))).alloc z6)=w1 at *;obtain⟨y0_0,y0_1,y0_2,y0_3,y0_4,y0_5⟩:=S.ks.2.1.1.c6;have y0l:=S.ks.2.1.1.2;have hgl:=S.lt;have KY1:=lY (CL.out _ _ _ S S.ns.1);go_wp2_with fail;refine KY1.out.mono ?_;rintro e' v2 ⟨rl,AL,A1,n1,c1,B1,m1,d1,rfl,N1,M1,W1,o1⟩;have W1':Wk TW v2 g p false:=(by rw[← AL.q.bad];exact W1);have S2:=((S.only o1 W1').num M1).num N1;have S3:=S2.alloc 31 #[.bool rl.lo.neg,.slice A1 n1 c1,.int .i64 rl.lo.e,.bool rl.hi.neg,.slice B1 m1 d1,.int .i64 rl.hi.e];clear y0_0 y0_1 y0_2 y0_3 y0_4 y0_5 y0l S KY1 CL o1 W1 W1' hgl;have hsz:=S2.size;have hk1:=S2.ks.1.1.2;have hk2:=S2.ks.2.1.1.2;obtain⟨y0_0,y0_1,y0_2,y0_3,y0_4,y0_5⟩:=S2.ks.2.1.1.c6;have y0l:=S2.ks.2.1.1.2;go_upto_region 2 with fail;clear y0_0 y0_1 y0_2 y0_3 y0_4 y0_5 y0l;generalize v2.alloc (.cells #[.bool rl.lo.neg,.slice A1 n1 c1,.int .i64 rl.lo.e,.bool rl.hi.neg,.slice B1 m1 d1,.int .i64 rl.hi.e] 31)=v3 at *;clear S2;obtain⟨y0_0,y0_1,y0_2,y0_3,y0_4,y0_5⟩:=S3.ks.2.2.1.1.c6;have y0l:=S3.ks.2.2.1.1.2;have KY2:=lY (CI.out _ _ _ S3 S3.ns.2.2.1 S3.ns.2.2.2.1);go_wp2_with fail;refine KY2.out.mono ?_;rintro e' v4 ⟨rfl,b4⟩;replace S3:=S3.below b4;clear KY2 CI b4 y0_0 y0_1 y0_2 y0_3 y0_4 y0_5 y0l;cases q
 . go_upto_region 4 with fail
   have SD:=S3.drew;have sd1:am v4.drew (.slice B m d) hi.m:=SD.ns.2.2.2.1;have HCC:Hid (∀ b' w' ns,St TW w g p b' w' [(31,v2.heap.size,s6 rl.lo A1 n1 c1 rl.hi B1 m1 d1),(31,w.heap.size+1,zs),(31,w.heap.size,s6 lo A n c hi B m d)] ns->D6 w' (v2.heap.size) rl.lo A1 n1 c1 rl.hi B1 m1 d1/\D6 w' (w.heap.size) lo A n c hi B m d):=lY (fun b' w' ns h=>⟨h.ks.1.1.c6,h.ks.2.2.1.1.c6⟩);have HPP:Hid (∀ b' w' ns,St TW w g p b' w' [(31,v2.heap.size,s6 rl.lo A1 n1 c1 rl.hi B1 m1 d1),(31,w.heap.size+1,zs),(31,w.heap.size,s6 lo A n c hi B m d)] ns->∀ q1 q2 q3 q4 q5 q6,C6 (put6 w' (w.heap.size+1) q1 q2 q3 q4 q5 q6) (v2.heap.size) (.bool rl.lo.neg) (.slice A1 n1 c1) (.int .i64 rl.lo.e) (.bool rl.hi.neg) (.slice B1 m1 d1) (.int .i64 rl.hi.e)/\C6 (put6 w' (w.heap.size+1) q1 q2 q3 q4 q5 q6) (w.heap.size) (.bool lo.neg) (.slice A n c) (.int .i64 lo.e) (.bool hi.neg) (.slice B m d) (.int .i64 hi.e)):=lY (fun b' w' ns h q1 q2 q3 q4 q5 q6=>⟨(h.ks.1.1.only (aK w' (w.heap.size+1) q1 q2 q3 q4 q5 q6) (by omega)).c6,(h.ks.2.2.1.1.only (aK w' (w.heap.size+1) q1 q2 q3 q4 q5 q6) (by omega)).c6⟩)
   have XS:=HCC.out _ _ _ SD;clear S3
   go_region_held3 (fun w'=>D6 w' (v2.heap.size) rl.lo A1 n1 c1 rl.hi B1 m1 d1/\D6 w' (w.heap.size) lo A n c hi B m d)
    (first | with_reducible exact HPP.out _ _ _ V2 _ _ _ _ _ _ | with_reducible exact HCC.out _ _ _ V2 | with_reducible exact HCC.out _ _ _ V1 | with_reducible exact XS)
    (first
     | (go_at_call 58;refine(CHi.out _ _ _ SD sd1).mono ?_;rintro e' v5 ⟨rh,AH,A2,n2,c2,B2,m2,d2,rfl,N2,M2,W2,o2⟩;have W2':Wk TW v5 g p false:=(by rw[← AH.q.bad];exact W2);have V1:=((SD.only o2 W2').num M2).num N2;have u1:=V1.ns.1;have u2:=V1.ns.2.1;have u3:=V1.ns.2.2.1;have u4:=V1.ns.2.2.2.1)
     | (go_at_call 62;refine(CU.out _ _ _ _ _ _ _ _ _ _ _ _ _ _ _ _ _ AL AH V1 u3 u4 u1 u2).mono ?_;rintro e' v6 ⟨r,EO,A3,n3,c3,B3,m3,d3,rfl,N3,M3,W3,o3⟩;have V2:=((V1.only o3 W3).num M3).num N3;have z1:=V2.ks.2.1.1;obtain⟨z1c0,z1c1,z1c2,z1c3,z1c4,z1c5⟩:=z1.c6;obtain⟨z1f0,z1f1,z1f2,z1f3,z1f4,z1f5⟩:=z1.f6;have z1l:=z1.2;have z1n:=oM z1.2;have z1n2:=oY z1.2))
   go_wp2_with fail;obtain⟨x1,x2,x3,x4⟩:=V2.give (lo:=r.lo) (hi:=r.hi) V2.ns.1 V2.ns.2.1 z1 (by omega);exact bodyPost_ret (v:=aG r.lo.neg A3 n3 c3 r.lo.e r.hi.neg B3 m3 d3 r.hi.e) (by simp[results,qK,go_sem,z1c0,z1c1,z1c2,z1c3,z1c4,z1c5]) rfl ⟨r,EO,A3,n3,c3,B3,m3,d3,rfl,x1,x2,x3,x4⟩
 . have z2:=S3.ks.1.1
   obtain⟨z2c0,z2c1,z2c2,z2c3,z2c4,z2c5⟩:=z2.c6;obtain⟨z2f0,z2f1,z2f2,z2f3,z2f4,z2f5⟩:=z2.f6;have z2l:=z2.2;have z2n:=oM z2.2;have z2n2:=oY z2.2;have z1:=S3.ks.2.1.1;obtain⟨z1c0,z1c1,z1c2,z1c3,z1c4,z1c5⟩:=z1.c6;obtain⟨z1f0,z1f1,z1f2,z1f3,z1f4,z1f5⟩:=z1.f6;have z1l:=z1.2;have z1n:=oM z1.2;have z1n2:=oY z1.2;go_wp2_with fail;have S4:St TW w g p false v4 [(31,w.heap.size+1,zs)] [(.slice A1 n1 c1,rl.lo.m),(.slice B1 m1 d1,rl.hi.m)]:=⟨S3.hg,S3.O,S3.W,⟨S3.ks.2.1,trivial⟩,S3.ns.1,S3.ns.2.1,trivial⟩;obtain⟨x1,x2,x3,x4⟩:=S4.give (lo:=rl.lo) (hi:=rl.hi) S4.ns.1 S4.ns.2.1 S4.ks.1.1 (by omega);exact bodyPost_ret (v:=aG rl.lo.neg A1 n1 c1 rl.lo.e rl.hi.neg B1 m1 d1 rl.hi.e) (by simp[results,qK,go_sem,z1c0,z1c1,z1c2,z1c3,z1c4,z1c5]) rfl ⟨rl,AL.lone (LN.out trivial),A1,n1,c1,B1,m1,d1,rfl,x1,x2,by rw[AL.q.bad];exact x3,x4⟩
theorem vf {B:OA}(g P:Nat)(X:Int)(w:World)(hW:Wk TW w g (P:Int) false)(ha:am w (.slice A n c) lo.m)(hb:am w (.slice B m d) hi.m)(hl:ma lo)(hh:ma hi)(hr:aw lo hi=true)(hT:bx w)(hP1:16<=P)(hP2:P<=1000)(hB:jw X (sz lo))(hB':jw X (sz hi))(hB2:X<=132000):
 Calls mF 45 #[.pointer (some ⟨g,0,none⟩),aG lo.neg A n c lo.e hi.neg B m d hi.e,.func (.func 60) #[.pointer (some ⟨g,0,none⟩)] #[]] w (fun e w'=>∃ r,fu P (X+40000) r (eJ (sz lo)) (eJ (sz hi)) (aw hi lo)/\ap TW w g (P:Int) r e w'):=by
 have S:=((ui hW (.bool lo.neg) (.slice A n c) (.int .i64 lo.e) (.bool hi.neg) (.slice B m d) (.int .i64 hi.e)).num ((hb.below (ag w _)).below (ag _ _))).num ((ha.below (ag w _)).below (ag _ _));have TB:Hid (∀ w' ks ns,St TW w g (P:Int) false w' ks ns->bx w'):=lY (fun w' ks ns h=>hT.wk hW h.O);have hbb:=hB.b;have TL:Tq 300000 lo:=⟨hl.ok,hl.pl,by have:=hl.b;omega,by have:=hl.e1;omega,by have:=hl.t;omega⟩;have TH:Tq 300000 hi:=⟨hh.ok,hh.pl,by have:=hh.b;omega,by have:=hh.e1;omega,by have:=hh.t;omega⟩;obtain⟨p,hp⟩:∃ p:Int,p=(P:Int):=⟨_,rfl⟩;have CL:Hid (∀ w' ks ns,St TW w g (P:Int) false w' ks ns->am w' (.slice A n c) lo.m->Calls mF 60 #[.pointer (some ⟨g,0,none⟩),aP lo.neg A n c lo.e] w' (fun e w''=>∃ r,cV P (X+40000) r (eJ (sz lo))/\ap TW w' g (P:Int) r e w'')):=lY (fun w' ks ns h h1=>(mv (x:=lo) lo.neg g P X w' h.W h1 hl (TB.out _ _ _ h) hP1 hP2 hB hB2).mono fun e w'' ⟨r,a,b⟩=>⟨r,⟨a.q.more (by omega),a.hl,a.rel⟩,b⟩);have CHi:Hid (∀ w' ks ns,St TW w g (P:Int) false w' ks ns->am w' (.slice B m d) hi.m->Calls mF 60 #[.pointer (some ⟨g,0,none⟩),aP hi.neg B m d hi.e] w' (fun e w''=>∃ r,cV P (X+40000) r (eJ (sz hi))/\ap TW w' g (P:Int) r e w'')):=lY (fun w' ks ns h h1=>(mv (x:=hi) hi.neg g P X w' h.W h1 hh (TB.out _ _ _ h) hP1 hP2 hB' hB2).mono fun e w'' ⟨r,a,b⟩=>⟨r,⟨a.q.more (by omega),a.hl,a.rel⟩,b⟩);have CI:Hid (∀ w' ks ns,St TW w g (P:Int) false w' ks ns->am w' (.slice A n c) lo.m->am w' (.slice B m d) hi.m->Calls mF 88 #[aG lo.neg A n c lo.e hi.neg B m d hi.e] w' (fun o w''=>o=.returned (.bool (aw hi lo))/\Below w'.heap.size w' w'')):=lY (fun w' ks ns h h1 h2=>fY w' (aC.of_num h1 hl.pl hl.ok) (aC.of_num h2 hh.pl hh.ok));have CU:Hid (∀ w' ks ns r s A0 n0 c0 B0 m0 d0 A7 n7 c7 B7 m7 d7,cV P (X+40000) r (eJ (sz lo))->cV P (X+40000) s (eJ (sz hi))->St TW w g (P:Int) false w' ks ns->am w' (.slice A0 n0 c0) r.lo.m->am w' (.slice B0 m0 d0) r.hi.m->am w' (.slice A7 n7 c7) s.lo.m->am w' (.slice B7 m7 d7) s.hi.m->Calls mF 62 #[.pointer (some ⟨g,0,none⟩),aG r.lo.neg A0 n0 c0 r.lo.e r.hi.neg B0 m0 d0 r.hi.e,aG s.lo.neg A7 n7 c7 s.lo.e s.hi.neg B7 m7 d7 s.hi.e] w' (fun e w''=>∃ o,fu P (X+40000) o (eJ (sz lo)) (eJ (sz hi)) false/\ap TW w' g (P:Int) o e w'')):=lY (fun w' ks ns r s _ _ _ _ _ _ _ _ _ _ _ _ a b h h1 h2 h3 h4=>(jk g (P:Int) false w' h.W (aC.of_num h1 a.q.l.pl a.q.l.ok) (aC.of_num h2 a.q.h.pl a.q.h.ok) (aC.of_num h3 b.q.l.pl b.q.l.ok) (aC.of_num h4 b.q.h.pl b.q.h.ok)).mono fun e w'' hp=>⟨_,a.hull (by omega) (by omega) b,hp⟩)
 have LN:Hid (aw hi lo=true->(eJ (sz hi))=(eJ (sz lo))):=lY (fun h=>by
  have e:=mZ TL TH hr h
  rw[dJ hi,dJ lo,e])
 generalize aw hi lo=q at *;rw[← hp]at S CL CHi CI CU ⊢;clear hp TB hT hW hB hB' hB2 hbb hl hh ha hb hr TL TH;go_enter Gl,EM;go_upto_region 1 with fail;generalize((w.alloc (ce (.bool lo.neg) (.slice A n c) (.int .i64 lo.e) (.bool hi.neg) (.slice B m d) (.int .i64 hi.e))).alloc z6)=w1 at *;obtain⟨y0_0,y0_1,y0_2,y0_3,y0_4,y0_5⟩:=S.ks.2.1.1.c6;have y0l:=S.ks.2.1.1.2;have hgl:=S.lt;have KY1:=lY (CL.out _ _ _ S S.ns.1);go_wp2_with fail;refine KY1.out.mono ?_;rintro e' v2 ⟨rl,AL,A1,n1,c1,B1,m1,d1,rfl,N1,M1,W1,o1⟩;have W1':Wk TW v2 g p false:=(by rw[← AL.q.bad];exact W1);have S2:=((S.only o1 W1').num M1).num N1;have S3:=S2.alloc 31 #[.bool rl.lo.neg,.slice A1 n1 c1,.int .i64 rl.lo.e,.bool rl.hi.neg,.slice B1 m1 d1,.int .i64 rl.hi.e];clear y0_0 y0_1 y0_2 y0_3 y0_4 y0_5 y0l S KY1 CL o1 W1 W1' hgl;have hsz:=S2.size;have hk1:=S2.ks.1.1.2;have hk2:=S2.ks.2.1.1.2;obtain⟨y0_0,y0_1,y0_2,y0_3,y0_4,y0_5⟩:=S2.ks.2.1.1.c6;have y0l:=S2.ks.2.1.1.2;go_upto_region 2 with fail;clear y0_0 y0_1 y0_2 y0_3 y0_4 y0_5 y0l;generalize v2.alloc (.cells #[.bool rl.lo.neg,.slice A1 n1 c1,.int .i64 rl.lo.e,.bool rl.hi.neg,.slice B1 m1 d1,.int .i64 rl.hi.e] 31)=v3 at *;clear S2;obtain⟨y0_0,y0_1,y0_2,y0_3,y0_4,y0_5⟩:=S3.ks.2.2.1.1.c6;have y0l:=S3.ks.2.2.1.1.2;have KY2:=lY (CI.out _ _ _ S3 S3.ns.2.2.1 S3.ns.2.2.2.1);go_wp2_with fail;refine KY2.out.mono ?_;rintro e' v4 ⟨rfl,b4⟩;replace S3:=S3.below b4;clear KY2 CI b4 y0_0 y0_1 y0_2 y0_3 y0_4 y0_5 y0l;cases q
 . go_upto_region 4 with fail
   have SD:=S3.drew;have sd1:am v4.drew (.slice B m d) hi.m:=SD.ns.2.2.2.1;have HCC:Hid (∀ b' w' ns,St TW w g p b' w' [(31,v2.heap.size,s6 rl.lo A1 n1 c1 rl.hi B1 m1 d1),(31,w.heap.size+1,zs),(31,w.heap.size,s6 lo A n c hi B m d)] ns->D6 w' (v2.heap.size) rl.lo A1 n1 c1 rl.hi B1 m1 d1/\D6 w' (w.heap.size) lo A n c hi B m d):=lY (fun b' w' ns h=>⟨h.ks.1.1.c6,h.ks.2.2.1.1.c6⟩);have HPP:Hid (∀ b' w' ns,St TW w g p b' w' [(31,v2.heap.size,s6 rl.lo A1 n1 c1 rl.hi B1 m1 d1),(31,w.heap.size+1,zs),(31,w.heap.size,s6 lo A n c hi B m d)] ns->∀ q1 q2 q3 q4 q5 q6,C6 (put6 w' (w.heap.size+1) q1 q2 q3 q4 q5 q6) (v2.heap.size) (.bool rl.lo.neg) (.slice A1 n1 c1) (.int .i64 rl.lo.e) (.bool rl.hi.neg) (.slice B1 m1 d1) (.int .i64 rl.hi.e)/\C6 (put6 w' (w.heap.size+1) q1 q2 q3 q4 q5 q6) (w.heap.size) (.bool lo.neg) (.slice A n c) (.int .i64 lo.e) (.bool hi.neg) (.slice B m d) (.int .i64 hi.e)):=lY (fun b' w' ns h q1 q2 q3 q4 q5 q6=>⟨(h.ks.1.1.only (aK w' (w.heap.size+1) q1 q2 q3 q4 q5 q6) (by omega)).c6,(h.ks.2.2.1.1.only (aK w' (w.heap.size+1) q1 q2 q3 q4 q5 q6) (by omega)).c6⟩)
   have XS:=HCC.out _ _ _ SD;clear S3
   go_region_held3 (fun w'=>D6 w' (v2.heap.size) rl.lo A1 n1 c1 rl.hi B1 m1 d1/\D6 w' (w.heap.size) lo A n c hi B m d)
    (first | with_reducible exact HPP.out _ _ _ V2 _ _ _ _ _ _ | with_reducible exact HCC.out _ _ _ V2 | with_reducible exact HCC.out _ _ _ V1 | with_reducible exact XS)
    (first
     | (go_at_call 60;refine(CHi.out _ _ _ SD sd1).mono ?_;rintro e' v5 ⟨rh,AH,A2,n2,c2,B2,m2,d2,rfl,N2,M2,W2,o2⟩;have W2':Wk TW v5 g p false:=(by rw[← AH.q.bad];exact W2);have V1:=((SD.only o2 W2').num M2).num N2;have u1:=V1.ns.1;have u2:=V1.ns.2.1;have u3:=V1.ns.2.2.1;have u4:=V1.ns.2.2.2.1)
     | (go_at_call 62;refine(CU.out _ _ _ _ _ _ _ _ _ _ _ _ _ _ _ _ _ AL AH V1 u3 u4 u1 u2).mono ?_;rintro e' v6 ⟨r,EO,A3,n3,c3,B3,m3,d3,rfl,N3,M3,W3,o3⟩;have V2:=((V1.only o3 W3).num M3).num N3;have z1:=V2.ks.2.1.1;obtain⟨z1c0,z1c1,z1c2,z1c3,z1c4,z1c5⟩:=z1.c6;obtain⟨z1f0,z1f1,z1f2,z1f3,z1f4,z1f5⟩:=z1.f6;have z1l:=z1.2;have z1n:=oM z1.2;have z1n2:=oY z1.2))
   go_wp2_with fail;obtain⟨x1,x2,x3,x4⟩:=V2.give (lo:=r.lo) (hi:=r.hi) V2.ns.1 V2.ns.2.1 z1 (by omega);exact bodyPost_ret (v:=aG r.lo.neg A3 n3 c3 r.lo.e r.hi.neg B3 m3 d3 r.hi.e) (by simp[results,qK,go_sem,z1c0,z1c1,z1c2,z1c3,z1c4,z1c5]) rfl ⟨r,EO,A3,n3,c3,B3,m3,d3,rfl,x1,x2,x3,x4⟩
 . have z2:=S3.ks.1.1
   obtain⟨z2c0,z2c1,z2c2,z2c3,z2c4,z2c5⟩:=z2.c6;obtain⟨z2f0,z2f1,z2f2,z2f3,z2f4,z2f5⟩:=z2.f6;have z2l:=z2.2;have z2n:=oM z2.2;have z2n2:=oY z2.2;have z1:=S3.ks.2.1.1;obtain⟨z1c0,z1c1,z1c2,z1c3,z1c4,z1c5⟩:=z1.c6;obtain⟨z1f0,z1f1,z1f2,z1f3,z1f4,z1f5⟩:=z1.f6;have z1l:=z1.2;have z1n:=oM z1.2;have z1n2:=oY z1.2;go_wp2_with fail;have S4:St TW w g p false v4 [(31,w.heap.size+1,zs)] [(.slice A1 n1 c1,rl.lo.m),(.slice B1 m1 d1,rl.hi.m)]:=⟨S3.hg,S3.O,S3.W,⟨S3.ks.2.1,trivial⟩,S3.ns.1,S3.ns.2.1,trivial⟩;obtain⟨x1,x2,x3,x4⟩:=S4.give (lo:=rl.lo) (hi:=rl.hi) S4.ns.1 S4.ns.2.1 S4.ks.1.1 (by omega);exact bodyPost_ret (v:=aG rl.lo.neg A1 n1 c1 rl.lo.e rl.hi.neg B1 m1 d1 rl.hi.e) (by simp[results,qK,go_sem,z1c0,z1c1,z1c2,z1c3,z1c4,z1c5]) rfl ⟨rl,AL.lone (LN.out trivial),A1,n1,c1,B1,m1,d1,rfl,x1,x2,by rw[AL.q.bad];exact x3,x4⟩
end
theorem wa {r:DR}{lo:Int}(h:r.m=0\/lo<=r.e):
 (((if r.neg=false then r.m*2^(r.e-lo).toNat else 0:Nat):Rat)-((if r.neg=true then r.m*2^(r.e-lo).toNat else 0:Nat):Rat))*tp lo=rv r:=by
 have hv:((r.m*2^(r.e-lo).toNat:Nat):Rat)*tp lo=(r.m:Rat)*tp r.e:=by
  rcases h with h | h
  . rw[h,Gk]
    show(0:Rat)*tp lo=0*tp r.e
    rw[DF,DF]
  . obtain⟨k,hk⟩:∃ k:Nat,r.e=(k:Int)+lo:=⟨(r.e-lo).toNat,by omega⟩
    have e:(r.e-lo).toNat=k:=by omega
    rw[e,Rat.natCast_mul,Rat.mul_assoc,← dH,← bV,hk]
 have h0:((0:Nat):Rat)=0:=rfl;cases hn:r.neg
 . have e1:rv r=(r.m:Rat)*tp r.e:=by unfold rv;rw[hn,dc]
   rw[if_pos rfl,if_neg (by decide),e1,← hv,h0]
   grind
 . have e1:rv r=-((r.m:Rat)*tp r.e):=by unfold rv;rw[hn,fh]
   rw[if_neg (by decide),if_pos rfl,e1,← hv,h0]
   grind
theorem yi {r s:DR}(h:hi2 r s-lo2 r s<=262144):∃ neg V,cK r s=bH neg V (lo2 r s)/\qv neg V (lo2 r s)=rv r+rv s:=by
 have h1:r.m=0\/lo2 r s<=r.e:=by
  by_cases h0:r.m=0
  . exact .inl h0
  . right;unfold lo2;rw[if_neg h0];split <;> omega
 have h2:s.m=0\/lo2 r s<=s.e:=by
  by_cases h0:s.m=0
  . exact .inl h0
  . right;unfold lo2;rw[if_neg h0,if_neg h0];split <;> omega
 have e1:=wa h1;have e2:=wa h2
 have hv:(((ir r s false (lo2 r s):Nat):Rat)-((ir r s true (lo2 r s):Nat):Rat))*tp (lo2 r s)=rv r+rv s:=by
  unfold ir;rw[Gn,Gn,← e1,← e2]
  grind
 unfold cK;rw[if_pos h]
 split
 . rename_i hle
   refine⟨_,_,rfl,?_⟩;rw[dc,jD hle,hv]
 . rename_i hle
   refine⟨_,_,rfl,?_⟩;rw[fh,jD (by omega),← hv]
   grind
theorem iY {k:Nat}(ha:a.m≠0)(h:sz a<=sz b*((2^k:Nat):Rat)):a.e+(nb a.m:Int)<=b.e+(nb b.m:Int)+(k:Int):=by
 have h1:=ou (bW (fA (DE ha))) (Bl (dD a.e));rw[cI]at h1;have ht:=dD b.e;have hkp:(0:Rat) < ((2^k:Nat):Rat):=Gp.2 (Nat.two_pow_pos k)
 have hlt:sz b*((2^k:Nat):Rat) < tw (b.e+(nb b.m:Int)+(k:Int)):=by
  have h2:(b.m:Rat) < ((2^nb b.m:Nat):Rat):=by exact_mod_cast dZ b.m
  have h3:(b.m:Rat)*tw b.e < ((2^nb b.m:Nat):Rat)*tw b.e:=Bx h2 ht
  have e:tw (b.e+(nb b.m:Int)+(k:Int))=((2^nb b.m:Nat):Rat)*tw b.e*((2^k:Nat):Rat):=by
   rw[fJ,fJ,fx,fx];grind
  rw[e];exact Bx h3 hkp
 have h4:tw (((nb a.m-1:Nat):Int)+a.e) < tw (b.e+(nb b.m:Int)+(k:Int)):=by
  have:(a.m:Rat)*tw a.e=sz a:=rfl
  grind
 have:=Cy h4
 have:=gg (DE ha)
 omega
theorem nv (h:x.m≠0):0 < sz x:=Rat.mul_pos (Gp.2 (DE h)) (co _)
theorem vJ (h:0 < sz x):x.m≠0:=fun h0=>by rw[gW h0]at h;exact absurd h (by decide)
structure Eb (P:Nat)(r:SRes):Prop where
 nok:(aT r.lo).ok=true
 npl:aR (aT r.lo).neg (aT r.lo).m (aT r.lo).e=true
 wok:(cK r.hi (aT r.lo)).ok=true
 wpl:aR (cK r.hi (aT r.lo)).neg (cK r.hi (aT r.lo)).m (cK r.hi (aT r.lo)).e=true
 wb:nb (cK r.hi (aT r.lo)).m<=9000
 we1:-200000<=(cK r.hi (aT r.lo)).e
 we2:(cK r.hi (aT r.lo)).e+(nb (cK r.hi (aT r.lo)).m:Int)<=200000
 v:sz (cK r.hi (aT r.lo))<=4*uP P*sz r.lo
theorem Af {c:DR}(ha:Tq B a)(hb:Tq B b)(hc0:c.m≠0)(ca:sz c<=sz a)(cb:sz c<=sz b)(ac:sz a<=sz c*2)(bc:sz b<=sz c*2)(hc:c=a\/c=b)(hB:B<=199000)(hB0:0<=B)
 {W:Rat} (hW:rv a+rv b=W) (w0:0<=W) (w1:W<=sz c) :
 (cK a b).ok=true/\aR (cK a b).neg (cK a b).m (cK a b).e=true/\nb (cK a b).m<=9000/\-200000<=(cK a b).e/\(cK a b).e+(nb (cK a b).m:Int)<=200000/\sz (cK a b)=W:=by
 have c0:=nv hc0;have a0:a.m≠0:=vJ (by grind);have b0:b.m≠0:=vJ (by grind);have e1:((2^1:Nat):Rat)=2:=rfl;have e0:((2^0:Nat):Rat)=1:=rfl;have t1:=iY (a:=a) (b:=c) (k:=1) a0 (by rw[e1];exact ac);have t2:=iY (a:=b) (b:=c) (k:=1) b0 (by rw[e1];exact bc);have t3:=iY (a:=c) (b:=a) (k:=0) hc0 (by rw[e0,Gm];exact ca);have t4:=iY (a:=c) (b:=b) (k:=0) hc0 (by rw[e0,Gm];exact cb);have ab:=ha.b;have ae:=ha.e1;have at':=ha.e2;have bb:=hb.b;have be:=hb.e1;have bt:=hb.e2
 have hl:lo2 a b=min a.e b.e:=by unfold lo2;rw[if_neg a0,if_neg b0]
 have hh:hi2 a b=max a.e b.e:=by unfold hi2;rw[if_neg a0,if_neg b0]
 obtain⟨neg,V,hE,hV⟩:=yi (r:=a) (s:=b) (by rw[hl,hh];omega);rw[hW]at hV
 have hVs:(V:Rat)*tp (lo2 a b)<=sz c:=by
  cases neg
  . rw[dc]at hV;rw[hV];exact w1
  . rw[fh]at hV
    have:=j9 V (lo2 a b)
    grind
 have hVW:(V:Rat)*tp (lo2 a b)=W:=by
  cases neg
  . rw[dc]at hV;exact hV
  . rw[fh]at hV
    have:=j9 V (lo2 a b)
    grind
 have hnb:(nb V:Int)+lo2 a b<=c.e+(nb c.m:Int):=by
  rcases tz V with h0 | h0
  . rw[h0,aX,hl]
    rcases hc with rfl | rfl <;> omega
  . have:=iY (a:=⟨true,false,V,lo2 a b⟩) (b:=c) (k:=0) (by show V≠0;omega) (by rw[e0,Gm];exact hVs)
    dsimp only at this
    omega
 have hcb:c.e+(nb c.m:Int)<=B:=by rcases hc with rfl | rfl <;> omega
 rw[hl]at hnb
 have h9:nb V<=9000:=by rcases hc with rfl | rfl <;> omega
 have Q:=jP (neg:=neg) (V:=V) (e:=lo2 a b) (B:=200000) (by rw[hl];omega) (by rw[hl];omega) h9 (by omega) (by omega);rw[hE];refine⟨Q.1.ok,Q.1.pl,Q.1.b,Q.1.e1,Q.1.e2,?_⟩;have hQ:=Q.2.1
 have:=dJ (bH neg V (lo2 a b))
 rw[this,hQ];cases neg
 . rw[dc,hVW,if_pos w0]
 . rw[fh,hVW]
   split <;> grind
theorem AR (h:x.ok=true):sz (aT x)=sz x:=by
 unfold aT;rw[h,if_pos rfl]
 by_cases h0:x.m=0
 . rw[if_pos h0,gW h0]
   exact gW rfl
 . rw[if_neg h0]
   rfl
theorem zA (hP1:16<=P)(h:Sq B r)(hrel:(0<=rv r.lo/\rv r.hi<=rv r.lo*(1+4*uP P))\/(rv r.hi<=0/\rv r.hi*(1+4*uP P)<=rv r.lo))(hB:B<=199000)(hB0:0<=B):Eb P r:=by
 obtain⟨u1,_,_⟩:=iJ hP1;have hu:=cD P;have hle:=h.le;have TN:=qT h.l hB0;have rn:=kX h.l.ok;have sn:=AR h.l.ok;have al:=dJ r.lo;have ah:=dJ r.hi
 by_cases h0:rv r.lo=0
 .
  have hz:rv r.hi=0:=by
   rcases hrel with⟨a,b⟩ | ⟨a,b⟩
   . rw[h0,DF]at b;grind
   . grind
  have ml:r.lo.m=0:=by
   rcases tz r.lo.m with h1 | h1
   . exact h1
   . have:=nv (x:=r.lo) (by omega)
     rw[al,h0]at this
     simp at this
  have mh:r.hi.m=0:=by
   rcases tz r.hi.m with h1 | h1
   . exact h1
   . have:=nv (x:=r.hi) (by omega)
     rw[ah,hz]at this
     simp at this
  have en:aT r.lo=DR.zero:=by unfold aT;rw[h.l.ok,if_pos rfl,if_pos ml]
  have ew:cK r.hi DR.zero=DR.zero:=by
   unfold cK
   have l0:lo2 r.hi DR.zero=0:=by unfold lo2;rw[if_pos mh];rfl
   have h0':hi2 r.hi DR.zero=0:=by unfold hi2;rw[if_pos mh];rfl
   have p0:∀ sg,ir r.hi DR.zero sg 0=0:=fun sg=>by
    unfold ir;rw[mh]
    show(if r.hi.neg=sg then 0*2^(r.hi.e-0).toNat else 0)+(if false=sg then 0*2^((0:Int)-0).toNat else 0)=0
    rw[Gk,Gk]
    simp
   rw[l0,h0',if_pos (by omega),p0,p0,if_pos (Nat.le_refl _)]
   rfl
  have zb:nb 0=0:=aX;refine⟨by rw[en];rfl,by rw[en];rfl,by rw[en,ew];rfl,by rw[en,ew];rfl,by rw[en,ew];show nb 0<=9000;omega,by rw[en,ew];show(-200000:Int)<=0;omega,by rw[en,ew];show(0:Int)+(nb 0:Int)<=200000;omega,?_⟩;rw[en,ew,gW rfl];exact Rat.mul_nonneg (by grind) (bR _)
 . rcases hrel with⟨a,b⟩ | ⟨a,b⟩
   . have sl:sz r.lo=rv r.lo:=by rw[al,if_pos a]
     have sh:sz r.hi=rv r.hi:=by rw[ah,if_pos (by grind)]
     have hl0:0 < rv r.lo:=by grind
     have m0:=vJ (x:=r.lo) (by rw[sl];exact hl0);have hu4:rv r.lo*(uP P*32768)<=rv r.lo*1:=yb (by grind) (Bl hl0)
     have mn:(aT r.lo).m=r.lo.m:=by unfold aT;rw[h.l.ok,if_pos rfl,if_neg m0]
     obtain⟨d1,d2,d3,d4,d5,d6⟩:=Af (c:=aT r.lo) h.h TN (by rw[mn];exact m0) (by rw[sn,sl,sh];exact hle) Gs (by rw[sn,sl,sh];grind) (by have:=bR (aT r.lo);grind) (.inr rfl) hB hB0 (W:=rv r.hi-rv r.lo) (by rw[rn];grind) (by grind) (by rw[sn,sl];grind);exact⟨TN.ok,TN.pl,d1,d2,d3,d4,d5,by rw[d6,sl];grind⟩
   . have hl0:rv r.lo < 0:=by grind
     have hh0:rv r.hi < 0:=by
      refine Gq.1 fun hn=>?_
      have:rv r.hi=0:=by grind
      rw[this,DF]at b
      grind
     have sl:sz r.lo=- rv r.lo:=by rw[al,if_neg (Gq.2 hl0)]
     have sh:sz r.hi=- rv r.hi:=by rw[ah,if_neg (Gq.2 hh0)]
     have m0:=vJ (x:=r.hi) (by rw[sh];grind);have hu4:- rv r.hi*(uP P*32768)<=- rv r.hi*1:=yb (by grind) (by grind);have hu5:- rv r.hi*uP P<=- rv r.lo*uP P:=ou (by grind) (Bl hu);obtain⟨d1,d2,d3,d4,d5,d6⟩:=Af (c:=r.hi) h.h TN m0 Gs (by rw[sn,sl,sh];grind) (by have:=bR r.hi;grind) (by rw[sn,sl,sh];grind) (.inl rfl) hB hB0 (W:=rv r.hi-rv r.lo) (by rw[rn];grind) (by grind) (by rw[sh];grind);exact⟨TN.ok,TN.pl,d1,d2,d3,d4,d5,by rw[d6,sl];grind⟩
theorem Dj (hP2:P<=2000)(h:Sq B r)(hB:B<=199000)(n:Eb P r):
 (bH false (cK r.hi (aT r.lo)).m ((cK r.hi (aT r.lo)).e+((P:Int)-4))).ok=true/\aR (bH false (cK r.hi (aT r.lo)).m ((cK r.hi (aT r.lo)).e+((P:Int)-4))).neg (bH false (cK r.hi (aT r.lo)).m ((cK r.hi (aT r.lo)).e+((P:Int)-4))).m (bH false (cK r.hi (aT r.lo)).m ((cK r.hi (aT r.lo)).e+((P:Int)-4))).e=true /\
 aw (bH false (cK r.hi (aT r.lo)).m ((cK r.hi (aT r.lo)).e+((P:Int)-4))) (pw r.lo)=true:=by
 have e1:=n.we1;have e2:=n.we2;have hv:=n.v;have hwb:=n.wb;clear n;generalize cK r.hi (aT r.lo)=d at *;have Q:=jP (neg:=false) (V:=d.m) (e:=d.e+((P:Int)-4)) (B:=210000) (by omega) (by omega) hwb (by omega) (by omega)
 have TS:Tq 210000 (pw r.lo):=by
  have hl:=h.l;refine⟨rfl,?_,hl.b,by have:=hl.e1;show(-210000:Int)<=r.lo.e;omega,by have:=hl.e2;show r.lo.e+(nb r.lo.m:Int)<=210000;omega⟩;have h1:=hl.pl;unfold aR at h1 ⊢
  show(if r.lo.m=0 then decide (r.lo.e=0) && !false else decide (r.lo.m%2=1) && decide (nb r.lo.m<=MB) && decide (cR r.lo.e))=true
  split at h1
  . rename_i h0
    rw[if_pos h0];simp only[Bool.and_eq_true]at h1;rw[h1.1]
    rfl
  . rename_i h0
    rw[if_neg h0];exact h1
 refine⟨Q.1.ok,Q.1.pl,aM Q.1 TS ?_⟩;rw[Q.2.1,dc,bV];have es:rv (pw r.lo)=sz r.lo:=rfl;rw[es];have h2:=ou hv (Bl (co ((P:Int)-4)))
 have e3:uP P*tp ((P:Int)-4)*8=1:=by
  have e8:(8:Rat)=((2^3:Nat):Rat):=rfl;unfold uP;rw[e8,← dH,← bV,← bV,show 1-(P:Int)+((P:Int)-4)+((3:Nat):Int)=0 by omega,kG]
 have hs0:=bR r.lo
 have e4:(d.m:Rat)*(tp d.e*tp ((P:Int)-4))=sz d*tp ((P:Int)-4):=by
  show _=(d.m:Rat)*tp d.e*tp ((P:Int)-4)
  grind
 rw[e4];generalize tp ((P:Int)-4)=t at *;generalize uP P=u at *;generalize sz r.lo=z at *
 have e5:4*u*z*t*8=4*z*(u*t*8):=by grind
 rw[e3]at e5
 grind
end Go.Proofs.YtmbmohibpkepdaaGreatDoor
