import Derived.Test.YtmbmohibpkepdaaGreatDoorPlSGEx6
set_option maxRecDepth 8000
set_option maxHeartbeats 4000000
open Go.Lib renaming hid->lY
open Go.Proofs.Tryz renaming prog->mF, results58->oY, ntmps58->tz, func58->yb
open Nat renaming ne_of_lt->ou, ne_of_gt->oM, pos_of_ne_zero->qK
namespace Go.Proofs.YtmbmohibpkepdaaGreatDoor
open Go.RowKit
variable {A:OA} {c n:Nat} {x:DR}
section
variable {TW:TypeId}
theorem vU (n:Nat):fG 0 n=0:=by
 unfold fG;rw[show -(0:Rat)=0 by grind,lh]
 grind
theorem uZ (g P:Nat)(B:Int)(w:World)(hW:Wk TW w g (P:Int) false)(ha:am w (.slice A n c) x.m)(hx:ma x)(hT:bx w)(hP1:16<=P)(hP2:P<=1000)(hB:jw B (sz x))(hB2:B<=132000)(h0:x.m=0):
 Calls mF 58 #[.pointer (some ⟨g,0,none⟩),aP x.neg A n c x.e] w (fun e w'=>∃ r,cV P (B+40000) r (fG 0)/\ap TW w g (P:Int) r e w'):=by
 have S:=(mA hW (.bool x.neg) (.slice A n c) (.int .i64 x.e)).num (((ha.below (ag w _)).below (ag _ _)));have TB:Hid (∀ w' ks ns,St TW w g (P:Int) false w' ks ns->bx w'):=lY (fun w' ks ns h=>hT.wk hW h.O);have hbb:=hB.b;obtain⟨p,hp⟩:∃ p:Int,p=(P:Int):=⟨_,rfl⟩;have TX:Tq 32000 x:=⟨hx.ok,hx.pl,by have:=hx.b;omega,by have:=hx.e1;omega,by have:=hx.t;omega⟩;have IZ:Hid (∀ w' ,am w' (.slice A n c) x.m->Calls mF 90 #[.agg #[.bool x.neg,.slice A n c,.int .i64 x.e]] w' (fun r w''=>r=.returned (.bool (decide (x.m=0)))/\Below w'.heap.size w' w'')):=lY (fun w' h1=>df x.neg x.e h1)
 have CP:Hid (∀ w' ks ns,St TW w g (P:Int) false w' ks ns->am w' (.slice A n c) x.m->Calls mF 13 #[.pointer (some ⟨g,0,none⟩),aP x.neg A n c x.e] w' (ap TW w' g (P:Int) ⟨false,x,x⟩)):=lY (fun w' ks ns h h1=>by
  rw[← (oW (p:=(P:Int)) (by omega) (by omega) TX).1];have hh:=gY g (P:Int) false w' h.W (aC.of_num h1 hx.pl hx.ok)
  exact hh)
 have hd:decide (x.m=0)=true:=decide_eq_true h0;have Hd:=lY hd;have AO:Hid (cV P (B+40000) ⟨false,x,x⟩ (fG 0)):=lY (oL (TX.more (by omega)) (fun n=>by rw[vU,gX h0]) (by rw[gX h0];decide));rw[← hp]at S CP ⊢;clear hd hp TB hT hW hB hB2 hbb hx ha h0 TX;go_enter yb,tz;have kl:=S.ks.2.1.1.2;have kl2:=S.ks.1.1.2;have hgl:=S.lt;go_upto_region 1 with fail;generalize(w.alloc (.cells #[.bool x.neg,.slice A n c,.int .i64 x.e] 24)).alloc (.cells zs 31)=w1 at *
 go_cut [5] (fun s5 wx=>∃ a5 A5 n5 c5 B5 m5 d5,s5=.pointer (some ⟨a5,0,none⟩)/\w.heap.size<=a5/\mG a5 [(31,w.heap.size+1,zs),(24,w.heap.size,s3 x A n c)]/\St TW w g p false wx [(31,a5,s6 x A5 n5 c5 x B5 m5 d5),(31,w.heap.size+1,zs),(24,w.heap.size,s3 x A n c)] [(.slice A5 n5 c5,x.m),(.slice B5 m5 d5,x.m),(.slice A n c,x.m)])
 case first =>
  have SD:=S.drew;have SA:=(S.below (ag w1 (.cells zs 31))).drew;have YA:=(KC.made 31 w1 zs).drew;have sd1:am w1.drew (.slice A n c) x.m:=SD.ns.1;have sa1:am (w1.alloc (.cells zs 31)).drew (.slice A n c) x.m:=SA.ns.1;have HCC:Hid (∀ b' w' ns,St TW w g p b' w' [(31,w.heap.size+1,zs),(24,w.heap.size,s3 x A n c)] ns->C3 w' (w.heap.size) (.bool x.neg) (.slice A n c) (.int .i64 x.e)):=lY (fun b' w' ns h=>(h.ks.2.1.1.c3));have HPP:Hid (∀ b' w' ns,St TW w g p b' w' [(31,w.heap.size+1,zs),(24,w.heap.size,s3 x A n c)] ns->∀ q1 q2 q3 q4 q5 q6,C3 (put6 w' (w1.heap.size) q1 q2 q3 q4 q5 q6) (w.heap.size) (.bool x.neg) (.slice A n c) (.int .i64 x.e)):=lY (fun b' w' ns h q1 q2 q3 q4 q5 q6=>((h.ks.2.1.1.only (aK w' (w1.heap.size) q1 q2 q3 q4 q5 q6) (by omega)).c3));have XS:=HCC.out _ _ _ SD;have XA:=HCC.out _ _ _ SA
  go_region_held3 (fun w'=>C3 w' (w.heap.size) (.bool x.neg) (.slice A n c) (.int .i64 x.e))
   (first | with_reducible exact HPP.out _ _ _ V2 _ _ _ _ _ _ | with_reducible exact HCC.out _ _ _ V2 | with_reducible exact XS | with_reducible exact XA | with_reducible exact HCC.out _ _ _ (V2.below (ag _ _)))
   (first
    | (go_at_call 13;refine(CP.out _ _ _ (by first | with_reducible exact SD | with_reducible exact SA) (by first | with_reducible exact sd1 | with_reducible exact sa1)).mono ?_;rintro e' v2 ⟨A1,n1,c1,B1,m1,d1,rfl,N1,M1,W1,o1⟩;have V2:St TW w g p false v2 [(31,w.heap.size+1,zs),(24,w.heap.size,s3 x A n c)] [(.slice A1 n1 c1,x.m),(.slice B1 m1 d1,x.m),(.slice A n c,x.m)]:=(by first | with_reducible exact((SD.only o1 W1).num M1).num N1 | with_reducible exact((SA.only o1 W1).num M1).num N1);have hv1:w1.heap.size<=v2.heap.size:=(by have h:=o1.size;simp at h;omega);first | (have ox:az (w1.alloc (.cells zs 31)).drew v2 g:=(by with_reducible exact o1);have z1:=YA.only ox (by omega);obtain⟨z1c0,z1c1,z1c2,z1c3,z1c4,z1c5⟩:=z1.c6;obtain⟨z1f0,z1f1,z1f2,z1f3,z1f4,z1f5⟩:=z1.f6;have z1l:=z1.2;have z1n:=ou z1.2;have z1n2:=oM z1.2) | skip))
  all_goals (
   go_wp2_with fail;go_meet
   first
    | ((with_reducible refine⟨w1.heap.size,A1,n1,c1,B1,m1,d1,rfl,?_,?_,iI V2 z1 ?_ ?_ _ _ _ _ _ _⟩) <;> first | omega | exact⟨by omega,by omega,trivial⟩)
    | with_reducible exact⟨v2.heap.size,A1,n1,c1,B1,m1,d1,rfl,V2.size,pT V2.ks,V2.alloc _ _⟩)
 case rest =>
 obtain⟨a5,A5,n5,c5,B5,m5,d5,rfl,ha5,hne5,V⟩:=hcut;obtain⟨hd1,hd2,_⟩:=hne5;have hk5:=V.ks.1.1.2;clear S CP;obtain⟨k0,k0_1,k0_2⟩:=V.ks.2.2.1.1.c3;have I3:=lY (IZ.out _ V.ns.2.2.1);rw[Hd.out]at I3;go_wp2_with fail;refine I3.out.mono ?_;rintro e' v3 ⟨rfl,b3⟩;replace V:=V.below b3;clear I3 IZ b3 k0 k0_1 k0_2;have z2:=V.ks.1.1;obtain⟨z2c0,z2c1,z2c2,z2c3,z2c4,z2c5⟩:=z2.c6;obtain⟨z2f0,z2f1,z2f2,z2f3,z2f4,z2f5⟩:=z2.f6;have z2l:=z2.2;have z2n:=ou z2.2;have z2n2:=oM z2.2;have z1:=V.ks.2.1.1;obtain⟨z1c0,z1c1,z1c2,z1c3,z1c4,z1c5⟩:=z1.c6;obtain⟨z1f0,z1f1,z1f2,z1f3,z1f4,z1f5⟩:=z1.f6;have z1l:=z1.2;have z1n:=ou z1.2;have z1n2:=oM z1.2;go_wp2_with fail;have V':St TW w g p false v3 [(31,w.heap.size+1,zs),(24,w.heap.size,s3 x A n c)] [(.slice A5 n5 c5,x.m),(.slice B5 m5 d5,x.m)]:=⟨V.hg,V.O,V.W,V.ks.2,V.ns.1,V.ns.2.1,trivial⟩;obtain⟨x1,x2,x3,x4⟩:=V'.give (lo:=x) (hi:=x) V'.ns.1 V'.ns.2.1 V'.ks.1.1 (by omega);exact bodyPost_ret (v:=aG x.neg A5 n5 c5 x.e x.neg B5 m5 d5 x.e) (by simp[results,oY,go_sem,z1c0,z1c1,z1c2,z1c3,z1c4,z1c5]) rfl ⟨⟨false,x,x⟩,AO.out,A5,n5,c5,B5,m5,d5,rfl,x1,x2,x3,x4⟩
theorem u9 (g P:Nat)(B:Int)(w:World)(hW:Wk TW w g (P:Int) false)(ha:am w (.slice A n c) x.m)(hx:ma x)(hT:bx w)(hP1:16<=P)(hP2:P<=1000)(hB:jw B (sz x))(hB2:B<=132000)(hn:x.neg=false)(h0:x.m≠0)(ht:x.e+(nb x.m:Int)<=-16):
 Calls mF 58 #[.pointer (some ⟨g,0,none⟩),aP x.neg A n c x.e] w (fun e w'=>∃ r,cV P (B+40000) r (fG (sz x))/\ap TW w g (P:Int) r e w'):=by
 have S:=(mA hW (.bool false) (.slice A n c) (.int .i64 x.e)).num (((ha.below (ag w _)).below (ag _ _)));have TB:Hid (∀ w' ks ns,St TW w g (P:Int) false w' ks ns->bx w'):=lY (fun w' ks ns h=>hT.wk hW h.O);have hbb:=hB.b;obtain⟨p,hp⟩:∃ p:Int,p=(P:Int):=⟨_,rfl⟩;have TX:Tq 32000 x:=⟨hx.ok,hx.pl,by have:=hx.b;omega,by have:=hx.e1;omega,by have:=hx.t;omega⟩;have IZ:Hid (∀ w' ,am w' (.slice A n c) x.m->Calls mF 90 #[.agg #[.bool false,.slice A n c,.int .i64 x.e]] w' (fun r w''=>r=.returned (.bool (decide (x.m=0)))/\Below w'.heap.size w' w'')):=lY (fun w' h1=>df false x.e h1)
 have CP:Hid (∀ w' ks ns,St TW w g (P:Int) false w' ks ns->am w' (.slice A n c) x.m->Calls mF 13 #[.pointer (some ⟨g,0,none⟩),aP false A n c x.e] w' (ap TW w' g (P:Int) ⟨false,x,x⟩)):=lY (fun w' ks ns h h1=>by
  rw[← (oW (p:=(P:Int)) (by omega) (by omega) TX).1];have hh:=gY g (P:Int) false w' h.W (aC.of_num h1 hx.pl hx.ok);rw[hn]at hh
  exact hh)
 obtain⟨T,hTp⟩:=du (x.e+(nb x.m:Int))
 have C1:Hid (∀ w' ,am w' (.slice A n c) x.m->Calls mF 108 #[aP false A n c x.e] w' (gt w' T)):=lY (fun w' h1=>by
  obtain⟨A0,n0,c0,f,hA0,hs,hn,hc,hVe⟩:=h1.raw 1000 (by have:=hx.b;omega);cases hA0
  have:=jn false A n c f x.e w' hs (by omega) (by have:=hx.e1;omega) (by have:=hx.t;omega)
  rw[hVe,← hTp]at this
  exact this)
 have C2:Hid (∀ w' ks ns,St TW w g (P:Int) false w' ks ns->am w' (.slice A n c) x.m->Calls mF 110 #[.pointer (some ⟨g,0,none⟩),aP false A n c x.e,.int .u64 1] w' (fun e w''=>∃ V,lA P 1 (sz x) V/\ap TW w' g (P:Int) (an P V (-((P+64:Nat):Int))) e w'')):=lY (fun w' ks ns h h1=>lj (odd:=1) false g P w' h.W h1 (TB.out _ _ _ h) (by omega) hP1 (by omega) (by have:=hx.b;omega) (by have:=hx.e1;omega) (by omega))
 have C3q:Hid (∀ w' ks ns V A0 n0 c0 B0 m0 d0 A7 n7 c7 B7 m7 d7,lA P 1 (sz x) V->St TW w g (P:Int) false w' ks ns->am w' (.slice A7 n7 c7) x.m->am w' (.slice B7 m7 d7) x.m->am w' (.slice A0 n0 c0) (an P V (-((P+64:Nat):Int))).lo.m->am w' (.slice B0 m0 d0) (an P V (-((P+64:Nat):Int))).hi.m->Calls mF 29 #[.pointer (some ⟨g,0,none⟩),aG false A7 n7 c7 x.e false B7 m7 d7 x.e,aG (an P V (-((P+64:Nat):Int))).lo.neg A0 n0 c0 (an P V (-((P+64:Nat):Int))).lo.e (an P V (-((P+64:Nat):Int))).hi.neg B0 m0 d0 (an P V (-((P+64:Nat):Int))).hi.e] w' (fun e w''=>∃ r,cV P (B+40000) r (fG (sz x))/\ap TW w' g (P:Int) r e w'')):=lY (fun w' ks ns V _ _ _ _ _ _ _ _ _ _ _ _ ok h h3 h4 h1 h2=>by
  have G:=(qH hP1 hP2 ok).1.good;have hr:=lK hn
  have h00:0 < rv x:=by
   rw[hr];exact Rat.mul_pos (Rat.natCast_pos.2 (qK h0)) (co _)
  rw[← hr]at ok ⊢;have AO:=wS (B:=32000) hP1 hP2 (by omega) (by omega) TX h00 ok
  have:=yF (lo:=x) (hi:=x) g (P:Int) false w' h.W (aC.of_num h3 hx.pl hx.ok) (aC.of_num h4 hx.pl hx.ok) (aC.of_num h1 G.l2 G.l1) (aC.of_num h2 G.h2 G.h1) (TB.out _ _ _ h)
  rw[hn]at this
  exact this.mono fun e w'' hp=>⟨_,⟨AO.q.more (by omega),AO.hl,AO.rel⟩,hp⟩)
 have hd:decide (x.m=0)=false:=decide_eq_false h0;have Hd:=lY hd;have hw6:IntKind.i64.wrap (p-262144)=p-262144:=aE (by omega) (by omega);have ht6:decide (T<=p-262144)=false:=decide_eq_false (by have:=hx.e1;omega);have ht2:decide (T<=-16)=true:=decide_eq_true (by omega);rw[hn];rw[← hp]at S CP C2 C3q ⊢;clear hd hp TB hT hW hB hB2 hbb hx ha h0 hTp ht TX;go_enter yb,tz;have kl:=S.ks.2.1.1.2;have kl2:=S.ks.1.1.2;have hgl:=S.lt;go_upto_region 1 with fail;generalize(w.alloc (.cells #[.bool false,.slice A n c,.int .i64 x.e] 24)).alloc (.cells zs 31)=w1 at *
 go_cut [5] (fun s5 wx=>∃ a5 A5 n5 c5 B5 m5 d5,s5=.pointer (some ⟨a5,0,none⟩)/\w.heap.size<=a5/\mG a5 [(31,w.heap.size+1,zs),(24,w.heap.size,#[.bool false,.slice A n c,.int .i64 x.e])]/\St TW w g p false wx [(31,a5,#[.bool false,.slice A5 n5 c5,.int .i64 x.e,.bool false,.slice B5 m5 d5,.int .i64 x.e]),(31,w.heap.size+1,zs),(24,w.heap.size,#[.bool false,.slice A n c,.int .i64 x.e])] [(.slice A5 n5 c5,x.m),(.slice B5 m5 d5,x.m),(.slice A n c,x.m)])
 case first =>
  have SD:=S.drew;have SA:=(S.below (ag w1 (.cells zs 31))).drew;have YA:=(KC.made 31 w1 zs).drew;have sd1:am w1.drew (.slice A n c) x.m:=SD.ns.1;have sa1:am (w1.alloc (.cells zs 31)).drew (.slice A n c) x.m:=SA.ns.1;have HCC:Hid (∀ b' w' ns,St TW w g p b' w' [(31,w.heap.size+1,zs),(24,w.heap.size,#[.bool false,.slice A n c,.int .i64 x.e])] ns->C3 w' (w.heap.size) (.bool false) (.slice A n c) (.int .i64 x.e)):=lY (fun b' w' ns h=>(h.ks.2.1.1.c3));have HPP:Hid (∀ b' w' ns,St TW w g p b' w' [(31,w.heap.size+1,zs),(24,w.heap.size,#[.bool false,.slice A n c,.int .i64 x.e])] ns->∀ q1 q2 q3 q4 q5 q6,C3 (put6 w' (w1.heap.size) q1 q2 q3 q4 q5 q6) (w.heap.size) (.bool false) (.slice A n c) (.int .i64 x.e)):=lY (fun b' w' ns h q1 q2 q3 q4 q5 q6=>((h.ks.2.1.1.only (aK w' (w1.heap.size) q1 q2 q3 q4 q5 q6) (by omega)).c3));have XS:=HCC.out _ _ _ SD;have XA:=HCC.out _ _ _ SA
  go_region_held3 (fun w'=>C3 w' (w.heap.size) (.bool false) (.slice A n c) (.int .i64 x.e))
   (first | with_reducible exact HPP.out _ _ _ V2 _ _ _ _ _ _ | with_reducible exact HCC.out _ _ _ V2 | with_reducible exact XS | with_reducible exact XA | with_reducible exact HCC.out _ _ _ (V2.below (ag _ _)))
   (first
    | (go_at_call 13;refine(CP.out _ _ _ (by first | with_reducible exact SD | with_reducible exact SA) (by first | with_reducible exact sd1 | with_reducible exact sa1)).mono ?_;rintro e' v2 ⟨A1,n1,c1,B1,m1,d1,rfl,N1,M1,W1,o1⟩;have V2:St TW w g p false v2 [(31,w.heap.size+1,zs),(24,w.heap.size,#[.bool false,.slice A n c,.int .i64 x.e])] [(.slice A1 n1 c1,x.m),(.slice B1 m1 d1,x.m),(.slice A n c,x.m)]:=(by first | with_reducible exact((SD.only o1 W1).num M1).num N1 | with_reducible exact((SA.only o1 W1).num M1).num N1);have hv1:w1.heap.size<=v2.heap.size:=(by have h:=o1.size;simp at h;omega);first | (have ox:az (w1.alloc (.cells zs 31)).drew v2 g:=(by with_reducible exact o1);have z1:=YA.only ox (by omega);obtain⟨z1c0,z1c1,z1c2,z1c3,z1c4,z1c5⟩:=z1.c6;obtain⟨z1f0,z1f1,z1f2,z1f3,z1f4,z1f5⟩:=z1.f6;have z1l:=z1.2;have z1n:=ou z1.2;have z1n2:=oM z1.2) | skip))
  all_goals (
   go_wp2_with fail;go_meet
   first
    | ((with_reducible refine⟨w1.heap.size,A1,n1,c1,B1,m1,d1,rfl,?_,?_,iI V2 z1 ?_ ?_ _ _ _ _ _ _⟩) <;> first | omega | exact⟨by omega,by omega,trivial⟩)
    | with_reducible exact⟨v2.heap.size,A1,n1,c1,B1,m1,d1,rfl,V2.size,pT V2.ks,V2.alloc _ _⟩)
 case rest =>
 obtain⟨a5,A5,n5,c5,B5,m5,d5,rfl,ha5,hne5,V⟩:=hcut;obtain⟨hd1,hd2,_⟩:=hne5;have hk5:=V.ks.1.1.2;clear S CP;obtain⟨k0,k0_1,k0_2⟩:=V.ks.2.2.1.1.c3;have I3:=lY (IZ.out _ V.ns.2.2.1);rw[Hd.out]at I3;go_wp2_with fail;refine I3.out.mono ?_;rintro e' v3 ⟨rfl,b3⟩;replace V:=V.below b3;clear I3 IZ b3 k0 k0_1 k0_2;obtain⟨y0_0,y0_1,y0_2⟩:=V.ks.2.2.1.1.c3;have y0l:=V.ks.2.2.1.1.2;have hgl:=V.lt;go_upto_region 6 with fail;clear y0_0 y0_1 y0_2 y0l
 go_cut [30] (fun s30 wx=>s30=.bool false/\St TW w g p false wx [(31,a5,#[.bool false,.slice A5 n5 c5,.int .i64 x.e,.bool false,.slice B5 m5 d5,.int .i64 x.e]),(31,w.heap.size+1,zs),(24,w.heap.size,#[.bool false,.slice A n c,.int .i64 x.e])] [(.slice A5 n5 c5,x.m),(.slice B5 m5 d5,x.m),(.slice A n c,x.m)])
 case first =>
  have SD:=V.drew;have sd1:am v3.drew (.slice A n c) x.m:=SD.ns.2.2.1;have HCC:Hid (∀ b' w' ns,St TW w g p b' w' [(31,a5,#[.bool false,.slice A5 n5 c5,.int .i64 x.e,.bool false,.slice B5 m5 d5,.int .i64 x.e]),(31,w.heap.size+1,zs),(24,w.heap.size,#[.bool false,.slice A n c,.int .i64 x.e])] ns->C3 w' (w.heap.size) (.bool false) (.slice A n c) (.int .i64 x.e)/\w'.cell? ⟨g,0,none⟩=some (.int .i64 p)):=lY (fun b' w' ns h=>⟨h.ks.2.2.1.1.c3,h.wc.1⟩);have XS:=HCC.out _ _ _ SD
  go_region_held3 (fun w'=>C3 w' (w.heap.size) (.bool false) (.slice A n c) (.int .i64 x.e)/\w'.cell? ⟨g,0,none⟩=some (.int .i64 p))
   (first | with_reducible exact HCC.out _ _ _ V1 | with_reducible exact XS)
   (first
    | (go_at_call 108;refine(C1.out _ sd1).mono ?_;rintro e' v4 ⟨rfl,b4⟩;have V1:=SD.below b4))
  all_goals (go_wp2_with fail;go_meet;exact⟨rfl,V1⟩)
 case rest =>
 obtain⟨rfl,V1⟩:=hcut;clear V;obtain⟨y0_0,y0_1,y0_2⟩:=V1.ks.2.2.1.1.c3;have y0l:=V1.ks.2.2.1.1.2;have KY1:=lY (C1.out _ V1.ns.2.2.1);go_wp2_with fail;refine KY1.out.mono ?_;rintro e' v5 ⟨rfl,b5⟩;replace V1:=V1.below b5;clear KY1 C1 b5 y0_0 y0_1 y0_2 y0l;go_upto_region 9 with fail;have SD:=V1.drew;have sd1:am v5.drew (.slice A n c) x.m:=SD.ns.2.2.1;have kl:=V1.ks.1.1.2;have kl2:=V1.ks.2.1.1.2;have kl3:=V1.ks.2.2.1.1.2;have HCC:Hid (∀ b' w' ns,St TW w g p b' w' [(31,a5,#[.bool false,.slice A5 n5 c5,.int .i64 x.e,.bool false,.slice B5 m5 d5,.int .i64 x.e]),(31,w.heap.size+1,zs),(24,w.heap.size,#[.bool false,.slice A n c,.int .i64 x.e])] ns->C6 w' a5 (.bool false) (.slice A5 n5 c5) (.int .i64 x.e) (.bool false) (.slice B5 m5 d5) (.int .i64 x.e)/\C3 w' (w.heap.size) (.bool false) (.slice A n c) (.int .i64 x.e)):=lY (fun b' w' ns h=>⟨h.ks.1.1.c6,h.ks.2.2.1.1.c3⟩);have HPP:Hid (∀ b' w' ns,St TW w g p b' w' [(31,a5,#[.bool false,.slice A5 n5 c5,.int .i64 x.e,.bool false,.slice B5 m5 d5,.int .i64 x.e]),(31,w.heap.size+1,zs),(24,w.heap.size,#[.bool false,.slice A n c,.int .i64 x.e])] ns->∀ q1 q2 q3 q4 q5 q6,C6 (put6 w' (w.heap.size+1) q1 q2 q3 q4 q5 q6) a5 (.bool false) (.slice A5 n5 c5) (.int .i64 x.e) (.bool false) (.slice B5 m5 d5) (.int .i64 x.e)/\C3 (put6 w' (w.heap.size+1) q1 q2 q3 q4 q5 q6) (w.heap.size) (.bool false) (.slice A n c) (.int .i64 x.e)):=lY (fun b' w' ns h q1 q2 q3 q4 q5 q6=>⟨(h.ks.1.1.only (aK w' (w.heap.size+1) q1 q2 q3 q4 q5 q6) (by omega)).c6,(h.ks.2.2.1.1.only (aK w' (w.heap.size+1) q1 q2 q3 q4 q5 q6) (by omega)).c3⟩)
 have XS:=HCC.out _ _ _ SD;clear V1
 go_region_held3 (fun w'=>C6 w' a5 (.bool false) (.slice A5 n5 c5) (.int .i64 x.e) (.bool false) (.slice B5 m5 d5) (.int .i64 x.e)/\C3 w' (w.heap.size) (.bool false) (.slice A n c) (.int .i64 x.e))
  (first | with_reducible exact HPP.out _ _ _ V3 _ _ _ _ _ _ | with_reducible exact HCC.out _ _ _ V3 | with_reducible exact HCC.out _ _ _ V2 | with_reducible exact XS)
  (first
   | (go_at_call 110;refine(C2.out _ _ _ SD sd1).mono ?_;rintro e' v6 ⟨V0,ok,A1,n1,c1,B1,m1,d1,rfl,N1,M1,W1,o1⟩;have V2:=((SD.only o1 (show Wk TW _ g p false from W1)).num M1).num N1;have u1:=V2.ns.1;have u2:=V2.ns.2.1;have u3:=V2.ns.2.2.1;have u4:=V2.ns.2.2.2.1)
   | (go_at_call 29;refine(C3q.out _ _ _ _ _ _ _ _ _ _ _ _ _ _ _ _ ok V2 u3 u4 u1 u2).mono ?_;rintro e' v7 ⟨r,AO,A2,n2,c2,B2,m2,d2,rfl,N2,M2,W2,o2⟩;have V3:=((V2.only o2 W2).num M2).num N2;have z1:=V3.ks.2.1.1;obtain⟨z1c0,z1c1,z1c2,z1c3,z1c4,z1c5⟩:=z1.c6;obtain⟨z1f0,z1f1,z1f2,z1f3,z1f4,z1f5⟩:=z1.f6;have z1l:=z1.2;have z1n:=ou z1.2;have z1n2:=oM z1.2))
 go_wp2_with fail;obtain⟨x1,x2,x3,x4⟩:=V3.give (lo:=r.lo) (hi:=r.hi) V3.ns.1 V3.ns.2.1 z1 (by omega);exact bodyPost_ret (v:=aG r.lo.neg A2 n2 c2 r.lo.e r.hi.neg B2 m2 d2 r.hi.e) (by simp[results,oY,go_sem,z1c0,z1c1,z1c2,z1c3,z1c4,z1c5]) rfl ⟨r,AO,A2,n2,c2,B2,m2,d2,rfl,x1,x2,x3,x4⟩
theorem xM (g P:Nat)(B:Int)(w:World)(hW:Wk TW w g (P:Int) false)(ha:am w (.slice A n c) x.m)(hx:ma x)(hT:bx w)(hP1:16<=P)(hP2:P<=1000)(hB:jw B (sz x))(hB2:B<=132000)(hn:x.neg=false)(h0:x.m≠0)(ht:-15<=x.e+(nb x.m:Int)):
 Calls mF 58 #[.pointer (some ⟨g,0,none⟩),aP x.neg A n c x.e] w (fun e w'=>∃ r,cV P (B+40000) r (fG (sz x))/\ap TW w g (P:Int) r e w'):=by
 have S:=(mA hW (.bool false) (.slice A n c) (.int .i64 x.e)).num (((ha.below (ag w _)).below (ag _ _)));have TB:Hid (∀ w' ks ns,St TW w g (P:Int) false w' ks ns->bx w'):=lY (fun w' ks ns h=>hT.wk hW h.O);have hbb:=hB.b;obtain⟨p,hp⟩:∃ p:Int,p=(P:Int):=⟨_,rfl⟩;have TX:Tq 32000 x:=⟨hx.ok,hx.pl,by have:=hx.b;omega,by have:=hx.e1;omega,by have:=hx.t;omega⟩;have IZ:Hid (∀ w' ,am w' (.slice A n c) x.m->Calls mF 90 #[.agg #[.bool false,.slice A n c,.int .i64 x.e]] w' (fun r w''=>r=.returned (.bool (decide (x.m=0)))/\Below w'.heap.size w' w'')):=lY (fun w' h1=>df false x.e h1)
 have CP:Hid (∀ w' ks ns,St TW w g (P:Int) false w' ks ns->am w' (.slice A n c) x.m->Calls mF 13 #[.pointer (some ⟨g,0,none⟩),aP false A n c x.e] w' (ap TW w' g (P:Int) ⟨false,x,x⟩)):=lY (fun w' ks ns h h1=>by
  rw[← (oW (p:=(P:Int)) (by omega) (by omega) TX).1];have hh:=gY g (P:Int) false w' h.W (aC.of_num h1 hx.pl hx.ok);rw[hn]at hh
  exact hh)
 obtain⟨T,hTp⟩:=du (x.e+(nb x.m:Int))
 have C1:Hid (∀ w' ,am w' (.slice A n c) x.m->Calls mF 108 #[aP false A n c x.e] w' (gt w' T)):=lY (fun w' h1=>by
  obtain⟨A0,n0,c0,f,hA0,hs,hn,hc,hVe⟩:=h1.raw 1000 (by have:=hx.b;omega);cases hA0
  have:=jn false A n c f x.e w' hs (by omega) (by have:=hx.e1;omega) (by have:=hx.t;omega)
  rw[hVe,← hTp]at this
  exact this)
 obtain⟨d,d1,d2,d3,d4,d5⟩:=jb (p:=(P:Int)+64) (by omega) (by omega)
 have hy:1<=65536*sz x:=by
  have h1:tp (-16)<=sz x:=by
   have h2:=Rat.mul_le_mul_of_nonneg_right (bW (fA (qK h0))) (Rat.le_of_lt (co x.e))
   have h3:((2^(nb x.m-1):Nat):Rat)*tp x.e=tp (((nb x.m-1:Nat):Int)+x.e):=by rw[bV,dH]
   rw[h3]at h2;have hb1:=gg (qK h0);exact Rat.le_trans (dj (by omega)) h2
  have h4:tp (-16)*65536=1:=by
   have e:(65536:Rat)=((2^16:Nat):Rat):=rfl;rw[e,← dH,← bV]
   rfl
  grind
 have C2:Hid (∀ w' ks ns gi,eX TW 38 w g (P:Int) w' ks ns gi ((P:Int)+64)->am w' (.slice A n c) x.m->Calls mF 92 #[.pointer (some ⟨g,0,none⟩),aP false A n c x.e] w' (fun e w''=>∃ V E,eN P (sz x) V E/\ap TW w' g (P:Int) (an P V E) e w'')):=lY (fun w' ks ns gi h h1=>iR g P w' h.S.W h1 (TB.out _ _ _ h.S) hP1 (by omega) (by have:=hx.b;omega) (by have:=hx.e1;omega) hx.t hx.s);have C3q:Hid (∀ w' ks ns,St TW w g (P:Int) false w' ks ns->Calls mF 111 #[.pointer (some ⟨g,0,none⟩)] w' (fun r w''=>r=.returned (.pointer (some ⟨w'.heap.size,0,none⟩))/\Wk 38 w'' w'.heap.size ((P:Int)+64) false/\Below w'.heap.size w' w'')):=lY (fun w' ks ns h=>oy g (P:Int) w' h.W (by omega) (by omega));have CN:Hid (∀ w' ks ns gi,eX TW 38 w g (P:Int) w' ks ns gi ((P:Int)+64)->Calls mF 31 #[.pointer (some ⟨gi,0,none⟩),.int .i64 1] w' (ap 38 w' gi ((P:Int)+64) ⟨false,d,d⟩)):=lY (fun w' ks ns gi h=>by rw[← d1];exact fO 1 gi ((P:Int)+64) false w' h.W2 (TB.out _ _ _ h.S) (by omega) (by omega))
 have CD:Hid (∀ w' ks ns gi V E A0 n0 c0 B0 m0 d0 A7 n7 c7 B7 m7 d7,eN P (sz x) V E->eX TW 38 w g (P:Int) w' ks ns gi ((P:Int)+64)->am w' (.slice A7 n7 c7) d.m->am w' (.slice B7 m7 d7) d.m->am w' (.slice A0 n0 c0) (an P V E).lo.m->am w' (.slice B0 m0 d0) (an P V E).hi.m->Calls mF 91 #[.pointer (some ⟨gi,0,none⟩),aG d.neg A7 n7 c7 d.e d.neg B7 m7 d7 d.e,aG (an P V E).lo.neg A0 n0 c0 (an P V E).lo.e (an P V E).hi.neg B0 m0 d0 (an P V E).hi.e] w' (fun e w''=>∃ q,Hid (q=(ff ((P:Int)+64) false d d (an P V E).lo (an P V E).hi))/\q.bad=false/\dA q/\ap 38 w' gi ((P:Int)+64) q e w'')):=lY (fun w' ks ns gi V E _ _ _ _ _ _ _ _ _ _ _ _ ok h h3 h4 h1 h2=>by
  have b1:=ok.b1;have b2:=ok.b2;have e1:=ok.e1;have t1:=ok.top (bR x) hB;have G:=(fj (P:=P) (V:=V) (E:=E) (B:=B) (by omega) (by omega) (by omega) (by omega) (by omega) (by omega) (by omega)).1.good;have D:=(km (p:=(P:Int)+64) (by omega) (by omega) hP1 hP2 ok (bR x) hB hB2 d2 d3).1
  exact(ro gi ((P:Int)+64) false w' h.W2 (aC.of_num h3 d4 d5) (aC.of_num h4 d4 d5) (aC.of_num h1 G.l2 G.l1) (aC.of_num h2 G.h2 G.h1) (TB.out _ _ _ h.S)).mono fun e w'' hp=>⟨_,lY rfl,D.bad,D.good,hp⟩)
 have CA:Hid (∀ w' ks ns gi V E q A0 n0 c0 B0 m0 d0 A7 n7 c7 B7 m7 d7,eN P (sz x) V E->Hid (q=(ff ((P:Int)+64) false d d (an P V E).lo (an P V E).hi))->dA q->eX TW 38 w g (P:Int) w' ks ns gi ((P:Int)+64)->am w' (.slice A0 n0 c0) (an P V E).lo.m->am w' (.slice B0 m0 d0) (an P V E).hi.m->am w' (.slice A7 n7 c7) q.lo.m->am w' (.slice B7 m7 d7) q.hi.m->Calls mF 28 #[.pointer (some ⟨gi,0,none⟩),aG (an P V E).lo.neg A0 n0 c0 (an P V E).lo.e (an P V E).hi.neg B0 m0 d0 (an P V E).hi.e,aG q.lo.neg A7 n7 c7 q.lo.e q.hi.neg B7 m7 d7 q.hi.e] w' (fun e w''=>∃ s,Hid (s=(eT ((P:Int)+64) false (an P V E).lo (an P V E).hi q.lo q.hi))/\s.bad=false/\dA s/\ap 38 w' gi ((P:Int)+64) s e w'')):=lY (fun w' ks ns gi V E q _ _ _ _ _ _ _ _ _ _ _ _ ok hq G2 h h1 h2 h3 h4=>by
  have b1:=ok.b1;have b2:=ok.b2;have e1:=ok.e1;have t1:=ok.top (bR x) hB;have FS:=(fj (P:=P) (V:=V) (E:=E) (B:=B) (by omega) (by omega) (by omega) (by omega) (by omega) (by omega) (by omega)).1;have G:=FS.good;have D:=(km (p:=(P:Int)+64) (by omega) (by omega) hP1 hP2 ok (bR x) hB hB2 d2 d3).1;have A:=(vO (p:=(P:Int)+64) (by omega) (by omega) (FS.more (show B<=B+3000 by omega)) D (by omega) (by omega)).1;rw[← hq.out]at A
  exact(sc gi ((P:Int)+64) false w' h.W2 (aC.of_num h1 G.l2 G.l1) (aC.of_num h2 G.h2 G.h1) (aC.of_num h3 G2.l2 G2.l1) (aC.of_num h4 G2.h2 G2.h1) (TB.out _ _ _ h.S)).mono fun e w'' hp=>⟨_,lY rfl,A.bad,A.good,hp⟩)
 have CH:Hid (∀ w' ks ns gi V E q s A0 n0 c0 B0 m0 d0,eN P (sz x) V E->Hid (q=(ff ((P:Int)+64) false d d (an P V E).lo (an P V E).hi))->Hid (s=(eT ((P:Int)+64) false (an P V E).lo (an P V E).hi q.lo q.hi))->dA s->eX TW 38 w g (P:Int) w' ks ns gi ((P:Int)+64)->am w' (.slice A0 n0 c0) s.lo.m->am w' (.slice B0 m0 d0) s.hi.m->Calls mF 112 #[.pointer (some ⟨g,0,none⟩),.pointer (some ⟨gi,0,none⟩),aG s.lo.neg A0 n0 c0 s.lo.e s.hi.neg B0 m0 d0 s.hi.e] w' (fun e w''=>∃ r,cV P (B+40000) r (fG (sz x))/\ap TW w' g (P:Int) r e w'')):=lY (fun w' ks ns gi V E q s _ _ _ _ _ _ ok hq hs G h h1 h2=>by
  have AO:=Bg hP1 hP2 ok hy hB hB2 d2 d3;rw[← hq.out,← hs.out]at AO
  exact(qc g gi (P:Int) ((P:Int)+64) w' h.S.W h.W2 G h1 h2 (TB.out _ _ _ h.S)).mono fun e w'' hp=>⟨_,⟨AO.q.more (by omega),AO.hl,AO.rel⟩,hp⟩)
 have hd:decide (x.m=0)=false:=decide_eq_false h0;have Hd:=lY hd;have hw6:IntKind.i64.wrap (p-262144)=p-262144:=aE (by omega) (by omega);have ht6:decide (T<=p-262144)=false:=decide_eq_false (by have:=hx.e1;omega);have ht2:decide (T<=-16)=false:=decide_eq_false (by omega);obtain⟨p2,hp2⟩:∃ p2:Int,p2=(P:Int)+64:=⟨_,rfl⟩;rw[hn];rw[← hp2]at C2 C3q CN CD CA CH;rw[← hp]at S CP C2 C3q CN CD CA CH ⊢;clear hd hp hp2 TB hT hW hB hB2 hbb hx ha h0 hTp ht d1 d2 d3 d4 d5 hy TX;go_enter yb,tz;have kl:=S.ks.2.1.1.2;have kl2:=S.ks.1.1.2;have hgl:=S.lt;go_upto_region 1 with fail;generalize(w.alloc (.cells #[.bool false,.slice A n c,.int .i64 x.e] 24)).alloc (.cells zs 31)=w1 at *
 go_cut [5] (fun s5 wx=>∃ a5 A5 n5 c5 B5 m5 d5,s5=.pointer (some ⟨a5,0,none⟩)/\w.heap.size<=a5/\mG a5 [(31,w.heap.size+1,zs),(24,w.heap.size,#[.bool false,.slice A n c,.int .i64 x.e])]/\St TW w g p false wx [(31,a5,#[.bool false,.slice A5 n5 c5,.int .i64 x.e,.bool false,.slice B5 m5 d5,.int .i64 x.e]),(31,w.heap.size+1,zs),(24,w.heap.size,#[.bool false,.slice A n c,.int .i64 x.e])] [(.slice A5 n5 c5,x.m),(.slice B5 m5 d5,x.m),(.slice A n c,x.m)])
 case first =>
  have SD:=S.drew;have SA:=(S.below (ag w1 (.cells zs 31))).drew;have YA:=(KC.made 31 w1 zs).drew;have sd1:am w1.drew (.slice A n c) x.m:=SD.ns.1;have sa1:am (w1.alloc (.cells zs 31)).drew (.slice A n c) x.m:=SA.ns.1;have HCC:Hid (∀ b' w' ns,St TW w g p b' w' [(31,w.heap.size+1,zs),(24,w.heap.size,#[.bool false,.slice A n c,.int .i64 x.e])] ns->C3 w' (w.heap.size) (.bool false) (.slice A n c) (.int .i64 x.e)):=lY (fun b' w' ns h=>(h.ks.2.1.1.c3));have HPP:Hid (∀ b' w' ns,St TW w g p b' w' [(31,w.heap.size+1,zs),(24,w.heap.size,#[.bool false,.slice A n c,.int .i64 x.e])] ns->∀ q1 q2 q3 q4 q5 q6,C3 (put6 w' (w1.heap.size) q1 q2 q3 q4 q5 q6) (w.heap.size) (.bool false) (.slice A n c) (.int .i64 x.e)):=lY (fun b' w' ns h q1 q2 q3 q4 q5 q6=>((h.ks.2.1.1.only (aK w' (w1.heap.size) q1 q2 q3 q4 q5 q6) (by omega)).c3));have XS:=HCC.out _ _ _ SD;have XA:=HCC.out _ _ _ SA
  go_region_held3 (fun w'=>C3 w' (w.heap.size) (.bool false) (.slice A n c) (.int .i64 x.e))
   (first | with_reducible exact HPP.out _ _ _ V2 _ _ _ _ _ _ | with_reducible exact HCC.out _ _ _ V2 | with_reducible exact XS | with_reducible exact XA | with_reducible exact HCC.out _ _ _ (V2.below (ag _ _)))
   (first
    | (go_at_call 13;refine(CP.out _ _ _ (by first | with_reducible exact SD | with_reducible exact SA) (by first | with_reducible exact sd1 | with_reducible exact sa1)).mono ?_;rintro e' v2 ⟨A1,n1,c1,B1,m1,d1,rfl,N1,M1,W1,o1⟩;have V2:St TW w g p false v2 [(31,w.heap.size+1,zs),(24,w.heap.size,#[.bool false,.slice A n c,.int .i64 x.e])] [(.slice A1 n1 c1,x.m),(.slice B1 m1 d1,x.m),(.slice A n c,x.m)]:=(by first | with_reducible exact((SD.only o1 W1).num M1).num N1 | with_reducible exact((SA.only o1 W1).num M1).num N1);have hv1:w1.heap.size<=v2.heap.size:=(by have h:=o1.size;simp at h;omega);first | (have ox:az (w1.alloc (.cells zs 31)).drew v2 g:=(by with_reducible exact o1);have z1:=YA.only ox (by omega);obtain⟨z1c0,z1c1,z1c2,z1c3,z1c4,z1c5⟩:=z1.c6;obtain⟨z1f0,z1f1,z1f2,z1f3,z1f4,z1f5⟩:=z1.f6;have z1l:=z1.2;have z1n:=ou z1.2;have z1n2:=oM z1.2) | skip))
  all_goals (
   go_wp2_with fail;go_meet
   first
    | ((with_reducible refine⟨w1.heap.size,A1,n1,c1,B1,m1,d1,rfl,?_,?_,iI V2 z1 ?_ ?_ _ _ _ _ _ _⟩) <;> first | omega | exact⟨by omega,by omega,trivial⟩)
    | with_reducible exact⟨v2.heap.size,A1,n1,c1,B1,m1,d1,rfl,V2.size,pT V2.ks,V2.alloc _ _⟩)
 case rest =>
 obtain⟨a5,A5,n5,c5,B5,m5,d5,rfl,ha5,hne5,V⟩:=hcut;obtain⟨hd1,hd2,_⟩:=hne5;have hk5:=V.ks.1.1.2;clear S CP;obtain⟨k0,k0_1,k0_2⟩:=V.ks.2.2.1.1.c3;have I3:=lY (IZ.out _ V.ns.2.2.1);rw[Hd.out]at I3;go_wp2_with fail;refine I3.out.mono ?_;rintro e' v3 ⟨rfl,b3⟩;replace V:=V.below b3;clear I3 IZ b3 k0 k0_1 k0_2;obtain⟨y0_0,y0_1,y0_2⟩:=V.ks.2.2.1.1.c3;have y0l:=V.ks.2.2.1.1.2;have hgl:=V.lt;go_upto_region 6 with fail;clear y0_0 y0_1 y0_2 y0l
 go_cut [30] (fun s30 wx=>s30=.bool false/\St TW w g p false wx [(31,a5,#[.bool false,.slice A5 n5 c5,.int .i64 x.e,.bool false,.slice B5 m5 d5,.int .i64 x.e]),(31,w.heap.size+1,zs),(24,w.heap.size,#[.bool false,.slice A n c,.int .i64 x.e])] [(.slice A5 n5 c5,x.m),(.slice B5 m5 d5,x.m),(.slice A n c,x.m)])
 case first =>
  have SD:=V.drew;have sd1:am v3.drew (.slice A n c) x.m:=SD.ns.2.2.1;have HCC:Hid (∀ b' w' ns,St TW w g p b' w' [(31,a5,#[.bool false,.slice A5 n5 c5,.int .i64 x.e,.bool false,.slice B5 m5 d5,.int .i64 x.e]),(31,w.heap.size+1,zs),(24,w.heap.size,#[.bool false,.slice A n c,.int .i64 x.e])] ns->C3 w' (w.heap.size) (.bool false) (.slice A n c) (.int .i64 x.e)/\w'.cell? ⟨g,0,none⟩=some (.int .i64 p)):=lY (fun b' w' ns h=>⟨h.ks.2.2.1.1.c3,h.wc.1⟩);have XS:=HCC.out _ _ _ SD
  go_region_held3 (fun w'=>C3 w' (w.heap.size) (.bool false) (.slice A n c) (.int .i64 x.e)/\w'.cell? ⟨g,0,none⟩=some (.int .i64 p))
   (first | with_reducible exact HCC.out _ _ _ V1 | with_reducible exact XS)
   (first
    | (go_at_call 108;refine(C1.out _ sd1).mono ?_;rintro e' v4 ⟨rfl,b4⟩;have V1:=SD.below b4))
  all_goals (go_wp2_with fail;go_meet;exact⟨rfl,V1⟩)
 case rest =>
 obtain⟨rfl,V1⟩:=hcut;clear V;obtain⟨y0_0,y0_1,y0_2⟩:=V1.ks.2.2.1.1.c3;have y0l:=V1.ks.2.2.1.1.2;have KY1:=lY (C1.out _ V1.ns.2.2.1);go_wp2_with fail;refine KY1.out.mono ?_;rintro e' v5 ⟨rfl,b5⟩;replace V1:=V1.below b5;clear KY1 C1 b5 y0_0 y0_1 y0_2 y0l;have KY3:=lY (C3q.out _ _ _ V1);clear C3q;go_wp2_with fail;refine KY3.out.mono ?_;rintro e' v6 ⟨rfl,Wi,b6⟩;obtain⟨gi,hgi⟩:=du v5.heap.size;have hgl:=V1.size;have k1l:=V1.ks.1.1.2;have k2l:=V1.ks.2.1.1.2;have k3l:=V1.ks.2.2.1.1.2;have Q:eX TW 38 w g p v6 [(31,a5,#[.bool false,.slice A5 n5 c5,.int .i64 x.e,.bool false,.slice B5 m5 d5,.int .i64 x.e]),(31,w.heap.size+1,zs),(24,w.heap.size,#[.bool false,.slice A n c,.int .i64 x.e])] [(.slice A5 n5 c5,x.m),(.slice B5 m5 d5,x.m),(.slice A n c,x.m)] gi p2:=⟨V1.below b6,by rw[hgi];exact Wi,by omega,⟨by omega,by omega,by omega,trivial⟩⟩;rw[← hgi];clear V1 KY3 Wi b6 hgi hgl k1l k2l k3l;obtain⟨k0,k0_1,k0_2⟩:=Q.S.ks.2.2.1.1.c3;have kl:=Q.S.ks.2.2.1.1.2;have KY2:=lY (C2.out _ _ _ _ Q Q.S.ns.2.2.1);clear C2;go_wp2_with fail;refine KY2.out.mono ?_;rintro e' v7 ⟨V,E,ok,A3,n3,c3,B3,m3,d3,rfl,N3,M3,W3,o3⟩;have Q3:=((Q.onC o3 (show Wk TW _ g p false from W3)).num M3).num N3;clear KY2 Q k0 k0_1 k0_2 kl;have hsz:=Q3.S.size;have kl1:=Q3.S.ks.1.1.2;have kl2:=Q3.S.ks.2.1.1.2;have kl3:=Q3.S.ks.2.2.1.1.2;go_upto_region 12 with fail;have Q4:=Q3.alloc 31 #[.bool (an P V E).lo.neg,.slice A3 n3 c3,.int .i64 (an P V E).lo.e,.bool (an P V E).hi.neg,.slice B3 m3 d3,.int .i64 (an P V E).hi.e];clear Q3;generalize v7.alloc (.cells #[.bool (an P V E).lo.neg,.slice A3 n3 c3,.int .i64 (an P V E).lo.e,.bool (an P V E).hi.neg,.slice B3 m3 d3,.int .i64 (an P V E).hi.e] 31)=y7 at *;have SD:=Q4.drew;have HCC:Hid (∀ w' ns,eX TW 38 w g p w' [(31,v7.heap.size,#[.bool (an P V E).lo.neg,.slice A3 n3 c3,.int .i64 (an P V E).lo.e,.bool (an P V E).hi.neg,.slice B3 m3 d3,.int .i64 (an P V E).hi.e]),(31,a5,#[.bool false,.slice A5 n5 c5,.int .i64 x.e,.bool false,.slice B5 m5 d5,.int .i64 x.e]),(31,w.heap.size+1,zs),(24,w.heap.size,#[.bool false,.slice A n c,.int .i64 x.e])] ns gi p2->C6 w' (v7.heap.size) (.bool (an P V E).lo.neg) (.slice A3 n3 c3) (.int .i64 (an P V E).lo.e) (.bool (an P V E).hi.neg) (.slice B3 m3 d3) (.int .i64 (an P V E).hi.e)):=lY (fun w' ns h=>(h.S.ks.1.1.c6));have HPP:Hid (∀ w' ns,eX TW 38 w g p w' [(31,v7.heap.size,#[.bool (an P V E).lo.neg,.slice A3 n3 c3,.int .i64 (an P V E).lo.e,.bool (an P V E).hi.neg,.slice B3 m3 d3,.int .i64 (an P V E).hi.e]),(31,a5,#[.bool false,.slice A5 n5 c5,.int .i64 x.e,.bool false,.slice B5 m5 d5,.int .i64 x.e]),(31,w.heap.size+1,zs),(24,w.heap.size,#[.bool false,.slice A n c,.int .i64 x.e])] ns gi p2->∀ q1 q2 q3 q4 q5 q6,C6 (put6 w' (w.heap.size+1) q1 q2 q3 q4 q5 q6) (v7.heap.size) (.bool (an P V E).lo.neg) (.slice A3 n3 c3) (.int .i64 (an P V E).lo.e) (.bool (an P V E).hi.neg) (.slice B3 m3 d3) (.int .i64 (an P V E).hi.e)):=lY (fun w' ns h q1 q2 q3 q4 q5 q6=>((h.S.ks.1.1.only (aK w' (w.heap.size+1) q1 q2 q3 q4 q5 q6) (by omega)).c6))
 have XS:=HCC.out _ _ SD;clear Q4
 go_region_held3 (fun w'=>C6 w' (v7.heap.size) (.bool (an P V E).lo.neg) (.slice A3 n3 c3) (.int .i64 (an P V E).lo.e) (.bool (an P V E).hi.neg) (.slice B3 m3 d3) (.int .i64 (an P V E).hi.e))
  (first | with_reducible exact HPP.out _ _ VD _ _ _ _ _ _ | with_reducible exact HCC.out _ _ VD | with_reducible exact HCC.out _ _ VC | with_reducible exact HCC.out _ _ VB | with_reducible exact HCC.out _ _ VA | with_reducible exact XS)
  (first
   | (go_at_call 31;refine(CN.out _ _ _ _ SD).mono ?_;rintro e' v8 ⟨A4,n4,c4,B4,m4,d4,rfl,N4,M4,W4,o4⟩;have VA:=((SD.onI o4 W4).num M4).num N4;have u1:=VA.S.ns.1;have u2:=VA.S.ns.2.1;have u3:=VA.S.ns.2.2.1;have u4:=VA.S.ns.2.2.2.1)
   | (go_at_call 91;refine(CD.out _ _ _ _ _ _ _ _ _ _ _ _ _ _ _ _ _ _ ok VA u1 u2 u3 u4).mono ?_;rintro e' v9 ⟨q,hq,qb,qG,A6,n6,c6,B6,m6,d6,rfl,N5,M5,W5,o5⟩;rw[qb]at W5;have VB:=((VA.onI o5 W5).num M5).num N5;have t1:=VB.S.ns.1;have t2:=VB.S.ns.2.1;have t3:=VB.S.ns.2.2.2.2.1;have t4:=VB.S.ns.2.2.2.2.2.1)
   | (go_at_call 28;refine(CA.out _ _ _ _ _ _ _ _ _ _ _ _ _ _ _ _ _ _ _ ok hq qG VB t3 t4 t1 t2).mono ?_;rintro e' v10 ⟨s,hs,sb,sG,A9,n9,c9,B9,m9,d9,rfl,N6,M6,W6,o6⟩;rw[sb]at W6;have VC:=((VB.onI o6 W6).num M6).num N6;have r1:=VC.S.ns.1;have r2:=VC.S.ns.2.1)
   | (go_at_call 112;refine(CH.out _ _ _ _ _ _ _ _ _ _ _ _ _ _ ok hq hs sG VC r1 r2).mono ?_;rintro e' v11 ⟨r,AO,A8,n8,c8,B8,m8,d8,rfl,N8,M8,W8,o8⟩;have W8':Wk TW v11 g p false:=(by rw[← AO.q.bad];exact W8);have VD:=((VC.onC o8 W8').num M8).num N8;have z1:=VD.S.ks.2.2.1.1;obtain⟨z1c0,z1c1,z1c2,z1c3,z1c4,z1c5⟩:=z1.c6;obtain⟨z1f0,z1f1,z1f2,z1f3,z1f4,z1f5⟩:=z1.f6;have z1l:=z1.2;have z1n:=ou z1.2;have z1n2:=oM z1.2))
 go_wp2_with fail;obtain⟨x1,x2,x3,x4⟩:=VD.S.give (lo:=r.lo) (hi:=r.hi) VD.S.ns.1 VD.S.ns.2.1 z1 (by omega);exact bodyPost_ret (v:=aG r.lo.neg A8 n8 c8 r.lo.e r.hi.neg B8 m8 d8 r.hi.e) (by simp[results,oY,go_sem,z1c0,z1c1,z1c2,z1c3,z1c4,z1c5]) rfl ⟨r,AO,A8,n8,c8,B8,m8,d8,rfl,x1,x2,by rw[AO.q.bad];exact x3,x4⟩
theorem qa (g P:Nat)(B:Int)(w:World)(hW:Wk TW w g (P:Int) false)(ha:am w (.slice A n c) x.m)(hx:ma x)(hT:bx w)(hP1:16<=P)(hP2:P<=1000)(hB:jw B (sz x))(hB2:B<=132000)(hn:x.neg=false)(h0:x.m≠0):
 Calls mF 58 #[.pointer (some ⟨g,0,none⟩),aP false A n c x.e] w (fun e w'=>∃ r,cV P (B+40000) r (fG (sz x))/\ap TW w g (P:Int) r e w'):=by
 rw[← hn]
 by_cases ht:x.e+(nb x.m:Int)<=-16
 . exact u9 g P B w hW ha hx hT hP1 hP2 hB hB2 hn h0 ht
 . exact xM g P B w hW ha hx hT hP1 hP2 hB hB2 hn h0 (by omega)
def pw (x:DR):DR:=⟨true,false,x.m,x.e⟩
theorem yX (h:ma x):ma (pw x):=⟨rfl,by
 have h1:=h.pl;unfold aR at h1 ⊢
 show(if x.m=0 then decide (x.e=0) && !false else decide (x.m%2=1) && decide (nb x.m<=MB) && decide (cR x.e))=true
 split at h1
 . rename_i h0
   rw[if_pos h0];simp only[Bool.and_eq_true]at h1;rw[h1.1]
   rfl
 . rename_i h0
   rw[if_neg h0]
   exact h1,h.b,h.e1,h.t,h.s⟩
theorem xL (g P:Nat)(B:Int)(w:World)(hW:Wk TW w g (P:Int) false)(ha:am w (.slice A n c) x.m)(hx:ma x)(hT:bx w)(hP1:16<=P)(hP2:P<=1000)(hB:jw B (sz x))(hB2:B<=132000)(hn:x.neg=true)(h0:x.m≠0):
 Calls mF 58 #[.pointer (some ⟨g,0,none⟩),aP x.neg A n c x.e] w (fun e w'=>∃ r,cV P (B+40000) r (fG (-(sz x)))/\ap TW w g (P:Int) r e w'):=by
 have S:=(mA hW (.bool true) (.slice A n c) (.int .i64 x.e)).num (((ha.below (ag w _)).below (ag _ _)));have TB:Hid (∀ w' ks ns,St TW w g (P:Int) false w' ks ns->bx w'):=lY (fun w' ks ns h=>hT.wk hW h.O);have hbb:=hB.b;obtain⟨p,hp⟩:∃ p:Int,p=(P:Int):=⟨_,rfl⟩;have TX:Tq 32000 x:=⟨hx.ok,hx.pl,by have:=hx.b;omega,by have:=hx.e1;omega,by have:=hx.t;omega⟩;have IZ:Hid (∀ w' ,am w' (.slice A n c) x.m->Calls mF 90 #[.agg #[.bool true,.slice A n c,.int .i64 x.e]] w' (fun r w''=>r=.returned (.bool (decide (x.m=0)))/\Below w'.heap.size w' w'')):=lY (fun w' h1=>df true x.e h1)
 have CP:Hid (∀ w' ks ns,St TW w g (P:Int) false w' ks ns->am w' (.slice A n c) x.m->Calls mF 13 #[.pointer (some ⟨g,0,none⟩),aP true A n c x.e] w' (ap TW w' g (P:Int) ⟨false,x,x⟩)):=lY (fun w' ks ns h h1=>by
  rw[← (oW (p:=(P:Int)) (by omega) (by omega) TX).1];have hh:=gY g (P:Int) false w' h.W (aC.of_num h1 hx.pl hx.ok);rw[hn]at hh
  exact hh)
 have C2:Hid (∀ w' ks ns,St TW w g (P:Int) false w' ks ns->am w' (.slice A n c) x.m->Calls mF 58 #[.pointer (some ⟨g,0,none⟩),aP false A n c x.e] w' (fun e w''=>∃ r,cV P (B+40000) r (fG (sz x))/\ap TW w' g (P:Int) r e w'')):=lY (fun w' ks ns h h1=>qa (x:=pw x) g P B w' h.W h1 (yX hx) (TB.out _ _ _ h) hP1 hP2 hB hB2 rfl h0);have C5:Hid (∀ w',Calls mF 93 #[.agg #[.bool true,.slice A n c,.int .i64 x.e]] w' fun r w''=>r=.returned (.agg #[.bool false,.slice A n c,.int .i64 x.e])/\Below w'.heap.size w' w''):=lY (fun w'=>gy true A n c x.e w')
 have C3q:Hid (∀ w' ks ns s A0 n0 c0 B0 m0 d0,cV P (B+40000) s (fG (sz x))->St TW w g (P:Int) false w' ks ns->am w' (.slice A0 n0 c0) s.lo.m->am w' (.slice B0 m0 d0) s.hi.m->Calls mF 69 #[.pointer (some ⟨g,0,none⟩),aG s.lo.neg A0 n0 c0 s.lo.e s.hi.neg B0 m0 d0 s.hi.e] w' (fun e w''=>∃ r,cV P (B+40000) r (fG (-(sz x)))/\ap TW w' g (P:Int) r e w'')):=lY (fun w' ks ns s _ _ _ _ _ _ ok h h1 h2=>by
  have G:=ok.q.good;have AO:=ok.neg (by omega) (by omega) (by omega)
  have e:(fun n=>- fG (sz x) n)=fG (-(sz x)):=by funext n;exact(Dr _ _).symm
  rw[e]at AO
  exact(wm g (P:Int) false w' h.W (aC.of_num h1 G.l2 G.l1) (aC.of_num h2 G.h2 G.h1) (TB.out _ _ _ h)).mono fun e w'' hp=>⟨_,AO,hp⟩)
 have hd:decide (x.m=0)=false:=decide_eq_false h0;have Hd:=lY hd;rw[hn];rw[← hp]at S CP C2 C3q ⊢;clear hd hp TB hT hW hB hB2 hbb hx ha h0 TX;go_enter yb,tz;have kl:=S.ks.2.1.1.2;have kl2:=S.ks.1.1.2;have hgl:=S.lt;go_upto_region 1 with fail;generalize(w.alloc (.cells #[.bool true,.slice A n c,.int .i64 x.e] 24)).alloc (.cells zs 31)=w1 at *
 go_cut [5] (fun s5 wx=>∃ a5 A5 n5 c5 B5 m5 d5,s5=.pointer (some ⟨a5,0,none⟩)/\w.heap.size<=a5/\mG a5 [(31,w.heap.size+1,zs),(24,w.heap.size,#[.bool true,.slice A n c,.int .i64 x.e])]/\St TW w g p false wx [(31,a5,#[.bool true,.slice A5 n5 c5,.int .i64 x.e,.bool true,.slice B5 m5 d5,.int .i64 x.e]),(31,w.heap.size+1,zs),(24,w.heap.size,#[.bool true,.slice A n c,.int .i64 x.e])] [(.slice A5 n5 c5,x.m),(.slice B5 m5 d5,x.m),(.slice A n c,x.m)])
 case first =>
  have SD:=S.drew;have SA:=(S.below (ag w1 (.cells zs 31))).drew;have YA:=(KC.made 31 w1 zs).drew;have sd1:am w1.drew (.slice A n c) x.m:=SD.ns.1;have sa1:am (w1.alloc (.cells zs 31)).drew (.slice A n c) x.m:=SA.ns.1;have HCC:Hid (∀ b' w' ns,St TW w g p b' w' [(31,w.heap.size+1,zs),(24,w.heap.size,#[.bool true,.slice A n c,.int .i64 x.e])] ns->C3 w' (w.heap.size) (.bool true) (.slice A n c) (.int .i64 x.e)):=lY (fun b' w' ns h=>(h.ks.2.1.1.c3));have HPP:Hid (∀ b' w' ns,St TW w g p b' w' [(31,w.heap.size+1,zs),(24,w.heap.size,#[.bool true,.slice A n c,.int .i64 x.e])] ns->∀ q1 q2 q3 q4 q5 q6,C3 (put6 w' (w1.heap.size) q1 q2 q3 q4 q5 q6) (w.heap.size) (.bool true) (.slice A n c) (.int .i64 x.e)):=lY (fun b' w' ns h q1 q2 q3 q4 q5 q6=>((h.ks.2.1.1.only (aK w' (w1.heap.size) q1 q2 q3 q4 q5 q6) (by omega)).c3));have XS:=HCC.out _ _ _ SD;have XA:=HCC.out _ _ _ SA
  go_region_held3 (fun w'=>C3 w' (w.heap.size) (.bool true) (.slice A n c) (.int .i64 x.e))
   (first | with_reducible exact HPP.out _ _ _ V2 _ _ _ _ _ _ | with_reducible exact HCC.out _ _ _ V2 | with_reducible exact XS | with_reducible exact XA | with_reducible exact HCC.out _ _ _ (V2.below (ag _ _)))
   (first
    | (go_at_call 13;refine(CP.out _ _ _ (by first | with_reducible exact SD | with_reducible exact SA) (by first | with_reducible exact sd1 | with_reducible exact sa1)).mono ?_;rintro e' v2 ⟨A1,n1,c1,B1,m1,d1,rfl,N1,M1,W1,o1⟩;have V2:St TW w g p false v2 [(31,w.heap.size+1,zs),(24,w.heap.size,#[.bool true,.slice A n c,.int .i64 x.e])] [(.slice A1 n1 c1,x.m),(.slice B1 m1 d1,x.m),(.slice A n c,x.m)]:=(by first | with_reducible exact((SD.only o1 W1).num M1).num N1 | with_reducible exact((SA.only o1 W1).num M1).num N1);have hv1:w1.heap.size<=v2.heap.size:=(by have h:=o1.size;simp at h;omega);first | (have ox:az (w1.alloc (.cells zs 31)).drew v2 g:=(by with_reducible exact o1);have z1:=YA.only ox (by omega);obtain⟨z1c0,z1c1,z1c2,z1c3,z1c4,z1c5⟩:=z1.c6;obtain⟨z1f0,z1f1,z1f2,z1f3,z1f4,z1f5⟩:=z1.f6;have z1l:=z1.2;have z1n:=ou z1.2;have z1n2:=oM z1.2) | skip))
  all_goals (
   go_wp2_with fail;go_meet
   first
    | ((with_reducible refine⟨w1.heap.size,A1,n1,c1,B1,m1,d1,rfl,?_,?_,iI V2 z1 ?_ ?_ _ _ _ _ _ _⟩) <;> first | omega | exact⟨by omega,by omega,trivial⟩)
    | with_reducible exact⟨v2.heap.size,A1,n1,c1,B1,m1,d1,rfl,V2.size,pT V2.ks,V2.alloc _ _⟩)
 case rest =>
 obtain⟨a5,A5,n5,c5,B5,m5,d5,rfl,ha5,hne5,V⟩:=hcut;obtain⟨hd1,hd2,_⟩:=hne5;have hk5:=V.ks.1.1.2;clear S CP;obtain⟨k0,k0_1,k0_2⟩:=V.ks.2.2.1.1.c3;have I3:=lY (IZ.out _ V.ns.2.2.1);rw[Hd.out]at I3;go_wp2_with fail;refine I3.out.mono ?_;rintro e' v3 ⟨rfl,b3⟩;replace V:=V.below b3;clear I3 IZ b3 k0 k0_1 k0_2;obtain⟨y0_0,y0_1,y0_2⟩:=V.ks.2.2.1.1.c3;have y0l:=V.ks.2.2.1.1.2;go_upto_region 5 with fail;clear y0_0 y0_1 y0_2 y0l;have SD:=V.drew;have kl:=V.ks.1.1.2;have kl2:=V.ks.2.1.1.2;have kl3:=V.ks.2.2.1.1.2;have HCC:Hid (∀ b' w' ns,St TW w g p b' w' [(31,a5,#[.bool true,.slice A5 n5 c5,.int .i64 x.e,.bool true,.slice B5 m5 d5,.int .i64 x.e]),(31,w.heap.size+1,zs),(24,w.heap.size,#[.bool true,.slice A n c,.int .i64 x.e])] ns->C3 w' (w.heap.size) (.bool true) (.slice A n c) (.int .i64 x.e)):=lY (fun b' w' ns h=>(h.ks.2.2.1.1.c3));have HPP:Hid (∀ b' w' ns,St TW w g p b' w' [(31,a5,#[.bool true,.slice A5 n5 c5,.int .i64 x.e,.bool true,.slice B5 m5 d5,.int .i64 x.e]),(31,w.heap.size+1,zs),(24,w.heap.size,#[.bool true,.slice A n c,.int .i64 x.e])] ns->∀ q1 q2 q3 q4 q5 q6,C3 (put6 w' (w.heap.size+1) q1 q2 q3 q4 q5 q6) (w.heap.size) (.bool true) (.slice A n c) (.int .i64 x.e)):=lY (fun b' w' ns h q1 q2 q3 q4 q5 q6=>((h.ks.2.2.1.1.only (aK w' (w.heap.size+1) q1 q2 q3 q4 q5 q6) (by omega)).c3));have XS:=HCC.out _ _ _ SD;clear V
 go_region_held3 (fun w'=>C3 w' (w.heap.size) (.bool true) (.slice A n c) (.int .i64 x.e))
  (first | with_reducible exact HPP.out _ _ _ V4 _ _ _ _ _ _ | with_reducible exact HCC.out _ _ _ V4 | with_reducible exact HCC.out _ _ _ V3 | with_reducible exact HCC.out _ _ _ V2 | with_reducible exact XS)
  (first
   | (go_at_call 93;refine(C5.out _).mono ?_;rintro e' v4 ⟨rfl,b4⟩;have V2:=SD.below b4;have u3:=V2.ns.2.2.1)
   | (go_at_call 58;refine(C2.out _ _ _ V2 u3).mono ?_;rintro e' v5 ⟨s,SO,A1,n1,c1,B1,m1,d1,rfl,N1,M1,W1,o1⟩;have W1':Wk TW v5 g p false:=(by rw[← SO.q.bad];exact W1);have V3:=((V2.only o1 W1').num M1).num N1;have u1:=V3.ns.1;have u2:=V3.ns.2.1)
   | (go_at_call 69;refine(C3q.out _ _ _ _ _ _ _ _ _ _ SO V3 u1 u2).mono ?_;rintro e' v6 ⟨r,AO,A2,n2,c2,B2,m2,d2,rfl,N2,M2,W2,o2⟩;have V4:=((V3.only o2 W2).num M2).num N2;have z1:=V4.ks.2.1.1;obtain⟨z1c0,z1c1,z1c2,z1c3,z1c4,z1c5⟩:=z1.c6;obtain⟨z1f0,z1f1,z1f2,z1f3,z1f4,z1f5⟩:=z1.f6;have z1l:=z1.2;have z1n:=ou z1.2;have z1n2:=oM z1.2))
 go_wp2_with fail;obtain⟨x1,x2,x3,x4⟩:=V4.give (lo:=r.lo) (hi:=r.hi) V4.ns.1 V4.ns.2.1 z1 (by omega);exact bodyPost_ret (v:=aG r.lo.neg A2 n2 c2 r.lo.e r.hi.neg B2 m2 d2 r.hi.e) (by simp[results,oY,go_sem,z1c0,z1c1,z1c2,z1c3,z1c4,z1c5]) rfl ⟨r,AO,A2,n2,c2,B2,m2,d2,rfl,x1,x2,x3,x4⟩
theorem mt (g P:Nat)(B:Int)(w:World)(hW:Wk TW w g (P:Int) false)(ha:am w (.slice A n c) x.m)(hx:ma x)(hT:bx w)(hP1:16<=P)(hP2:P<=1000)(hB:jw B (sz x))(hB2:B<=132000):
 Calls mF 58 #[.pointer (some ⟨g,0,none⟩),aP x.neg A n c x.e] w (fun e w'=>∃ r,cV P (B+40000) r (fG (rv x))/\ap TW w g (P:Int) r e w'):=by
 by_cases h0:x.m=0
 . rw[gX h0]
   exact uZ g P B w hW ha hx hT hP1 hP2 hB hB2 h0
 . cases hn:x.neg
   . rw[lK hn]
     exact qa g P B w hW ha hx hT hP1 hP2 hB hB2 hn h0
   . rw[qI hn,← hn]
     exact xL g P B w hW ha hx hT hP1 hP2 hB hB2 hn h0
end
end Go.Proofs.YtmbmohibpkepdaaGreatDoor
