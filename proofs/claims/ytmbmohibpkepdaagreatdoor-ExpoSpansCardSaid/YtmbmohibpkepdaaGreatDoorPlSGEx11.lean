import Derived.Test.YtmbmohibpkepdaaGreatDoorPlSGEx10
set_option maxRecDepth 8000
set_option maxHeartbeats 4000000
open Go.Lib renaming hid->lY
open Go.Proofs.Tryz renaming prog->mF, results22->qK, ntmps22->tz, func22->Bl
open Nat renaming ne_of_lt->ou, ne_of_gt->oM
open Rat renaming le_refl->oY, le_trans->yb
namespace Go.Proofs.YtmbmohibpkepdaaGreatDoor
open Go.RowKit
variable {A B:OA} {c d m n:Nat} {hi lo:DR}
section
variable {TW:TypeId}
theorem Gd (g:Nat)(p:Int)(bad:Bool)(w:World)(hW:Wk TW w g p bad)(ha:aC w A n c lo)(hb:aC w B m d hi)(hp1:16<=p)(hp2:p<=7000)(hno:(bad || !cM lo hi)=true):
 Calls mF 22 #[.pointer (some ⟨g,0,none⟩),aG lo.neg A n c lo.e hi.neg B m d hi.e] w (ap TW w g p SRes.no):=by
 have S:=ui hW (.bool lo.neg) (.slice A n c) (.int .i64 lo.e) (.bool hi.neg) (.slice B m d) (.int .i64 hi.e)
 have CT:Hid (∀ w' ks ns,St TW w g p bad w' ks ns->Calls mF 43 #[.pointer (some ⟨g,0,none⟩),aG lo.neg A n c lo.e hi.neg B m d hi.e] w' (fun o w''=>o=.returned (.bool false)/\Wk TW w'' g p true/\az w' w'' g)):=lY (fun w' ks ns h=>by
  have:=gK g p bad w' h.W (ha.wk hW h.O) (hb.wk hW h.O) hp1 hp2
  rw[hno]at this
  exact this)
 clear hno hp1 hp2 ha hb hW;go_enter Bl,tz;go_upto_region 1 with fail;generalize((w.alloc (ce (.bool lo.neg) (.slice A n c) (.int .i64 lo.e) (.bool hi.neg) (.slice B m d) (.int .i64 hi.e))).alloc z6)=w1 at *;obtain⟨y0_0,y0_1,y0_2,y0_3,y0_4,y0_5⟩:=S.ks.2.1.1.c6;have y0l:=S.ks.2.1.1.2;have cl:=S.lt;go_wp2_with fail;refine(CT.out _ _ _ S).mono ?_;rintro e' w2 ⟨rfl,W2,o2⟩;have S2:=S.only o2 W2;clear y0_0 y0_1 y0_2 y0_3 y0_4 y0_5 y0l S CT W2 o2 cl;have z1:=S2.ks.1.1;obtain⟨z1c0,z1c1,z1c2,z1c3,z1c4,z1c5⟩:=z1.c6;obtain⟨z1f0,z1f1,z1f2,z1f3,z1f4,z1f5⟩:=z1.f6;have z1l:=z1.2;have z1n:=ou z1.2;have z1n2:=oM z1.2;go_wp2_with fail;obtain⟨x1,x2,x3,x4⟩:=S2.give (lo:=DR.zero) (hi:=DR.zero) (aq _) (aq _) z1 (by omega);exact bodyPost_ret (v:=aG false none 0 0 0 false none 0 0 0) (by simp[results,qK,go_sem,z1c0,z1c1,z1c2,z1c3,z1c4,z1c5]) rfl ⟨none,0,0,none,0,0,rfl,x1,x2,x3,x4⟩
structure uf (P:Nat)(B:Int)(r:SRes)(lo hi:DR)(lone:Bool):Prop where
 q:Sq B r
 hl:∀ z,rv lo<=z->z<=rv hi->Hl (rv r.lo) (rv r.hi) (eJ z)
 rel:lone=true->(0<=rv r.lo/\rv r.hi<=rv r.lo*(1+4*uP P))\/(rv r.hi<=0/\rv r.hi*(1+4*uP P)<=rv r.lo)
theorem Am (x:DR):eJ (sz x)=eJ (rv x):=by
 rw[dJ]
 split
 . rfl
 . funext n;exact jK _ _
theorem wT (hr:aw lo hi=true)(hs:dv lo hi=0):rv lo<=0/\0<=rv hi:=by
 unfold dv fy at hs;rw[hr,if_pos rfl]at hs
 by_cases h1:(if lo.m=0 then 0 else 1)≠0/\lo.neg=false
 . rw[if_pos h1]at hs
   exact absurd hs (by decide)
 . rw[if_neg h1]at hs
   by_cases h2:hi.neg=true
   . rw[if_pos h2]at hs
     exact absurd hs (by decide)
   . refine⟨?_,lL (by simpa using h2)⟩
     cases hn:lo.neg
     . have hm:lo.m=0:=by
        refine Decidable.byContradiction fun hm=>h1 ⟨?_,hn⟩
        rw[if_neg hm];omega
       rw[gX hm];exact oY
     . exact uM hn
theorem wV (hr:aw lo hi=true)(hs:dv lo hi≠0):0<=rv lo\/rv hi<=0:=by
 rcases uw hr with⟨_,h2,_⟩ | ⟨h1,_⟩ | h1
 . exact .inl (lL h2)
 . exact .inr (uM h1)
 . exact absurd h1 hs
theorem fu.side {P:Nat}{B:Int}{r:SRes}{lone:Bool}(h:fu P B r (eJ (sz lo)) (eJ (sz hi)) lone)(hs:0<=rv lo\/rv hi<=0):uf P B r lo hi lone:=by
 have h1:=h.hl;have h2:=h.hh;rw[Am]at h1 h2;refine⟨h.q,fun z z1 z2=>?_,h.rel⟩
 rcases hs with hs | hs
 . exact h1.between h2 (ie hs z1) (ie (by grind) z2)
 . have n1:eJ (rv lo)=eJ (-(rv lo)):=by funext n;exact(jK _ _).symm
   have n2:eJ (rv hi)=eJ (-(rv hi)):=by funext n;exact(jK _ _).symm
   have n3:eJ z=eJ (-z):=by funext n;exact(jK _ _).symm
   rw[n1]at h1;rw[n2]at h2;rw[n3];exact h2.between h1 (ie (by grind) (by grind)) (ie (by grind) (by grind))
theorem Hl.const {a b c:Rat}(h:Hl a b (fun _=>c)):a<=c/\c<=b:=by
 have k:=Hl.point c;exact⟨h.meet k (ij.zero.eq fun n=>by grind),k.meet h (ij.zero.eq fun n=>by grind)⟩
theorem fu.zero {P:Nat}{B:Int}{r:SRes}{d:DR}{lone:Bool}(hP1:1<=P)(hP2:P<=8000)(hB:64<=B)(hlt:Tq 300000 lo)(hht:Tq 300000 hi)(hr:aw lo hi=true)(hln:lone=true->aw hi lo=true)(h:fu P B r (eJ (sz lo)) (eJ (sz hi)) lone)(d1:Sq 64 ⟨false,d,d⟩)(d2:rv d=1)(hs:rv lo<=0/\0<=rv hi):uf P B (dy (P:Int) false r.lo r.hi d d) lo hi lone:=by
 obtain⟨q,⟨l1,l2,l3⟩,u1,u2,u3⟩:=uQ (p:=(P:Int)) (by omega) (by omega) h.q (d1.more hB)
 dsimp only at q l1 l2 l3 u1 u2 u3
 have h1:=h.hl;have h2:=h.hh;rw[Am]at h1 h2
 have ez:eJ 0=fun _=>1:=by funext n;exact wE n
 have k1:Hl (rv (dy (P:Int) false r.lo r.hi d d).lo) (rv (dy (P:Int) false r.lo r.hi d d).hi) (eJ 0):=by
  rw[ez];exact(Hl.point 1).mono (by rw[d2]at l2;exact l2) (by rw[d2]at u2;exact u2)
 have g1:=h1.mono l1 u1;have g2:=h2.mono l1 u1;refine⟨q,fun z z1 z2=>?_,fun hL=>?_⟩
 . rcases bT 0 z with hz | hz
   . exact k1.between g2 (ie oY hz) (ie hz z2)
   . have n1:eJ (rv lo)=eJ (-(rv lo)):=by funext n;exact(jK _ _).symm
     have n3:eJ z=eJ (-z):=by funext n;exact(jK _ _).symm
     rw[n1]at g1;rw[n3];exact k1.between g1 (ie oY (by grind)) (ie (by grind) (by grind))
 .
  have e:=mZ hlt hht hr (hln hL)
  have e0:rv lo=0:=by grind
  rw[e0,ez]at h1;obtain⟨c1,c2⟩:=h1.const;have R:=h.rel hL
  have e1:rv (dy (P:Int) false r.lo r.hi d d).lo=rv r.lo:=by
   rcases l3 with h' | h'
   . exact h'
   . rw[d2]at h' l2;grind
  have e2:rv (dy (P:Int) false r.lo r.hi d d).hi=rv r.hi:=by
   rcases u3 with h' | h'
   . exact h'
   . rw[d2]at h' u2;grind
  rw[e1,e2];exact R
theorem r9 {T:TypeId}{w wi:World}{g:Nat}{p:Int}{bad:Bool}{ks:List (TypeId×Nat×Array Value)}{ns:List (Value×Nat)}(h:St T w g p bad wi ks ns){a:Nat}{na nb':Bool}{ea eb:Int}(k:KC 31 wi a #[.bool na,.slice A n c,.int .i64 ea,.bool nb',.slice B m d,.int .i64 eb])(ha:w.heap.size<=a)(hne:mG a ks)(x y z x' y' z':Value):
 St T w g p bad (put6 wi a x y z x' y' z') ((31,a,#[x,y,z,x',y',z']) :: ks) ns :=
 (h.other (aK _ _ _ _ _ _ _ _) ha (h.ks.put (aK _ _ _ _ _ _ _ _) hne) (h.ns.put6 k.b6 x y z x' y' z')).blk (k.put6 x y z x' y' z') (by have:=h.hg;omega)
theorem xS (g P:Nat)(X:Int)(w:World)(hW:Wk TW w g (P:Int) false)(ha:aC w A n c lo)(hb:aC w B m d hi)(hre:cM lo hi=true)(hnl:Cs lo)(hnh:Cs hi)(hT:bx w)(hP1:16<=P)(hP2:P<=1000)(hB:jw X (sz lo))(hB':jw X (sz hi))(hB2:X<=132000):
 Calls mF 22 #[.pointer (some ⟨g,0,none⟩),aG lo.neg A n c lo.e hi.neg B m d hi.e] w (fun e w'=>∃ r,uf P (X+40000) r lo hi (aw hi lo)/\ap TW w g (P:Int) r e w'):=by
 have hr:=hre;unfold cM at hr;simp only[Bool.and_eq_true]at hr;obtain⟨⟨hr1,hr2⟩,hr3⟩:=hr;have F2:=dW hr2;have pl:=ip ha F2.l;have ph:=ip hb F2.h;have NLo:=ha.num F2.l;have NHi:=hb.num F2.h;have hbb:=hB.b;have PL:=aV pl;have PH:=aV ph;have TL:Tq 300000 lo:=⟨F2.l,pl,by have:=hnl.b;omega,by have:=PL.e1;omega,by have:=PL.e2;have:=hnl.b;omega⟩;have TH:Tq 300000 hi:=⟨F2.h,ph,by have:=hnh.b;omega,by have:=PH.e1;omega,by have:=PH.e2;have:=hnh.b;omega⟩
 obtain⟨RL,RH⟩:ma lo/\ma hi:=by
  obtain⟨m1,m2,m3,m4⟩:=fB;have q1:=cP (m2.more (by omega)) TL hr1;have q2:=cP TL TH hr2;have q3:=cP TH (m1.more (by omega)) hr3;exact⟨(lQ pl F2.l hnl hr1 (aM TL (m1.more (by omega)) (yb q2 q3))).1,(lQ ph F2.h hnh (aM (m2.more (by omega)) TH (yb q1 q2)) hr3).1⟩
 obtain⟨dd,d1,d2,d3,d4,d5⟩:=jb (p:=(P:Int)) (by omega) (by omega);have S:=((ui hW (.bool lo.neg) (.slice A n c) (.int .i64 lo.e) (.bool hi.neg) (.slice B m d) (.int .i64 hi.e)).num ((NHi.below (ag w _)).below (ag _ _))).num ((NLo.below (ag w _)).below (ag _ _));have TB:Hid (∀ w' ks ns,St TW w g (P:Int) false w' ks ns->bx w'):=lY (fun w' ks ns h=>hT.wk hW h.O)
 have CT:Hid (∀ w' ks ns,St TW w g (P:Int) false w' ks ns->Calls mF 43 #[.pointer (some ⟨g,0,none⟩),aG lo.neg A n c lo.e hi.neg B m d hi.e] w' (fun o w''=>o=.returned (.bool true)/\Wk TW w'' g (P:Int) false/\az w' w'' g)):=lY (fun w' ks ns h=>by
  have:=gK g (P:Int) false w' h.W (ha.wk hW h.O) (hb.wk hW h.O) (by omega) (by omega)
  rw[hre]at this
  exact this)
 have CE:Hid (∀ w' ks ns,St TW w g (P:Int) false w' ks ns->am w' (.slice A n c) lo.m->am w' (.slice B m d) hi.m->Calls mF 45 #[.pointer (some ⟨g,0,none⟩),aG lo.neg A n c lo.e hi.neg B m d hi.e,.func (.func 60) #[.pointer (some ⟨g,0,none⟩)] #[]] w' (fun e w''=>∃ r,fu P (X+40000) r (eJ (sz lo)) (eJ (sz hi)) (aw hi lo)/\ap TW w' g (P:Int) r e w'')):=lY (fun w' ks ns h h1 h2=>vf g P X w' h.W h1 h2 RL RH hr2 (TB.out _ _ _ h) hP1 hP2 hB hB' hB2);have CSg:Hid (∀ w' ks ns,St TW w g (P:Int) false w' ks ns->am w' (.slice A n c) lo.m->am w' (.slice B m d) hi.m->Calls mF 61 #[aG lo.neg A n c lo.e hi.neg B m d hi.e] w' (fun o w''=>o=.returned (.int .i64 (dv lo hi))/\Below w'.heap.size w' w'')):=lY (fun w' ks ns h h1 h2=>yG w' (aC.of_num h1 pl F2.l) (aC.of_num h2 ph F2.h));have CN:Hid (∀ w' ks ns,St TW w g (P:Int) false w' ks ns->Calls mF 31 #[.pointer (some ⟨g,0,none⟩),.int .i64 1] w' (ap TW w' g (P:Int) ⟨false,dd,dd⟩)):=lY (fun w' ks ns h=>by rw[← d1];exact fO 1 g (P:Int) false w' h.W (TB.out _ _ _ h) (by omega) (by omega));have CU:Hid (∀ w' ks ns r A0 n0 c0 B0 m0 d0 A7 n7 c7 B7 m7 d7,dv lo hi=0->fu P (X+40000) r (eJ (sz lo)) (eJ (sz hi)) (aw hi lo)->St TW w g (P:Int) false w' ks ns->am w' (.slice A0 n0 c0) r.lo.m->am w' (.slice B0 m0 d0) r.hi.m->am w' (.slice A7 n7 c7) dd.m->am w' (.slice B7 m7 d7) dd.m->Calls mF 62 #[.pointer (some ⟨g,0,none⟩),aG r.lo.neg A0 n0 c0 r.lo.e r.hi.neg B0 m0 d0 r.hi.e,aG dd.neg A7 n7 c7 dd.e dd.neg B7 m7 d7 dd.e] w' (fun e w''=>∃ s,uf P (X+40000) s lo hi (aw hi lo)/\ap TW w' g (P:Int) s e w'')):=lY (fun w' ks ns r _ _ _ _ _ _ _ _ _ _ _ _ hs a h h1 h2 h3 h4=>(jk g (P:Int) false w' h.W (aC.of_num h1 a.q.l.pl a.q.l.ok) (aC.of_num h2 a.q.h.pl a.q.h.ok) (aC.of_num h3 d4 d5) (aC.of_num h4 d4 d5)).mono fun e w'' hp=>⟨_,a.zero (by omega) (by omega) (by omega) TL TH hr2 (fun h=>h) d2 d3 (wT hr2 hs),hp⟩);have SD0:Hid (∀ r,dv lo hi≠0->fu P (X+40000) r (eJ (sz lo)) (eJ (sz hi)) (aw hi lo)->uf P (X+40000) r lo hi (aw hi lo)):=lY (fun r hs a=>a.side (wV hr2 hs));have CA:Hid (∀ w' ks ns r A7 n7 c7 B7 m7 d7,uf P (X+40000) r lo hi (aw hi lo)->St TW w g (P:Int) false w' ks ns->am w' (.slice A n c) lo.m->am w' (.slice B m d) hi.m->am w' (.slice A7 n7 c7) r.lo.m->am w' (.slice B7 m7 d7) r.hi.m->Calls mF 44 #[.pointer (some ⟨g,0,none⟩),aG lo.neg A n c lo.e hi.neg B m d hi.e,aG r.lo.neg A7 n7 c7 r.lo.e r.hi.neg B7 m7 d7 r.hi.e] w' (ap TW w' g (P:Int) r)):=lY (fun w' ks ns r _ _ _ _ _ _ EO h h1 h2 h3 h4=>ia (sl:=eJ (rv lo)) (sh:=eJ (rv hi)) g P w' h.W (aC.of_num h1 pl F2.l) (aC.of_num h2 ph F2.h) ⟨EO.q,EO.hl _ oY (cP TL TH hr2),EO.hl _ (cP TL TH hr2) oY,EO.rel⟩ h3 h4 (TB.out _ _ _ h) (by omega) (by omega) hP1 (by omega));obtain⟨p,hp⟩:∃ p:Int,p=(P:Int):=⟨_,rfl⟩;rw[← hp]at S CT CE CA CSg CN CU ⊢;clear hp TB hT hW RL RH hr1 hr2 hr3 hre hnl hnh F2 pl ph NLo NHi hbb hB hB' hB2 ha hb hP1 hP2 PL PH TL TH d1 d2 d3 d4 d5
 go_enter Bl,tz;go_upto_region 1 with fail;generalize((w.alloc (ce (.bool lo.neg) (.slice A n c) (.int .i64 lo.e) (.bool hi.neg) (.slice B m d) (.int .i64 hi.e))).alloc z6)=w1 at *;obtain⟨y0_0,y0_1,y0_2,y0_3,y0_4,y0_5⟩:=S.ks.2.1.1.c6;have y0l:=S.ks.2.1.1.2;have cl:=S.lt;go_wp2_with fail;refine(CT.out _ _ _ S).mono ?_;rintro e' w2 ⟨rfl,W2,o2⟩;have S2:=S.only o2 W2;clear y0_0 y0_1 y0_2 y0_3 y0_4 y0_5 y0l S CT W2 o2 cl;obtain⟨y0_0,y0_1,y0_2,y0_3,y0_4,y0_5⟩:=S2.ks.2.1.1.c6;have y0l:=S2.ks.2.1.1.2;have KY:=lY (CE.out _ _ _ S2 S2.ns.1 S2.ns.2.1);go_wp2_with fail;refine KY.out.mono ?_;rintro e' v3 ⟨r,EO,A1,n1,c1,B1,m1,d1,rfl,N1,M1,W1,o1⟩;have W1':Wk TW v3 g p false:=(by rw[← EO.q.bad];exact W1);have S3:=((S2.only o1 W1').num M1).num N1;have S4:=S3.alloc 31 #[.bool r.lo.neg,.slice A1 n1 c1,.int .i64 r.lo.e,.bool r.hi.neg,.slice B1 m1 d1,.int .i64 r.hi.e];clear y0_0 y0_1 y0_2 y0_3 y0_4 y0_5 y0l KY CE W1 o1 S2;have hsz:=S3.size;have hk1:=S3.ks.1.1.2;have hk2:=S3.ks.2.1.1.2;obtain⟨y0_0,y0_1,y0_2,y0_3,y0_4,y0_5⟩:=S3.ks.2.1.1.c6;have y0l:=S3.ks.2.1.1.2;go_upto_region 4 with fail;clear y0_0 y0_1 y0_2 y0_3 y0_4 y0_5 y0l S3;generalize v3.alloc (.cells #[.bool r.lo.neg,.slice A1 n1 c1,.int .i64 r.lo.e,.bool r.hi.neg,.slice B1 m1 d1,.int .i64 r.hi.e] 31)=v4 at *;obtain⟨y0_0,y0_1,y0_2,y0_3,y0_4,y0_5⟩:=S4.ks.2.2.1.1.c6;have y0l:=S4.ks.2.2.1.1.2;have KY:=lY (CSg.out _ _ _ S4 S4.ns.2.2.1 S4.ns.2.2.2.1);obtain⟨sg,hsg⟩:=du (dv lo hi);rw[← hsg]at KY CU SD0;clear hsg
 by_cases hs0:sg=0
 . subst hs0
   go_wp2_with fail;refine KY.out.mono ?_;rintro e' v5 ⟨rfl,b5⟩;replace S4:=S4.below b5;clear y0_0 y0_1 y0_2 y0_3 y0_4 y0_5 y0l KY b5 CSg SD0;go_upto_region 5 with fail;have hk3:=S4.ks.1.1.2
   go_cut [] (fun wx=>∃ s A6 n6 c6 B6 m6 d6,uf P (X+40000) s lo hi (aw hi lo)/\St TW w g p false wx [(31,v3.heap.size,s6 s.lo A6 n6 c6 s.hi B6 m6 d6),(31,w.heap.size+1,zs),(31,w.heap.size,s6 lo A n c hi B m d)] [(.slice A6 n6 c6,s.lo.m),(.slice B6 m6 d6,s.hi.m),(.slice A n c,lo.m),(.slice B m d,hi.m)])
   case first =>
    have SD:=S4.drew;have z0:=SD.ks.1.1;obtain⟨z0c0,z0c1,z0c2,z0c3,z0c4,z0c5⟩:=z0.c6;obtain⟨z0f0,z0f1,z0f2,z0f3,z0f4,z0f5⟩:=z0.f6;have z0l:=z0.2;have z0n:=ou z0.2;have z0n2:=oM z0.2
    have PUT:Hid (∀ w' (s:SRes) A6 n6 c6 B6 m6 d6 ns,St TW w g p false w' [(31,v3.heap.size,s6 r.lo A1 n1 c1 r.hi B1 m1 d1),(31,w.heap.size+1,zs),(31,w.heap.size,s6 lo A n c hi B m d)] ns->am w' (.slice A6 n6 c6) s.lo.m->am w' (.slice B6 m6 d6) s.hi.m->am w' (.slice A n c) lo.m->am w' (.slice B m d) hi.m->St TW w g p false (put6 w' v3.heap.size (.bool s.lo.neg) (.slice A6 n6 c6) (.int .i64 s.lo.e) (.bool s.hi.neg) (.slice B6 m6 d6) (.int .i64 s.hi.e)) [(31,v3.heap.size,s6 s.lo A6 n6 c6 s.hi B6 m6 d6),(31,w.heap.size+1,zs),(31,w.heap.size,s6 lo A n c hi B m d)] [(.slice A6 n6 c6,s.lo.m),(.slice B6 m6 d6,s.hi.m),(.slice A n c,lo.m),(.slice B m d,hi.m)]):=lY (fun w' s A6 n6 c6 B6 m6 d6 ns h h3 h4 h5 h6=>by
     have h':St TW w g p false w' [(31,w.heap.size+1,zs),(31,w.heap.size,s6 lo A n c hi B m d)] [(.slice A6 n6 c6,s.lo.m),(.slice B6 m6 d6,s.hi.m),(.slice A n c,lo.m),(.slice B m d,hi.m)]:=⟨h.hg,h.O,h.W,h.ks.2,h3,h4,h5,h6,trivial⟩
     exact r9 h' h.ks.1.1 hsz ⟨by omega,by omega,trivial⟩ _ _ _ _ _ _)
    clear S4
    go_region_with (first
     | (go_at_call 31;refine(CN.out _ _ _ SD).mono ?_;rintro e' v6 ⟨A2,n2,c2,B2,m2,d2,rfl,N2,M2,W2,o2⟩;have V1:=((SD.only o2 W2).num M2).num N2;have u1:=V1.ns.1;have u2:=V1.ns.2.1;have u3:=V1.ns.2.2.1;have u4:=V1.ns.2.2.2.1;have z1:=V1.ks.1.1;obtain⟨z1c0,z1c1,z1c2,z1c3,z1c4,z1c5⟩:=z1.c6;obtain⟨z1f0,z1f1,z1f2,z1f3,z1f4,z1f5⟩:=z1.f6;have z1l:=z1.2;have z1n:=ou z1.2;have z1n2:=oM z1.2)
     | (go_at_call 62;refine(CU.out _ _ _ _ _ _ _ _ _ _ _ _ _ _ _ _ (by first | rfl | trivial) EO V1 u3 u4 u1 u2).mono ?_;rintro e' v7 ⟨s,CO,A6,n6,c6,B6,m6,d6,rfl,N3,M3,W3,o3⟩;have W3':Wk TW v7 g p false:=(by rw[← CO.q.bad];exact W3);have V2:=V1.only o3 W3';have z2:=V2.ks.1.1;obtain⟨z2c0,z2c1,z2c2,z2c3,z2c4,z2c5⟩:=z2.c6;obtain⟨z2f0,z2f1,z2f2,z2f3,z2f4,z2f5⟩:=z2.f6;have z2l:=z2.2;have z2n:=ou z2.2;have z2n2:=oM z2.2))
    all_goals (
     go_wp2_with fail;go_meet
     exact⟨s,_,_,_,_,_,_,CO,PUT.out _ _ _ _ _ _ _ _ _ V2 N3 M3 V2.ns.2.2.2.2.1 V2.ns.2.2.2.2.2.1⟩)
   case rest =>
    obtain⟨s,A6,n6,c6,B6,m6,d6,CO,V⟩:=hcut;obtain⟨y0_0,y0_1,y0_2,y0_3,y0_4,y0_5⟩:=V.ks.1.1.c6;obtain⟨y1_0,y1_1,y1_2,y1_3,y1_4,y1_5⟩:=V.ks.2.2.1.1.c6;have y0l:=V.ks.1.1.2;have y1l:=V.ks.2.2.1.1.2;have cl:=V.lt;have KA:=lY (CA.out _ _ _ _ _ _ _ _ _ _ CO V V.ns.2.2.1 V.ns.2.2.2.1 V.ns.1 V.ns.2.1);go_wp2_with fail;refine KA.out.mono ?_;rintro e' v8 ⟨A8,n8,c8,B8,m8,d8,rfl,N8,M8,W8,o8⟩;have V8:=((V.only o8 (show Wk TW v8 g p s.bad from W8)).num M8).num N8;clear y0_0 y0_1 y0_2 y0_3 y0_4 y0_5 y1_0 y1_1 y1_2 y1_3 y1_4 y1_5 y0l y1l KA V cl W8 o8;have z1:=V8.ks.2.1.1;obtain⟨z1c0,z1c1,z1c2,z1c3,z1c4,z1c5⟩:=z1.c6;obtain⟨z1f0,z1f1,z1f2,z1f3,z1f4,z1f5⟩:=z1.f6;have z1l:=z1.2;have z1n:=ou z1.2;have z1n2:=oM z1.2;go_wp2_with fail;obtain⟨x1,x2,x3,x4⟩:=V8.give (lo:=s.lo) (hi:=s.hi) V8.ns.1 V8.ns.2.1 z1 (by omega);exact bodyPost_ret (v:=aG s.lo.neg A8 n8 c8 s.lo.e s.hi.neg B8 m8 d8 s.hi.e) (by simp[results,qK,go_sem,z1c0,z1c1,z1c2,z1c3,z1c4,z1c5]) rfl ⟨s,CO,A8,n8,c8,B8,m8,d8,rfl,x1,x2,x3,x4⟩
 . have hsd:(sg == 0)=false:=by simpa using hs0
   have CO:=SD0.out r hs0 EO;clear hs0;go_wp2_with fail;refine KY.out.mono ?_;rintro e' v5 ⟨rfl,b5⟩;have V:=S4.below b5;clear y0_0 y0_1 y0_2 y0_3 y0_4 y0_5 y0l KY b5 CSg SD0 S4;obtain⟨y0_0,y0_1,y0_2,y0_3,y0_4,y0_5⟩:=V.ks.1.1.c6;obtain⟨y1_0,y1_1,y1_2,y1_3,y1_4,y1_5⟩:=V.ks.2.2.1.1.c6;have y0l:=V.ks.1.1.2;have y1l:=V.ks.2.2.1.1.2;have cl:=V.lt;have KA:=lY (CA.out _ _ _ _ _ _ _ _ _ _ CO V V.ns.2.2.1 V.ns.2.2.2.1 V.ns.1 V.ns.2.1);go_wp2_with fail;refine KA.out.mono ?_;rintro e' v8 ⟨A8,n8,c8,B8,m8,d8,rfl,N8,M8,W8,o8⟩;have V8:=((V.only o8 (show Wk TW v8 g p r.bad from W8)).num M8).num N8;clear y0_0 y0_1 y0_2 y0_3 y0_4 y0_5 y1_0 y1_1 y1_2 y1_3 y1_4 y1_5 y0l y1l KA V cl W8 o8;have z1:=V8.ks.2.1.1;obtain⟨z1c0,z1c1,z1c2,z1c3,z1c4,z1c5⟩:=z1.c6;obtain⟨z1f0,z1f1,z1f2,z1f3,z1f4,z1f5⟩:=z1.f6;have z1l:=z1.2;have z1n:=ou z1.2;have z1n2:=oM z1.2;go_wp2_with fail;obtain⟨x1,x2,x3,x4⟩:=V8.give (lo:=r.lo) (hi:=r.hi) V8.ns.1 V8.ns.2.1 z1 (by omega);exact bodyPost_ret (v:=aG r.lo.neg A8 n8 c8 r.lo.e r.hi.neg B8 m8 d8 r.hi.e) (by simp[results,qK,go_sem,z1c0,z1c1,z1c2,z1c3,z1c4,z1c5]) rfl ⟨r,CO,A8,n8,c8,B8,m8,d8,rfl,x1,x2,x3,x4⟩
end
section
variable {TW:TypeId}
theorem zZ {x:DR}(g P:Nat)(w:World)(hW:Wk TW w g (P:Int) false)(ha:am w (.slice A n c) x.m)(hT:bx w)(h0:x.m=0)(neg:Bool):
 Calls mF 46 #[.pointer (some ⟨g,0,none⟩),aP neg A n c x.e] w (ap TW w g (P:Int) (dY (P:Int) false 1)):=by
 have S:=(mA hW (.bool neg) (.slice A n c) (.int .i64 x.e)).num (((ha.below (ag w _)).below (ag _ _)));have TB:Hid (∀ w' ks ns,St TW w g (P:Int) false w' ks ns->bx w'):=lY (fun w' ks ns h=>hT.wk hW h.O);have IZ:Hid (∀ w' ,am w' (.slice A n c) x.m->Calls mF 90 #[.agg #[.bool neg,.slice A n c,.int .i64 x.e]] w' (fun r w''=>r=.returned (.bool (decide (x.m=0)))/\Below w'.heap.size w' w'')):=lY (fun w' h1=>df neg x.e h1);have C2:Hid (∀ w' ks ns,St TW w g (P:Int) false w' ks ns->Calls mF 31 #[.pointer (some ⟨g,0,none⟩),.int .i64 1] w' (ap TW w' g (P:Int) (dY (P:Int) false 1))):=lY (fun w' ks ns h=>fO 1 g (P:Int) false w' h.W (TB.out _ _ _ h) (by omega) (by omega));have hd:decide (x.m=0)=true:=decide_eq_true h0;have C3q:=IZ.out _ S.ns.1;rw[hd]at C3q;have HC3:=lY C3q;obtain⟨p,hp⟩:∃ p:Int,p=(P:Int):=⟨_,rfl⟩;rw[← hp]at S C2 ⊢;generalize dY p false 1=r at *;clear C3q IZ hp TB hT hW hd ha h0;go_enter Tryz.func46,Tryz.ntmps46;go_wp2_with fail;refine HC3.out.mono ?_;rintro e' v1 ⟨rfl,b1⟩;replace S:=S.below b1;have KY2:=lY (C2.out _ _ _ S);clear HC3 b1 C2;go_wp2_with fail;refine KY2.out.mono ?_;rintro e' v2 ⟨A9,n9,c9,B9,m9,d9,rfl,N1,M1,W1,o1⟩;have V2:=((S.only o1 W1).num M1).num N1;have z1:=V2.ks.1.1;obtain⟨z1c0,z1c1,z1c2,z1c3,z1c4,z1c5⟩:=z1.c6;obtain⟨z1f0,z1f1,z1f2,z1f3,z1f4,z1f5⟩:=z1.f6;have z1l:=z1.2;have z1n:=ou z1.2;have z1n2:=oM z1.2;go_wp2_with fail;obtain⟨x1,x2,x3,x4⟩:=V2.give (lo:=r.lo) (hi:=r.hi) V2.ns.1 V2.ns.2.1 z1 (by omega);exact bodyPost_ret (v:=aG r.lo.neg A9 n9 c9 r.lo.e r.hi.neg B9 m9 d9 r.hi.e) (by simp[results,Tryz.results46,go_sem,z1c0,z1c1,z1c2,z1c3,z1c4,z1c5]) rfl ⟨A9,n9,c9,B9,m9,d9,rfl,x1,x2,x3,x4⟩
theorem xO (g P:Nat)(w:World)(hW:Wk TW w g (P:Int) false)(ha:am w (.slice A n c) lo.m)(hb:am w (.slice B m d) hi.m)(pl:aR lo.neg lo.m lo.e=true)(ol:lo.ok=true)(ph:aR hi.neg hi.m hi.e=true)(oh:hi.ok=true)(hl:lo.m=0)(hr:aw hi lo=true)(hT:bx w)(hP1:16<=P)(hP2:P<=1000):
 Calls mF 45 #[.pointer (some ⟨g,0,none⟩),aG lo.neg A n c lo.e hi.neg B m d hi.e,.func (.func 46) #[.pointer (some ⟨g,0,none⟩)] #[]] w (ap TW w g (P:Int) (dY (P:Int) false 1)):=by
 have S:=((ui hW (.bool lo.neg) (.slice A n c) (.int .i64 lo.e) (.bool hi.neg) (.slice B m d) (.int .i64 hi.e)).num ((hb.below (ag w _)).below (ag _ _))).num ((ha.below (ag w _)).below (ag _ _));have TB:Hid (∀ w' ks ns,St TW w g (P:Int) false w' ks ns->bx w'):=lY (fun w' ks ns h=>hT.wk hW h.O);have CL:Hid (∀ w' ks ns,St TW w g (P:Int) false w' ks ns->am w' (.slice A n c) lo.m->Calls mF 46 #[.pointer (some ⟨g,0,none⟩),aP lo.neg A n c lo.e] w' (ap TW w' g (P:Int) (dY (P:Int) false 1))):=lY (fun w' ks ns h h1=>zZ g P w' h.W h1 (TB.out _ _ _ h) hl lo.neg)
 have CI:Hid (∀ w' ks ns,St TW w g (P:Int) false w' ks ns->am w' (.slice A n c) lo.m->am w' (.slice B m d) hi.m->Calls mF 88 #[aG lo.neg A n c lo.e hi.neg B m d hi.e] w' (fun o w''=>o=.returned (.bool true)/\Below w'.heap.size w' w'')):=lY (fun w' ks ns h h1 h2=>by
  have:=fY w' (aC.of_num h1 pl ol) (aC.of_num h2 ph oh)
  rw[hr]at this
  exact this)
 obtain⟨d0,e0,-,-,-,-⟩:=jb (p:=(P:Int)) (by omega) (by omega)
 have hbad:(dY (P:Int) false 1).bad=false:=by rw[e0]
 obtain⟨p,hp⟩:∃ p:Int,p=(P:Int):=⟨_,rfl⟩;rw[← hp]at S CL CI hbad ⊢;have HB:=lY hbad;generalize dY p false 1=rl at *;clear hp e0 hbad d0 TB hT hW hP1 hP2 hl hr ha hb pl ol ph oh;go_enter Tryz.func45,Tryz.ntmps45;go_upto_region 1 with fail;generalize((w.alloc (ce (.bool lo.neg) (.slice A n c) (.int .i64 lo.e) (.bool hi.neg) (.slice B m d) (.int .i64 hi.e))).alloc z6)=w1 at *;obtain⟨y0_0,y0_1,y0_2,y0_3,y0_4,y0_5⟩:=S.ks.2.1.1.c6;have y0l:=S.ks.2.1.1.2;have hgl:=S.lt;have KY1:=lY (CL.out _ _ _ S S.ns.1);go_wp2_with fail;refine KY1.out.mono ?_;rintro e' v2 ⟨A1,n1,c1,B1,m1,d1,rfl,N1,M1,W1,o1⟩;have W1':Wk TW v2 g p false:=(by rw[← HB.out];exact W1);have S2:=((S.only o1 W1').num M1).num N1;have S3:=S2.alloc 31 #[.bool rl.lo.neg,.slice A1 n1 c1,.int .i64 rl.lo.e,.bool rl.hi.neg,.slice B1 m1 d1,.int .i64 rl.hi.e];clear y0_0 y0_1 y0_2 y0_3 y0_4 y0_5 y0l S KY1 CL o1 W1 W1' hgl;have hsz:=S2.size;have hk1:=S2.ks.1.1.2;have hk2:=S2.ks.2.1.1.2;obtain⟨y0_0,y0_1,y0_2,y0_3,y0_4,y0_5⟩:=S2.ks.2.1.1.c6;have y0l:=S2.ks.2.1.1.2;go_upto_region 2 with fail;clear y0_0 y0_1 y0_2 y0_3 y0_4 y0_5 y0l;generalize v2.alloc (.cells #[.bool rl.lo.neg,.slice A1 n1 c1,.int .i64 rl.lo.e,.bool rl.hi.neg,.slice B1 m1 d1,.int .i64 rl.hi.e] 31)=v3 at *;clear S2;obtain⟨y0_0,y0_1,y0_2,y0_3,y0_4,y0_5⟩:=S3.ks.2.2.1.1.c6;have y0l:=S3.ks.2.2.1.1.2;have KY2:=lY (CI.out _ _ _ S3 S3.ns.2.2.1 S3.ns.2.2.2.1);go_wp2_with fail;refine KY2.out.mono ?_;rintro e' v4 ⟨rfl,b4⟩;replace S3:=S3.below b4;clear KY2 CI b4 y0_0 y0_1 y0_2 y0_3 y0_4 y0_5 y0l;have z2:=S3.ks.1.1;obtain⟨z2c0,z2c1,z2c2,z2c3,z2c4,z2c5⟩:=z2.c6;obtain⟨z2f0,z2f1,z2f2,z2f3,z2f4,z2f5⟩:=z2.f6;have z2l:=z2.2;have z2n:=ou z2.2;have z2n2:=oM z2.2;have z1:=S3.ks.2.1.1;obtain⟨z1c0,z1c1,z1c2,z1c3,z1c4,z1c5⟩:=z1.c6;obtain⟨z1f0,z1f1,z1f2,z1f3,z1f4,z1f5⟩:=z1.f6;have z1l:=z1.2;have z1n:=ou z1.2;have z1n2:=oM z1.2;go_wp2_with fail;have S4:St TW w g p false v4 [(31,w.heap.size+1,zs)] [(.slice A1 n1 c1,rl.lo.m),(.slice B1 m1 d1,rl.hi.m)]:=⟨S3.hg,S3.O,S3.W,⟨S3.ks.2.1,trivial⟩,S3.ns.1,S3.ns.2.1,trivial⟩;obtain⟨x1,x2,x3,x4⟩:=S4.give (lo:=rl.lo) (hi:=rl.hi) S4.ns.1 S4.ns.2.1 S4.ks.1.1 (by omega)
 exact bodyPost_ret (v:=aG rl.lo.neg A1 n1 c1 rl.lo.e rl.hi.neg B1 m1 d1 rl.hi.e) (by simp[results,Tryz.results45,go_sem,z1c0,z1c1,z1c2,z1c3,z1c4,z1c5]) rfl ⟨A1,n1,c1,B1,m1,d1,rfl,x1,x2,by rw[HB.out];exact x3,x4⟩
theorem z8 (g P:Nat)(w:World)(hW:Wk TW w g (P:Int) false)(ha:am w (.slice A n c) lo.m)(hb:am w (.slice B m d) hi.m)(pl:aR lo.neg lo.m lo.e=true)(ol:lo.ok=true)(ph:aR hi.neg hi.m hi.e=true)(oh:hi.ok=true)(hl:lo.m=0)(hh:hi.m=0)(hT:bx w)(hP1:16<=P)(hP2:P<=1000):
 Calls mF 15 #[.pointer (some ⟨g,0,none⟩),aG lo.neg A n c lo.e hi.neg B m d hi.e] w (ap TW w g (P:Int) (dY (P:Int) false 1)):=by
 have PLo:=aV pl;have PHi:=aV ph;have zb:nb 0=0:=aX;have TL:Tq 64 lo:=⟨ol,pl,by rw[hl];omega,by rw[(PLo.zero hl).1];omega,by rw[(PLo.zero hl).1,hl];omega⟩;have TH:Tq 64 hi:=⟨oh,ph,by rw[hh];omega,by rw[(PHi.zero hh).1];omega,by rw[(PHi.zero hh).1,hh];omega⟩;obtain⟨m1,m2,m3,m4⟩:=fB;have r1:=gX hl;have r2:=gX hh;have hr:aw hi lo=true:=aM TH TL (by rw[r1,r2];exact oY)
 have hre:cM lo hi=true:=by
  unfold cM;rw[aM m2 TL (by rw[r1,m4];decide),aM TL TH (by rw[r1,r2];exact oY),aM TH m1 (by rw[r2,m3];decide)]
  rfl
 obtain⟨d0,e0,e1,e2,-,-⟩:=jb (p:=(P:Int)) (by omega) (by omega)
 have EO:fu P 64 (dY (P:Int) false 1) (fun _=>1) (fun _=>1) (aw hi lo):=by
  rw[e0];refine⟨e1,by show Hl (rv d0) (rv d0) _;rw[e2];exact Hl.point 1,by show Hl (rv d0) (rv d0) _;rw[e2];exact Hl.point 1,fun _=>.inl ?_⟩
  show 0<=rv d0/\rv d0<=rv d0*(1+4*uP P)
  rw[e2]
  have:=cD P
  exact⟨by decide,by grind⟩
 have hbad:=EO.q.bad;have S:=((ui hW (.bool lo.neg) (.slice A n c) (.int .i64 lo.e) (.bool hi.neg) (.slice B m d) (.int .i64 hi.e)).num ((hb.below (ag w _)).below (ag _ _))).num ((ha.below (ag w _)).below (ag _ _));have TB:Hid (∀ w' ks ns,St TW w g (P:Int) false w' ks ns->bx w'):=lY (fun w' ks ns h=>hT.wk hW h.O)
 have CT:Hid (∀ w' ks ns,St TW w g (P:Int) false w' ks ns->am w' (.slice A n c) lo.m->am w' (.slice B m d) hi.m->Calls mF 43 #[.pointer (some ⟨g,0,none⟩),aG lo.neg A n c lo.e hi.neg B m d hi.e] w' (fun o w''=>o=.returned (.bool true)/\Wk TW w'' g (P:Int) false/\az w' w'' g)):=lY (fun w' ks ns h h1 h2=>by
  have:=gK g (P:Int) false w' h.W (aC.of_num h1 pl ol) (aC.of_num h2 ph oh) (by omega) (by omega)
  rw[hre]at this
  exact this)
 have CE:Hid (∀ w' ks ns,St TW w g (P:Int) false w' ks ns->am w' (.slice A n c) lo.m->am w' (.slice B m d) hi.m->Calls mF 45 #[.pointer (some ⟨g,0,none⟩),aG lo.neg A n c lo.e hi.neg B m d hi.e,.func (.func 46) #[.pointer (some ⟨g,0,none⟩)] #[]] w' (ap TW w' g (P:Int) (dY (P:Int) false 1))):=lY (fun w' ks ns h h1 h2=>xO g P w' h.W h1 h2 pl ol ph oh hl hr (TB.out _ _ _ h) hP1 hP2);have CA:Hid (∀ w' ks ns A7 n7 c7 B7 m7 d7,St TW w g (P:Int) false w' ks ns->am w' (.slice A n c) lo.m->am w' (.slice B m d) hi.m->am w' (.slice A7 n7 c7) (dY (P:Int) false 1).lo.m->am w' (.slice B7 m7 d7) (dY (P:Int) false 1).hi.m->Calls mF 44 #[.pointer (some ⟨g,0,none⟩),aG lo.neg A n c lo.e hi.neg B m d hi.e,aG (dY (P:Int) false 1).lo.neg A7 n7 c7 (dY (P:Int) false 1).lo.e (dY (P:Int) false 1).hi.neg B7 m7 d7 (dY (P:Int) false 1).hi.e] w' (ap TW w' g (P:Int) (dY (P:Int) false 1))):=lY (fun w' ks ns _ _ _ _ _ _ h h1 h2 h3 h4=>ia g P w' h.W (aC.of_num h1 pl ol) (aC.of_num h2 ph oh) EO h3 h4 (TB.out _ _ _ h) (by omega) (by omega) hP1 (by omega));obtain⟨p,hp⟩:∃ p:Int,p=(P:Int):=⟨_,rfl⟩;rw[← hp]at S CT CE CA hbad ⊢;have HB:=lY hbad;generalize dY p false 1=r at *;clear hp hbad TB hT hW TL TH hre hr m1 m2 m3 m4 r1 r2 EO e0 e1 e2 d0 PLo PHi pl ol ph oh hl hh ha hb hP1 hP2;go_enter Tryz.func15,Tryz.ntmps15;go_upto_region 1 with fail;generalize((w.alloc (ce (.bool lo.neg) (.slice A n c) (.int .i64 lo.e) (.bool hi.neg) (.slice B m d) (.int .i64 hi.e))).alloc z6)=w1 at *;obtain⟨y0_0,y0_1,y0_2,y0_3,y0_4,y0_5⟩:=S.ks.2.1.1.c6;have y0l:=S.ks.2.1.1.2;have cl:=S.lt;go_wp2_with fail;refine(CT.out _ _ _ S S.ns.1 S.ns.2.1).mono ?_;rintro e' w2 ⟨rfl,W2,o2⟩;have S2:=S.only o2 W2;clear y0_0 y0_1 y0_2 y0_3 y0_4 y0_5 y0l S CT W2 o2 cl;go_upto_region 3 with fail;have SD:=S2.drew;have sd1:am w2.drew (.slice A n c) lo.m:=SD.ns.1;have sd2:am w2.drew (.slice B m d) hi.m:=SD.ns.2.1;have kl:=S2.ks.1.1.2;have kl2:=S2.ks.2.1.1.2;have HCC:Hid (∀ b' w' ns,St TW w g p b' w' [(31,w.heap.size+1,zs),(31,w.heap.size,s6 lo A n c hi B m d)] ns->D6 w' (w.heap.size) lo A n c hi B m d):=lY (fun b' w' ns h=>(h.ks.2.1.1.c6));have HPP:Hid (∀ b' w' ns,St TW w g p b' w' [(31,w.heap.size+1,zs),(31,w.heap.size,s6 lo A n c hi B m d)] ns->∀ q1 q2 q3 q4 q5 q6,C6 (put6 w' (w.heap.size+1) q1 q2 q3 q4 q5 q6) (w.heap.size) (.bool lo.neg) (.slice A n c) (.int .i64 lo.e) (.bool hi.neg) (.slice B m d) (.int .i64 hi.e)):=lY (fun b' w' ns h q1 q2 q3 q4 q5 q6=>((h.ks.2.1.1.only (aK w' (w.heap.size+1) q1 q2 q3 q4 q5 q6) (by omega)).c6))
 have XS:=HCC.out _ _ _ SD;clear S2
 go_region_held3 (fun w'=>D6 w' (w.heap.size) lo A n c hi B m d)
  (first | with_reducible exact HPP.out _ _ _ V2 _ _ _ _ _ _ | with_reducible exact HCC.out _ _ _ V2 | with_reducible exact HCC.out _ _ _ V1 | with_reducible exact XS)
  (first
   | (go_at_call 45;refine(CE.out _ _ _ SD sd1 sd2).mono ?_;rintro e' v3 ⟨A1,n1,c1,B1,m1,d1,rfl,N1,M1,W1,o1⟩;have W1':Wk TW v3 g p false:=(by rw[← HB.out];exact W1);have V1:=((SD.only o1 W1').num M1).num N1;have u1:=V1.ns.1;have u2:=V1.ns.2.1;have u3:=V1.ns.2.2.1;have u4:=V1.ns.2.2.2.1)
   | (go_at_call 44;refine(CA.out _ _ _ _ _ _ _ _ _ V1 u3 u4 u1 u2).mono ?_;rintro e' v4 ⟨A2,n2,c2,B2,m2,d2,rfl,N2,M2,W2,o2⟩;have V2:=((V1.only o2 W2).num M2).num N2;have z1:=V2.ks.1.1;obtain⟨z1c0,z1c1,z1c2,z1c3,z1c4,z1c5⟩:=z1.c6;obtain⟨z1f0,z1f1,z1f2,z1f3,z1f4,z1f5⟩:=z1.f6;have z1l:=z1.2;have z1n:=ou z1.2;have z1n2:=oM z1.2))
 go_wp2_with fail;obtain⟨x1,x2,x3,x4⟩:=V2.give (lo:=r.lo) (hi:=r.hi) V2.ns.1 V2.ns.2.1 z1 (by omega);exact bodyPost_ret (v:=aG r.lo.neg A2 n2 c2 r.lo.e r.hi.neg B2 m2 d2 r.hi.e) (by simp[results,Tryz.results15,go_sem,z1c0,z1c1,z1c2,z1c3,z1c4,z1c5]) rfl ⟨A2,n2,c2,B2,m2,d2,rfl,x1,x2,x3,x4⟩
end
end Go.Proofs.YtmbmohibpkepdaaGreatDoor
