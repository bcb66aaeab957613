import Derived.Test.YtmbmohibpkepdaaGreatDoorPlSGEr4
set_option maxHeartbeats 2000000
open Go.Proofs.Tryz renaming prog->lY
open Bool renaming and_eq_true->mF, and_true->ou
namespace Go.Proofs.YtmbmohibpkepdaaGreatDoor
open Go.RowKit
variable {A:OA} {c n:Nat} {x:DR}
structure Fi (x:DR):Prop where
 ok:x.ok=true
 pl:aR x.neg x.m x.e=true
 b:nb x.m<=640
 e1:-3000<=x.e
theorem Fi.tq (h:Fi x):Tq 262800 x:=⟨h.ok,h.pl,by have:=h.b;omega,by have:=h.e1;omega,by have:=h.b;have:=(aV h.pl).e2;omega⟩
theorem Fi.nrm (h:Fi x):Cs x:=⟨by have:=h.b;omega,by have:=h.e1;omega⟩
theorem Fc {neg:Bool}{x:Nat->Nat}{e:Int}(hl:vs ai x n < ai^n)(h3:rc neg n x e=true):n<=10/\aj neg n x e=true/\Fi ⟨true,neg,vs ai x n,e⟩:=by
 unfold rc at h3;simp only[mF,decide_eq_true_eq]at h3;obtain⟨⟨hn,hp⟩,he⟩:=h3;have F:=aS hp
 have pl:aR neg (vs ai x n) e=true:=by rw[← mS F.cn];exact hp
 have key:∀ k,64*n<=k->nb (vs ai x n)<=k:=fun k hk=>(bi _ _).2 (Nat.lt_of_lt_of_le hl (by rw[bv,← Nat.pow_mul];exact Nat.pow_le_pow_right (by omega) (by omega)))
 exact⟨hn,hp,rfl,pl,key 640 (by omega),he⟩
def Av (x:DR):DR:=⟨x.ok,false,x.m,x.e⟩
theorem wI (x:DR):rv (Av x)=sz x:=rfl
theorem Fi.abs (h:Fi x):Fi (Av x):=⟨h.ok,by
 have:=h.pl
 show aR false x.m x.e=true
 unfold aR at *
 split at this <;> simp_all,h.b,h.e1⟩
theorem Fi.re (h:Fi x):cM x x=true ↔ sz x<=65536:=by
 obtain⟨m1,m2,m3,m4⟩:=fB
 constructor
 . intro hr
   unfold cM at hr;simp only[mF]at hr;have a:=cP (m2.more (by omega)) h.tq hr.1.1;have b:=cP h.tq (m1.more (by omega)) hr.2;rw[m4]at a;rw[m3]at b;rw[dJ]
   split <;> grind
 . exact yT h.tq (by omega)
theorem Fi.top (h:Fi x)(hs:sz x<=65536):x.e+(nb x.m:Int)<=17:=by
 rcases Nat.eq_zero_or_pos x.m with h0 | h0
 . rw[h0,aX,((aV h.pl).zero h0).1];omega
 . have e:((2^17:Nat):Rat)=131072:=rfl
   have h4:=Rat.mul_le_mul_of_nonneg_right (bW (fA h0)) (Rat.le_of_lt (dD x.e));rw[cI]at h4;have hs:(x.m:Rat)*tw x.e<=65536:=hs
   have h5:tw (((nb x.m-1:Nat):Int)+x.e) < tw ((17:Nat):Int):=by
    rw[fx,e]
    grind
   have:=Cy h5
   have:=gg h0
   omega
theorem Fi.tq4 (h:Fi x)(hs:sz x<=65536):Tq 4000 x:=⟨h.ok,h.pl,by have:=h.b;omega,by have:=h.e1;omega,by have:=h.top hs;omega⟩
theorem Fi.lone (h:Fi x):aw x x=true:=aM h.tq h.tq Rat.le_refl
theorem vc {y:DR}(h:Fi x)(k:Fi y):cM x y=(aw x y && cM x x && cM y y):=by
 obtain⟨m1,m2,m3,m4⟩:=fB;have hx:=h.lone;have hy:=k.lone;unfold cM;rw[hx,hy,ou,ou];cases h1:aw x y
 . simp
 . have r:=cP h.tq k.tq h1
   cases h2:aw jh x
   . simp
   . cases h3:aw y jf
     . simp
     . have a:=cP (m2.more (by omega)) h.tq h2
       have b:=cP k.tq (m1.more (by omega)) h3;rw[aM h.tq (m1.more (by omega)) (Rat.le_trans r b),aM (m2.more (by omega)) k.tq (Rat.le_trans a r)]
       rfl
theorem Ce {r s:DR}(hr:Tq 262800 r)(hs:Tq 262800 s)(h:cB r s<=0):rv r<=rv s:=cP hr hs (by
 unfold aw bG;unfold cB gh at h;rw[hr.ok,hs.ok]at h ⊢
 exact decide_eq_true h)
theorem Fi.cmp (h:Fi x):decide (cB (Av x) jf<=0)=cM x x:=by
 obtain⟨m1,m2,m3,m4⟩:=fB
 by_cases hs:sz x<=65536
 . rw[h.re.2 hs]
   exact decide_eq_true (kM h.abs.tq.p m1.p (by rw[m3,wI];exact hs))
 . have:cM x x=false:=by
    by_cases e:cM x x=true
    . exact absurd (h.re.1 e) hs
    . simpa using e
   rw[this]
   refine decide_eq_false fun c=>hs ?_
   have:=Ce h.abs.tq (m1.more (by omega)) c
   rw[m3,wI]at this;exact this
theorem aC.abs {w:World}(k:aC w A n c x)(h:Fi x):aC w A n c (Av x):=aC.of_num (k.num h.ok) h.abs.pl h.ok
theorem uF (w:World)(ha:aC w A n c x)(h:Fi x):Calls lY 14 #[aP x.neg A n c x.e] w (di w (cM x x)):=by
 have hm:=fB.1;obtain⟨z,hz⟩:=du (cB (Av x) jf);have hq:=h.cmp;rw[← hz]at hq;rw[← hq]
 have CC:Hid (∀ w',Below w.heap.size w w'->am w' (.slice (some ⟨w.heap.size+1,0,none⟩) 1 1) 1->Calls lY 25 #[aP false A n c x.e,aP false (some ⟨w.heap.size+1,0,none⟩) 1 1 16] w' (vx w' z true)):=Lib.hid (fun w' b k=>by
  have:=vY w' ((ha.abs h).below b) (aC.of_num (r:=jf) k hm.pl hm.ok)
  rw[h.abs.ok,← hz]at this
  exact this)
 have k:=KC.made 24 w #[.bool x.neg,.slice A n c,.int .i64 x.e];obtain⟨y0,y1,y2⟩:=k.c3;have f0:=k.fr 0;have kk:=Lib.hid (KC.made 24 w #[.bool false,.slice A n c,.int .i64 x.e]);have bb:Hid (Below w.heap.size w ((w.alloc (.cells #[.bool false,.slice A n c,.int .i64 x.e] 24)).alloc (.cells #[.int .u64 1] 51))):=Lib.hid (aB (ag w _) (ag _ _));have no:Hid (am ((w.alloc (.cells #[.bool false,.slice A n c,.int .i64 x.e] 24)).alloc (.cells #[.int .u64 1] 51)) (.slice (some ⟨w.heap.size+1,0,none⟩) 1 1) 1):=Lib.hid (iN (kV 51 _ 1 _ 1 (by unfold ai;omega) rfl (by simp)) (by omega));clear hm hz hq ha h k;go_enter Tryz.func14,Tryz.ntmps14;go_wp2_with fail;clear y0 y1 y2 f0;refine(CC.out _ bb.out no.out).mono ?_;generalize(w.alloc (.cells #[.bool false,.slice A n c,.int .i64 x.e] 24)).alloc (.cells #[.int .u64 1] 51)=w1 at *;rintro e' w2 ⟨rfl,b2⟩;have B2:=aB bb.out b2;clear CC bb no kk b2;go_wp2_with fail;go_ret;exact⟨by simp,B2⟩
theorem ij.refl {f:Nat->Rat}:ij (fun n=>f n-f n):=fun e he=>⟨0,fun n _=>by grind⟩
theorem wZ (w':World)(A:OA)(n c:Nat)(B:OA)(m d:Nat)(h:am w' (.slice A n c) 0)(k:am w' (.slice B m d) 0):Calls lY 16 #[aG false A n c 0 false B m d 0,aG false none 0 0 0 false none 0 0 0] w' (cz w') :=
 pA DR.zero DR.zero A B none none n c m d 0 0 0 0 w' h k (aq _) (aq _) (Nat.pow_pos bm) (Nat.pow_pos bm)
theorem Fd {D:DR}{x:Nat->Nat}{w:World}(hD:D=⟨true,D.neg,vs ai x n,D.e⟩)(ha:Sl w A n c x)(hf:rc D.neg n x D.e=true):Fi D/\∀ w',Below w.heap.size w w'->aC w' A n c D:=by
 obtain⟨hn,hpl,HD⟩:=Fc (bL ha.small) hf;rw[← hD]at HD;exact⟨HD,fun w' h=>⟨x,ha.below h,by omega,congrArg DR.m hD,by rw[HD.ok];exact hpl.symm⟩⟩
theorem Ap {p:Int}(h:tW p=true):16<=p/\p<=400:=by
 unfold tW at h
 simpa only[mF,decide_eq_true_eq] using h
section
variable {D:DR} {A:OA} {n c:Nat} {p p':Int} {w:World}
end
section
variable {a b D:DR} {A B E:OA} {n c m d k l:Nat} {p p':Int} {w:World}
theorem Ge (HA:Fi a)(HB:Fi b)(HD:Fi D)(Da:∀ w',Below w.heap.size w w'->aC w' A n c a)(Db:∀ w',Below w.heap.size w w'->aC w' B m d b)(Dd:∀ w',Below w.heap.size w w'->aC w' E k l D)(hp:16<=p/\p<=400)(hp':p'=p+100)(hs:cM a b=true):
 ∃ (XE XS XH YE YS YH:SRes->Prop),
  (∀ g w',Wk 38 w' g p false->bx w'->Below w.heap.size w w'->Calls lY 15 #[.pointer (some ⟨g,0,none⟩),aG a.neg A n c a.e b.neg B m d b.e] w' (fun e' w''=>∃ r,XE r/\r.bad=false/\ap 38 w' g p r e' w'')) /\
  (∀ g w',Wk 38 w' g p false->bx w'->Below w.heap.size w w'->Calls lY 20 #[.pointer (some ⟨g,0,none⟩),aG a.neg A n c a.e b.neg B m d b.e] w' (fun e' w''=>∃ r,XS r/\r.bad=false/\ap 38 w' g p r e' w'')) /\
  (∀ g w',Wk 38 w' g p false->bx w'->Below w.heap.size w w'->Calls lY 22 #[.pointer (some ⟨g,0,none⟩),aG a.neg A n c a.e b.neg B m d b.e] w' (fun e' w''=>∃ r,XH r/\r.bad=false/\ap 38 w' g p r e' w'')) /\
  (cB a D<=0->cB D b<=0 ->
  (∀ gv w',Wk 49 w' gv p' false->Below w.heap.size w w'->bx w'->Calls lY 19 #[.pointer (some ⟨gv,0,none⟩),aP D.neg E k l D.e] w' (fun e' w''=>∃ r,YE r/\r.bad=false/\ap 49 w' gv p' r e' w'')) /\
  (∀ gv w',Wk 49 w' gv p' false->Below w.heap.size w w'->bx w'->Calls lY 21 #[.pointer (some ⟨gv,0,none⟩),aP D.neg E k l D.e] w' (fun e' w''=>∃ r,YS r/\r.bad=false/\ap 49 w' gv p' r e' w'')) /\
  (∀ gv w',Wk 49 w' gv p' false->Below w.heap.size w w'->bx w'->Calls lY 23 #[.pointer (some ⟨gv,0,none⟩),aP D.neg E k l D.e] w' (fun e' w''=>∃ r,YH r/\r.bad=false/\ap 49 w' gv p' r e' w'')) /\
  (∀ r1 r2 w' A1 n1 c1 B1 m1 d1 A2 n2 c2 B2 m2 d2,XE r1->YE r2->am w' (.slice A1 n1 c1) r1.lo.m->am w' (.slice B1 m1 d1) r1.hi.m->am w' (.slice A2 n2 c2) r2.lo.m->am w' (.slice B2 m2 d2) r2.hi.m->Calls lY 26 #[aG r1.lo.neg A1 n1 c1 r1.lo.e r1.hi.neg B1 m1 d1 r1.hi.e,aG r2.lo.neg A2 n2 c2 r2.lo.e r2.hi.neg B2 m2 d2 r2.hi.e] w' (cz w')) /\
  (∀ r1 r2 w' A1 n1 c1 B1 m1 d1 A2 n2 c2 B2 m2 d2,XS r1->YS r2->am w' (.slice A1 n1 c1) r1.lo.m->am w' (.slice B1 m1 d1) r1.hi.m->am w' (.slice A2 n2 c2) r2.lo.m->am w' (.slice B2 m2 d2) r2.hi.m->Calls lY 26 #[aG r1.lo.neg A1 n1 c1 r1.lo.e r1.hi.neg B1 m1 d1 r1.hi.e,aG r2.lo.neg A2 n2 c2 r2.lo.e r2.hi.neg B2 m2 d2 r2.hi.e] w' (cz w')) /\
  (∀ r1 r2 w' A1 n1 c1 B1 m1 d1 A2 n2 c2 B2 m2 d2,XH r1->YH r2->am w' (.slice A1 n1 c1) r1.lo.m->am w' (.slice B1 m1 d1) r1.hi.m->am w' (.slice A2 n2 c2) r2.lo.m->am w' (.slice B2 m2 d2) r2.hi.m->Calls lY 26 #[aG r1.lo.neg A1 n1 c1 r1.lo.e r1.hi.neg B1 m1 d1 r1.hi.e,aG r2.lo.neg A2 n2 c2 r2.lo.e r2.hi.neg B2 m2 d2 r2.hi.e] w' (cz w'))):=by
 obtain⟨P,hP⟩:∃ P:Nat,p=(P:Int):=⟨p.toNat,by omega⟩;subst hP
 have hB:∀ q,jw 131080 q:=fun q=>.inl (by omega)
 have hp':p'=((P+100:Nat):Int):=by omega
 refine⟨fun r=>fu P 171080 r (aW (rv a)) (aW (rv b)) (aw b a),fun r=>fu P 171080 r (fG (rv a)) (fG (rv b)) (aw b a),fun r=>uf P 171080 r a b (aw b a),fun r=>Rq 205000 r (aW (rv D)),fun r=>Rq 220010 r (fG (rv D)),fun r=>Rq 220010 r (eJ (rv D)),?_,?_,?_,fun lo hi=>?_⟩
 . intro g w' k t h
   have:=tE (lo:=a) (hi:=b) g P 131080 w' k (Da w' h) (Db w' h) hs HA.nrm HB.nrm t (by omega) (by omega) (hB _) (hB _) (by omega)
   exact this.mono fun e' w'' ⟨r,h,s⟩=>⟨r,h,h.q.bad,s⟩
 . intro g w' k t h
   have:=xR (lo:=a) (hi:=b) g P 131080 w' k (Da w' h) (Db w' h) hs HA.nrm HB.nrm t (by omega) (by omega) (hB _) (hB _) (by omega)
   exact this.mono fun e' w'' ⟨r,h,s⟩=>⟨r,h,h.q.bad,s⟩
 . intro g w' k t h
   have:=xS (lo:=a) (hi:=b) g P 131080 w' k (Da w' h) (Db w' h) hs HA.nrm HB.nrm t (by omega) (by omega) (hB _) (hB _) (by omega)
   exact this.mono fun e' w'' ⟨r,h,s⟩=>⟨r,h,h.q.bad,s⟩
 have lo:=Ce HA.tq HD.tq lo;have hi:=Ce HD.tq HB.tq hi;rw[vc HA HB]at hs;simp only[mF]at hs;have sa:=cH (HA.re.1 hs.1.2);have sb:=cH (HB.re.1 hs.2)
 have SD:sz D<=65536:=by
  rw[dJ]
  split <;> grind
 refine⟨?_,?_,?_,?_,?_,?_⟩
 . intro gv w' k b t
   have:=nG (d:=D) gv (P+100) w' (by rw[← hp'];exact k) (Dd w' b) (HD.tq4 SD) (by have:=HD.b;omega) HD.e1 (fun _=>by have:=HD.top SD;unfold dI;omega) t (by omega) (by omega)
   rw[← hp']at this
   exact this.mono fun e' w'' ⟨r,h,_,s⟩=>⟨r,h,h.q.bad,s⟩
 . intro gv w' k b t
   have:=xc (d:=D) gv (P+100) w' (by rw[← hp'];exact k) (Dd w' b) (HD.tq4 SD) (by have:=HD.b;omega) HD.e1 (fun _=>by have:=HD.top SD;unfold dI;omega) t (by omega) (by omega)
   rw[← hp']at this
   exact this.mono fun e' w'' ⟨r,h,s⟩=>⟨r,h,h.q.bad,s⟩
 . intro gv w' k b t
   have:=xm (d:=D) gv (P+100) w' (by rw[← hp'];exact k) (Dd w' b) (HD.tq4 SD) (by have:=HD.b;omega) HD.e1 (fun _=>by have:=HD.top SD;unfold dI;omega) t (by omega) (by omega)
   rw[← hp']at this
   exact this.mono fun e' w'' ⟨r,h,s⟩=>⟨r,h,h.q.bad,s⟩
 . intro r1 r2 w' A1 n1 c1 B1 m1 d1 A2 n2 c2 B2 m2 d2 X Y h1 h2 h3 h4
   have G:=X.q.good;have G':=Y.q.good;obtain⟨g1,g2⟩:=BN X.q Y.q (X.hl.between X.hh (wD lo) (wD hi)) Y.hl ij.refl;exact zF w' (aC.of_num h1 G.l2 G.l1) (aC.of_num h2 G.h2 G.h1) (aC.of_num h3 G'.l2 G'.l1) (aC.of_num h4 G'.h2 G'.h1) G.l1 G.h1 G'.l1 G'.h1 g1 g2
 . intro r1 r2 w' A1 n1 c1 B1 m1 d1 A2 n2 c2 B2 m2 d2 X Y h1 h2 h3 h4
   have G:=X.q.good;have G':=Y.q.good;obtain⟨g1,g2⟩:=BN X.q Y.q (X.hl.between X.hh (FY lo) (FY hi)) Y.hl ij.refl;exact zF w' (aC.of_num h1 G.l2 G.l1) (aC.of_num h2 G.h2 G.h1) (aC.of_num h3 G'.l2 G'.l1) (aC.of_num h4 G'.h2 G'.h1) G.l1 G.h1 G'.l1 G'.h1 g1 g2
 . intro r1 r2 w' A1 n1 c1 B1 m1 d1 A2 n2 c2 B2 m2 d2 X Y h1 h2 h3 h4
   have G:=X.q.good;have G':=Y.q.good;obtain⟨g1,g2⟩:=BN X.q Y.q (X.hl _ lo hi) Y.hl ij.refl;exact zF w' (aC.of_num h1 G.l2 G.l1) (aC.of_num h2 G.h2 G.h1) (aC.of_num h3 G'.l2 G'.l1) (aC.of_num h4 G'.h2 G'.h1) G.l1 G.h1 G'.l1 G'.h1 g1 g2
theorem Gb {lo hi:DR}{B:OA}{m d:Nat}(w:World)(ha:aC w A n c lo)(hb:aC w B m d hi):Calls lY 24 #[aG lo.neg A n c lo.e hi.neg B m d hi.e] w (di w (aw lo hi)):=by
 obtain⟨x,a1,a2,a3,a4⟩:=ha;obtain⟨y,b1,b2,b3,b4⟩:=hb;have h:=gD lo.neg hi.neg A B n c m d x y lo.e hi.e w a1 b1 a2 b2;unfold aw;rw[a3,a4,b3,b4];exact h
theorem Gi (q:Bool)(hq:q=cM a b)(HA:Fi a)(HB:Fi b)(HD:Fi D)(Da:∀ w',Below w.heap.size w w'->aC w' A n c a)(Db:∀ w',Below w.heap.size w w'->aC w' B m d b)(Dd:∀ w',Below w.heap.size w w'->aC w' E k l D)(hp:16<=p/\p<=400)(hp':p'=p+100):
 ∃ (X1 X2 X3:SRes->Prop),
  (∀ g w',Wk 38 w' g p false->bx w'->Below w.heap.size w w'->Calls lY 15 #[.pointer (some ⟨g,0,none⟩),aG a.neg A n c a.e b.neg B m d b.e] w' (fun e' w''=>∃ r,X1 r/\r.bad=(!q)/\ap 38 w' g p r e' w'')) /\
  (∀ g w',Wk 38 w' g p (!q)->bx w'->Below w.heap.size w w'->Calls lY 20 #[.pointer (some ⟨g,0,none⟩),aG a.neg A n c a.e b.neg B m d b.e] w' (fun e' w''=>∃ r,X2 r/\r.bad=(!q)/\ap 38 w' g p r e' w'')) /\
  (∀ g w',Wk 38 w' g p (!q)->bx w'->Below w.heap.size w w'->Calls lY 22 #[.pointer (some ⟨g,0,none⟩),aG a.neg A n c a.e b.neg B m d b.e] w' (fun e' w''=>∃ r,X3 r/\r.bad=(!q)/\ap 38 w' g p r e' w'')) /\
  (q=false->(∀ r,X1 r->r=SRes.no)/\(∀ r,X3 r->r=SRes.no)) /\
  (q=true->cB a D<=0->cB D b<=0->∃ (YE YS YH:SRes->Prop),
  (∀ gv w',Wk 49 w' gv p' false->Below w.heap.size w w'->bx w'->Calls lY 19 #[.pointer (some ⟨gv,0,none⟩),aP D.neg E k l D.e] w' (fun e' w''=>∃ r,YE r/\r.bad=false/\ap 49 w' gv p' r e' w'')) /\
  (∀ gv w',Wk 49 w' gv p' false->Below w.heap.size w w'->bx w'->Calls lY 21 #[.pointer (some ⟨gv,0,none⟩),aP D.neg E k l D.e] w' (fun e' w''=>∃ r,YS r/\r.bad=false/\ap 49 w' gv p' r e' w'')) /\
  (∀ gv w',Wk 49 w' gv p' false->Below w.heap.size w w'->bx w'->Calls lY 23 #[.pointer (some ⟨gv,0,none⟩),aP D.neg E k l D.e] w' (fun e' w''=>∃ r,YH r/\r.bad=false/\ap 49 w' gv p' r e' w'')) /\
  (∀ r1 r2 w' A1 n1 c1 B1 m1 d1 A2 n2 c2 B2 m2 d2,X1 r1->YE r2->am w' (.slice A1 n1 c1) r1.lo.m->am w' (.slice B1 m1 d1) r1.hi.m->am w' (.slice A2 n2 c2) r2.lo.m->am w' (.slice B2 m2 d2) r2.hi.m->Calls lY 26 #[aG r1.lo.neg A1 n1 c1 r1.lo.e r1.hi.neg B1 m1 d1 r1.hi.e,aG r2.lo.neg A2 n2 c2 r2.lo.e r2.hi.neg B2 m2 d2 r2.hi.e] w' (cz w')) /\
  (∀ r1 r2 w' A1 n1 c1 B1 m1 d1 A2 n2 c2 B2 m2 d2,X2 r1->YS r2->am w' (.slice A1 n1 c1) r1.lo.m->am w' (.slice B1 m1 d1) r1.hi.m->am w' (.slice A2 n2 c2) r2.lo.m->am w' (.slice B2 m2 d2) r2.hi.m->Calls lY 26 #[aG r1.lo.neg A1 n1 c1 r1.lo.e r1.hi.neg B1 m1 d1 r1.hi.e,aG r2.lo.neg A2 n2 c2 r2.lo.e r2.hi.neg B2 m2 d2 r2.hi.e] w' (cz w')) /\
  (∀ r1 r2 w' A1 n1 c1 B1 m1 d1 A2 n2 c2 B2 m2 d2,X3 r1->YH r2->am w' (.slice A1 n1 c1) r1.lo.m->am w' (.slice B1 m1 d1) r1.hi.m->am w' (.slice A2 n2 c2) r2.lo.m->am w' (.slice B2 m2 d2) r2.hi.m->Calls lY 26 #[aG r1.lo.neg A1 n1 c1 r1.lo.e r1.hi.neg B1 m1 d1 r1.hi.e,aG r2.lo.neg A2 n2 c2 r2.lo.e r2.hi.neg B2 m2 d2 r2.hi.e] w' (cz w'))):=by
 cases q
 . refine⟨fun r=>r=SRes.no,fun r=>r=SRes.no,fun r=>r=SRes.no,?_,?_,?_,fun _=>⟨fun _ h=>h,fun _ h=>h⟩,fun h=>by cases h⟩
   . intro g w' k t h
     exact(BZ g p false w' k (Da w' h) (Db w' h) (by omega) (by omega) (by rw[← hq];rfl)).mono fun e' w'' s=>⟨_,rfl,rfl,s⟩
   . intro g w' k t h
     exact(Gc g p true w' k (Da w' h) (Db w' h) (by omega) (by omega) rfl).mono fun e' w'' s=>⟨_,rfl,rfl,s⟩
   . intro g w' k t h
     exact(Gd g p true w' k (Da w' h) (Db w' h) (by omega) (by omega) rfl).mono fun e' w'' s=>⟨_,rfl,rfl,s⟩
 . obtain⟨XE,XS,XH,YE,YS,YH,c1,c2,c3,h⟩:=Ge HA HB HD Da Db Dd hp hp' hq.symm
   exact⟨XE,XS,XH,c1,c2,c3,(fun h=>by cases h),fun _ h1 h2=>⟨YE,YS,YH,h h1 h2⟩⟩
end
end Go.Proofs.YtmbmohibpkepdaaGreatDoor
