import Derived.Test.YtmbmohibpkepdaaGreatDoorPlSGEx12
import Derived.Test.YtmbmohibpkepdaaGreatDoorPlSGSp14
open Rat renaming mul_le_mul_of_nonneg_right->lY, mul_le_mul_of_nonneg_left->mF, le_of_lt->ou, mul_nonneg->oM, le_trans->oY, le_refl->qK, le_of_mul_le_mul_right->yb, inv_mul_cancel->EM, natCast_nonneg->Gn, mul_pos->Gp, mul_assoc->Gr, mul_one->Gu, zero_mul->Gx, one_mul->Gy
open Go.Proofs.Tryz renaming prog->tz
open Go.Region renaming wanted->Bl, noSelect->DE, ready->DF, free->Gl, Mode->Gz
open Int renaming toNat_natCast->Bx, natCast_nonneg->Gs, lt_or_le->Gv
open Option renaming map_eq_some_iff->Gk
open Nat renaming pos_of_ne_zero->Gm, pow_le_pow_right->Gq, pow_succ->Gt, lt_or_ge->Gw
namespace Go.Proofs.YtmbmohibpkepdaaGreatDoor
open Go.RowKit
variable {A:OA} {B B' p:Int} {P c d i m n:Nat} {T:TypeId} {Y a lo q t x y:Rat} {ad:Addr} {c0 c1 c2 c3 c4 c5:Value} {r s:SRes} {vals:Array Value} {w:World} {xd:DR}
structure Rq (B:Int)(r:SRes)(s:Nat->Rat):Prop where
 q:Sq B r
 n1:nb r.lo.m<=8000
 n2:nb r.hi.m<=8000
 hl:Hl (rv r.lo) (rv r.hi) s
theorem Rq.more {s:Nat->Rat}(h:Rq B r s)(hb:B<=B'):Rq B' r s:=⟨h.q.more hb,h.n1,h.n2,h.hl⟩
theorem Rq.congr {s t:Nat->Rat}(h:Rq B r s)(k:ij (fun n=>s n-t n)):Rq B r t:=⟨h.q,h.n1,h.n2,h.hl.congr k⟩
theorem wH (hp1:1<=p)(hp2:p<=8192)(h:Sq B r)(k:Sq B s)(hB:B<=260000)(hB0:0<=B):nb (dC p false r.lo r.hi s.lo s.hi).lo.m<=p.toNat+1/\nb (dC p false r.lo r.hi s.lo s.hi).hi.m<=p.toNat+1:=by
 have b1:=mL h.l k.l;have b2:=mL h.h k.h;have c1:=jW (neg:=(bS r.lo s.lo).neg) (V:=(bS r.lo s.lo).m) (e:=(bS r.lo s.lo).e) (B:=B+1) (P:=p.toNat) false (by omega) (by omega) (by omega) (by omega) (by omega) (by omega);have c2:=jW (neg:=(bS r.hi s.hi).neg) (V:=(bS r.hi s.hi).m) (e:=(bS r.hi s.hi).e) (B:=B+1) (P:=p.toNat) true (by omega) (by omega) (by omega) (by omega) (by omega) (by omega)
 have hb:dL p false r.lo r.hi s.lo s.hi=false:=by
  unfold dL;rw[aM h.l h.h h.le,aM k.l k.h k.le,gc hp1 hp2]
  rfl
 have hE:dC p false r.lo r.hi s.lo s.hi=⟨false,cj (bS r.lo s.lo).neg (bS r.lo s.lo).m (bS r.lo s.lo).e false p.toNat false,cj (bS r.hi s.hi).neg (bS r.hi s.hi).m (bS r.hi s.hi).e false p.toNat true⟩:=by
  unfold dC il cG j6;rw[hb,c1.1.ok,c2.1.ok]
  rfl
 rw[hE];exact⟨c1.2.1,c2.2.1⟩
theorem Ev (hp1:1<=p)(hp2:p<=8192)(h:Sq B r)(k:Sq B s)(hB:B<=260000)(hB0:0<=B):nb (eT p false r.lo r.hi s.lo s.hi).lo.m<=p.toNat+1/\nb (eT p false r.lo r.hi s.lo s.hi).hi.m<=p.toNat+1:=by
 obtain⟨n1,n2,n3,n4⟩:=wh hp1 hp2 k hB0
 have:=wH hp1 hp2 h n2 hB hB0
 unfold eT;rw[n2.bad];rw[n1]at this ⊢;exact this
structure Qr (L H a b c d:Rat):Prop where
 l1:L*c<=a
 l2:L*d<=a
 l3:L*c<=b
 l4:L*d<=b
 u1:a<=H*c
 u2:a<=H*d
 u3:b<=H*c
 u4:b<=H*d
theorem Ae {C:Int}(hp1:1<=p)(hp2:p<=8192)(h:Sq B r)(k:Sq C s)(hs:0 < rv s.lo)(hB:B+C+p<=260000)(hB0:0<=B)(hC0:0<=C):
 Sq (B+C+p+2) (eR p false r.lo r.hi s.lo s.hi)/\nb (eR p false r.lo r.hi s.lo s.hi).lo.m<=p.toNat+1/\nb (eR p false r.lo r.hi s.lo s.hi).hi.m<=p.toNat+1 /\
 Qr (rv (eR p false r.lo r.hi s.lo s.hi).lo) (rv (eR p false r.lo r.hi s.lo s.hi).hi) (rv r.lo) (rv r.hi) (rv s.lo) (rv s.hi) /\
 (∃ x y,(x=rv r.lo\/x=rv r.hi)/\(y=rv s.lo\/y=rv s.hi)/\Cd (uP p.toNat) x (rv (eR p false r.lo r.hi s.lo s.hi).lo*y)) /\
 (∃ x y,(x=rv r.lo\/x=rv r.hi)/\(y=rv s.lo\/y=rv s.hi)/\Cu (uP p.toNat) x (rv (eR p false r.lo r.hi s.lo s.hi).hi*y)):=by
 have hsh:0 < rv s.hi:=by have:=k.le;grind
 obtain⟨a1,a2⟩:=ke hs;obtain⟨b1,b2⟩:=ke hsh
 have hb:dL p false r.lo r.hi s.lo s.hi=false:=by
  unfold dL;rw[aM h.l h.h h.le,aM k.l k.h k.le,gc hp1 hp2]
  rfl
 have hfit:=zT hp1 hp2
 have E1:=fun j=>(ri (P:=fun d=>Tq B d/\(rv d=rv r.lo\/rv d=rv r.hi)) (lo:=r.lo) (hi:=r.hi) ⟨h.l,.inl rfl⟩ ⟨h.h,.inr rfl⟩ j).1
 have E2:=fun j=>(ri (P:=fun d=>Tq C d/\d.neg=false/\0 < d.m/\(rv d=rv s.lo\/rv d=rv s.hi)/\0 < rv d) (lo:=s.lo) (hi:=s.hi) ⟨k.l,a1,a2,.inl rfl,hs⟩ ⟨k.h,b1,b2,.inr rfl,hsh⟩ j).2
 have hq:∀ up j,cq p up r.lo r.hi s.lo s.hi j=qN (mE r.lo r.hi j) (mD s.lo s.hi j) p.toNat up:=fun up j=>nR up (E1 j).1.ok (E2 j).1.ok (E2 j).2.2.1 hfit
 have F:=fun up j=>CJ (P:=p.toNat) up (by omega) (by omega) (E1 j).1 (E2 j).1 (E2 j).2.1 (E2 j).2.2.1 (by omega) hB0 hC0
 have FT:∀ up j,Tq (B+C+p+2) (cq p up r.lo r.hi s.lo s.hi j):=fun up j=>by rw[hq];exact(F up j).1.more (by omega)
 have U:∀ up j,j < 4->Up (cq p up r.lo r.hi s.lo s.hi j) (-(B+C+p+2)):=fun up j _=>(FT up j).up (Int.le_refl _)
 obtain⟨⟨i,hi,ei⟩,L⟩:=pJ (U false);obtain⟨⟨i',hi',ei'⟩,H⟩:=nQ (U true)
 have Ll:∀ j,j < 4->rv (bp (cq p false r.lo r.hi s.lo s.hi) false)<=rv (cq p false r.lo r.hi s.lo s.hi j):=fun j hj=>(iV (.inr (by rw[ei];exact(FT _ _).e1)) (.inr (FT _ _).e1)).2 (L j hj)
 have Hh:∀ j,j < 4->rv (cq p true r.lo r.hi s.lo s.hi j)<=rv (bp (cq p true r.lo r.hi s.lo s.hi) true):=fun j hj=>(iV (.inr (FT _ _).e1) (.inr (by rw[ei'];exact(FT _ _).e1))).2 (H j hj)
 have lo4:∀ j,j < 4->rv (bp (cq p false r.lo r.hi s.lo s.hi) false)*rv (mD s.lo s.hi j)<=rv (mE r.lo r.hi j):=fun j hj=>by
  have h1:=((F false j).2.2.1 rfl).le;have h2:=Ll j hj;rw[hq]at h2
  have:=lY h2 (ou (E2 j).2.2.2.2)
  exact oY this h1
 have hi4:∀ j,j < 4->rv (mE r.lo r.hi j)<=rv (bp (cq p true r.lo r.hi s.lo s.hi) true)*rv (mD s.lo s.hi j):=fun j hj=>by
  have h1:=((F true j).2.2.2 rfl).le;have h2:=Hh j hj;rw[hq]at h2
  have:=lY h2 (ou (E2 j).2.2.2.2)
  exact oY h1 this
 have hok:∀ up,uk (cq p up r.lo r.hi s.lo s.hi)=true:=fun up=>nX (fun j _=>(FT up j).ok)
 have hE:eR p false r.lo r.hi s.lo s.hi=⟨false,bp (cq p false r.lo r.hi s.lo s.hi) false,bp (cq p true r.lo r.hi s.lo s.hi) true⟩:=by
  unfold eR;rw[hb,sk k hs,hok,hok]
  rfl
 have Q:Qr (rv (bp (cq p false r.lo r.hi s.lo s.hi) false)) (rv (bp (cq p true r.lo r.hi s.lo s.hi) true)) (rv r.lo) (rv r.hi) (rv s.lo) (rv s.hi):=by
  have x0:=lo4 0 (by omega);have x1:=lo4 1 (by omega);have x2:=lo4 2 (by omega);have x3:=lo4 3 (by omega);have y0:=hi4 0 (by omega);have y1:=hi4 1 (by omega);have y2:=hi4 2 (by omega);have y3:=hi4 3 (by omega);simp only[mE,mD]at x0 x1 x2 x3 y0 y1 y2 y3
  constructor <;> assumption
 rw[hE];refine⟨⟨rfl,by rw[show(⟨false,bp (cq p false r.lo r.hi s.lo s.hi) false,bp (cq p true r.lo r.hi s.lo s.hi) true⟩:SRes).lo=cq p false r.lo r.hi s.lo s.hi i from ei];exact FT _ _,by rw[show(⟨false,bp (cq p false r.lo r.hi s.lo s.hi) false,bp (cq p true r.lo r.hi s.lo s.hi) true⟩:SRes).hi=cq p true r.lo r.hi s.lo s.hi i' from ei'];exact FT _ _,?_⟩,?_,?_,Q,?_,?_⟩
 . show rv (bp _ false)<=rv (bp _ true)
   have h1:=Q.l1;have h2:=Q.u1;exact yb (oY h1 h2) hs
 . show nb (bp _ false).m<=_
   rw[ei,hq];exact(F false i).2.1
 . show nb (bp _ true).m<=_
   rw[ei',hq];exact(F true i').2.1
 . refine⟨_,_,(E1 i).2,(E2 i).2.2.2.1,?_⟩
   show Cd _ _ (rv (bp _ false)*_)
   rw[ei,hq];exact(F false i).2.2.1 rfl
 . refine⟨_,_,(E1 i').2,(E2 i').2.2.2.1,?_⟩
   show Cu _ _ (rv (bp _ true)*_)
   rw[ei',hq];exact(F true i').2.2.2 rfl
theorem DJ {L H b c d:Rat}{f g t:Nat->Rat}(hf:Hl a b f)(hg:Hl c d g)(hc:0 < c)(ht:ij (fun n=>g n*t n-1))(q:Qr L H a b c d):Hl L H (fun n=>f n*t n):=by
 have hd:0 < d:=by have:=hg.le;grind
 have k:=hg.inv (L:=d⁻¹) (H:=c⁻¹) hc ht (by rw[EM _ (by grind)];exact qK) (by rw[EM _ (by grind)];exact qK)
 have cv:∀ x y z:Rat,0 < y->x*y<=z->x<=z*y⁻¹:=fun x y z hy h=>by
  refine yb (c:=y) ?_ hy;rw[Gr,EM _ (by grind),Gu];exact h
 have cw:∀ x y z:Rat,0 < y->z<=x*y->z*y⁻¹<=x:=fun x y z hy h=>by
  refine yb (c:=y) ?_ hy;rw[Gr,EM _ (by grind),Gu];exact h
 exact hf.mul k (cv _ _ _ hd q.l2) (cv _ _ _ hc q.l1) (cv _ _ _ hd q.l4) (cv _ _ _ hc q.l3) (cw _ _ _ hd q.u2) (cw _ _ _ hc q.u1) (cw _ _ _ hd q.u4) (cw _ _ _ hc q.u3)
section
variable {p B C:Int} {r s:SRes} {f g:Nat->Rat}
theorem Rq.mul (hp1:1<=p)(hp2:p<=7000)(h:Rq B r f)(k:Rq B s g)(hB:2*B<=260000)(hB0:0<=B):Rq (2*B+1) (eu p false r.lo r.hi s.lo s.hi) (fun n=>f n*g n):=by
 obtain⟨q,n1,n2,L,H,M,c,d⟩:=qX hp1 (by omega) h.q k.q h.n1 h.n2 k.n1 k.n2 hB hB0;exact⟨q,by omega,by omega,(h.hl.mul k.hl M.l1 M.l2 M.l3 M.l4 M.u1 M.u2 M.u3 M.u4).mono c.le d.le⟩
theorem Rq.add (hp1:1<=p)(hp2:p<=7000)(h:Rq B r f)(k:Rq B s g)(hB:B<=260000)(hB0:0<=B):Rq (B+2) (dC p false r.lo r.hi s.lo s.hi) (fun n=>f n+g n):=by
 obtain⟨q,c,d⟩:=ql hp1 (by omega) h.q k.q hB hB0;have n:=wH hp1 (by omega) h.q k.q hB hB0;exact⟨q,by omega,by omega,(h.hl.add k.hl).mono c.le d.le⟩
theorem Rq.sub (hp1:1<=p)(hp2:p<=7000)(h:Rq B r f)(k:Rq B s g)(hB:B<=260000)(hB0:0<=B):Rq (B+2) (eT p false r.lo r.hi s.lo s.hi) (fun n=>f n-g n):=by
 obtain⟨q,c,d⟩:=vO hp1 (by omega) h.q k.q hB hB0;have n:=Ev hp1 (by omega) h.q k.q hB hB0;exact⟨q,by omega,by omega,(h.hl.sub k.hl).mono c.le d.le⟩
theorem Rq.div {t:Nat->Rat}(hp1:1<=p)(hp2:p<=7000)(h:Rq B r f)(k:Rq C s g)(hs:0 < rv s.lo)(ht:ij (fun n=>g n*t n-1))(hB:B+C+p<=260000)(hB0:0<=B)(hC0:0<=C):Rq (B+C+p+2) (eR p false r.lo r.hi s.lo s.hi) (fun n=>f n*t n):=by
 obtain⟨q,n1,n2,Q,_,_⟩:=Ae hp1 (by omega) h.q k.q hs hB hB0 hC0;exact⟨q,by omega,by omega,DJ h.hl k.hl hs ht Q⟩
theorem Rq.out (hp1:1<=p)(hp2:p<=7000)(h:Rq B r f)(hB:B<=260000)(hB0:0<=B):Rq (B+1) (eI p false r.lo r.hi) f:=by
 obtain⟨q,n1,n2,c,d⟩:=sQ hp1 (by omega) h.q hB hB0;exact⟨q,by omega,by omega,h.hl.mono c.le d.le⟩
theorem Rq.scale {k:Int}(hp1:1<=p)(hp2:p<=7000)(h:Rq B r f)(hk:-100000<=k/\k<=100000)(h1:B+k<=B')(h2:B-k<=B')(h3:0<=B')(h4:B'<=262144):Rq B' (bE p false r.lo r.hi k) (fun n=>f n*tp k):=by
 obtain⟨e,q,c,d⟩:=mR hp1 (by omega) h.q hk h1 h2 h3 h4;have l1:=h.q.l.e1;have l2:=h.q.l.e2;have l3:=h.q.l.b;have u1:=h.q.h.e1;have u2:=h.q.h.e2;have u3:=h.q.h.b;have m1:=(jP (neg:=r.lo.neg) (V:=r.lo.m) (e:=r.lo.e+k) (B:=B') (by omega) (by omega) l3 h4 h3).2.2;have m2:=(jP (neg:=r.hi.neg) (V:=r.hi.m) (e:=r.hi.e+k) (B:=B') (by omega) (by omega) u3 h4 h3).2.2;have n1:=h.n1;have n2:=h.n2;refine⟨q,by rw[e];show nb (bH _ _ _).m<=8000;omega,by rw[e];show nb (bH _ _ _).m<=8000;omega,?_⟩;rw[c,d]
 have:=co k
 have P:=Hl.point (tp k);have hle:=h.hl.le;have le:=lY hle (ou this);exact h.hl.mul P qK qK le le le le qK qK
theorem Rq.pt {d:DR}(h:Tq B d)(hn:nb d.m<=8000):Rq B ⟨false,d,d⟩ (fun _=>rv d):=⟨⟨rfl,h,h,qK⟩,hn,hn,Hl.point _⟩
end
theorem yr {a b:Int}(h:tp a<=tp b):a<=b:=by
 rcases Gv b a with h1 | h1
 . exfalso
   have h2:=dj (show b+1<=a by omega);rw[bV,show tp 1=2 from rfl]at h2
   have:=co b
   grind
 . exact h1
theorem jy {X Y:Int}{r:DR}(h:Tq B r)(hn:nb r.m<=n)(hlow:rv r=0\/tp (-X)<=sz r)(hup:sz r<=tp Y)(hX:X+(n:Int)+1<=B')(hY:Y+1<=B')(h0:0<=B'):Tq B' r:=by
 rcases Nat.eq_zero_or_pos r.m with hz | hp
 . have he:=(h.pr.zero hz).1
   refine⟨h.ok,h.pl,h.b,by omega,?_⟩;rw[he,hz,aX];omega
 . have h1:(r.m:Rat) < ((2^nb r.m:Nat):Rat):=by exact_mod_cast dZ r.m
   have h2:((2^(nb r.m-1):Nat):Rat)<=(r.m:Rat):=by exact_mod_cast fA hp
   have hpos:=co r.e;have hsz:sz r=(r.m:Rat)*tp r.e:=rfl;have hnb:=gg hp
   have u1:sz r < tp ((nb r.m:Int)+r.e):=by
    rw[bV,dH,hsz];exact Rat.mul_lt_mul_of_pos_right h1 hpos
   have u2:tp ((nb r.m:Int)-1+r.e)<=sz r:=by
    rw[bV,show(nb r.m:Int)-1=((nb r.m-1:Nat):Int) by omega,dH,hsz];exact lY h2 (ou hpos)
   have k1:-X < (nb r.m:Int)+r.e:=by
    rcases hlow with hl | hl
    . exfalso
      have hs:=nv (x:=r) (by omega)
      have:=dJ r
      rw[hl]at this
      grind
    . exact Et (by grind)
   have k2:(nb r.m:Int)-1+r.e<=Y:=yr (by grind);exact⟨h.ok,h.pl,h.b,by omega,by omega⟩
structure Nr (q a lo hi:Rat):Prop where
 l:lo<=q
 h:q<=hi
 dl:q-a<=lo
 dh:hi<=q+a
theorem Nr.abs {hi:Rat}(h:Nr q a lo hi)(k1:-t<=q)(k2:q<=t)(hx:x=lo\/x=hi):-(t+a)<=x/\x<=t+a/\-a<=x-q/\x-q<=a:=by
 have h1:=h.l;have h2:=h.h;have h3:=h.dl;have h4:=h.dh
 rcases hx with rfl | rfl <;> refine⟨?_,?_,?_,?_⟩ <;> grind
theorem lr {u:Rat}(h:Cd u x y)(h1:-t<=x)(h2:x<=t)(hu:0<=u):x-u*t<=y:=by
 rcases bT 0 x with h0 | h0
 . have k:=h.pos h0
   have:=mF h2 hu
   grind
 . have k:=h.neg h0
   have:=mF (show -x<=t by grind) hu
   grind
theorem cS {u:Rat}(h:Cu u x y)(h1:-t<=x)(h2:x<=t)(hu:0<=u):y<=x+u*t:=by
 have:=lr h.flip (t:=t) (by grind) (by grind) hu
 grind
theorem tM (h1:-a<=lo-q)(h2:lo-q<=a)(k1:-Y<=y)(k2:y<=Y):q*y-a*Y<=lo*y/\lo*y<=q*y+a*Y:=by
 have:=gm h1 h2 k1 k2
 grind
theorem wN {dk:DR}{k q' t':Rat}(hp1:1<=p)(hp2:p<=7000)(h:Sq 20000 r)(n1:nb r.lo.m<=8000)(n2:nb r.hi.m<=8000)(N:Nr q (a*t) (rv r.lo) (rv r.hi))(k1:-t<=q)(k2:q<=t)(ha0:0<=a)(ha:a<=1/2)(hu:uP p.toNat<=1/8)
 (hx:Tq 20000 xd) (hxn:nb xd.m<=8000) (hxy:rv xd=y) (y1:-Y<=y) (y2:y<=Y) (hd:Tq 64 dk) (hdk:rv dk=k) (hk:0 < k) (e:q'*k=q*y) (e':t'*k=t*Y) :
 Sq 47100 (eR p false (eu p false r.lo r.hi xd xd).lo (eu p false r.lo r.hi xd xd).hi dk dk)/\(eu p false r.lo r.hi xd xd).bad=false /\
 nb (eR p false (eu p false r.lo r.hi xd xd).lo (eu p false r.lo r.hi xd xd).hi dk dk).lo.m<=p.toNat+1/\nb (eR p false (eu p false r.lo r.hi xd xd).lo (eu p false r.lo r.hi xd xd).hi dk dk).hi.m<=p.toNat+1 /\
 Nr q' ((a+4*uP p.toNat)*t') (rv (eR p false (eu p false r.lo r.hi xd xd).lo (eu p false r.lo r.hi xd xd).hi dk dk).lo) (rv (eR p false (eu p false r.lo r.hi xd xd).lo (eu p false r.lo r.hi xd xd).hi dk dk).hi):=by
 have sx:Sq 20000 ⟨false,xd,xd⟩:=⟨rfl,hx,hx,qK⟩;have sd:Sq 64 ⟨false,dk,dk⟩:=⟨rfl,hd,hd,qK⟩;obtain⟨mq,m1,m2,L,H,M,c,d⟩:=qX hp1 (by omega) h sx n1 n2 hxn hxn (by omega) (by omega)
 dsimp only at mq m1 m2 M c d
 obtain⟨dq,d1,d2,Q,⟨x1,z1,hx1,hz1,c1⟩,x2,z2,hx2,hz2,c2⟩:=Ae hp1 (by omega) mq sd (by show 0 < rv dk;rw[hdk];exact hk) (by omega) (by omega) (by omega)
 dsimp only at dq d1 d2 Q hz1 hz2 c1 c2
 have u0:=ou (cD p.toNat);generalize uP p.toNat=u at *;generalize eu p false r.lo r.hi xd xd=m at *;generalize eR p false m.lo m.hi dk dk=v at *;rw[hxy]at M;rw[hdk]at Q hz1 hz2
 have ez1:z1=k:=by rcases hz1 with h | h <;> exact h
 have ez2:z2=k:=by rcases hz2 with h | h <;> exact h
 subst ez1;rw[ez2]at c2
 have t0:0<=t:=by grind
 have Y0:0<=Y:=by grind
 have tY:=oM t0 Y0;have a1:=N.abs k1 k2 (.inl rfl);have a2:=N.abs k1 k2 (.inr rfl);have b1:=tM a1.2.2.1 a1.2.2.2 y1 y2;have b2:=tM a2.2.2.1 a2.2.2.2 y1 y2;have qy:=gm k1 k2 y1 y2
 have atY:a*t*Y<=1/2*(t*Y):=by
  have:=lY ha tY
  grind
 have atY0:0<=a*t*Y:=by
  have:=oM ha0 tY
  grind
 have Lq:=l6 N.l N.h (qK (a:=y)) qK M.l1 M.l2 M.l3 M.l4;have Hq:=qh N.l N.h (qK (a:=y)) qK M.u1 M.u2 M.u3 M.u4
 have L1:q*y-a*t*Y<=L:=by rcases M.lo with h | h | h | h <;> rw[h] <;> grind
 have H1:H<=q*y+a*t*Y:=by rcases M.hi with h | h | h | h <;> rw[h] <;> grind
 have Lc:=lr c (t:=2*(t*Y)) (by grind) (by grind) u0;have Hc:=cS d (t:=2*(t*Y)) (by grind) (by grind) u0;have ml:=c.le;have mh:=d.le
 have utY:u*(2*(t*Y))<=1/4*(t*Y):=by
  have:=lY hu tY
  grind
 have utY0:0<=u*(2*(t*Y)):=oM u0 (by grind)
 have x1b:q*y-a*t*Y-u*(2*(t*Y))<=x1/\x1<=q*y+a*t*Y+u*(2*(t*Y)):=by rcases hx1 with rfl | rfl <;> constructor <;> grind
 have x2b:q*y-a*t*Y-u*(2*(t*Y))<=x2/\x2<=q*y+a*t*Y+u*(2*(t*Y)):=by rcases hx2 with rfl | rfl <;> constructor <;> grind
 have vl:=lr c1 (t:=2*(t*Y)) (by grind) (by grind) u0;have vh:=cS c2 (t:=2*(t*Y)) (by grind) (by grind) u0;have q1:=Q.l1;have q2:=Q.u3;refine⟨dq.more (by omega),mq.bad,d1,d2,?_,?_,?_,?_⟩
 . exact yb (c:=z1) (by grind) hk
 . exact yb (c:=z1) (by grind) hk
 . refine yb (c:=z1) ?_ hk
   have:(q'-(a+4*u)*t')*z1=q*y-(a+4*u)*(t*Y):=by rw[← e,← e'];grind
   rw[this]
   grind
 . refine yb (c:=z1) ?_ hk
   have:(q'+(a+4*u)*t')*z1=q*y+(a+4*u)*(t*Y):=by rw[← e,← e'];grind
   rw[this]
   grind
theorem yx {E b:Rat}(hp1:1<=p)(hp2:p<=7000)(hs:Sq B s)(hr:Sq B r)(hB:B<=200000)(hB0:0<=B)(N:Nr E b (rv s.lo) (rv s.hi))(K:Nr q a (rv r.lo) (rv r.hi))(e1:-2<=E+q-a-b)(e2:E+q+a+b<=2):
 Sq (B+2) (dC p false s.lo s.hi r.lo r.hi)/\nb (dC p false s.lo s.hi r.lo r.hi).lo.m<=p.toNat+1/\nb (dC p false s.lo s.hi r.lo r.hi).hi.m<=p.toNat+1 /\
 Nr (E+q) (b+a+2*uP p.toNat) (rv (dC p false s.lo s.hi r.lo r.hi).lo) (rv (dC p false s.lo s.hi r.lo r.hi).hi):=by
 obtain⟨S,c,d⟩:=ql hp1 (by omega) hs hr (by omega) hB0;have n:=wH hp1 (by omega) hs hr (by omega) hB0;have u0:=ou (cD p.toNat);generalize uP p.toNat=u at *;generalize dC p false s.lo s.hi r.lo r.hi=v at *;have l1:=N.l;have l2:=N.h;have l3:=N.dl;have l4:=N.dh;have k1:=K.l;have k2:=K.h;have k3:=K.dl;have k4:=K.dh;have vl:=lr c (t:=2) (by grind) (by grind) u0;have vh:=cS d (t:=2) (by grind) (by grind) u0
 have:=c.le
 have:=d.le
 exact⟨S,n.1,n.2,by grind,by grind,by grind,by grind⟩
theorem nc (h1:-Y<=y)(h2:y<=Y)(hY:Y<=1/2)(k:Nat):∀ d,-(bj Y k)+bj Y (k+d)<=aW y (k+d)-aW y k/\aW y (k+d)-aW y k<=bj Y k-bj Y (k+d)
 | 0=>by simp only[Nat.add_zero];constructor <;> grind
 | d+1=>by
  have ih:=nc h1 h2 hY k d
  have hY0:0<=Y:=by grind
  have a:=mK hY0 (by grind) (k+d);have b:=j5 h1 h2 (k+d+1);have c:aW y (k+(d+1))=aW y (k+d)+bj y (k+d+1):=rfl;rw[c,show k+(d+1)=k+d+1 from rfl]
  constructor <;> grind
def mO (b:Rat):Nat->Rat
 | 0=>b
 | i+1=>mO b i*mO b i
theorem kJ {b:Rat}(h:0 < b):∀ i,0 < mO b i
 | 0=>h
 | i+1=>Gp (kJ h i) (kJ h i)
theorem kK {b:Rat}(h0:0<=a)(h:a<=b):a*a<=b*b:=by
 have h1:=mF h h0;have h2:=lY h (show 0<=b by grind)
 grind
theorem iZ {b:Rat}(h0:0 < a)(h:a<=b):∀ i,mO a i<=mO b i
 | 0=>h
 | i+1=>kK (ou (kJ h0 i)) (iZ h0 h i)
theorem Bc {b:Rat}(h:4031/4096<=b):∀ i,tp (-(3*(2^(i-7):Nat):Int))<=mO b i:=by
 have h0:(0:Rat) < 4031/4096:=by decide +kernel
 have key:∀ j:Nat,tp (-(3*(2^j:Nat):Int))<=mO b (7+j):=by
  intro j
  induction j with
  | zero=>exact oY (by decide +kernel:tp (-3)<=mO (4031/4096) 7) (iZ h0 h 7)
  | succ j ih =>
   have:=kK (ou (co _)) ih
   rw[← bV]at this;refine oY (dj ?_) this;rw[Gt]
   push_cast
   omega
 intro i
 rcases Gw i 7 with hi | hi
 . have hc:∀ i,i < 7->tp (-3)<=mO (4031/4096) i:=by decide +kernel
   rw[show i-7=0 by omega];exact oY (hc i hi) (iZ h0 h i)
 . have:=key (i-7)
   rwa [show 7+(i-7)=i by omega]at this
theorem yC {b:Rat}(h0:0 < b)(h:b<=4162/4096):∀ i,mO b i<=tp (3*(2^(i-7):Nat):Int):=by
 have key:∀ j:Nat,mO b (7+j)<=tp (3*(2^j:Nat):Int):=by
  intro j
  induction j with
  | zero=>exact oY (iZ h0 h 7) (by decide +kernel:mO (4162/4096) 7<=tp 3)
  | succ j ih =>
   have:=kK (ou (kJ h0 _)) ih
   rw[← bV]at this;refine oY this (dj ?_);rw[Gt]
   push_cast
   omega
 intro i
 rcases Gw i 7 with hi | hi
 . have hc:∀ i,i < 7->mO (4162/4096) i<=tp 3:=by decide +kernel
   rw[show i-7=0 by omega];exact oY (iZ h0 h i) (hc i hi)
 . have:=key (i-7)
   rwa [show 7+(i-7)=i by omega]at this
theorem xG {b hi w:Rat}{K:Nat}(h1:-Y<=y)(h2:y<=Y)(hY:Y<=1/2)(N:Nr (aW y K) b lo hi)(hw:bj Y K<=w):Hl (lo-w) (hi+w) (aW y) :=
 Hl.of (N:=K) fun n hn=>by
  obtain⟨d,rfl⟩:∃ d,n=K+d:=⟨n-K,by omega⟩;have r:=nc h1 h2 hY K d
  have:=bk (show 0<=Y by grind) (K+d)
  have:=N.l
  have:=N.h
  constructor <;> grind
theorem qu {r:DR}(h:r.m≠0):sz r<=tp (dI r)/\tp (dI r-1)<=sz r:=by
 have h1:(r.m:Rat)<=((2^nb r.m:Nat):Rat):=by exact_mod_cast Nat.le_of_lt (dZ r.m)
 have h2:((2^(nb r.m-1):Nat):Rat)<=(r.m:Rat):=by exact_mod_cast fA (Gm h)
 have hnb:=gg (Gm h);have hp:=ou (co r.e);unfold dI;rw[show(nb r.m:Int)+r.e-1=((nb r.m-1:Nat):Int)+r.e by omega,bV,bV,dH,dH];exact⟨lY h1 hp,lY h2 hp⟩
theorem lG {lo hi:DR}(h1:lo.m≠0->-1000000<=dI lo)(h2:hi.m≠0->-1000000<=dI hi):
 sz lo<=tp (dE lo hi)/\sz hi<=tp (dE lo hi)/\(∀ z,z < dE lo hi->-1000000<=z->tp z<=sz lo\/tp z<=sz hi):=by
 have z0:∀ r:DR,∀ k,r.m=0->sz r<=tp k:=fun r k h=>by rw[gW h];exact ou (co _)
 unfold dE
 by_cases hm:hi.m=0
 . rw[if_pos hm]
   by_cases lm:lo.m=0
   . rw[if_pos lm]
     exact⟨z0 _ _ lm,z0 _ _ hm,fun z hz hz2=>by omega⟩
   . rw[if_neg lm]
     have t:=qu lm;have b:=h1 lm;rw[show max (-1000000) (dI lo)=dI lo by omega];exact⟨t.1,z0 _ _ hm,fun z hz _=>.inl (oY (dj (by omega)) t.2)⟩
 . rw[if_neg hm]
   have t:=qu hm;have b:=h2 hm
   by_cases lm:lo.m=0
   . rw[if_pos lm,show max (-1000000) (dI hi)=dI hi by omega]
     exact⟨z0 _ _ lm,t.1,fun z hz _=>.inr (oY (dj (by omega)) t.2)⟩
   . rw[if_neg lm]
     have t':=qu lm;have b':=h1 lm;refine⟨oY t'.1 (dj (by omega)),oY t.1 (dj (by omega)),fun z hz _=>?_⟩
     rcases Gv z (dI hi) with h | h
     . exact .inr (oY (dj (by omega)) t.2)
     . exact .inl (oY (dj (by omega)) t'.2)
theorem uo (h:Y=y\/Y=-y):∀ k,bj y k=bj Y k\/bj y k=-(bj Y k)
 | 0=>.inl rfl
 | k+1=>by
  have ih:=uo h k
  show bj y k*y/((k:Rat)+1)=bj Y k*Y/((k:Rat)+1)\/bj y k*y/((k:Rat)+1)=-(bj Y k*Y/((k:Rat)+1))
  simp only[Rat.div_def]
  rcases h with h | h <;> rcases ih with i | i <;> rw[h,i]
  . exact .inl rfl
  . rw[h];exact .inr (by grind)
  . rw[h];exact .inr (by grind)
  . rw[h];exact .inl (by grind)
structure Yq (y Y:Rat)(xd:DR):Prop where
 q:Tq 20000 xd
 n:nb xd.m<=8000
 v:rv xd=y
 s:Y=y\/Y=-y
 p:0<=Y
 u:Y<=1/64
 l:Y=0\/tp (-3100)<=Y
theorem Yq.b (h:Yq y Y xd):-Y<=y/\y<=Y:=by
 have:=h.p
 rcases h.s with h | h <;> constructor <;> grind
structure Eg (P:Nat)(y Y:Rat)(k:Nat)(r:SRes):Prop where
 q:Sq 20000 r
 n1:nb r.lo.m<=P+1
 n2:nb r.hi.m<=P+1
 nr:Nr (bj y k) (4*(k:Rat)*uP P*bj Y k) (rv r.lo) (rv r.hi)
structure Fn (P:Nat)(y:Rat)(k:Nat)(r:SRes):Prop where
 q:Sq (20000+2*(k:Int)) r
 n1:nb r.lo.m<=P+1
 n2:nb r.hi.m<=P+1
 nr:Nr (aW y k) ((4*(k:Rat)*(k:Rat)+8*(k:Rat))*uP P) (rv r.lo) (rv r.hi)
theorem pn (h0:0<=Y)(h:Y<=1/64)(k:Nat):bj Y k<=1:=by
 induction k with
 | zero=>exact qK
 | succ k ih=>have:=mK h0 (by grind) k;have:=bk h0 (k+1);grind
theorem zV (h1:-Y<=y)(h2:y<=Y)(hY:Y<=1/64)(k:Nat):1-Y<=aW y k/\aW y k<=1+Y+Y*Y:=by
 have h0:0<=Y:=by grind
 have YY0:=oM h0 h0
 rcases k with _ | k
 . constructor <;> (show _<=_;unfold aW bf bj;grind)
 . have e1:aW y 1=1+y:=by
    show bj y 0+bj y 0*y/(((0:Nat):Rat)+1)=1+y
    show(1:Rat)+1*y/(0+1)=1+y
    grind
   have r:=nc h1 h2 (by grind) 1 k
   have t1:bj Y 1=Y:=by
    show(1:Rat)*Y/(0+1)=Y
    grind
   have:=bk h0 (1+k)
   rw[Nat.add_comm k 1];rw[e1,t1]at r
   have t2:bj Y 2=Y*Y/2:=by
    show bj Y 1*Y/(((1:Nat):Rat)+1)=Y*Y/2
    rw[t1]
    have:((1:Nat):Rat)+1=2:=by decide +kernel
    rw[this]
   rcases k with _ | k
   . constructor <;> grind
   . have r2:=nc h1 h2 (show Y<=1/2 by grind) 2 k
     have e2:aW y 2=1+y+y*y/2:=by
      show aW y 1+bj y 1*y/(((1:Nat):Rat)+1)=_
      rw[e1,show bj y 1=y by show(1:Rat)*y/(0+1)=y;grind]
      have:((1:Nat):Rat)+1=2:=by decide +kernel
      rw[this]
     have yy:=gm h1 h2 h1 h2;have yp:=oM (show 0<=y+Y by grind) (show 0<=2+y-Y by grind);have YY:Y*Y<=1/64*Y:=lY hY h0
     have:=bk h0 (2+k)
     rw[show 1+(k+1)=2+k by omega];rw[e2,t2]at r2
     constructor <;> grind
theorem nt (hP:101<=P):uP P<=tp (-100):=dj (by omega)
theorem rQ:tp (-100)*1000000000000000000000000000000<=1:=by decide +kernel
theorem yR (hP1:101<=P)(hP2:P<=7000){dk:DR}(hy:Yq y Y xd){k:Nat}(hk:k+1<=2000)(T:Eg P y Y k r)(S:Fn P y k s)(hgo:tp (-(P:Int)-5)<=bj Y k)(hd:Tq 64 dk)(hdk:rv dk=(k:Rat)+1):
 (eu (P:Int) false r.lo r.hi xd xd).bad=false/\Eg P y Y (k+1) (eR (P:Int) false (eu (P:Int) false r.lo r.hi xd xd).lo (eu (P:Int) false r.lo r.hi xd xd).hi dk dk) /\
 Fn P y (k+1) (dC (P:Int) false s.lo s.hi (eR (P:Int) false (eu (P:Int) false r.lo r.hi xd xd).lo (eu (P:Int) false r.lo r.hi xd xd).hi dk dk).lo (eR (P:Int) false (eu (P:Int) false r.lo r.hi xd xd).lo (eu (P:Int) false r.lo r.hi xd xd).hi dk dk).hi):=by
 have hb:=hy.b;have hu0:=ou (cD P);have hut:=nt hP1;have h100:=rQ;have kp:=gI k;have k0:(0:Rat)<=(k:Rat):=Gn
 have k2:(k:Rat)+1<=2000:=by exact_mod_cast hk
 have ku:(k:Rat)*uP P<=2000*uP P:=lY (by grind) hu0;have ku0:=oM k0 hu0
 have kk:(k:Rat)*(k:Rat)<=2000*2000:=by
  have a:=mF (show(k:Rat)<=2000 by grind) k0
  grind
 have kku:(k:Rat)*(k:Rat)*uP P<=4000000*uP P:=by
  have:=lY kk hu0
  grind
 have kku0:=oM (oM k0 k0) hu0;have ta:=j5 hb.1 hb.2 k;have ta':=j5 hb.1 hb.2 (k+1);have q1:=cZ y k;have q2:=cZ Y k;obtain⟨dq,mb,d1,d2,N⟩:=wN (p:=(P:Int)) (a:=4*(k:Rat)*uP P) (q:=bj y k) (t:=bj Y k) (q':=bj y (k+1)) (t':=bj Y (k+1)) (y:=y) (Y:=Y) (k:=(k:Rat)+1) (by omega) (by omega) T.q (by have:=T.n1;omega) (by have:=T.n2;omega) T.nr ta.1 ta.2 (by grind) (by grind) (by rw[Bx];grind) hy.q hy.n hy.v hb.1 hb.2 hd hdk kp (by grind) (by grind);rw[Bx]at d1 d2 N;generalize(eu (P:Int) false r.lo r.hi xd xd)=m at *;generalize eR (P:Int) false m.lo m.hi dk dk=r' at *;have tle:=pn hy.p hy.u (k+1);have tn:=bk hy.p (k+1)
 have cast:(((k+1:Nat):Rat))=(k:Rat)+1:=by push_cast;rfl
 have aN:(4*(k:Rat)*uP P+4*uP P)*bj Y (k+1)=4*((k+1:Nat):Rat)*uP P*bj Y (k+1):=by rw[cast];grind
 have a2:4*((k+1:Nat):Rat)*uP P<=1/4:=by rw[cast];grind
 rw[aN]at N;have a2t:4*((k+1:Nat):Rat)*uP P*bj Y (k+1)<=1/4*bj Y (k+1):=lY a2 tn
 have a3:0<=4*((k+1:Nat):Rat)*uP P*bj Y (k+1):=by
  have:0<=4*((k+1:Nat):Rat)*uP P:=by rw[cast];grind
  exact oM this tn
 have far:∀ d:DR,rv d=rv r'.lo\/rv d=rv r'.hi->(rv d=0\/tp (-((P:Int)+3120))<=sz d)/\sz d<=tp 1:=by
  intro d hd';have nb:=N.abs ta'.1 ta'.2 hd';have asz:=dJ d
  have s2:sz d<=tp 1:=by
   have:tp 1=2:=rfl
   grind
  refine⟨?_,s2⟩
  rcases hy.l with h0 | h0
  . left
    have hz:bj Y (k+1)=0:=by
     have:((k:Rat)+1)*bj Y (k+1)=0:=by rw[q2,h0];grind
     rcases Rat.mul_eq_zero.1 this with h | h
     . grind
     . exact h
    rw[hz]at nb a2t
    grind
  . right
    have hsz:1/2*bj Y (k+1)<=sz d:=by
     rcases uo hy.s (k+1) with h | h <;> rw[h]at nb <;> grind
    have h1:tp (-(P:Int)-5)*tp (-3100)<=((k:Rat)+1)*bj Y (k+1):=by
     rw[q2];have e1:=lY hgo (ou (co (-3100)));have e2:=mF h0 (bk hy.p k)
     grind
    rw[← bV]at h1;have h2:((k:Rat)+1)*bj Y (k+1)<=2048*bj Y (k+1):=lY (by grind) tn
    have h3:tp (-((P:Int)+3120))*4096=tp (-(P:Int)-5+-3100+-3):=by
     rw[show(4096:Rat)=tp 12 from by decide +kernel,← bV]
     congr 1
     omega
    have h4:=dj (show -(P:Int)-5+-3100+-3<=-(P:Int)-5+-3100 by omega)
    grind
 have f1:=far _ (.inl rfl);have f2:=far _ (.inr rfl);have Q':Sq 20000 r':=⟨dq.bad,jy dq.l d1 f1.1 f1.2 (by push_cast;omega) (by omega) (by omega),jy dq.h d2 f2.1 f2.2 (by push_cast;omega) (by omega) (by omega),dq.le⟩;have ex:=zV hb.1 hb.2 hy.u k;have Y1:=hy.u;have YY:Y*Y<=1/64*Y:=lY Y1 hy.p
 have b0:(4*(k:Rat)*(k:Rat)+8*(k:Rat))*uP P<=1/64:=by grind
 have th:=mK hy.p (show 2*Y<=1 by grind) k;have tk1:=pn hy.p hy.u k;obtain⟨A,n1,n2,M⟩:=yx (p:=(P:Int)) (B:=20000+2*(k:Int)) (by omega) (by omega) S.q (Q'.more (by omega)) (by omega) (by omega) S.nr N (by grind) (by grind);rw[Bx]at n1 n2 M;refine⟨mb,⟨Q',d1,d2,N⟩,A.more (by push_cast;omega),n1,n2,?_⟩;have e:aW y (k+1)=aW y k+bj y (k+1):=rfl;rw[e];refine⟨M.l,M.h,oY ?_ M.dl,oY M.dh ?_⟩
 . have:4*((k+1:Nat):Rat)*uP P*bj Y (k+1)<=4*((k+1:Nat):Rat)*uP P:=by
    have h:0<=4*((k+1:Nat):Rat)*uP P:=by rw[cast];grind
    have:=mF tle h
    grind
   rw[cast]at this ⊢
   grind
 . have:4*((k+1:Nat):Rat)*uP P*bj Y (k+1)<=4*((k+1:Nat):Rat)*uP P:=by
    have h:0<=4*((k+1:Nat):Rat)*uP P:=by rw[cast];grind
    have:=mF tle h
    grind
   rw[cast]at this ⊢
   grind
theorem pD (hP1:101<=P)(hP2:P<=7000)(y Y:Rat):∃ d,dY (P:Int) false 1=⟨false,d,d⟩/\Eg P y Y 0 ⟨false,d,d⟩/\Fn P y 0 ⟨false,d,d⟩:=by
 obtain⟨d,e,hd,hv,_⟩:=jT (p:=(P:Int)) (n:=1) (by omega) (by omega) (by rw[sX];omega);have e':dY (P:Int) false 1=⟨false,d,d⟩:=e
 have hn:nb d.m<=P+1:=by
  have:=(jP (neg:=false) (V:=1) (e:=0) (B:=64) (by omega) (by rw[sX];omega) (by rw[sX];omega) (by omega) (by omega)).2.2
  have h2:dY (P:Int) false 1=uj (P:Int) false (bH false 1 0):=rfl;rw[(oW (p:=(P:Int)) (B:=64) (by omega) (by omega) (jP (neg:=false) (V:=1) (e:=0) (B:=64) (by omega) (by rw[sX];omega) (by rw[sX];omega) (by omega) (by omega)).1).1]at h2;rw[e']at h2
  injection h2 with _ h3 _
  rw[h3];rw[sX]at this;omega
 have one:rv d=1:=hv;refine⟨d,e',⟨⟨rfl,hd.more (by omega),hd.more (by omega),qK⟩,hn,hn,?_⟩,⟨⟨rfl,hd.more (by omega),hd.more (by omega),qK⟩,hn,hn,?_⟩⟩
 . show Nr 1 (4*((0:Nat):Rat)*uP P*1) (rv d) (rv d)
   rw[one]
   have:((0:Nat):Rat)=0:=rfl
   rw[this]
   constructor <;> grind
 . show Nr 1 ((4*((0:Nat):Rat)*((0:Nat):Rat)+8*((0:Nat):Rat))*uP P) (rv d) (rv d)
   rw[one]
   have:((0:Nat):Rat)=0:=rfl
   rw[this]
   constructor <;> grind
theorem tZ (hP1:16<=P)(hP2:P<=7000){size:Int}(hs:size<=10000):Sq 20000 (fD (P:Int) false size) /\
 rv (fD (P:Int) false size).lo=-(tp (max size (-(P:Int)-64)))/\rv (fD (P:Int) false size).hi=tp (max size (-(P:Int)-64)):=by
 obtain⟨d,e,hd,hv,_⟩:=jT (p:=(P:Int)) (n:=1) (by omega) (by omega) (by rw[sX];omega);have e':dY (P:Int) false 1=⟨false,d,d⟩:=e;have one:rv d=1:=hv;obtain⟨m,hm⟩:=du (max size (-(P:Int)-64));have sd:Sq 64 ⟨false,d,d⟩:=⟨rfl,hd,hd,qK⟩;obtain⟨_,S,s1,s2⟩:=mR (p:=(P:Int)) (k:=m) (B':=20000) (by omega) (by omega) sd (by omega) (by omega) (by omega) (by omega) (by omega)
 have eo:iM (P:Int) false size=bE (P:Int) false d d m:=by
  unfold iM;rw[e',← hm]
 dsimp only at S s1 s2
 rw[← eo]at S s1 s2;rw[one,Gy]at s1 s2;obtain⟨ne,NS',n1,n2⟩:=wh (p:=(P:Int)) (by omega) (by omega) S (by omega);obtain⟨HQ,h1,h2⟩:=uQ (p:=(P:Int)) (by omega) (by omega) NS' S
 have eh:fD (P:Int) false size=dy (P:Int) false (gS (P:Int) false (iM (P:Int) false size).lo (iM (P:Int) false size).hi).lo (gS (P:Int) false (iM (P:Int) false size).lo (iM (P:Int) false size).hi).hi (iM (P:Int) false size).lo (iM (P:Int) false size).hi:=by
  unfold fD;rw[S.bad,NS'.bad]
 rw[← eh]at HQ h1 h2;rw[ne]at h1 h2
 dsimp only at h1 h2
 rw[← hm];have tpos:=co m;rw[n1,s1,s2]at h1;rw[n2,s1,s2]at h2;exact⟨HQ,by grind,by grind⟩
def Df (y:Rat):Nat->Rat
 | 0=>y
 | i+1=>Df y i+Df y i
theorem Ag (y:Rat):∀ i,Df y i=y*((2^i:Nat):Rat)
 | 0=>by show y=y*((1:Nat):Rat);rw[show((1:Nat):Rat)=1 from rfl];grind
 | i+1=>by
  show Df y i+Df y i=_
  rw[Ag y i,Gt]
  push_cast
  grind
def bI (P i:Nat):Int:=3*((2^(i-7):Nat):Int)+(P:Int)+10
theorem Fj (hP:P<=7000)(hi:i<=22):bI P i<=106000:=by
 unfold bI
 have:(2^(i-7):Nat)<=2^15:=Gq (by omega) (by omega)
 omega
theorem D4 (hP:P<=7000)(hi:i<=23):bI P i<=204000:=by
 unfold bI
 have:(2^(i-7):Nat)<=2^16:=Gq (by omega) (by omega)
 omega
structure Di (P:Nat)(y:Rat)(i:Nat)(r:SRes):Prop where
 q:Rq (bI P i) r (aW (Df y i))
 lo:mO (4031/4096) i<=rv r.lo*(1-uP P)
 hi:rv r.hi*(1+uP P)<=mO (4162/4096) i
theorem vQ (i:Nat):0 < mO (4031/4096) i:=kJ (by decide +kernel) i
theorem Di.pos (hP:101<=P)(h:Di P y i r):0 < rv r.lo/\mO (4031/4096) i<=rv r.lo/\rv r.hi<=mO (4162/4096) i:=by
 have h1:=h.lo;have h2:=h.hi;have hs:=vQ i;have u0:=ou (cD P);have u1:=nt hP;have u2:=rQ;have hle:=h.q.q.le
 have l0:0 < rv r.lo:=by
  rcases bT (rv r.lo) 0 with h0 | h0
  . exfalso
    have:=oM (show 0<=-rv r.lo by grind) (show 0<=1-uP P by grind)
    grind
  . rcases Rat.le_iff_lt_or_eq.1 h0 with h3 | h3
    . exact h3
    . rw[← h3]at h1;grind
 have a:=oM (ou l0) u0;have b:=oM (show 0<=rv r.hi by grind) u0;exact⟨l0,by grind,by grind⟩
theorem jz {x:DR}(h:0 < rv x):sz x=rv x:=(lK (ke h).1).symm
theorem Di.step (hP1:101<=P)(hP2:P<=7000)(hi:i+1<=23)(h:Di P y i r):Di P y (i+1) (eu (P:Int) false r.lo r.hi r.lo r.hi):=by
 obtain⟨l0,l1,l2⟩:=h.pos hP1;have hb:=Fj hP2 (show i<=22 by omega)
 have hb0:0<=bI P i:=by
  unfold bI
  have:=Gs (2^(i-7))
  omega
 have R:=h.q.mul (p:=(P:Int)) (by omega) (by omega) h.q (by omega) hb0;obtain⟨mq,m1,m2,L,H,M,c,d⟩:=qX (p:=(P:Int)) (by omega) (by omega) h.q.q h.q.q h.q.n1 h.q.n2 h.q.n1 h.q.n2 (by omega) hb0;rw[Bx]at m1 m2 c d;have hle:=h.q.q.le;have u0:=ou (cD P);have u1:=nt hP1;have u2:=rQ;have hlo:=h.lo;have hhi:=h.hi;have sb:=vQ i;generalize eu (P:Int) false r.lo r.hi r.lo r.hi=m at *;generalize hu:uP P=u at *;generalize rv r.lo=a at *;generalize rv r.hi=b at *;have ab:=mF hle (ou l0);have bb:=lY hle (show 0<=b by grind);have aa:=Gp l0 l0
 have L1:a*a<=L:=by rcases M.lo with e | e | e | e <;> rw[e] <;> grind
 have H1:H<=b*b:=by rcases M.hi with e | e | e | e <;> rw[e] <;> grind
 have H0:a*a<=H:=M.u1;have cp:=c.pos (by grind);have dp:=d.pos (by grind)
 have ml:mO (4031/4096) (i+1)<=rv m.lo*(1-u):=by
  show mO (4031/4096) i*mO (4031/4096) i<=_
  have s1:=kK (ou sb) hlo;have s2:=lY cp (show 0<=1-u by grind);have s3q:=lY L1 (oM (show 0<=1-u by grind) (show 0<=1-u by grind))
  grind
 have mh:rv m.hi*(1+u)<=mO (4162/4096) (i+1):=by
  show _<=mO (4162/4096) i*mO (4162/4096) i
  have s1:=kK (oM (show 0<=b by grind) (show 0<=1+u by grind)) hhi;have s2:=lY dp (show 0<=1+u by grind);have s3q:=lY H1 (oM (show 0<=1+u by grind) (show 0<=1+u by grind))
  grind
 have lpos:0 < rv m.lo:=by
  have:=Gp (show 0 < L by grind) (show 0 < 1-u by grind)
  grind
 have mle:=mq.le;have e1:=jz lpos;have e2:=jz (show 0 < rv m.hi by grind);have mu1:=oM (ou lpos) u0;have mu2:=oM (show 0<=rv m.hi by grind) u0;have sl:=Bc (b:=4031/4096) qK (i+1);have sh:=yC (b:=4162/4096) (by decide +kernel) qK (i+1);obtain⟨X,hX⟩:∃ X:Nat,X=2^(i+1-7):=⟨_,rfl⟩
 have hbI:bI P (i+1)=3*(X:Int)+(P:Int)+10:=by unfold bI;rw[hX]
 rw[← hX]at sl sh
 have hlh:rv m.lo<=tp (3*(X:Int)):=by grind
 have hhh:tp (-(3*(X:Int)))<=rv m.hi:=by grind
 have T1:Tq (bI P (i+1)) m.lo:=jy (n:=P+1) (X:=3*(X:Int)) (Y:=3*(X:Int)) mq.l m1 (.inr (by rw[e1];grind)) (by rw[e1];exact hlh) (by rw[hbI];push_cast;omega) (by rw[hbI];omega) (by rw[hbI];omega);have T2:Tq (bI P (i+1)) m.hi:=jy (n:=P+1) (X:=3*(X:Int)) (Y:=3*(X:Int)) mq.h m2 (.inr (by rw[e2];exact hhh)) (by rw[e2];grind) (by rw[hbI];push_cast;omega) (by rw[hbI];omega) (by rw[hbI];omega);exact⟨⟨⟨mq.bad,T1,T2,mle⟩,by omega,by omega,R.hl.congr (lZ _ _)⟩,by rw[hu];exact ml,by rw[hu];exact mh⟩
theorem Bp (hP1:101<=P)(hP2:P<=7000)(hy:Yq y Y xd){K:Nat}(hK:K<=2000)(T:Eg P y Y K r)(S:Fn P y K s)(hz:dE r.lo r.hi<=-(P:Int)-4):
 Di P y 0 (dC (P:Int) false s.lo s.hi (fD (P:Int) false (dE r.lo r.hi+1)).lo (fD (P:Int) false (dE r.lo r.hi+1)).hi):=by
 have hb:=hy.b
 have tb:∀ d:DR,Tq 20000 d->d.m≠0->-1000000<=dI d:=fun d h _=>by unfold dI;have:=h.e1;omega
 obtain⟨z1,z2,_⟩:=lG (lo:=r.lo) (hi:=r.hi) (tb _ T.q.l) (tb _ T.q.h);obtain⟨z,ez⟩:=du (dE r.lo r.hi);rw[← ez]at z1 z2 hz ⊢;obtain⟨A,a1,a2⟩:=tZ (P:=P) (size:=z+1) (by omega) hP2 (by omega);obtain⟨m,hm⟩:=du (max (z+1) (-(P:Int)-64));rw[← hm]at a1 a2
 have hmP:m<=-103:=by omega
 have w1:=dj (show z<=m by omega);have w2:=dj hmP;have w0:=co m
 have tt:bj Y K<=tp m:=by
  have s1:=dJ r.lo;have s2:=dJ r.hi;have n1:=T.nr.l;have n2:=T.nr.h
  rcases uo hy.s K with h | h <;> rw[h]at n1 n2 <;> grind
 have hl:=xG hb.1 hb.2 (show Y<=1/2 by have:=hy.u;grind) S.nr tt;generalize fD (P:Int) false (z+1)=R at *;obtain⟨Q,c,d⟩:=ql (p:=(P:Int)) (B:=24000) (by omega) (by omega) (S.q.more (by omega)) (A.more (by omega)) (by omega) (by omega);have n:=wH (p:=(P:Int)) (B:=24000) (by omega) (by omega) (S.q.more (by omega)) (A.more (by omega)) (by omega) (by omega);rw[Bx]at c d n;rw[a1]at c;rw[a2]at d;have u0:=ou (cD P);have ut:=nt hP1;have u100:=rQ;have k0:(0:Rat)<=(K:Rat):=Gn
 have k2:(K:Rat)<=2000:=by exact_mod_cast hK
 have ku:(K:Rat)*uP P<=2000*uP P:=lY k2 u0
 have kk:(K:Rat)*(K:Rat)<=2000*2000:=by
  have a:=mF k2 k0
  grind
 have kku:(K:Rat)*(K:Rat)*uP P<=4000000*uP P:=by
  have:=lY kk u0
  grind
 have t103:tp (-103)*1000000000000000000000000000000<=1:=by decide +kernel
 have b0:(4*(K:Rat)*(K:Rat)+8*(K:Rat))*uP P<=1/1000000:=by grind
 have ex:=zV hb.1 hb.2 hy.u K;have Y1:=hy.u
 have YY:Y*Y<=1/64*(1/64):=by
  have:=gm (show -(1/64)<=Y by have:=hy.p;grind) Y1 (show -(1/64)<=Y by have:=hy.p;grind) Y1
  grind
 have N1:=S.nr.l;have N2:=S.nr.h;have N3:=S.nr.dl;have N4:=S.nr.dh;generalize dC (P:Int) false s.lo s.hi R.lo R.hi=v at *;have vl:=lr c (t:=2) (by grind) (by grind) u0;have vh:=cS d (t:=2) (by grind) (by grind) u0;have cl:=c.le;have dl:=d.le
 have l0:1/2<=rv v.lo:=by grind
 have vle:=Q.le
 have h2:rv v.hi<=2:=by grind
 have e1:=jz (x:=v.lo) (by grind);have e2:=jz (x:=v.hi) (by grind);have tp1:tp 1=2:=rfl
 have tpm:tp (-1)=1/2:=by decide +kernel
 have hbI:bI P 0=(P:Int)+13:=by unfold bI;show 3*((1:Nat):Int)+(P:Int)+10=_;omega
 have T1:Tq (bI P 0) v.lo:=jy (n:=P+1) (X:=1) (Y:=1) Q.l n.1 (.inr (by rw[e1,tpm];exact l0)) (by rw[e1,tp1];grind) (by rw[hbI];push_cast;omega) (by rw[hbI];omega) (by rw[hbI];omega);have T2:Tq (bI P 0) v.hi:=jy (n:=P+1) (X:=1) (Y:=1) Q.h n.2 (.inr (by rw[e2,tpm];grind)) (by rw[e2,tp1];exact h2) (by rw[hbI];push_cast;omega) (by rw[hbI];omega) (by rw[hbI];omega);have lu:=mF (show rv v.lo<=2 by grind) u0;have hu:=mF h2 u0;refine⟨⟨⟨Q.bad,T1,T2,vle⟩,by omega,by omega,hl.mono (by grind) (by grind)⟩,?_,?_⟩
 . show(4031/4096:Rat)<=_
   grind
 . show _<=(4162/4096:Rat)
   grind
theorem yv (h0:0<=Y)(h:Y<=1/64)(k:Nat):bj Y k<=tp (-(6*(k:Int))):=by
 induction k with
 | zero=>exact qK
 | succ k ih =>
  have q:=cZ Y k;have t0:=bk h0 k;have t1:=bk h0 (k+1);have k1:(0:Rat)<=(k:Rat):=Gn;have a:=lY h t0;have b:=oM k1 t1
  have e:tp (-(6*((k+1:Nat):Int)))*64=tp (-(6*(k:Int))):=by
   rw[show(64:Rat)=tp 6 from by decide +kernel,← bV]
   congr 1
   push_cast
   omega
  grind
theorem yS (hP1:101<=P)(hy:Yq y Y xd){k:Nat}(hk:k<=2000)(T:Eg P y Y k r)(hz:-(P:Int)-4 < dE r.lo r.hi)(hP2:P<=7000):tp (-(P:Int)-5)<=bj Y k/\6*k<=P+5:=by
 have hb:=hy.b
 have tb:∀ d:DR,Tq 20000 d->d.m≠0->-1000000<=dI d:=fun d h _=>by unfold dI;have:=h.e1;omega
 obtain⟨_,_,z3⟩:=lG (lo:=r.lo) (hi:=r.hi) (tb _ T.q.l) (tb _ T.q.h);have z:=z3 _ hz (by omega);have ta:=j5 hb.1 hb.2 k;have n1:=T.nr.abs ta.1 ta.2 (.inl rfl);have n2:=T.nr.abs ta.1 ta.2 (.inr rfl);have s1:=dJ r.lo;have s2:=dJ r.hi;have tn:=bk hy.p k;have u0:=ou (cD P);have ut:=nt hP1;have u100:=rQ
 have k2:(k:Rat)<=2000:=by exact_mod_cast hk
 have ku:(k:Rat)*uP P<=2000*uP P:=lY k2 u0
 have a2:4*(k:Rat)*uP P<=1:=by grind
 have a3:=lY a2 tn
 have e:tp (-(P:Int)-5)*2=tp (-(P:Int)-4):=by
  rw[show(2:Rat)=tp 1 from rfl,← bV]
  congr 1
  omega
 have h1:tp (-(P:Int)-5)<=bj Y k:=by grind
 refine⟨h1,?_⟩
 have:=yr (oY h1 (yv hy.p hy.u k))
 omega
theorem Bo {p:Nat}(hp1:61<=p)(hp2:p<=6000)(hP1:101<=P)(hP2:P<=7000){half:Nat}(hh:half<=23)(h:Di P y half r)(hx:Df y half=x):
 (eI (p:Int) false r.lo r.hi).bad=false/\Rq 205000 (eI (p:Int) false r.lo r.hi) (aW x)/\0 < rv (eI (p:Int) false r.lo r.hi).lo:=by
 have hb:=D4 hP2 hh
 have hb0:0<=bI P half:=by
  unfold bI
  have:=Gs (2^(half-7))
  omega
 have R:=h.q.out (p:=(p:Int)) (by omega) (by omega) (by omega) hb0;obtain⟨_,_,_,c,_⟩:=sQ (p:=(p:Int)) (by omega) (by omega) h.q.q (by omega) hb0;rw[Bx]at c;have l0:=(h.pos hP1).1;have cp:=c.pos (ou l0);have ut:uP p<=1/2:=oY (dj (show 1-(p:Int)<=-1 by omega)) (by decide +kernel);rw[hx]at R;refine⟨R.q.bad,R.more (by omega),?_⟩
 have:=Gp l0 (show 0 < 1-uP p by grind)
 grind
theorem vX (hP1:16<=P)(hP2:P<=6000){a:SRes}{o1:DR}(h1:Tq 64 o1)(n1:nb o1.m<=8000)(v1:rv o1=1)(A:Rq 205000 a (aW x))(h0:0 < rv a.lo):
 Rq 220000 (eR (P:Int) false o1 o1 a.lo a.hi) (aW (-x)):=by
 have O:Rq 64 ⟨false,o1,o1⟩ (fun _=>rv o1):=Rq.pt h1 n1;have D:=O.div (p:=(P:Int)) (t:=aW (-x)) (by omega) (by omega) A h0 (zW x) (by omega) (by omega) (by omega);refine(D.more (by omega)).congr (ij.zero.eq fun n=>?_);rw[v1]
 grind
theorem Cz:tp (-1)=1/2:=by decide +kernel
theorem Dx (hP1:16<=P)(hP2:P<=6000){a q:SRes}(A:Rq 205000 a (aW x))(Q:Rq 220000 q (aW (-x))):
 Rq 220002 (dC (P:Int) false a.lo a.hi q.lo q.hi) (fun n=>aW x n+aW (-x) n)/\Rq 220003 (bE (P:Int) false (dC (P:Int) false a.lo a.hi q.lo q.hi).lo (dC (P:Int) false a.lo a.hi q.lo q.hi).hi (-1)) (eJ x):=by
 have S:=(A.more (show(205000:Int)<=220000 by omega)).add (p:=(P:Int)) (by omega) (by omega) Q (by omega) (by omega);refine⟨S,(S.scale (p:=(P:Int)) (k:=-1) (B':=220003) (by omega) (by omega) (by omega) (by omega) (by omega) (by omega) (by omega)).congr (ij.zero.eq fun n=>?_)⟩;rw[Cz]
 show 0=(aW x n+aW (-x) n)*(1/2)-(aW x n+aW (-x) n)/2
 grind
theorem Dw (hP1:16<=P)(hP2:P<=6000){a q:SRes}(A:Rq 205000 a (aW x))(Q:Rq 220000 q (aW (-x))):
 Rq 220002 (eT (P:Int) false a.lo a.hi q.lo q.hi) (fun n=>aW x n-aW (-x) n)/\Rq 220003 (bE (P:Int) false (eT (P:Int) false a.lo a.hi q.lo q.hi).lo (eT (P:Int) false a.lo a.hi q.lo q.hi).hi (-1)) (fG x):=by
 have S:=(A.more (show(205000:Int)<=220000 by omega)).sub (p:=(P:Int)) (by omega) (by omega) Q (by omega) (by omega);refine⟨S,(S.scale (p:=(P:Int)) (k:=-1) (B':=220003) (by omega) (by omega) (by omega) (by omega) (by omega) (by omega) (by omega)).congr (ij.zero.eq fun n=>?_)⟩;rw[Cz]
 show 0=(aW x n-aW (-x) n)*(1/2)-(aW x n-aW (-x) n)/2
 grind
theorem iF {ops:Array Oper}{S:World->Prop}{o:Oper}{a:Act}(hw:Bl o (yielded ops a.tmps)=true)(x:Operand)(ho:o.op=.load 3 x)(hx:a.eval x=.pointer (some ad)){z:Int}(hS:∀ w,S w->w.cell? ad=some (.int .i64 z)):YieldsIf tz ops S o (.int .i64 z) a :=
 .inl ⟨hw,fun w h=>by
  have hc:=hS w h;unfold execOp;simp only[ho,hx]
  go_simp⟩
theorem fQ {P:Program}{ops:Array Oper}{S:World->Prop}{o:Oper}{a:Act}(hw:Bl o (yielded ops a.tmps)=false):YieldsIf P ops S o undef a:=.inr ⟨hw,rfl⟩
theorem qO {o:Oper}{a:Act}{K:Act->World->Prop}{Q:Exit->Act->World->Prop}(x:Operand)(ho:o.op=.load 31 x)(b:Nat)(hx:a.eval x=.pointer (some ⟨b,0,none⟩))(k:KC T w b #[c0,c1,c2,c3,c4,c5])
 (h:K (a.put o.dst (.agg #[c0,c1,c2,c3,c4,c5])) w):Oper.wp tz o a w K Q:=by
 have hd:(Tryz.prog.underlying 31).map TypeDesc.isRow=some true:=by kernel_rfl
 obtain⟨d,h1,h2⟩:=Gk.1 hd;exact wp_load_mid _ x ho b 0 hx [c0,c1,c2,c3,c4,c5] d (ji k) h1 h2 (by kernel_rfl) h
section
variable {P:Program} {ops:Array Oper} {rest:List Oper} {o:Oper} {a:Act} {w:World} {Q:Exit->Act->World->Prop}
theorem cT (v:Value)(hg:o.guard=none)(hr:(execOp a.eval o).run P w=.ok (.value v) w)(h:wpList P ops Q rest (a.put o.dst v) w):wpList P ops Q (o :: rest) a w :=
 wpList_plain hg fun _ hK=>by
  unfold Oper.wp;rw[hr];exact hK _ _ h
theorem qM (hg:o.guard=none)(x:Operand)(ho:o.op=.load 24 x)(b:Nat)(hx:a.eval x=.pointer (some ⟨b,0,none⟩))(k:KC T w b #[c0,c1,c2])
 (h:wpList tz ops Q rest (a.put o.dst (.agg #[c0,c1,c2])) w):wpList tz ops Q (o :: rest) a w:=by
 have hd:(Tryz.prog.underlying 24).map TypeDesc.isRow=some true:=by kernel_rfl
 obtain⟨d,h1,h2⟩:=Gk.1 hd;exact wpList_load_mid hg _ x ho b 0 hx [c0,c1,c2] d (ji k) h1 h2 (by kernel_rfl) h
theorem fM (hg:o.guard=none)(x:Operand)(ho:o.op=.load 31 x)(b:Nat)(hx:a.eval x=.pointer (some ⟨b,0,none⟩))(k:KC T w b #[c0,c1,c2,c3,c4,c5])
 (h:wpList tz ops Q rest (a.put o.dst (.agg #[c0,c1,c2,c3,c4,c5])) w):wpList tz ops Q (o :: rest) a w:=by
 have hd:(Tryz.prog.underlying 31).map TypeDesc.isRow=some true:=by kernel_rfl
 obtain⟨d,h1,h2⟩:=Gk.1 hd;exact wpList_load_mid hg _ x ho b 0 hx [c0,c1,c2,c3,c4,c5] d (ji k) h1 h2 (by kernel_rfl) h
theorem iq (hg:o.guard=none)(ho:o.op=.alloc 31){F:Nat->World->Prop}(hF:F w.heap.size (w.alloc (.cells zs 31)))
 (h:∀ b w',F b w'->wpList tz ops Q rest (a.put o.dst (.pointer (some ⟨b,0,none⟩))) w'):wpList tz ops Q (o :: rest) a w :=
 wpList_plain hg fun _ hK=>lR ho (hK _ _ (h _ _ hF))
theorem dB (hg:o.guard=none)(x y:Operand)(ho:o.op=.store 31 x y)(b:Nat)(hx:a.eval x=.pointer (some ⟨b,0,none⟩)){n1 n2:Bool}{B:OA}{e f:Int}(hy:a.eval y=aG n1 A n c e n2 B m d f){q0 q1 q2 q3 q4 q5:Value}
 (k:KC T w b #[q0,q1,q2,q3,q4,q5]) {F:World->Prop} (hF:F (put6 w b (.bool n1) (.slice A n c) (.int .i64 e) (.bool n2) (.slice B m d) (.int .i64 f))) (h:∀ w',F w'->wpList tz ops Q rest (a.put o.dst undef) w'):wpList tz ops Q (o :: rest) a w :=
 wpList_plain hg fun _ hK=>pL x y ho b hx hy k (hK _ _ (h _ hF))
theorem dT {f:FuncId}{post:Ending->World->Prop}(hg:o.guard=none)(hc:Calls P f vals w post)(hr:(execOp a.eval o).run P w=.ok (.enter f vals) w)
 (h:∀ e w',post e w'->∃ v,e=.returned v/\wpList P ops Q rest (a.put o.dst v) w'):wpList P ops Q (o :: rest) a w :=
 wpList_plain hg fun _ hK=>aO hc hr fun e w' he=>by
  obtain⟨v,e1,e2⟩:=h e w' he;exact⟨v,e1,hK _ _ e2⟩
end
section
variable {P:Program} {md:Gz} {ops:Array Oper} {Q:Exit->Act->World->Prop} {S:World->Prop} {fuel:Nat} {listed:Array Bool} {a:Act} {w:World} {op ty pos aft gd}
theorem FO (i d:Nat){v:Value}(hi:ops[i]?=some (⟨some d,op,ty,pos,aft,gd⟩:Oper))(hy:YieldsIf P ops S (⟨some d,op,ty,pos,aft,gd⟩:Oper) v a)(hS:S w)(h:wpAnyH P md ops Q S fuel (listed.setIfInBounds i true) (a.put (some d) v) w)
 (hs:DE ops=true:=by kernel_rfl) (hf:Gl md ops listed i=true:=by kernel_rfl) (hr:(DF md ops listed).contains i=true:=by kernel_rfl)
 (hQ:∀ c a w,Q (.panic c) (a.put (some d) v) w->Q (.panic c) a w:=by exact fun _ _ _ h=>h):wpAnyH P md ops Q S (fuel+1) listed a w:=wpAnyH_take hi hs hf hr hQ hy hS h
theorem gl (i d:Nat)(hi:ops[i]?=some (⟨some d,op,ty,pos,aft,gd⟩:Oper))(v:Value)(hS:S w)(h:wpAnyH P md ops Q S fuel (listed.setIfInBounds i true) (a.put (some d) v) w)
 (hw:Bl (⟨some d,op,ty,pos,aft,gd⟩:Oper) (yielded ops a.tmps)=true:=by kernel_rfl) (he:∀ w,(execOp a.eval (⟨some d,op,ty,pos,aft,gd⟩:Oper)).run P w=.ok (.value v) w:=by intro w;kernel_rfl)
 (hs:DE ops=true:=by kernel_rfl) (hf:Gl md ops listed i=true:=by kernel_rfl) (hr:(DF md ops listed).contains i=true:=by kernel_rfl)
 (hQ:∀ c a w,Q (.panic c) (a.put (some d) v) w->Q (.panic c) a w:=by exact fun _ _ _ h=>h):wpAnyH P md ops Q S (fuel+1) listed a w:=wpAnyH_take hi hs hf hr hQ (au hw he) hS h
theorem FE (d:Nat){rs:List Nat}{f:FuncId}{post:Ending->World->Prop}(hi:ops[i]?=some (⟨some d,op,ty,pos,aft,gd⟩:Oper))(hc:Calls P f vals w post)
 (hk:∀ e w',post e w'->∃ v,e=.returned v/\S w'/\(S w'->wpAnyH P md ops Q S fuel (listed.setIfInBounds i true) (a.put (some d) v) w')) (hs:AllReadyH P md ops Q S fuel listed a w rs)
 (hw:Bl (⟨some d,op,ty,pos,aft,gd⟩:Oper) (yielded ops a.tmps)=true:=by kernel_rfl) (he:(execOp a.eval (⟨some d,op,ty,pos,aft,gd⟩:Oper)).run P w=.ok (.enter f vals) w:=by kernel_rfl):AllReadyH P md ops Q S fuel listed a w (i :: rs) :=
 AllReadyH.cons hi (fun K hK=>by
  rw[if_pos hw]
  exact aO hc he fun e w' h=>by
   obtain⟨v,e1,h1,h2⟩:=hk e w' h
   exact⟨v,e1,hK.out _ _ h1 h2⟩) hs
theorem yg (i d:Nat){f:FuncId}{post:Ending->World->Prop}(hi:ops[i]?=some (⟨some d,op,ty,pos,aft,gd⟩:Oper))(hc:Calls P f vals w post)
 (hk:∀ e w',post e w'->∃ v,e=.returned v/\S w'/\(S w'->wpAnyH P md ops Q S fuel (listed.setIfInBounds i true) (a.put (some d) v) w'))
 (hr:DF md ops listed=[i]:=by kernel_rfl) (hw:Bl (⟨some d,op,ty,pos,aft,gd⟩:Oper) (yielded ops a.tmps)=true:=by kernel_rfl) (he:(execOp a.eval (⟨some d,op,ty,pos,aft,gd⟩:Oper)).run P w=.ok (.enter f vals) w:=by kernel_rfl):wpAnyH P md ops Q S (fuel+1) listed a w :=
 wpAnyH_ready hr (by simp) (FE d hi hc hk AllReadyH.nil hw he)
end
section
variable {md:Gz} {ops:Array Oper} {Q:Exit->Act->World->Prop} {S:World->Prop} {fuel:Nat} {listed:Array Bool} {a:Act} {w:World} {op ty pos aft gd} {T:TypeId}
theorem Fs (i d:Nat)(hi:ops[i]?=some (⟨some d,op,ty,pos,aft,gd⟩:Oper))(b:Nat)(k:∀ w,S w->KC T w b #[c0,c1,c2])(hS:S w)(h:wpAnyH tz md ops Q S fuel (listed.setIfInBounds i true) (a.put (some d) (.agg #[c0,c1,c2])) w)
 (hw:Bl (⟨some d,op,ty,pos,aft,gd⟩:Oper) (yielded ops a.tmps)=true:=by kernel_rfl) {x:Operand} (ho:op=.load 24 x:=by exact rfl) (hx:a.eval x=.pointer (some ⟨b,0,none⟩):=by kernel_rfl)
 (hs:DE ops=true:=by kernel_rfl) (hf:Gl md ops listed i=true:=by kernel_rfl) (hr:(DF md ops listed).contains i=true:=by kernel_rfl)
 (hQ:∀ c a w,Q (.panic c) (a.put (some d) (.agg #[c0,c1,c2])) w->Q (.panic c) a w:=by exact fun _ _ _ h=>h):wpAnyH tz md ops Q S (fuel+1) listed a w:=wpAnyH_take hi hs hf hr hQ (iX hw x ho b hx k) hS h
theorem AG (i d:Nat)(hi:ops[i]?=some (⟨some d,op,ty,pos,aft,gd⟩:Oper))(b:Nat)(k:∀ w,S w->KC T w b #[c0,c1,c2,c3,c4,c5])(hS:S w)(h:wpAnyH tz md ops Q S fuel (listed.setIfInBounds i true) (a.put (some d) (.agg #[c0,c1,c2,c3,c4,c5])) w)
 (hw:Bl (⟨some d,op,ty,pos,aft,gd⟩:Oper) (yielded ops a.tmps)=true:=by kernel_rfl) {x:Operand} (ho:op=.load 31 x:=by exact rfl) (hx:a.eval x=.pointer (some ⟨b,0,none⟩):=by kernel_rfl)
 (hs:DE ops=true:=by kernel_rfl) (hf:Gl md ops listed i=true:=by kernel_rfl) (hr:(DF md ops listed).contains i=true:=by kernel_rfl)
 (hQ:∀ c a w,Q (.panic c) (a.put (some d) (.agg #[c0,c1,c2,c3,c4,c5])) w->Q (.panic c) a w:=by exact fun _ _ _ h=>h):wpAnyH tz md ops Q S (fuel+1) listed a w:=wpAnyH_take hi hs hf hr hQ (ek hw x ho b hx k) hS h
theorem FG (i d:Nat)(hi:ops[i]?=some (⟨some d,op,ty,pos,aft,gd⟩:Oper)){b:Bool}(k:∀ w,S w->w.cell? ad=some (.bool b))(hS:S w)(h:wpAnyH tz md ops Q S fuel (listed.setIfInBounds i true) (a.put (some d) (.bool b)) w)
 (hw:Bl (⟨some d,op,ty,pos,aft,gd⟩:Oper) (yielded ops a.tmps)=true:=by kernel_rfl) {x:Operand} (ho:op=.load 4 x:=by exact rfl) (hx:a.eval x=.pointer (some ad):=by kernel_rfl)
 (hs:DE ops=true:=by kernel_rfl) (hf:Gl md ops listed i=true:=by kernel_rfl) (hr:(DF md ops listed).contains i=true:=by kernel_rfl)
 (hQ:∀ c a w,Q (.panic c) (a.put (some d) (.bool b)) w->Q (.panic c) a w:=by exact fun _ _ _ h=>h):wpAnyH tz md ops Q S (fuel+1) listed a w:=wpAnyH_take hi hs hf hr hQ (mf hw x ho hx k) hS h
theorem FK (i d:Nat)(hi:ops[i]?=some (⟨some d,op,ty,pos,aft,gd⟩:Oper)){b:Int}(k:∀ w,S w->w.cell? ad=some (.int .i64 b))(hS:S w)(h:wpAnyH tz md ops Q S fuel (listed.setIfInBounds i true) (a.put (some d) (.int .i64 b)) w)
 (hw:Bl (⟨some d,op,ty,pos,aft,gd⟩:Oper) (yielded ops a.tmps)=true:=by kernel_rfl) {x:Operand} (ho:op=.load 3 x:=by exact rfl) (hx:a.eval x=.pointer (some ad):=by kernel_rfl)
 (hs:DE ops=true:=by kernel_rfl) (hf:Gl md ops listed i=true:=by kernel_rfl) (hr:(DF md ops listed).contains i=true:=by kernel_rfl)
 (hQ:∀ c a w,Q (.panic c) (a.put (some d) (.int .i64 b)) w->Q (.panic c) a w:=by exact fun _ _ _ h=>h):wpAnyH tz md ops Q S (fuel+1) listed a w:=wpAnyH_take hi hs hf hr hQ (iF hw x ho hx k) hS h
theorem FF (d:Nat){rs:List Nat}{w0:World}{g:Nat}{bad:Bool}{ks:List (TypeId×Nat×Array Value)}{ns:List (Value×Nat)}(hi:ops[i]?=some (⟨some d,op,ty,pos,aft,gd⟩:Oper))(L:St T w0 g p bad w ks ns)
 (h:∀ b w',St T w0 g p bad w' ((31,b,zs) :: ks) ns->w0.heap.size<=b->mG b ks->S w'/\(S w'->wpAnyH tz md ops Q S fuel (listed.setIfInBounds i true) (a.put (some d) (.pointer (some ⟨b,0,none⟩))) w'))
 (hs:AllReadyH tz md ops Q S fuel listed a w rs) (hw:Bl (⟨some d,op,ty,pos,aft,gd⟩:Oper) (yielded ops a.tmps)=true:=by kernel_rfl) (ho:op=.alloc 31:=by exact rfl):AllReadyH tz md ops Q S fuel listed a w (i :: rs) :=
 AllReadyH.cons hi (fun K hK=>by
  rw[if_pos hw]
  exact qP L ho fun b w' h1 h2 h3=>hK.out _ _ (h b w' h1 h2 h3).1 (h b w' h1 h2 h3).2) hs
theorem FD {rs:List Nat}(hi:ops[i]?=some (⟨none,op,ty,pos,aft,gd⟩:Oper))(b:Nat){n1 n2:Bool}{B:OA}{e f:Int}{q0 q1 q2 q3 q4 q5:Value}(k:KC T w b #[q0,q1,q2,q3,q4,q5]){F:World->Prop}
 (hF:F (put6 w b (.bool n1) (.slice A n c) (.int .i64 e) (.bool n2) (.slice B m d) (.int .i64 f))) (h:∀ w',F w'->S w'/\(S w'->wpAnyH tz md ops Q S fuel (listed.setIfInBounds i true) (a.put none undef) w'))
 (hs:AllReadyH tz md ops Q S fuel listed a w rs) (hw:Bl (⟨none,op,ty,pos,aft,gd⟩:Oper) (yielded ops a.tmps)=true:=by kernel_rfl) {x y:Operand} (ho:op=.store 31 x y:=by exact rfl) (hx:a.eval x=.pointer (some ⟨b,0,none⟩):=by kernel_rfl)
 (hy:a.eval y=aG n1 A n c e n2 B m d f:=by kernel_rfl):AllReadyH tz md ops Q S fuel listed a w (i :: rs) :=
 AllReadyH.cons hi (fun K hK=>by
  rw[if_pos hw]
  exact bK x y ho b hx hy k hF fun w' h1=>hK.out _ _ (h w' h1).1 (h w' h1).2) hs
end
section
variable {T T':TypeId} {w wi:World} {g gi:Nat} {p p':Int} {ks:List (TypeId×Nat×Array Value)} {ns:List (Value×Nat)}
def FN (T T':TypeId)(w:World)(g:Nat)(p:Int)(ks:List (TypeId×Nat×Array Value))(ns:List (Value×Nat))(gi:Nat)(p':Int)(b:Nat)(wi:World):Prop :=
 eX T T' w g p wi ((31,b,zs) :: ks) ns gi p'/\w.heap.size<=b/\mG b ks/\b≠gi
theorem eX.af (h:eX T T' w g p wi ks ns gi p'):FN T T' w g p ks ns gi p' wi.heap.size (wi.alloc (.cells zs 31)) :=
 ⟨h.alloc _ _,h.S.size,mV h.S.ks,Nat.ne_of_gt h.W2.2⟩
def Fy (T T':TypeId)(w:World)(g:Nat)(p:Int)(ks:List (TypeId×Nat×Array Value))(ns:List (Value×Nat))(gi:Nat)(p':Int)(wi:World):Prop:=eX T T' w g p wi ks ns gi p'
theorem Fy.out (h:Fy T T' w g p ks ns gi p' wi):eX T T' w g p wi ks ns gi p':=h
theorem cr {a:Nat}{na nb':Bool}{B:OA}{ea eb:Int}(h:eX T T' w g p wi ks ns gi p')(k:KC 31 wi a #[.bool na,.slice A n c,.int .i64 ea,.bool nb',.slice B m d,.int .i64 eb])(ha:w.heap.size<=a)(hne:mG a ks)(hi:a≠gi)(x0 x1 x2 x3 x4 x5:Value):
 Fy T T' w g p ((31,a,#[x0,x1,x2,x3,x4,x5]) :: ks) ns gi p' (put6 wi a x0 x1 x2 x3 x4 x5) :=
 ⟨r9 h.S k ha hne x0 x1 x2 x3 x4 x5,h.W2.only (aK _ _ _ _ _ _ _ _) (fun e=>hi e.symm),h.hgi,⟨hi,h.ne⟩⟩
theorem eX.drop1 {k1:TypeId×Nat×Array Value}(h:eX T T' w g p wi (k1 :: ks) ns gi p'):eX T T' w g p wi ks ns gi p':=by
 obtain⟨T1,b1,c1⟩:=k1;exact⟨⟨h.S.hg,h.S.O,h.S.W,h.S.ks.2,h.S.ns⟩,h.W2,h.hgi,h.ne.2⟩
theorem eX.swap {k1 k2:TypeId×Nat×Array Value}(h:eX T T' w g p wi (k1 :: k2 :: ks) ns gi p'):eX T T' w g p wi (k2 :: k1 :: ks) ns gi p':=by
 obtain⟨T1,b1,c1⟩:=k1;obtain⟨T2,b2,c2⟩:=k2;exact⟨Ba h.S,h.W2,h.hgi,⟨h.ne.2.1,h.ne.1,h.ne.2.2⟩⟩
theorem eX.nums {ns':List (Value×Nat)}(h:eX T T' w g p wi ks ns gi p')(k:NS wi ns'):eX T T' w g p wi ks ns' gi p':=⟨Bb h.S k,h.W2,h.hgi,h.ne⟩
theorem eX.n2 {m1 m2:Value×Nat}(h:eX T T' w g p wi ks (m1 :: m2 :: ns) gi p'):eX T T' w g p wi ks [m1,m2] gi p':=⟨Ez h.S,h.W2,h.hgi,h.ne⟩
theorem cC {o:Oper}{a:Act}{K:Act->World->Prop}{Q:Exit->Act->World->Prop}(ho:o.op=.alloc 31){F:Nat->World->Prop}(hF:F w.heap.size (w.alloc (.cells zs 31)))
 (h:∀ b w',F b w'->K (a.put o.dst (.pointer (some ⟨b,0,none⟩))) w'):Oper.wp tz o a w K Q:=lR ho (h _ _ hF)
theorem lU {g b:Nat}(hb:w.heap.size<=b):∀ {ks:List (TypeId×Nat×Array Value)},KS w g ks->mG b ks
 | [],_=>trivial
 | (_,_,_) :: _,h=>⟨by have:=h.1.1.2;omega,lU hb h.2⟩
theorem St.two (h:St T w g p false wi ks ns)(k:Wk T' wi gi p' false)(hgi:w.heap.size<=gi)(hne:mG gi ks):eX T T' w g p wi ks ns gi p':=⟨h,k,hgi,hne⟩
end
theorem xB (h:n<=4000):nb n<=64:=by
 rw[bi]
 have:(2:Nat)^64=18446744073709551616:=by decide
 omega
theorem Dp {lo hi:DR}(h:Tq B lo)(k:Tq B hi)(hB:B<=300000)(hB0:0<=B):-1000000<=dE lo hi/\dE lo hi<=300000:=by
 have h1:=h.e1;have h2:=h.e2;have k1:=k.e1;have k2:=k.e2;unfold dE dI
 split <;> split <;> omega
theorem Eh {d:DR}{half:Nat}(hd:Tq 4000 d)(hn:nb d.m<=700)(he:-3000<=d.e)(hh:half<=23)(h6:d.m≠0->dI d+6<=(half:Int)):
 Yq (rv d*tp (-(half:Int))) (sz d*tp (-(half:Int))) (bH d.neg d.m (d.e+-(half:Int)))/\Df (rv d*tp (-(half:Int))) half=rv d:=by
 have e1:=hd.e1;have e2:=hd.e2;obtain⟨m1,m2,m3⟩:=jP (neg:=d.neg) (V:=d.m) (e:=d.e+-(half:Int)) (B:=20000) (by omega) (by omega) (by omega) (by omega) (by omega);have hp:=co (-(half:Int));have sn:=bR d;have asz:=dJ d;refine⟨⟨m1,by omega,?_,?_,oM sn (ou hp),?_,?_⟩,?_⟩
 . rw[m2,nI]
   rfl
 . rw[asz]
   split
   . exact .inl rfl
   . exact .inr (by grind)
 . by_cases h0:d.m=0
   . rw[gW h0,Gx]
     decide +kernel
   . have t:=(qu h0).1
     have:=lY t (ou hp)
     rw[← bV]at this;have h7:=h6 h0;have u:=dj (show dI d+-(half:Int)<=-6 by omega)
     have v:tp (-6)=1/64:=by decide +kernel
     grind
 . by_cases h0:d.m=0
   . left
     rw[gW h0,Gx]
   . right
     have h1:(1:Rat)<=(d.m:Rat):=by exact_mod_cast Gm h0
     have h2:=lY h1 (ou (co d.e));have h3:=lY h2 (ou hp);rw[Gy,← bV]at h3;exact oY (dj (by omega)) h3
 . rw[Ag,← dH,Gr,← bV,show -(half:Int)+(half:Int)=0 by omega,kG,Gu]
end Go.Proofs.YtmbmohibpkepdaaGreatDoor
