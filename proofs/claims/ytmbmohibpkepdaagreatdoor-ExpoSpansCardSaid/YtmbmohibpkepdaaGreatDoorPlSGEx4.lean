import Derived.Test.YtmbmohibpkepdaaGreatDoorPlSGEx1
import Derived.Test.YtmbmohibpkepdaaGreatDoorPlSGSe9
open Rat renaming mul_le_mul_of_nonneg_right->lY, le_of_lt->oM, le_refl->oY, mul_le_mul_of_nonneg_left->qK, mul_nonneg->tz, le_of_mul_le_mul_right->yb, not_le->DE, natCast_mul->DF, sub_eq_add_neg->Gm, not_lt->Gn, zero_mul->Gp
open Nat renaming eq_zero_or_pos->mF, mul_le_mul_right->ou, le_trans->Bl, zero_mul->Bx, mul_assoc->EM, mul_comm->Gk, div_mul_le_self->Gl, add_mul->Gq, one_mul->Gr, pow_zero->Gs, add_zero->Gt, pow_add->Gu, div_one->Gv, mul_one->Gw, sub_mul->Gx, sub_le->Gy
namespace Go.Proofs.YtmbmohibpkepdaaGreatDoor
open Go.RowKit
variable {B B' C:Int} {H L a b c d u x y:Rat} {P:Nat} {hi lo r:DR} {neg:Bool} {s:SRes}
structure Cd (u x y:Rat):Prop where
 le:y<=x
 pos:0<=x->x*(1-u)<=y
 neg:x<=0->x*(1+u)<=y
structure Cu (u x y:Rat):Prop where
 le:x<=y
 pos:0<=x->y<=x*(1+u)
 neg:x<=0->y<=x*(1-u)
theorem Cd.flip (h:Cd u x y):Cu u (-x) (-y):=⟨by have:=h.le;grind,fun h0=>by have:=h.neg (by grind);grind,fun h0=>by have:=h.pos (by grind);grind⟩
theorem Cu.flip (h:Cu u x y):Cd u (-x) (-y):=⟨by have:=h.le;grind,fun h0=>by have:=h.neg (by grind);grind,fun h0=>by have:=h.pos (by grind);grind⟩
theorem Cd.refl (h0:0<=u):Cd u x x:=⟨oY,fun h=>by have:=tz h0 h;grind,fun h=>by have:=tz h0 (show 0<=-x by grind);grind⟩
theorem Cu.refl (h0:0<=u):Cu u x x:=⟨oY,fun h=>by have:=tz h0 h;grind,fun h=>by have:=tz h0 (show 0<=-x by grind);grind⟩
theorem rE (hx:0<=x)(h:y<=x)(k:x*(1-u)<=y):Cd u x y:=⟨h,fun _=>k,fun h0=>by
 have e:x=0:=by grind
 subst e;rw[Gp]at k ⊢
 exact k⟩
theorem rp (hx:0<=x)(h:x<=y)(k:y<=x*(1+u)):Cu u x y:=⟨h,fun _=>k,fun h0=>by
 have e:x=0:=by grind
 subst e;rw[Gp]at k ⊢
 exact k⟩
theorem te {Q:Nat}{more:Bool}{up:Bool}(hP:1<=P)(hQ:0 < Q)(hm:more=true->P<=nb Q):
 (up=neg->kept neg Q more P up*2^(nb Q-P)<=Q/\(Q+(if more then 1 else 0)-kept neg Q more P up*2^(nb Q-P))*2^(P-1)<=Q) /\
 (up≠neg->Q+(if more then 1 else 0)<=kept neg Q more P up*2^(nb Q-P)/\(kept neg Q more P up*2^(nb Q-P)-Q)*2^(P-1)<=Q):=by
 have hlow:=fun h=>tc (neg:=neg) (Q:=Q) (more:=more) (P:=P) (up:=up) h
 have hhigh:=fun h=>pU (neg:=neg) (Q:=Q) (more:=more) (P:=P) (up:=up) h
 have hge:=fA hQ
 by_cases hb:P<=nb Q
 . have hD:2^(nb Q-P)*2^(P-1)<=Q:=by
    rw[← Gu,show nb Q-P+(P-1)=nb Q-1 by omega];exact hge
   have h1:Q < (Q/2^(nb Q-P)+1)*2^(nb Q-P):=Nat.lt_mul_of_div_lt (Nat.lt_succ_self _) (Nat.two_pow_pos _);have h2:Q/2^(nb Q-P)*2^(nb Q-P)<=Q:=Gl _ _;rw[Gq,Gr]at h1;refine⟨fun hu=>⟨hlow hu,Bl (ou _ ?_) hD⟩,fun hu=>⟨hhigh hu,Bl (ou _ ?_) hD⟩⟩
   . have:kept neg Q more P up=Q/2^(nb Q-P):=by
      unfold kept;rw[show(up != neg)=false by simp[hu],Bool.and_false]
      simp
     rw[this]
     split <;> omega
   . have:kept neg Q more P up<=Q/2^(nb Q-P)+1:=by unfold kept;split <;> omega
     have:=ou (2^(nb Q-P)) this
     rw[Gq,Gr]at this;omega
 . have hmo:more=false:=by
    cases hx:more
    . rfl
    . exact absurd (hm hx) hb
   have hz:nb Q-P=0:=by omega
   have:kept neg Q more P up=Q:=by
    unfold kept;rw[hz,Gs,Gv,hmo,Gw]
    simp
   rw[this,hz,hmo]
   simp
structure Tq (B:Int)(r:DR):Prop where
 ok:r.ok=true
 pl:aR r.neg r.m r.e=true
 b:nb r.m<=9000
 e1:-B<=r.e
 e2:r.e+(nb r.m:Int)<=B
theorem Tq.more (h:Tq B r)(hb:B<=B'):Tq B' r:=⟨h.ok,h.pl,h.b,by have:=h.e1;omega,by have:=h.e2;omega⟩
theorem Tq.p (h:Tq B r):Pl r:=⟨h.ok,h.pl⟩
theorem Tq.pr (h:Tq B r):bl r:=aV h.pl
theorem Tq.up {g:Int}(h:Tq B r)(hg:g<=-B):Up r g:=⟨h.ok,fun h0=>(h.pr.zero h0).2,by have:=h.e1;omega⟩
theorem aM (h1:Tq B lo)(h2:Tq B hi)(h:rv lo<=rv hi):aw lo hi=true:=by
 unfold aw bG;rw[h1.ok,h2.ok]
 have:=nU (g:=-B) (fun h0=>(h1.pr.zero h0).2) (fun h0=>(h2.pr.zero h0).2) (.inr h1.e1) (.inr h2.e1) ((iV (.inr h1.e1) (.inr h2.e1)).1 h)
 simp[this]
theorem gc {p:Int}(h1:1<=p)(h2:p<=8192):ge p=false:=by unfold ge;simp;omega
theorem zT {p:Int}(h1:1<=p)(h2:p<=8192):aJ p=true:=by unfold aJ;simp;omega
def uP (P:Nat):Rat:=tp (1-(P:Int))
theorem cD (P:Nat):0 < uP P:=co _
theorem nu (hP:1<=P):uP P*((2^(P-1):Nat):Rat)=1:=by
 unfold uP;rw[← dH,← bV,show 1-(P:Int)+((P-1:Nat):Int)=0 by omega,kG]
theorem Er {Q:Nat}(h:P<=Q):uP Q<=uP P:=dj (by omega)
theorem pX {X Y:Nat}(hP:1<=P)(h:(X-Y)*2^(P-1)<=X)(hYX:Y<=X):(X:Rat)*(1-uP P)<=(Y:Rat):=by
 have h1:=je h
 have e1:(((X-Y)*2^(P-1):Nat):Rat)=((X:Rat)-(Y:Rat))*((2^(P-1):Nat):Rat):=by rw[DF,jD hYX]
 rw[e1]at h1;have h2:=qK h1 (oM (cD P));have h3:=nu hP;generalize((2^(P-1):Nat):Rat)=t at *;generalize uP P=u at *
 have:u*(((X:Rat)-(Y:Rat))*t)=((X:Rat)-(Y:Rat))*(u*t):=by grind
 rw[this,h3]at h2
 grind
theorem oq {X Y Z:Nat}(hP:1<=P)(h:(Y-X)*2^(P-1)<=Z)(hYX:X<=Y):(Y:Rat)<=(X:Rat)+(Z:Rat)*uP P:=by
 have h1:=je h
 have e1:(((Y-X)*2^(P-1):Nat):Rat)=((Y:Rat)-(X:Rat))*((2^(P-1):Nat):Rat):=by rw[DF,jD hYX]
 rw[e1]at h1;have h2:=qK h1 (oM (cD P));have h3:=nu hP;generalize((2^(P-1):Nat):Rat)=t at *;generalize uP P=u at *
 have:u*(((Y:Rat)-(X:Rat))*t)=((Y:Rat)-(X:Rat))*(u*t):=by grind
 rw[this,h3]at h2
 grind
theorem fh (V:Nat)(e:Int):qv true V e=-((V:Rat)*tp e):=rfl
theorem j9 (V:Nat)(e:Int):0<=(V:Rat)*tp e:=tz Rat.natCast_nonneg (oM (co e))
theorem jW {V:Nat}{e:Int}(up:Bool)(hP1:1<=P)(hP:P<=8192)(h1:-B<=e)(h2:e+(nb V:Int)<=B)(hB:B<=262000)(hB0:0<=B):
 Tq (B+1) (cj neg V e false P up)/\nb (cj neg V e false P up).m<=P+1/\(up=false->Cd (uP P) (qv neg V e) (rv (cj neg V e false P up)))/\(up=true->Cu (uP P) (qv neg V e) (rv (cj neg V e false P up))):=by
 have hk:=qW neg V false P up;have hk2:=nZ neg V false P up
 have hgap:=fun h0:0 < V=>te (neg:=neg) (Q:=V) (more:=false) (P:=P) (up:=up) hP1 h0 (fun h=>by cases h)
 rw[oH]
 have hkz:nb V<=P->kept neg V false P up=V:=fun h=>by
  unfold kept;rw[show nb V-P=0 by omega,Gs,Gv,Gw]
  simp
 have htop:e+((nb V-P:Nat):Int)+(nb (kept neg V false P up):Int)<=B+1:=by
  rcases Nat.lt_or_ge P (nb V) with h | h
  . omega
  . rw[hkz h];omega
 have G:=jg neg (V:=kept neg V false P up) (e:=e+((nb V-P:Nat):Int)) (by omega) (by omega) (by omega);have hv:=G.rv_eq;have hm:=bQ G.le;have hpl:=aV G.plain
 have hzz:0 < kept neg V false P up->(bH neg (kept neg V false P up) (e+((nb V-P:Nat):Int))).e+(nb (bH neg (kept neg V false P up) (e+((nb V-P:Nat):Int))).m:Int)=e+((nb V-P:Nat):Int)+(nb (kept neg V false P up):Int):=fun h=>by
  obtain⟨_,z,g1,g2⟩:=G.nz h
  have h0:0 < (bH neg (kept neg V false P up) (e+((nb V-P:Nat):Int))).m:=by
   rcases mF (bH neg (kept neg V false P up) (e+((nb V-P:Nat):Int))).m with h0 | h0
   . rw[h0,Bx]at g1;omega
   . exact h0
  have:=ch (V:=(bH neg (kept neg V false P up) (e+((nb V-P:Nat):Int))).m) (z:=z) h0
  rw[← g1]at this;omega
 have hze:kept neg V false P up=0->(bH neg (kept neg V false P up) (e+((nb V-P:Nat):Int)))=DR.zero:=fun h=>by rw[h];rfl
 have hlt:=hv;rw[uI]at hv;generalize bH neg (kept neg V false P up) (e+((nb V-P:Nat):Int))=r at *;refine⟨⟨G.ok,G.plain,by omega,?_,?_⟩,by omega,?_⟩
 . rcases mF (kept neg V false P up) with h | h
   . rw[hze h];show -(B+1)<=(0:Int);omega
   . rcases G.e1 with h' | h' <;> omega
 . rcases mF (kept neg V false P up) with h | h
   . rw[hze h];show(0:Int)+(nb 0:Int)<=_;rw[aX];omega
   . have:=hzz h;omega
 . rcases mF V with h0 | h0
   . subst h0
     have hkz0:=hkz (by rw[aX];omega);rw[hv,hkz0,Bx,fL];exact⟨fun _=>Cd.refl (oM (cD P)),fun _=>Cu.refl (oM (cD P))⟩
   . obtain⟨g1,g2⟩:=hgap h0
     simp only[Bool.false_eq_true,if_false,Gt]at g1 g2;have ht:=oM (co e);have hu:=cD P;generalize hK:kept neg V false P up*2^(nb V-P)=K at *
     have low:K<=V->(V-K)*2^(P-1)<=V->(V:Rat)*tp e*(1-uP P)<=(K:Rat)*tp e/\(K:Rat)*tp e<=(V:Rat)*tp e:=fun a b=>by
      have s:=lY (pX hP1 b a) ht;have s2:=lY (je a) ht
      constructor <;> grind
     have high:V<=K->(K-V)*2^(P-1)<=V->(K:Rat)*tp e<=(V:Rat)*tp e*(1+uP P)/\(V:Rat)*tp e<=(K:Rat)*tp e:=fun a b=>by
      have s:=lY (oq hP1 b a) ht;have s2:=lY (je a) ht
      constructor <;> grind
     have hv0:=j9 V e;have hk0:=j9 K e;rw[hv];have hun:=tz hv0 (oM hu);cases neg
     . rw[dc,dc]
       refine⟨fun hu'=>?_,fun hu'=>?_⟩
       . obtain⟨a,b⟩:=g1 hu'
         obtain⟨c,d⟩:=low a b;exact rE hv0 d c
       . obtain⟨a,b⟩:=g2 (by rw[hu'];decide)
         obtain⟨c,d⟩:=high a b;exact rp hv0 d c
     . rw[fh,fh]
       refine⟨fun hu'=>?_,fun hu'=>?_⟩
       . obtain⟨a,b⟩:=g2 (by rw[hu'];decide)
         obtain⟨c,d⟩:=high a b;exact(rp hv0 d c).flip
       . obtain⟨a,b⟩:=g1 hu'
         obtain⟨c,d⟩:=low a b;exact(rE hv0 d c).flip
structure Sq (B:Int)(r:SRes):Prop where
 bad:r.bad=false
 l:Tq B r.lo
 h:Tq B r.hi
 le:rv r.lo<=rv r.hi
theorem Sq.more {r:SRes}(h:Sq B r)(hb:B<=B'):Sq B' r:=⟨h.bad,h.l.more hb,h.h.more hb,h.le⟩
theorem Sq.good {r:SRes}(h:Sq B r):dA r:=⟨h.l.ok,h.l.pl,h.h.ok,h.h.pl⟩
theorem wF (h:Cd u x a)(k:Cu u y b)(hxy:x<=y):a<=b:=by
 have:=h.le
 have:=k.le
 grind
theorem mL {s:DR}(h1:Tq B r)(h2:Tq B s):-B<=(bS r s).e/\(bS r s).e+(nb (bS r s).m:Int)<=B+1:=by
 have a2:=h1.e1;have a3:=h1.e2;have b2:=h2.e1;have b3:=h2.e2;unfold bS
 by_cases h0:r.m=0
 . rw[if_pos h0];omega
 . rw[if_neg h0]
   by_cases h1:s.m=0
   . rw[if_pos h1];omega
   . rw[if_neg h1]
     have n1:nb (cF r.m r.e s.e)=nb r.m+(r.e-min r.e s.e).toNat:=by unfold cF;rw[ch (by omega)]
     have n2:nb (cF s.m s.e r.e)=nb s.m+(s.e-min s.e r.e).toNat:=by unfold cF;rw[ch (by omega)]
     by_cases hn:r.neg=s.neg
     . rw[if_pos hn]
       have:=lW (X:=cF r.m r.e s.e) (Y:=cF s.m s.e r.e) (K:=max (nb (cF r.m r.e s.e)) (nb (cF s.m s.e r.e))) (by omega) (by omega)
       simp only
       omega
     . rw[if_neg hn]
       split
       . have:=bQ (Gy (cF r.m r.e s.e) (cF s.m s.e r.e))
         simp only
         omega
       . have:=bQ (Gy (cF s.m s.e r.e) (cF r.m r.e s.e))
         simp only
         omega
theorem qT (h:Tq B r)(hB0:0<=B):Tq B (aT r):=by
 have hp:=Ho h.p;have h1:=h.b;have h2:=h.e1;have h3:=h.e2
 refine⟨hp.ok,hp.pl,?_,?_,?_⟩ <;>
 . unfold aT
   rw[h.ok,if_pos rfl]
   by_cases h0:r.m=0
   . rw[if_pos h0];unfold DR.zero;simp only[aX];omega
   . rw[if_neg h0];simp only;omega
theorem jP {V:Nat}{e:Int}(h1:-B<=e)(h2:e+(nb V:Int)<=B)(h3:nb V<=9000)(hB:B<=262144)(hB0:0<=B):Tq B (bH neg V e)/\rv (bH neg V e)=qv neg V e/\nb (bH neg V e).m<=nb V:=by
 have G:=jg neg (V:=V) (e:=e) (by omega) (by omega) (by omega);have hm:=bQ G.le;have hv:=G.rv_eq;refine⟨⟨G.ok,G.plain,by omega,?_,?_⟩,hv,hm⟩
 . rcases mF V with h | h
   . subst h;show -B<=(0:Int);omega
   . rcases G.e1 with h' | h' <;> omega
 . rcases mF V with h | h
   . subst h;show(0:Int)+(nb 0:Int)<=B;rw[aX];omega
   . obtain⟨_,z,g1,g2⟩:=G.nz h
     have h0:0 < (bH neg V e).m:=by
      rcases mF (bH neg V e).m with h0 | h0
      . rw[h0,Bx]at g1;omega
      . exact h0
     have:=ch (V:=(bH neg V e).m) (z:=z) h0
     rw[← g1]at this;omega
theorem nI (neg:Bool)(V:Nat)(e k:Int):qv neg V (e+k)=qv neg V e*tp k:=by
 unfold qv;rw[bV];cases neg
 . show(V:Rat)*(tp e*tp k)=(V:Rat)*tp e*tp k
   grind
 . show -((V:Rat)*(tp e*tp k))=-((V:Rat)*tp e)*tp k
   grind
theorem ql {p:Int}{r:SRes}(hp1:1<=p)(hp2:p<=8192)(h:Sq B r)(k:Sq B s)(hB:B<=260000)(hB0:0<=B):Sq (B+2) (dC p false r.lo r.hi s.lo s.hi) /\
 Cd (uP p.toNat) (rv r.lo+rv s.lo) (rv (dC p false r.lo r.hi s.lo s.hi).lo)/\Cu (uP p.toNat) (rv r.hi+rv s.hi) (rv (dC p false r.lo r.hi s.lo s.hi).hi):=by
 have b1:=mL h.l k.l;have b2:=mL h.h k.h;have c1:=jW (neg:=(bS r.lo s.lo).neg) (V:=(bS r.lo s.lo).m) (e:=(bS r.lo s.lo).e) (B:=B+1) (P:=p.toNat) false (by omega) (by omega) (by omega) (by omega) (by omega) (by omega);have c2:=jW (neg:=(bS r.hi s.hi).neg) (V:=(bS r.hi s.hi).m) (e:=(bS r.hi s.hi).e) (B:=B+1) (P:=p.toNat) true (by omega) (by omega) (by omega) (by omega) (by omega) (by omega);have e1:=mM r.lo s.lo;have e2:=mM r.hi s.hi;have g1:=c1.2.2.1 rfl;have g2:=c2.2.2.2 rfl
 change Cd _ (rv (bS r.lo s.lo)) _ at g1
 change Cu _ (rv (bS r.hi s.hi)) _ at g2
 have hb:dL p false r.lo r.hi s.lo s.hi=false:=by
  unfold dL;rw[aM h.l h.h h.le,aM k.l k.h k.le,gc hp1 hp2]
  rfl
 have hE:dC p false r.lo r.hi s.lo s.hi=⟨false,cj (bS r.lo s.lo).neg (bS r.lo s.lo).m (bS r.lo s.lo).e false p.toNat false,cj (bS r.hi s.hi).neg (bS r.hi s.hi).m (bS r.hi s.hi).e false p.toNat true⟩:=by
  unfold dC il cG j6;rw[hb,c1.1.ok,c2.1.ok]
  rfl
 rw[hE];rw[e1]at g1;rw[e2]at g2
 have:=h.le
 have:=k.le
 exact⟨⟨rfl,c1.1.more (by omega),c2.1.more (by omega),wF g1 g2 (by grind)⟩,g1,g2⟩
theorem wh {p:Int}{r:SRes}(hp1:1<=p)(hp2:p<=8192)(h:Sq B r)(hB0:0<=B):gS p false r.lo r.hi=⟨false,aT r.hi,aT r.lo⟩/\Sq B (gS p false r.lo r.hi)/\rv (aT r.hi)=- rv r.hi/\rv (aT r.lo)=- rv r.lo:=by
 have hr:=dW (aM h.l h.h h.le);have hE:=mX hp1 hp2 hr h.l.p h.h.p;have e1:=kX h.l.ok;have e2:=kX h.h.ok;refine⟨hE,?_,e2,e1⟩;rw[hE]
 have:=h.le
 exact⟨rfl,qT h.h hB0,qT h.l hB0,by show rv (aT r.hi)<=rv (aT r.lo);grind⟩
theorem vO {p:Int}{r:SRes}(hp1:1<=p)(hp2:p<=8192)(h:Sq B r)(k:Sq B s)(hB:B<=260000)(hB0:0<=B):Sq (B+2) (eT p false r.lo r.hi s.lo s.hi) /\
 Cd (uP p.toNat) (rv r.lo-rv s.hi) (rv (eT p false r.lo r.hi s.lo s.hi).lo)/\Cu (uP p.toNat) (rv r.hi-rv s.lo) (rv (eT p false r.lo r.hi s.lo s.hi).hi):=by
 obtain⟨n1,n2,n3,n4⟩:=wh hp1 hp2 k hB0
 have:=ql hp1 hp2 h n2 hB hB0
 unfold eT;rw[n2.bad,Gm,Gm,← n3,← n4];rw[n1]at this ⊢;exact this
theorem mR {p:Int}{r:SRes}(hp1:1<=p)(hp2:p<=8192){k:Int}(h:Sq B r)(hk:-100000<=k/\k<=100000)(h1:B+k<=B')(h2:B-k<=B')(h3:0<=B')(h4:B'<=262144):
 bE p false r.lo r.hi k=⟨false,bH r.lo.neg r.lo.m (r.lo.e+k),bH r.hi.neg r.hi.m (r.hi.e+k)⟩/\Sq B' (bE p false r.lo r.hi k) /\
 rv (bE p false r.lo r.hi k).lo=rv r.lo*tp k/\rv (bE p false r.lo r.hi k).hi=rv r.hi*tp k:=by
 have l1:=h.l.e1;have l2:=h.l.e2;have l3:=h.l.b;have u1:=h.h.e1;have u2:=h.h.e2;have u3:=h.h.b;have c1:=jP (neg:=r.lo.neg) (V:=r.lo.m) (e:=r.lo.e+k) (B:=B') (by omega) (by omega) l3 h4 h3;have c2:=jP (neg:=r.hi.neg) (V:=r.hi.m) (e:=r.hi.e+k) (B:=B') (by omega) (by omega) u3 h4 h3
 have hb:(eD p false r.lo r.hi || ki k)=false:=by
  unfold eD ki;rw[aM h.l h.h h.le,gc hp1 hp2]
  simp
  omega
 have hE:bE p false r.lo r.hi k=⟨false,bH r.lo.neg r.lo.m (r.lo.e+k),bH r.hi.neg r.hi.m (r.hi.e+k)⟩:=by
  unfold bE il cG;rw[hb,c1.1.ok,c2.1.ok]
  rfl
 have e1:rv (bE p false r.lo r.hi k).lo=rv r.lo*tp k:=by rw[hE];show rv (bH _ _ _)=_;rw[c1.2.1,nI];rfl
 have e2:rv (bE p false r.lo r.hi k).hi=rv r.hi*tp k:=by rw[hE];show rv (bH _ _ _)=_;rw[c2.2.1,nI];rfl
 refine⟨hE,⟨by rw[hE],by rw[hE];exact c1.1,by rw[hE];exact c2.1,?_⟩,e1,e2⟩;rw[e1,e2];exact lY h.le (oM (co k))
theorem sQ {p:Int}{r:SRes}(hp1:1<=p)(hp2:p<=8192)(h:Sq B r)(hB:B<=260000)(hB0:0<=B):Sq (B+1) (eI p false r.lo r.hi)/\nb (eI p false r.lo r.hi).lo.m<=p.toNat+1/\nb (eI p false r.lo r.hi).hi.m<=p.toNat+1 /\
 Cd (uP p.toNat) (rv r.lo) (rv (eI p false r.lo r.hi).lo)/\Cu (uP p.toNat) (rv r.hi) (rv (eI p false r.lo r.hi).hi):=by
 have l1:=h.l.e1;have l2:=h.l.e2;have u1:=h.h.e1;have u2:=h.h.e2;have c1:=jW (neg:=r.lo.neg) (V:=r.lo.m) (e:=r.lo.e) (B:=B) (P:=p.toNat) false (by omega) (by omega) l1 l2 (by omega) (by omega);have c2:=jW (neg:=r.hi.neg) (V:=r.hi.m) (e:=r.hi.e) (B:=B) (P:=p.toNat) true (by omega) (by omega) u1 u2 (by omega) (by omega)
 have hb:eD p false r.lo r.hi=false:=by
  unfold eD;rw[aM h.l h.h h.le,gc hp1 hp2]
  rfl
 obtain⟨P,rfl⟩:∃ P:Nat,p=(P:Int):=⟨p.toNat,by omega⟩;simp only[Int.toNat_natCast]at c1 c2 ⊢
 have hE:eI (P:Int) false r.lo r.hi=⟨false,cj r.lo.neg r.lo.m r.lo.e false P false,cj r.hi.neg r.hi.m r.hi.e false P true⟩:=by
  unfold eI il cG;rw[hb,iA h.l.ok (by omega) (by omega),iA h.h.ok (by omega) (by omega),c1.1.ok,c2.1.ok]
  rfl
 have g1:=c1.2.2.1 trivial;have g2:=c2.2.2.2 trivial;rw[hE];exact⟨⟨rfl,c1.1,c2.1,wF g1 g2 h.le⟩,c1.2.1,c2.2.1,g1,g2⟩
theorem nh {a b:DR}(h:Tq B a)(k:Tq B b):cN a b=decide (rv a < rv b):=by
 unfold cN;have u1:=h.up (g:=-B) (Int.le_refl _);have u2:=k.up (g:=-B) (Int.le_refl _);rw[rB u1 u2]
 have e:val a (-B) < val b (-B) ↔ rv a < rv b:=by
  have:=iV (r:=b) (s:=a) (.inr k.e1) (.inr h.e1)
  rw[← DE,this];omega
 simp only[e]
theorem uQ {p:Int}{r:SRes}(hp1:1<=p)(hp2:p<=8192)(h:Sq B r)(k:Sq B s):Sq B (dy p false r.lo r.hi s.lo s.hi) /\
 (rv (dy p false r.lo r.hi s.lo s.hi).lo<=rv r.lo/\rv (dy p false r.lo r.hi s.lo s.hi).lo<=rv s.lo/\(rv (dy p false r.lo r.hi s.lo s.hi).lo=rv r.lo\/rv (dy p false r.lo r.hi s.lo s.hi).lo=rv s.lo)) /\
 (rv r.hi<=rv (dy p false r.lo r.hi s.lo s.hi).hi/\rv s.hi<=rv (dy p false r.lo r.hi s.lo s.hi).hi/\(rv (dy p false r.lo r.hi s.lo s.hi).hi=rv r.hi\/rv (dy p false r.lo r.hi s.lo s.hi).hi=rv s.hi)):=by
 have hb:dL p false r.lo r.hi s.lo s.hi=false:=by
  unfold dL;rw[aM h.l h.h h.le,aM k.l k.h k.le,gc hp1 hp2]
  rfl
 have hE:dy p false r.lo r.hi s.lo s.hi=⟨false,aF (cN s.lo r.lo) s.lo r.lo,aF (cN r.hi s.hi) s.hi r.hi⟩:=by
  unfold dy;rw[hb]
  rfl
 rw[hE,nh k.l h.l,nh h.h k.h]
 have:=h.le
 have:=k.le
 by_cases c1:rv s.lo < rv r.lo <;> by_cases c2:rv r.hi < rv s.hi
 . rw[decide_eq_true c1,decide_eq_true c2]
   exact⟨⟨rfl,k.l,k.h,k.le⟩,⟨oM c1,oY,.inr rfl⟩,oM c2,oY,.inr rfl⟩
 . rw[decide_eq_true c1,decide_eq_false c2]
   have c2:=Gn.1 c2;exact⟨⟨rfl,k.l,h.h,by show rv s.lo<=rv r.hi;grind⟩,⟨oM c1,oY,.inr rfl⟩,oY,c2,.inl rfl⟩
 . rw[decide_eq_false c1,decide_eq_true c2]
   have c1:=Gn.1 c1;exact⟨⟨rfl,h.l,k.h,by show rv r.lo<=rv s.hi;grind⟩,⟨oY,c1,.inl rfl⟩,oM c2,oY,.inr rfl⟩
 . rw[decide_eq_false c1,decide_eq_false c2]
   have c1:=Gn.1 c1;have c2:=Gn.1 c2;exact⟨⟨rfl,h.l,h.h,h.le⟩,⟨oY,c1,.inl rfl⟩,oY,c2,.inl rfl⟩
theorem oW {p:Int}(hp1:1<=p)(hp2:p<=8192){d:DR}(h:Tq B d):uj p false d=⟨false,d,d⟩/\Sq B ⟨false,d,d⟩:=by
 refine⟨?_,⟨rfl,h,h,oY⟩⟩;have ho:=h.ok;unfold uj Bu eD;rw[aM h h oY,gc hp1 hp2];cases d
 simp only at ho
 subst ho
 rfl
theorem jT {p:Int}(hp1:1<=p)(hp2:p<=8192){n:Nat}(hn:nb n<=64):∃ d,dY p false (n:Int)=⟨false,d,d⟩/\Tq 64 d/\rv d=(n:Rat)/\d.neg=false:=by
 have c:=jP (neg:=false) (V:=n) (e:=0) (B:=64) (by omega) (by omega) (by omega) (by omega) (by omega);refine⟨bH false n 0,?_,c.1,?_,?_⟩
 . unfold dY
   rw[show decide ((n:Int) < 0)=false from decide_eq_false (by omega),Int.natAbs_natCast];exact(oW hp1 hp2 c.1).1
 . rw[c.2.1,dc,kG,Rat.mul_one]
 . unfold bH
   split
   . rfl
   . split <;> rfl
theorem zO {Q:DR->Prop}{s:DR}(h:Q r)(k:Q s):Q (pW r s):=by unfold pW;split <;> assumption
theorem pI {Q:DR->Prop}{lo' hi':DR}(h:∀ r s,(r=lo\/r=hi)->(s=lo'\/s=hi')->Q (aH r s)/\Q (aH s r)):Q (dw lo hi lo' hi').1/\Q (dw lo hi lo' hi').2:=by
 have hp:∀ b,aF b lo' hi'=lo'\/aF b lo' hi'=hi':=fun b=>by unfold aF;split <;> simp
 have hp2:∀ b,aF b hi' lo'=lo'\/aF b hi' lo'=hi':=fun b=>by unfold aF;split <;> simp
 have hq:∀ b,aF b lo hi=lo\/aF b lo hi=hi:=fun b=>by unfold aF;split <;> simp
 have hq2:∀ b,aF b hi lo=lo\/aF b hi lo=hi:=fun b=>by unfold aF;split <;> simp
 unfold dw dO
 split
 . split
   . exact⟨(h _ _ (.inr rfl) (hp2 _)).1,(h _ _ (.inl rfl) (hp _)).1⟩
   . exact⟨(h _ _ (.inl rfl) (hp2 _)).1,(h _ _ (.inr rfl) (hp _)).1⟩
 . split
   . split
     . exact⟨(h _ _ (hq2 _) (.inr rfl)).2,(h _ _ (hq _) (.inl rfl)).2⟩
     . exact⟨(h _ _ (hq2 _) (.inl rfl)).2,(h _ _ (hq _) (.inr rfl)).2⟩
   . have a:=(h lo lo' (.inl rfl) (.inl rfl)).1
     have b:=(h lo hi' (.inl rfl) (.inr rfl)).1;have c:=(h hi lo' (.inr rfl) (.inl rfl)).1;have d:=(h hi hi' (.inr rfl) (.inr rfl)).1;exact⟨zO b c,zO a d⟩
structure Wq (B:Int)(r:DR):Prop where
 e1:-B<=r.e
 e2:r.e+(nb r.m:Int)<=B
theorem kT {s:DR}(h:Tq B r)(k:Tq C s):Wq (B+C) (aH r s):=by
 have h1:=h.e1;have h2:=h.e2;have k1:=k.e1;have k2:=k.e2;have h3:=lV r.m s.m;exact⟨by show -(B+C)<=r.e+s.e;omega,by show r.e+s.e+(nb (r.m*s.m):Int)<=B+C;omega⟩
theorem zj (r s:DR):rv (aH r s)=rv r*rv s:=by
 unfold rv aH qv Bk
 have e:((r.m*s.m:Nat):Rat)*tp (r.e+s.e)=(r.m:Rat)*tp r.e*((s.m:Rat)*tp s.e):=by
  rw[bV,DF];grind
 cases r.neg <;> cases s.neg
 . show((r.m*s.m:Nat):Rat)*tp (r.e+s.e)=(r.m:Rat)*tp r.e*((s.m:Rat)*tp s.e)
   exact e
 . show -(((r.m*s.m:Nat):Rat)*tp (r.e+s.e))=(r.m:Rat)*tp r.e*-((s.m:Rat)*tp s.e)
   rw[e];grind
 . show -(((r.m*s.m:Nat):Rat)*tp (r.e+s.e))=-((r.m:Rat)*tp r.e)*((s.m:Rat)*tp s.e)
   rw[e];grind
 . show((r.m*s.m:Nat):Rat)*tp (r.e+s.e)=-((r.m:Rat)*tp r.e)*-((s.m:Rat)*tp s.e)
   rw[e];grind
structure vw (L H a b c d:Rat):Prop where
 l1:L<=a*c
 l2:L<=a*d
 l3:L<=b*c
 l4:L<=b*d
 u1:a*c<=H
 u2:a*d<=H
 u3:b*c<=H
 u4:b*d<=H
 lo:L=a*c\/L=a*d\/L=b*c\/L=b*d
 hi:H=a*c\/H=a*d\/H=b*c\/H=b*d
theorem vw.le (h:vw L H a b c d):L<=H:=Rat.le_trans h.l1 h.u1
theorem Bv {r:SRes}(h:Sq B r)(k:Sq B s):vw (rv (dw r.lo r.hi s.lo s.hi).1) (rv (dw r.lo r.hi s.lo s.hi).2) (rv r.lo) (rv r.hi) (rv s.lo) (rv s.hi):=by
 have hv:=(iV (.inr h.l.e1) (.inr h.h.e1)).1 h.le;have kv:=(iV (.inr k.l.e1) (.inr k.h.e1)).1 k.le;obtain⟨mn,mx⟩:=xp h.l.pr h.h.pr k.l.pr k.h.pr h.l.e1 h.h.e1 k.l.e1 k.h.e1 hv kv
 have W:=pI (Q:=Wq (B+B)) (fun r' s' hr hs=>by
  have tr:Tq B r':=hr.elim (fun e=>e ▸ h.l) (fun e=>e ▸ h.h);have ts:Tq B s':=hs.elim (fun e=>e ▸ k.l) (fun e=>e ▸ k.h)
  exact⟨kT tr ts,kT ts tr⟩)
 have e1:rv (dw r.lo r.hi s.lo s.hi).1=(val (dw r.lo r.hi s.lo s.hi).1 (-B+-B):Rat)*tp (-B+-B):=j8 (.inr (by have:=W.1.e1;omega));have e2:rv (dw r.lo r.hi s.lo s.hi).2=(val (dw r.lo r.hi s.lo s.hi).2 (-B+-B):Rat)*tp (-B+-B):=j8 (.inr (by have:=W.2.e1;omega))
 have pr:∀ {x y:DR},Tq B x->Tq B y->rv x*rv y=((val x (-B)*val y (-B):Int):Rat)*tp (-B+-B):=fun {x y} hx hy=>by
  rw[j8 (g:=-B) (.inr hx.e1),j8 (g:=-B) (.inr hy.e1),bV]
  push_cast
  grind
 rw[e1,e2];have ht:=oM (co (-B+-B))
 have le:∀ {a b:Int},a<=b->(a:Rat)*tp (-B+-B)<=(b:Rat)*tp (-B+-B):=fun hab=>lY (by exact_mod_cast hab) ht
 refine⟨?_,?_,?_,?_,?_,?_,?_,?_,?_,?_⟩
 . rw[pr h.l k.l];exact le mn.l1
 . rw[pr h.l k.h];exact le mn.l2
 . rw[pr h.h k.l];exact le mn.l3
 . rw[pr h.h k.h];exact le mn.l4
 . rw[pr h.l k.l];exact le mx.l1
 . rw[pr h.l k.h];exact le mx.l2
 . rw[pr h.h k.l];exact le mx.l3
 . rw[pr h.h k.h];exact le mx.l4
 . rw[pr h.l k.l,pr h.l k.h,pr h.h k.l,pr h.h k.h]
   rcases mn.one with e | e | e | e <;> rw[e] <;> simp
 . rw[pr h.l k.l,pr h.l k.h,pr h.h k.l,pr h.h k.h]
   rcases mx.one with e | e | e | e <;> rw[e] <;> simp
theorem ET {p:Int}{r:SRes}(hp1:1<=p)(hp2:p<=8192)(h:Sq B r)(k:Sq B s)(hB:2*B<=262000)(hB0:0<=B):
 Sq (2*B+1) (lc p false r.lo r.hi s.lo s.hi)/\nb (lc p false r.lo r.hi s.lo s.hi).lo.m<=p.toNat+1/\nb (lc p false r.lo r.hi s.lo s.hi).hi.m<=p.toNat+1 /\
 ∃ L H,vw L H (rv r.lo) (rv r.hi) (rv s.lo) (rv s.hi)/\Cd (uP p.toNat) L (rv (lc p false r.lo r.hi s.lo s.hi).lo)/\Cu (uP p.toNat) H (rv (lc p false r.lo r.hi s.lo s.hi).hi):=by
 have M:=Bv h k
 have W:=pI (Q:=Wq (B+B)) (fun r' s' hr hs=>by
  have tr:Tq B r':=hr.elim (fun e=>e ▸ h.l) (fun e=>e ▸ h.h);have ts:Tq B s':=hs.elim (fun e=>e ▸ k.l) (fun e=>e ▸ k.h)
  exact⟨kT tr ts,kT ts tr⟩)
 have hb:dL p false r.lo r.hi s.lo s.hi=false:=by
  unfold dL;rw[aM h.l h.h h.le,aM k.l k.h k.le,gc hp1 hp2]
  rfl
 obtain⟨x,y,hxy⟩:∃ x y,dw r.lo r.hi s.lo s.hi=(x,y):=⟨_,_,rfl⟩
 have hE:lc p false r.lo r.hi s.lo s.hi=gF p.toNat x y:=by unfold lc;rw[hb,hxy];rfl
 rw[hxy]at M W;have w1:=W.1.e1;have w2:=W.1.e2;have w3:=W.2.e1;have w4:=W.2.e2
 dsimp only at w1 w2 w3 w4 M
 have c1:=jW (neg:=x.neg) (V:=x.m) (e:=x.e) (B:=2*B) (P:=p.toNat) false (by omega) (by omega) (by omega) (by omega) (by omega) (by omega);have c2:=jW (neg:=y.neg) (V:=y.m) (e:=y.e) (B:=2*B) (P:=p.toNat) true (by omega) (by omega) (by omega) (by omega) (by omega) (by omega)
 have hE2:lc p false r.lo r.hi s.lo s.hi=⟨false,cj x.neg x.m x.e false p.toNat false,cj y.neg y.m y.e false p.toNat true⟩:=by
  rw[hE];unfold gF cG;rw[c1.1.ok,c2.1.ok]
  rfl
 have g1:=c1.2.2.1 rfl;have g2:=c2.2.2.2 rfl;rw[hE2];exact⟨⟨rfl,c1.1,c2.1,wF g1 g2 M.le⟩,c1.2.1,c2.2.1,_,_,M,g1,g2⟩
theorem CJ {s:DR}(up:Bool)(hP1:1<=P)(hP:P<=8192)(hr:Tq B r)(hs:Tq C s)(hn':s.neg=false)(h0:0 < s.m)(hB:B+C+(P:Int)<=260000)(hB0:0<=B)(hC0:0<=C):
 Tq (B+C+(P:Int)+2) (qN r s P up)/\nb (qN r s P up).m<=P+1/\(up=false->Cd (uP P) (rv r) (rv (qN r s P up)*rv s))/\(up=true->Cu (uP P) (rv r) (rv (qN r s P up)*rv s)):=by
 have a1:=hr.b;have a2:=hr.e1;have a3:=hr.e2;have b1:=hs.b;have b2:=hs.e1;have b3:=hs.e2
 rcases mF r.m with hz | hr0
 . have hq:qN r s P up=DR.zero:=by
    unfold qN mC;rw[hz,Bx,Nat.zero_div,Nat.zero_mod,show decide (0≠0)=false from rfl,gM]
   have e1:rv r=0:=by unfold rv;rw[hz,fL]
   have e2:rv DR.zero=0:=by unfold rv;exact fL _ _
   rw[hq,e1,e2,Gp];refine⟨⟨rfl,rfl,by show nb 0<=9000;rw[aX];omega,by show -(B+C+(P:Int)+2)<=0;omega,by show(0:Int)+(nb 0:Int)<=_;rw[aX];omega⟩,by show nb 0<=_;rw[aX];omega,fun _=>Cd.refl (oM (cD P)),fun _=>Cu.refl (oM (cD P))⟩
 obtain⟨R,hR⟩:=du (P+nb s.m-nb r.m);have hquo:=sF (r:=R) hr0 h0 (by omega) hP1;unfold qN mC;rw[← hR,oH,hn',show(r.neg != false)=r.neg by cases r.neg <;> rfl];have hN:=iv r.m R
 have rvs:rv s=(s.m:Rat)*tp s.e:=by unfold rv;rw[hn',dc]
 have hNN:(r.m*2^R:Nat)*tp (r.e-(R:Int))=(r.m:Rat)*tp r.e:=by
  push_cast
  have:=bV (r.e-(R:Int)) (R:Int)
  rw[show r.e-(R:Int)+(R:Int)=r.e by omega,dH]at this;rw[this]
  push_cast
  grind
 have hNN2:nb (r.m*2^R)=nb r.m+R:=ch hr0 R;generalize hNe:r.m*2^R=N at *
 have hN0:0 < N:=by
  rcases mF N with h | h
  . rw[h,aX]at hNN2
    have:=gg hr0
    omega
  . exact h
 have hdm:=Nat.div_add_mod N s.m;have hlt:=Nat.mod_lt N h0;have hk2:=nZ r.neg (N/s.m) (decide (N%s.m≠0)) P up;have hk:=qW r.neg (N/s.m) (decide (N%s.m≠0)) P up;have hgap:=te (neg:=r.neg) (Q:=N/s.m) (more:=decide (N%s.m≠0)) (P:=P) (up:=up) hP1 hquo.2 (fun _=>hquo.1)
 have hQb:nb (N/s.m)<=nb r.m+R+1-nb s.m:=by
  refine(bi _ _).2 ?_;refine Nat.div_lt_of_lt_mul ?_;have g1:=fA h0;have g2:=dZ N;rw[hNN2]at g2;have g3:2^(nb s.m-1)*2^(nb r.m+R+1-nb s.m)<=s.m*2^(nb r.m+R+1-nb s.m):=ou _ g1;rw[← Gu]at g3
  have g4:nb r.m+R<=nb s.m-1+(nb r.m+R+1-nb s.m):=by omega
  have g5:2^(nb r.m+R)<=2^(nb s.m-1+(nb r.m+R+1-nb s.m)):=Nat.pow_le_pow_right (by omega) g4;omega
 have hs1:=gg h0;have hr1:=gg hr0
 have hle:nb (N/s.m)-P+(nb (kept r.neg (N/s.m) (decide (N%s.m≠0)) P up))<=nb (N/s.m)+1:=by omega
 have G:=jg r.neg (V:=kept r.neg (N/s.m) (decide (N%s.m≠0)) P up) (e:=r.e-s.e-(R:Int)+((nb (N/s.m)-P:Nat):Int)) (by omega) (by omega) (by omega);have mkq:=jP (neg:=r.neg) (V:=kept r.neg (N/s.m) (decide (N%s.m≠0)) P up) (e:=r.e-s.e-(R:Int)+((nb (N/s.m)-P:Nat):Int)) (B:=B+C+(P:Int)+2) (by omega) (by omega) (by omega) (by omega) (by omega);have hv:=mkq.2.1;rw[uI]at hv;refine⟨mkq.1,Bl mkq.2.2 hk2,?_⟩;have ht:=oM (co (r.e-(R:Int)));have hu:=cD P
 have hPe:((kept r.neg (N/s.m) (decide (N%s.m≠0)) P up*2^(nb (N/s.m)-P):Nat):Rat)*tp (r.e-s.e-(R:Int))*rv s=((kept r.neg (N/s.m) (decide (N%s.m≠0)) P up*2^(nb (N/s.m)-P)*s.m:Nat):Rat)*tp (r.e-(R:Int)):=by
  rw[rvs,DF (kept r.neg (N/s.m) (decide (N%s.m≠0)) P up*2^(nb (N/s.m)-P)) s.m,show r.e-(R:Int)=r.e-s.e-(R:Int)+s.e by omega,bV]
  grind
 have hrv:∀ b,r.neg=b->rv r=if b then -((N:Rat)*tp (r.e-(R:Int))) else(N:Rat)*tp (r.e-(R:Int)):=fun b hb=>by
  unfold rv;rw[hb];cases b
  . rw[dc,hNN];rfl
  . rw[fh,hNN];rfl
 rw[hv];generalize hK:kept r.neg (N/s.m) (decide (N%s.m≠0)) P up*2^(nb (N/s.m)-P)=K at *
 have hup:N<=(N/s.m+(if decide (N%s.m≠0)=true then 1 else 0))*s.m:=by
  rw[Gq];rw[Gk s.m]at hdm
  by_cases h2:N%s.m=0
  . rw[show decide (N%s.m≠0)=false by simp[h2]]
    simp only[Bool.false_eq_true,if_false,Bx,Gt];omega
  . rw[show decide (N%s.m≠0)=true by simp[h2]]
    simp only[if_true,Gr];omega
 have hdn:N/s.m*s.m<=N:=Gl _ _;generalize hX:N/s.m+(if decide (N%s.m≠0)=true then 1 else 0)=X at *
 have low:K<=N/s.m->(X-K)*2^(P-1)<=N/s.m->(N:Rat)*tp (r.e-(R:Int))*(1-uP P)<=((K*s.m:Nat):Rat)*tp (r.e-(R:Int))/\((K*s.m:Nat):Rat)*tp (r.e-(R:Int))<=(N:Rat)*tp (r.e-(R:Int)):=fun a b=>by
  have l1:K*s.m<=N:=Bl (ou _ a) hdn
  have l2:(N-K*s.m)*2^(P-1)<=N:=by
   have q1:N-K*s.m<=(X-K)*s.m:=by rw[Gx];omega
   have q2:=ou (2^(P-1)) q1;have q3:=ou s.m b
   have q4:(X-K)*s.m*2^(P-1)=(X-K)*2^(P-1)*s.m:=by rw[EM,EM,Gk s.m]
   omega
  have s1:=lY (pX hP1 l2 l1) ht;have s2:=lY (je l1) ht
  constructor <;> grind
 have high:X<=K->(K-N/s.m)*2^(P-1)<=N/s.m->((K*s.m:Nat):Rat)*tp (r.e-(R:Int))<=(N:Rat)*tp (r.e-(R:Int))*(1+uP P)/\(N:Rat)*tp (r.e-(R:Int))<=((K*s.m:Nat):Rat)*tp (r.e-(R:Int)):=fun a b=>by
  have l1:N<=K*s.m:=Bl hup (ou _ a)
  have l2:(K*s.m-N)*2^(P-1)<=N:=by
   have q1:K*s.m-N<=(K-N/s.m)*s.m:=by
    rw[Gx];have hQX:N/s.m*s.m<=K*s.m:=Bl hdn l1
    have hlow2:N < N/s.m*s.m+s.m:=by rw[Gk s.m]at hdm;omega
    omega
   have q2:=ou (2^(P-1)) q1;have q3:=ou s.m b
   have q4:(K-N/s.m)*s.m*2^(P-1)=(K-N/s.m)*2^(P-1)*s.m:=by rw[EM,EM,Gk s.m]
   omega
  have s1:=lY (oq hP1 l2 l1) ht;have s2:=lY (je l1) ht
  constructor <;> grind
 have hv0:=j9 N (r.e-(R:Int));obtain⟨g1,g2⟩:=hgap;cases hneg:r.neg
 . rw[hrv false hneg,dc,hPe]
   rw[hneg]at g1 g2;refine⟨fun hu'=>?_,fun hu'=>?_⟩
   . obtain⟨a,b⟩:=g1 hu'
     obtain⟨c,d⟩:=low a b;exact rE hv0 d c
   . obtain⟨a,b⟩:=g2 (by rw[hu'];decide)
     obtain⟨c,d⟩:=high a b;exact rp hv0 d c
 . rw[hrv true hneg,fh,Rat.neg_mul,hPe]
   rw[hneg]at g1 g2;refine⟨fun hu'=>?_,fun hu'=>?_⟩
   . obtain⟨a,b⟩:=g2 (by rw[hu'];decide)
     obtain⟨c,d⟩:=high a b;exact(rp hv0 d c).flip
   . obtain⟨a,b⟩:=g1 hu'
     obtain⟨c,d⟩:=low a b;exact(rE hv0 d c).flip
theorem uM (hn:r.neg=true):rv r<=0:=by
 unfold rv;rw[hn,fh]
 have:=j9 r.m r.e
 grind
theorem ke (h0:0 < rv r):r.neg=false/\0 < r.m:=by
 have h1:r.neg=false:=by
  cases hn:r.neg
  . rfl
  . have:=uM hn
    grind
 refine⟨h1,?_⟩
 rcases mF r.m with hz | hz
 . unfold rv at h0
   rw[hz,fL]at h0;exact absurd h0 (by decide)
 . exact hz
theorem sk (k:Sq B s)(hs:0 < rv s.lo):dv s.lo s.hi=1:=by
 obtain⟨h1,h2⟩:=ke hs;unfold dv fy;rw[aM k.l k.h k.le,h1,if_neg (show ¬ s.lo.m=0 by omega)]
 rfl
theorem Dy (hab:a<=b)(hcd:c<=d)(hc:0 < c)(h1:0<=a->x=d)(h2:a < 0->x=c)(h3:0<=b->y=c)(h4:b < 0->y=d)(k1:L*x<=a)(k2:b<=H*y):L<=H:=by
 by_cases ha:0<=a
 . rw[h1 ha]at k1
   rw[h3 (by grind)]at k2;refine yb (c:=c) ?_ hc
   rcases bT L 0 with hL | hL
   . have:0<=-L*c:=tz (by grind) (oM hc)
     grind
   . have:=qK hcd hL
     grind
 . have ha:=DE.1 ha
   rw[h2 ha]at k1
   by_cases hb:0<=b
   . rw[h3 hb]at k2
     exact yb (c:=c) (by grind) hc
   . have hb:=DE.1 hb
     rw[h4 hb]at k2;refine yb (c:=c) ?_ hc
     rcases bT 0 H with hH | hH
     . have:0<=H*c:=tz hH (oM hc)
       grind
     . have:=qK hcd (show 0<=-H by grind)
       grind
structure Qe (u a b c d L H:Rat):Prop where
 lo1:0<=a->Cd u a (L*d)
 lo2:a < 0->Cd u a (L*c)
 hi1:0<=b->Cu u b (H*c)
 hi2:b < 0->Cu u b (H*d)
theorem Qe.le (q:Qe u a b c d L H)(hab:a<=b)(hcd:c<=d)(hc:0 < c):L<=H:=by
 refine Dy (x:=if 0<=a then d else c) (y:=if 0<=b then c else d) hab hcd hc (fun h=>if_pos h) (fun h=>if_neg (DE.2 h)) (fun h=>if_pos h) (fun h=>if_neg (DE.2 h)) ?_ ?_
 . split
   . rename_i h;exact(q.lo1 h).le
   . rename_i h;exact(q.lo2 (DE.1 h)).le
 . split
   . rename_i h;exact(q.hi1 h).le
   . rename_i h;exact(q.hi2 (DE.1 h)).le
theorem mW (h:Tq B r):(0<=rv r->r.neg=false)/\(rv r < 0->r.neg=true):=by
 constructor
 . intro h0
   cases hn:r.neg
   . rfl
   . exfalso
     have hm:0 < r.m:=by
      rcases mF r.m with hz | hz
      . have:=(h.pr.zero hz).2
        rw[hn]at this;cases this
      . exact hz
     unfold rv at h0;rw[hn,fh]at h0;have h1:(0:Rat) < (r.m:Rat):=Rat.natCast_pos.2 hm
     have:=Rat.mul_pos h1 (co r.e)
     grind
 . intro h0
   cases hn:r.neg
   . have:=lL hn
     grind
   . rfl
theorem Fe {p:Int}{r:SRes}(hp1:1<=p)(hp2:p<=8192)(h:Sq B r)(k:Sq C s)(hs:0 < rv s.lo)(hB:B+C+p<=260000)(hB0:0<=B)(hC0:0<=C):
 Sq (B+C+p+2) (ff p false r.lo r.hi s.lo s.hi)/\nb (ff p false r.lo r.hi s.lo s.hi).lo.m<=p.toNat+1/\nb (ff p false r.lo r.hi s.lo s.hi).hi.m<=p.toNat+1 /\
 Qe (uP p.toNat) (rv r.lo) (rv r.hi) (rv s.lo) (rv s.hi) (rv (ff p false r.lo r.hi s.lo s.hi).lo) (rv (ff p false r.lo r.hi s.lo s.hi).hi):=by
 have hsh:0 < rv s.hi:=by have:=k.le;grind
 obtain⟨a1,a2⟩:=ke hs;obtain⟨b1,b2⟩:=ke hsh
 have hb:dL p false r.lo r.hi s.lo s.hi=false:=by
  unfold dL;rw[aM h.l h.h h.le,aM k.l k.h k.le,gc hp1 hp2]
  rfl
 have hfit:=zT hp1 hp2
 have T:=fun(a:DR) (ta:Tq B a) (d:DR) (td:Tq C d) (d1:d.neg=false) (d2:0 < d.m) (up:Bool)=>CJ (P:=p.toNat) up (by omega) (by omega) ta td d1 d2 (by omega) hB0 hC0
 have hE:ff p false r.lo r.hi s.lo s.hi=sH p r.lo r.hi s.lo s.hi:=by
  unfold ff;rw[hb,sk k hs]
  rfl
 have pk:∀ b,Tq C (aF b s.lo s.hi)/\(aF b s.lo s.hi).neg=false/\0 < (aF b s.lo s.hi).m:=fun b=>by
  unfold aF
  split
  . exact⟨k.l,a1,a2⟩
  . exact⟨k.h,b1,b2⟩
 have pk2:∀ b,Tq C (aF b s.hi s.lo)/\(aF b s.hi s.lo).neg=false/\0 < (aF b s.hi s.lo).m:=fun b=>by
  unfold aF
  split
  . exact⟨k.h,b1,b2⟩
  . exact⟨k.l,a1,a2⟩
 obtain⟨p1,p2,p3⟩:=pk r.lo.neg;obtain⟨q1,q2,q3⟩:=pk2 r.hi.neg;have t1:=T r.lo h.l _ p1 p2 p3 false;have t2:=T r.hi h.h _ q1 q2 q3 true;have e1:=nR (p:=p) false h.l.ok p1.ok p3 hfit;have e2:=nR (p:=p) true h.h.ok q1.ok q3 hfit
 have hE2:ff p false r.lo r.hi s.lo s.hi=⟨false,qN r.lo (aF r.lo.neg s.lo s.hi) p.toNat false,qN r.hi (aF r.hi.neg s.hi s.lo) p.toNat true⟩:=by
  rw[hE];unfold sH cG;rw[e1,e2,t1.1.ok,t2.1.ok]
  rfl
 have Q:Qe (uP p.toNat) (rv r.lo) (rv r.hi) (rv s.lo) (rv s.hi) (rv (qN r.lo (aF r.lo.neg s.lo s.hi) p.toNat false)) (rv (qN r.hi (aF r.hi.neg s.hi s.lo) p.toNat true)):=by
  have g1:=t1.2.2.1 rfl;have g2:=t2.2.2.2 rfl;refine⟨fun h0=>?_,fun h0=>?_,fun h0=>?_,fun h0=>?_⟩
  . have hn:=(mW h.l).1 h0
    rw[hn]at g1 ⊢;exact g1
  . have hn:=(mW h.l).2 h0
    rw[hn]at g1 ⊢;exact g1
  . have hn:=(mW h.h).1 h0
    rw[hn]at g2 ⊢;exact g2
  . have hn:=(mW h.h).2 h0
    rw[hn]at g2 ⊢;exact g2
 rw[hE2];exact⟨⟨rfl,t1.1.more (by omega),t2.1.more (by omega),Q.le h.le k.le hs⟩,t1.2.1,t2.2.1,Q⟩
theorem DG {s:DR}(h:Tq B r)(k:Tq C s)(hr:nb r.m<=8000)(hs:nb s.m<=8000)(hB:B+C<=262000)(hB0:0<=B)(hC0:0<=C):
 (iw r s).ok=true/\aR (iw r s).neg (iw r s).m (iw r s).e=true/\-(B+C)<=(iw r s).e/\(iw r s).e+(nb (iw r s).m:Int)<=B+C/\rv (iw r s)=rv r*rv s:=by
 have h1:=h.e1;have h2:=h.e2;have k1:=k.e1;have k2:=k.e2;have h3:=lV r.m s.m
 have hE:iw r s=bH (r.neg != s.neg) (r.m*s.m) (r.e+s.e):=by
  unfold iw qY;rw[h.ok,k.ok]
  rfl
 have G:=jg (r.neg != s.neg) (V:=r.m*s.m) (e:=r.e+s.e) (by omega) (by omega) (by omega);have hv:=G.rv_eq;have hpr:rv (aH r s)=qv (r.neg != s.neg) (r.m*s.m) (r.e+s.e):=rfl;rw[← hpr,zj]at hv;rw[hE];refine⟨G.ok,G.plain,?_,?_,hv⟩
 . rcases mF (r.m*s.m) with h' | h'
   . rw[h'];show -(B+C)<=(0:Int);omega
   . rcases G.e1 with h'' | h'' <;> omega
 . rcases mF (r.m*s.m) with h' | h'
   . rw[h'];show(0:Int)+(nb 0:Int)<=B+C;rw[aX];omega
   . obtain⟨_,z,g1,g2⟩:=G.nz h'
     have h0:0 < (bH (r.neg != s.neg) (r.m*s.m) (r.e+s.e)).m:=by
      rcases mF (bH (r.neg != s.neg) (r.m*s.m) (r.e+s.e)).m with h0 | h0
      . rw[h0,Bx]at g1;omega
      . exact h0
     have:=ch (V:=(bH (r.neg != s.neg) (r.m*s.m) (r.e+s.e)).m) (z:=z) h0
     rw[← g1]at this;omega
theorem ri {P:DR->Prop}(h1:P lo)(h2:P hi)(j:Nat):P (mE lo hi j)/\P (mD lo hi j):=by
 unfold mE mD
 constructor <;> (split <;> assumption)
theorem qX {p:Int}{r:SRes}(hp1:1<=p)(hp2:p<=8192)(h:Sq B r)(k:Sq B s)(n1:nb r.lo.m<=8000)(n2:nb r.hi.m<=8000)(n3:nb s.lo.m<=8000)(n4:nb s.hi.m<=8000)(hB:2*B<=260000)(hB0:0<=B):
 Sq (2*B+1) (eu p false r.lo r.hi s.lo s.hi)/\nb (eu p false r.lo r.hi s.lo s.hi).lo.m<=p.toNat+1/\nb (eu p false r.lo r.hi s.lo s.hi).hi.m<=p.toNat+1 /\
 ∃ L H,vw L H (rv r.lo) (rv r.hi) (rv s.lo) (rv s.hi)/\Cd (uP p.toNat) L (rv (eu p false r.lo r.hi s.lo s.hi).lo)/\Cu (uP p.toNat) H (rv (eu p false r.lo r.hi s.lo s.hi).hi):=by
 have hb:dL p false r.lo r.hi s.lo s.hi=false:=by
  unfold dL;rw[aM h.l h.h h.le,aM k.l k.h k.le,gc hp1 hp2]
  rfl
 have E1:=fun j=>(ri (P:=fun d=>Tq B d/\nb d.m<=8000) (lo:=r.lo) (hi:=r.hi) ⟨h.l,n1⟩ ⟨h.h,n2⟩ j).1
 have E2:=fun j=>(ri (P:=fun d=>Tq B d/\nb d.m<=8000) (lo:=s.lo) (hi:=s.hi) ⟨k.l,n3⟩ ⟨k.h,n4⟩ j).2
 have F:=fun j=>DG (E1 j).1 (E2 j).1 (E1 j).2 (E2 j).2 (by omega) hB0 hB0
 have U:∀ j,j < 4->Up (bu r.lo r.hi s.lo s.hi j) (-(2*B)):=fun j _=>⟨(F j).1,fun h0=>((aV (F j).2.1).zero h0).2,by have:=(F j).2.2.1;show -(2*B)<=(iw (mE r.lo r.hi j) (mD s.lo s.hi j)).e;omega⟩
 obtain⟨⟨i,hi,ei⟩,L⟩:=pJ U;obtain⟨⟨i',hi',ei'⟩,H⟩:=nQ U
 have RV:∀ j,rv (bu r.lo r.hi s.lo s.hi j)=rv (mE r.lo r.hi j)*rv (mD s.lo s.hi j):=fun j=>(F j).2.2.2.2
 have G:∀ j,-(2*B)<=(bu r.lo r.hi s.lo s.hi j).e:=fun j=>by have:=(F j).2.2.1;show -(2*B)<=(iw (mE r.lo r.hi j) (mD s.lo s.hi j)).e;omega
 have Ll:∀ j,j < 4->rv (bp (bu r.lo r.hi s.lo s.hi) false)<=rv (bu r.lo r.hi s.lo s.hi j):=fun j hj=>(iV (.inr (by rw[ei];exact G i)) (.inr (G j))).2 (L j hj)
 have Hl':∀ j,j < 4->rv (bu r.lo r.hi s.lo s.hi j)<=rv (bp (bu r.lo r.hi s.lo s.hi) true):=fun j hj=>(iV (.inr (G j)) (.inr (by rw[ei'];exact G i'))).2 (H j hj)
 have four:∀ j,j < 4->rv (bu r.lo r.hi s.lo s.hi j)=rv r.lo*rv s.lo\/rv (bu r.lo r.hi s.lo s.hi j)=rv r.lo*rv s.hi\/rv (bu r.lo r.hi s.lo s.hi j)=rv r.hi*rv s.lo\/rv (bu r.lo r.hi s.lo s.hi j)=rv r.hi*rv s.hi:=fun j _=>by
  rw[RV];unfold mE mD
  split <;> split <;> simp
 have M:vw (rv (bp (bu r.lo r.hi s.lo s.hi) false)) (rv (bp (bu r.lo r.hi s.lo s.hi) true)) (rv r.lo) (rv r.hi) (rv s.lo) (rv s.hi):=by
  have a0:=RV 0;have a1:=RV 1;have a2:=RV 2;have a3:=RV 3;have b0:=Ll 0 (by omega);have b1:=Ll 1 (by omega);have b2:=Ll 2 (by omega);have b3:=Ll 3 (by omega);have c0:=Hl' 0 (by omega);have c1:=Hl' 1 (by omega);have c2:=Hl' 2 (by omega);have c3:=Hl' 3 (by omega);rw[a0]at b0 c0;rw[a1]at b1 c1;rw[a2]at b2 c2;rw[a3]at b3 c3;exact⟨b0,b1,b2,b3,c0,c1,c2,c3,by rw[ei];exact four i hi,by rw[ei'];exact four i' hi'⟩
 have hok:uk (bu r.lo r.hi s.lo s.hi)=true:=nX (fun j _=>(F j).1)
 have hE:eu p false r.lo r.hi s.lo s.hi=eI p false (bp (bu r.lo r.hi s.lo s.hi) false) (bp (bu r.lo r.hi s.lo s.hi) true):=by
  unfold eu;rw[hb,hok]
  rfl
 have x1:=(F i).2.2.1;have x2:=(F i).2.2.2.1;have y1:=(F i').2.2.1;have y2:=(F i').2.2.2.1;have xo:=(F i).1;have yo:=(F i').1
 have xz:=fun h0=>((aV (F i).2.1).zero h0).2
 have yz:=fun h0=>((aV (F i').2.1).zero h0).2
 change -(B+B)<=(bu r.lo r.hi s.lo s.hi i).e at x1
 change (bu r.lo r.hi s.lo s.hi i).e+(nb (bu r.lo r.hi s.lo s.hi i).m:Int)<=_ at x2
 change -(B+B)<=(bu r.lo r.hi s.lo s.hi i').e at y1
 change (bu r.lo r.hi s.lo s.hi i').e+(nb (bu r.lo r.hi s.lo s.hi i').m:Int)<=_ at y2
 change (bu r.lo r.hi s.lo s.hi i).ok=true at xo
 change (bu r.lo r.hi s.lo s.hi i').ok=true at yo
 change ((bu r.lo r.hi s.lo s.hi i).m=0->(bu r.lo r.hi s.lo s.hi i).neg=false) at xz
 change ((bu r.lo r.hi s.lo s.hi i').m=0->(bu r.lo r.hi s.lo s.hi i').neg=false) at yz
 rw[← ei]at x1 x2 xo xz;rw[← ei']at y1 y2 yo yz;rw[hE];generalize bp (bu r.lo r.hi s.lo s.hi) false=x at *;generalize bp (bu r.lo r.hi s.lo s.hi) true=y at *;have c1:=jW (neg:=x.neg) (V:=x.m) (e:=x.e) (B:=2*B) (P:=p.toNat) false (by omega) (by omega) (by omega) (by omega) (by omega) (by omega);have c2:=jW (neg:=y.neg) (V:=y.m) (e:=y.e) (B:=2*B) (P:=p.toNat) true (by omega) (by omega) (by omega) (by omega) (by omega) (by omega)
 have hr:aw x y=true:=by
  unfold aw bG;rw[xo,yo]
  have:=nU (g:=-(2*B)) xz yz (.inr (by omega)) (.inr (by omega)) ((iV (.inr (by omega)) (.inr (by omega))).1 M.le)
  simp[this]
 have hb1:eD p false x y=false:=by
  unfold eD;rw[hr,gc hp1 hp2]
  rfl
 obtain⟨P,rfl⟩:∃ P:Nat,p=(P:Int):=⟨p.toNat,by omega⟩;simp only[Int.toNat_natCast]at c1 c2 ⊢
 have hE2:eI (P:Int) false x y=⟨false,cj x.neg x.m x.e false P false,cj y.neg y.m y.e false P true⟩:=by
  unfold eI il cG;rw[hb1,iA xo (by omega) (by omega),iA yo (by omega) (by omega),c1.1.ok,c2.1.ok]
  rfl
 have g1:=c1.2.2.1 trivial;have g2:=c2.2.2.2 trivial;rw[hE2];exact⟨⟨rfl,c1.1,c2.1,wF g1 g2 M.le⟩,c1.2.1,c2.2.1,_,_,M,g1,g2⟩
end Go.Proofs.YtmbmohibpkepdaaGreatDoor
