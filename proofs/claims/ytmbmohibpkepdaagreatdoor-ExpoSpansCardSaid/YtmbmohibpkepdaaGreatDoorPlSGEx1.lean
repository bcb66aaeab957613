import Derived.Test.YtmbmohibpkepdaaGreatDoorPlSGNumbers
open Rat renaming mul_le_mul_of_nonneg_right->lY, mul_le_mul_of_nonneg_left->mF, le_of_lt->ou, mul_nonneg->oM, le_refl->oY, natCast_mul->qK, le_trans->Bl, mul_pos->DF, div_def->Gk, mul_one->Gl, le_of_mul_le_mul_right->Gq, mul_comm->Gs, one_mul->Gz, natCast_add->GD, mul_inv_cancel->GG, div_mul_cancel->GH, sub_eq_add_neg->GI, inv_pos->GK, mul_eq_zero->GL, not_le->GQ
open Nat renaming le_refl->tz, pow_le_pow_right->yb, two_pow_pos->Bx, lt_succ_self->DE, le_of_lt->EM, pow_succ->Gm, lt_or_ge->Gn, eq_zero_or_pos->Gp, div_mul_le_self->Gr, mul_comm->Gt, zero_le->Gu, lt_mul_of_div_lt->Gv, pow_lt_pow_right->Gw, le_trans->Gx, mod_two_eq_zero_or_one->Gy, div_div_eq_div_mul->GC, mul_le_mul_right->GE, mul_le_mul_left->GF, le_add_right->GJ, mul_le_mul->GM, mul_assoc->GN, sub_self->GO, pow_add->GP
namespace Go.Proofs.YtmbmohibpkepdaaGreatDoor
variable {B K N P Z b h m n:Nat} {D:Nat->Nat} {H L a c d x y z:Rat} {f g s t:Nat->Rat}
def bf (f:Nat->Rat):Nat->Rat
 | 0=>f 0
 | n+1=>bf f n+f (n+1)
theorem bM (f:Nat->Rat)(n:Nat):bf f (n+1)=bf f n+f (n+1):=rfl
theorem fK (h:∀ i,i<=n->f i=g i):bf f n=bf g n:=by
 induction n with
 | zero=>exact h 0 (tz _)
 | succ n ih=>rw[bM,bM,ih (fun i hi=>h i (by omega)),h (n+1) (tz _)]
theorem nw (f g:Nat->Rat)(n:Nat):bf (fun i=>f i+g i) n=bf f n+bf g n:=by
 induction n with
 | zero=>rfl
 | succ n ih=>rw[bM,bM,bM,ih];grind
theorem im (c:Rat)(f:Nat->Rat)(n:Nat):bf (fun i=>c*f i) n=c*bf f n:=by
 induction n with
 | zero=>rfl
 | succ n ih=>rw[bM,bM,ih];grind
theorem ur (f:Nat->Rat)(n:Nat):bf f (n+1)=f 0+bf (fun i=>f (i+1)) n:=by
 induction n with
 | zero=>rfl
 | succ n ih=>rw[bM,ih,bM];grind
theorem vM (h:∀ i,i<=n->f i<=g i):bf f n<=bf g n:=by
 induction n with
 | zero=>exact h 0 (tz _)
 | succ n ih =>
  rw[bM,bM];have h1:=ih (fun i hi=>h i (by omega));have h2:=h (n+1) (tz _)
  grind
theorem rU (h:∀ i,i<=n->0<=f i):0<=bf f n:=by
 induction n with
 | zero=>exact h 0 (tz _)
 | succ n ih =>
  rw[bM];have h1:=ih (fun i hi=>h i (by omega));have h2:=h (n+1) (tz _)
  grind
theorem jA (h:∀ i,0<=f i)(hnm:n<=m):bf f n<=bf f m:=by
 induction m with
 | zero =>
  obtain rfl:n=0:=by omega
  exact oY
 | succ m ih =>
  rcases Gn m n with h1 | h1
  . obtain rfl:n=m+1:=by omega
    exact oY
  . have:=ih h1
    have:=h (m+1)
    rw[bM]
    grind
def bj (x:Rat):Nat->Rat
 | 0=>1
 | n+1=>bj x n*x/((n:Rat)+1)
theorem gI (n:Nat):(0:Rat) < (n:Rat)+1:=by
 have:(0:Rat)<=(n:Rat):=by exact_mod_cast Gu n
 grind
theorem cZ (x:Rat)(n:Nat):((n:Rat)+1)*bj x (n+1)=x*bj x n:=by
 have h:=gI n
 show((n:Rat)+1)*(bj x n*x/((n:Rat)+1))=x*bj x n
 rw[Gk];have h2:((n:Rat)+1)*((n:Rat)+1)⁻¹=1:=GG _ (by grind)
 grind
theorem bk (hx:0<=x)(n:Nat):0<=bj x n:=by
 induction n with
 | zero=>show(0:Rat)<=1;decide
 | succ n ih =>
  show 0<=bj x n*x/((n:Rat)+1)
  rw[Gk];have h1:=oM ih hx;have h2:0<=((n:Rat)+1)⁻¹:=ou (GK.2 (gI n));exact oM h1 h2
def aW (x:Rat)(n:Nat):Rat:=bf (bj x) n
theorem fC (hx:0<=x)(h:n<=m):aW x n<=aW x m:=jA (bk hx) h
theorem jJ (hx:0<=x)(n:Nat):1<=aW x n:=by
 have:=fC hx (Gu n)
 exact this
def Ah (x y:Rat)(n:Nat):Rat:=bf (fun i=>bj x i*bj y (n-i)) n
theorem Ca (x y:Rat)(n:Nat):((n:Rat)+1)*Ah x y (n+1)=(x+y)*Ah x y n:=by
 have e1:((n:Rat)+1)*Ah x y (n+1)=bf (fun i=>(i:Rat)*bj x i*bj y (n+1-i)) (n+1)+bf (fun i=>bj x i*(((n+1-i:Nat):Rat)*bj y (n+1-i))) (n+1):=by
  unfold Ah;rw[← im,← nw]
  refine fK fun i hi=>?_
  have:((n+1-i:Nat):Rat)=(n:Rat)+1-(i:Rat):=by
   obtain⟨k,hk⟩:∃ k,n+1=i+k:=⟨n+1-i,by omega⟩
   have e:((n+1:Nat):Rat)=((i+k:Nat):Rat):=by rw[hk]
   have e2:n+1-i=k:=by omega
   rw[e2]
   push_cast at e
   grind
  rw[this]
  grind
 have e2:bf (fun i=>(i:Rat)*bj x i*bj y (n+1-i)) (n+1)=x*Ah x y n:=by
  rw[ur];unfold Ah;rw[← im]
  have e3:bf (fun i=>((i+1:Nat):Rat)*bj x (i+1)*bj y (n+1-(i+1))) n=bf (fun i=>x*(bj x i*bj y (n-i))) n:=by
   refine fK fun i hi=>?_
   have h:=cZ x i
   have h1:((i+1:Nat):Rat)=(i:Rat)+1:=by push_cast;rfl
   rw[h1,show n+1-(i+1)=n-i by omega,h]
   grind
  rw[e3]
  have:((0:Nat):Rat)=0:=rfl
  rw[this]
  grind
 have e4:bf (fun i=>bj x i*(((n+1-i:Nat):Rat)*bj y (n+1-i))) (n+1)=y*Ah x y n:=by
  rw[bM];unfold Ah;rw[← im]
  have e5:bf (fun i=>bj x i*(((n+1-i:Nat):Rat)*bj y (n+1-i))) n=bf (fun i=>y*(bj x i*bj y (n-i))) n:=by
   refine fK fun i hi=>?_
   have h:=cZ y (n-i)
   have h1:((n+1-i:Nat):Rat)=((n-i:Nat):Rat)+1:=by
    rw[show n+1-i=n-i+1 by omega];push_cast;rfl
   rw[h1,show n+1-i=n-i+1 by omega,h]
   grind
  rw[e5,GO]
  have:((0:Nat):Rat)=0:=rfl
  rw[this]
  grind
 rw[e1,e2,e4]
 grind
theorem Fg (x y:Rat)(n:Nat):Ah x y n=bj (x+y) n:=by
 induction n with
 | zero=>exact Gl 1
 | succ n ih =>
  have h1:=Ca x y n;have h2:=cZ (x+y) n;have h3:=gI n;rw[ih]at h1
  have h4:((n:Rat)+1)*(Ah x y (n+1)-bj (x+y) (n+1))=0:=by grind
  rcases GL.1 h4 with h5 | h5
  . grind
  . grind
theorem rg (x y:Rat)(n:Nat):aW (x+y) n=bf (fun i=>bj x i*bf (bj y) (n-i)) n:=by
 induction n with
 | zero =>
  show(1:Rat)=1*1
  exact(Gl 1).symm
 | succ n ih =>
  have h:aW (x+y) (n+1)=aW (x+y) n+bj (x+y) (n+1):=rfl;rw[h,ih,← Fg,bM (fun i=>bj x i*bf (bj y) (n+1-i)) n]
  have e1:bf (fun i=>bj x i*bf (bj y) (n+1-i)) n=bf (fun i=>bj x i*bf (bj y) (n-i)) n+bf (fun i=>bj x i*bj y (n+1-i)) n:=by
   rw[← nw]
   refine fK fun i hi=>?_
   rw[show n+1-i=(n-i)+1 by omega,bM]
   grind
  have e2:Ah x y (n+1)=bf (fun i=>bj x i*bj y (n+1-i)) n+bj x (n+1)*bj y (n+1-(n+1)):=rfl;rw[e1,e2,GO];have e3:bf (bj y) 0=bj y 0:=rfl;rw[e3]
  grind
theorem pZ (hx:0<=x)(hy:0<=y)(n:Nat):aW (x+y) n<=aW x n*aW y n:=by
 rw[rg]
 have h:aW x n*aW y n=bf (fun i=>bj x i*aW y n) n:=by
  have e:(fun i=>bj x i*aW y n)=fun i=>aW y n*bj x i:=by funext i;exact Gs _ _
  rw[e,im];exact Gs _ _
 rw[h]
 exact vM fun i hi=>mF (fC hy (by omega)) (bk hx i)
theorem pY (hx:0<=x)(hy:0<=y)(n:Nat):aW x n*aW y n<=aW (x+y) (2*n):=by
 rw[rg]
 have h:aW x n*aW y n=bf (fun i=>bj x i*aW y n) n:=by
  have e:(fun i=>bj x i*aW y n)=fun i=>aW y n*bj x i:=by funext i;exact Gs _ _
  rw[e,im];exact Gs _ _
 rw[h]
 have h1:bf (fun i=>bj x i*aW y n) n<=bf (fun i=>bj x i*bf (bj y) (2*n-i)) n :=
  vM fun i hi=>mF (fC hy (show n<=2*n-i by omega)) (bk hx i)
 refine Bl h1 (jA (fun i=>?_) (by omega));exact oM (bk hx i) (rU fun j _=>bk hy j)
theorem mK (hx:0<=x)(hx2:2*x<=1)(n:Nat):2*bj x (n+1)<=bj x n:=by
 have h1:=cZ x n;have h2:=gI n;have h3:=bk hx n;have h4:=bk hx (n+1)
 have h5:bj x (n+1)<=((n:Rat)+1)*bj x (n+1):=by
  have h6:(0:Rat)<=(n:Rat):=by exact_mod_cast Gu n
  have:=oM h6 h4
  grind
 have h7:2*(x*bj x n)<=bj x n:=by
  have:=lY hx2 h3
  grind
 grind
theorem BV (hx:0<=x)(hx2:2*x<=1)(n m:Nat):aW x m<=aW x n+bj x n:=by
 have key:∀ d,aW x (n+d)+bj x (n+d)<=aW x n+bj x n:=fun d=>by
  induction d with
  | zero=>exact oY
  | succ d ih =>
   have h1:aW x (n+(d+1))=aW x (n+d)+bj x (n+d+1):=rfl;have h2:bj x (n+(d+1))=bj x (n+d+1):=rfl;have h3:=mK hx hx2 (n+d);rw[h1,h2]
   grind
 rcases Gn m n with h | h
 . have h1:=fC hx (EM h)
   have h2:=bk hx n
   grind
 . obtain⟨d,rfl⟩:∃ d,m=n+d:=⟨m-n,by omega⟩
   have h1:=key d;have h2:=bk hx (n+d)
   grind
def gQ (D:Nat->Nat)(x:Rat):Nat->Rat
 | 0=>1
 | n+1=>gQ D x n*x/((D (n+1):Nat):Rat)
def dQ (D:Nat->Nat)(Z b:Nat):Nat->Nat
 | 0=>2^b
 | n+1=>dQ D Z b n*Z/2^b/D (n+1)
def fi (D:Nat->Nat)(Z b:Nat):Nat->Nat
 | 0=>dQ D Z b 0
 | n+1=>fi D Z b n+dQ D Z b (n+1)
def Dv (D:Nat->Nat):Prop:=1<=D 1/\∀ n,2<=n->2<=D n
theorem Dv.pos (h:Dv D)(n:Nat):1<=D (n+1):=by
 rcases Gp n with h0 | h0
 . subst h0;exact h.1
 . have:=h.2 (n+1) (by omega);omega
theorem bz (n:Nat):(0:Rat)<=(n:Rat):=by exact_mod_cast Gu n
theorem bW {a:Nat}(h:a<=b):(a:Rat)<=(b:Rat):=by exact_mod_cast h
theorem lg (h:Dv D)(x:Rat)(n:Nat):((D (n+1):Nat):Rat)*gQ D x (n+1)=x*gQ D x n:=by
 have h1:=bW (h.pos n);have h1':((1:Nat):Rat)=1:=rfl
 show((D (n+1):Nat):Rat)*(gQ D x n*x/((D (n+1):Nat):Rat))=x*gQ D x n
 rw[Gk];have h2:((D (n+1):Nat):Rat)*((D (n+1):Nat):Rat)⁻¹=1:=GG _ (by grind)
 grind
theorem eQ (h:Dv D)(hx:0<=x)(n:Nat):0<=gQ D x n:=by
 induction n with
 | zero=>show(0:Rat)<=1;decide
 | succ n ih =>
  have h1:=bW (h.pos n);have h1':((1:Nat):Rat)=1:=rfl
  show 0<=gQ D x n*x/((D (n+1):Nat):Rat)
  rw[Gk];exact oM (oM ih hx) (ou (GK.2 (by grind)))
theorem wB (h:Dv D)(hx:0<=x)(hx2:2*x<=1)(n:Nat):2*gQ D x (n+1)<=gQ D x n:=by
 have h1:=lg h x n;have h2:=bW (h.pos n);have h2':((1:Nat):Rat)=1:=rfl;have h3:=eQ h hx n;have h4:=eQ h hx (n+1)
 have h5:gQ D x (n+1)<=((D (n+1):Nat):Rat)*gQ D x (n+1):=by
  have:=lY h2 h4
  grind
 have h7:2*(x*gQ D x n)<=gQ D x n:=by
  have:=lY hx2 h3
  grind
 grind
theorem DO (h:Dv D)(hx:0<=x)(hx2:2*x<=1)(n:Nat):gQ D x n<=1:=by
 induction n with
 | zero=>exact oY
 | succ n ih =>
  have h1:=wB h hx hx2 n;have h2:=eQ h hx (n+1)
  grind
theorem wA (h:Dv D)(hx:0<=x)(hx2:2*x<=1)(n m:Nat):bf (gQ D x) m<=bf (gQ D x) n+gQ D x n:=by
 have key:∀ d,bf (gQ D x) (n+d)+gQ D x (n+d)<=bf (gQ D x) n+gQ D x n:=fun d=>by
  induction d with
  | zero=>exact oY
  | succ d ih =>
   have h1:bf (gQ D x) (n+(d+1))=bf (gQ D x) (n+d)+gQ D x (n+d+1):=rfl;have h2:gQ D x (n+(d+1))=gQ D x (n+d+1):=rfl;have h3:=wB h hx hx2 (n+d);rw[h1,h2]
   grind
 rcases Gn m n with h1 | h1
 . have h1:=jA (eQ h hx) (EM h1)
   have h2:=eQ h hx n
   grind
 . obtain⟨d,rfl⟩:∃ d,m=n+d:=⟨m-n,by omega⟩
   have h1:=key d;have h2:=eQ h hx (n+d)
   grind
theorem E8 (x:Rat)(n:Nat):gQ (fun n=>n) x n=bj x n:=by
 induction n with
 | zero=>rfl
 | succ n ih =>
  show gQ (fun n=>n) x n*x/((n+1:Nat):Rat)=bj x n*x/((n:Rat)+1)
  rw[ih]
  have:((n+1:Nat):Rat)=(n:Rat)+1:=by push_cast;rfl
  rw[this]
structure Zb (z:Rat)(Z b:Nat):Prop where
 z0:0<=z
 z2:2*z<=1
 lo:(Z:Rat)<=z*((2^b:Nat):Rat)
 hi:z*((2^b:Nat):Rat)<=(Z:Rat)+1
 b3:3<=b
theorem mp (b:Nat):(0:Rat) < ((2^b:Nat):Rat):=by
 have:=Bx b
 exact_mod_cast this
theorem DQ (D:Nat->Nat)(Z b n:Nat):dQ D Z b (n+1)*(2^b*D (n+1))<=dQ D Z b n*Z:=by
 show dQ D Z b n*Z/2^b/D (n+1)*(2^b*D (n+1))<=dQ D Z b n*Z
 rw[GC];exact Gr _ _
theorem BU (h:Dv D)(Z b n:Nat):dQ D Z b n*Z < (dQ D Z b (n+1)+1)*(2^b*D (n+1)):=by
 show dQ D Z b n*Z < (dQ D Z b n*Z/2^b/D (n+1)+1)*(2^b*D (n+1))
 rw[GC];exact Gv (DE _) (Nat.mul_pos (Bx b) (h.pos n))
theorem zP (h:Dv D)(hz:Zb z Z b)(n:Nat):((dQ D Z b n:Nat):Rat)<=gQ D z n*((2^b:Nat):Rat):=by
 induction n with
 | zero =>
  show((2^b:Nat):Rat)<=1*((2^b:Nat):Rat)
  rw[Gz];exact oY
 | succ n ih =>
  have h1:=bW (DQ D Z b n);have h2:=lg h z n;have hD:=bW (h.pos n);have hD':((1:Nat):Rat)=1:=rfl;have hp:=mp b;have ht:=bz (dQ D Z b n);have hZ:=bz Z;have hg:=eQ h hz.z0 n
  push_cast at h1
  generalize((dQ D Z b (n+1):Nat):Rat)=t' at *;generalize((dQ D Z b n:Nat):Rat)=t at *;generalize((D (n+1):Nat):Rat)=d at *;generalize gQ D z (n+1)=g' at *;generalize gQ D z n=g at *
  have hpp:((2:Rat)^b)=((2^b:Nat):Rat):=by push_cast;rfl
  rw[hpp]at h1;have hlo:=hz.lo;generalize((2^b:Nat):Rat)=p at *;generalize(Z:Rat)=y at *;have a1:t*y<=g*p*y:=lY ih hZ;have a2:g*p*y<=g*p*(z*p):=mF hlo (oM hg (ou hp))
  have a3:g*p*(z*p)=d*g'*p*p:=by rw[h2];grind
  have hpd:0 < p*d:=DF hp (by grind)
  have a4:t'*(p*d)<=g'*p*(p*d):=by grind
  exact Gq a4 hpd
theorem zQ (h:Dv D)(hz:Zb z Z b)(n:Nat):gQ D z n*((2^b:Nat):Rat)<=((dQ D Z b n:Nat):Rat)+4:=by
 induction n with
 | zero =>
  show 1*((2^b:Nat):Rat)<=((2^b:Nat):Rat)+4
  grind
 | succ n ih =>
  have h1:=bW (EM (BU h Z b n));have h2:=lg h z n;have hD:=bW (h.pos n);have hD':((1:Nat):Rat)=1:=rfl;have hp:=mp b;have ht:=bz (dQ D Z b n);have ht':=bz (dQ D Z b (n+1));have hZ:=bz Z;have hg:=eQ h hz.z0 n;have hg1:=DO h hz.z0 hz.z2 n;have hle:=zP h hz n
  have hb8:(8:Rat)<=((2^b:Nat):Rat):=by
   have:2^3<=2^b:=yb (by omega) hz.b3
   exact_mod_cast this
  have hn0:n=0->((dQ D Z b n:Nat):Rat)=((2^b:Nat):Rat)/\gQ D z n=1:=fun h0=>by subst h0;exact⟨rfl,rfl⟩
  have hn1:n≠0->(2:Rat)<=((D (n+1):Nat):Rat):=fun h0=>by
   have:=bW (h.2 (n+1) (by omega))
   exact this
  push_cast at h1
  generalize((dQ D Z b (n+1):Nat):Rat)=t' at *;generalize((dQ D Z b n:Nat):Rat)=t at *;generalize((D (n+1):Nat):Rat)=d at *;generalize gQ D z (n+1)=g' at *;generalize gQ D z n=g at *
  have hpp:((2:Rat)^b)=((2^b:Nat):Rat):=by push_cast;rfl
  rw[hpp]at h1;have hlo:=hz.lo;have hhi:=hz.hi;have hz0:=hz.z0;have hz2:=hz.z2;generalize((2^b:Nat):Rat)=p at *;generalize(Z:Rat)=y at *;have hpd:0 < p*d:=DF hp (by grind)
  have a0:g'*p*(p*d)=g*p*(z*p):=by
   have:g'*p*(p*d)=d*g'*(p*p):=by grind
   rw[this,h2];grind
  have a4:g'*p*(p*d)<=(t'+4)*(p*d):=by
   by_cases h0:n=0
   . obtain⟨e1,e2⟩:=hn0 h0
     rw[a0,e2];rw[e1]at h1
     have b1:1*p*(z*p)<=p*(y+1):=by
      have:=mF hhi (ou hp)
      grind
     have b2:p<=p*d:=by
      have:=mF hD (ou hp)
      grind
     grind
   . have hd2:=hn1 h0
     rw[a0];have b1:g*p*(z*p)<=(t+4)*(z*p):=lY ih (oM hz0 (ou hp));have b2:(t+4)*(z*p)<=(t+4)*(y+1):=mF hhi (by grind)
     have b3:t<=p:=by
      have:=lY hg1 (ou hp)
      grind
     have b4:2*y<=p:=by
      have:=lY hz2 (ou hp)
      grind
     have b5:2*p<=p*d:=by
      have:=mF hd2 (ou hp)
      grind
     grind
  exact Gq a4 hpd
theorem Gg (h:Dv D)(hz:Zb z Z b)(n:Nat):((fi D Z b n:Nat):Rat)<=bf (gQ D z) n*((2^b:Nat):Rat):=by
 induction n with
 | zero=>exact zP h hz 0
 | succ n ih =>
  have h1:=zP h hz (n+1)
  show((fi D Z b n+dQ D Z b (n+1):Nat):Rat)<=(bf (gQ D z) n+gQ D z (n+1))*((2^b:Nat):Rat)
  have e:((fi D Z b n+dQ D Z b (n+1):Nat):Rat)=((fi D Z b n:Nat):Rat)+((dQ D Z b (n+1):Nat):Rat):=by push_cast;rfl
  rw[e]
  grind
theorem E9 (h:Dv D)(hz:Zb z Z b)(n:Nat):bf (gQ D z) n*((2^b:Nat):Rat)<=((fi D Z b n:Nat):Rat)+4*((n:Rat)+1):=by
 induction n with
 | zero =>
  have h1:=zQ h hz 0
  show gQ D z 0*((2^b:Nat):Rat)<=((dQ D Z b 0:Nat):Rat)+4*(((0:Nat):Rat)+1)
  have:((0:Nat):Rat)=0:=rfl
  grind
 | succ n ih =>
  have h1:=zQ h hz (n+1)
  show(bf (gQ D z) n+gQ D z (n+1))*((2^b:Nat):Rat)<=((fi D Z b n+dQ D Z b (n+1):Nat):Rat)+4*(((n+1:Nat):Rat)+1)
  have e:((fi D Z b n+dQ D Z b (n+1):Nat):Rat)=((fi D Z b n:Nat):Rat)+((dQ D Z b (n+1):Nat):Rat):=by push_cast;rfl
  have e2:((n+1:Nat):Rat)=(n:Rat)+1:=by push_cast;rfl
  rw[e,e2]
  grind
theorem zS (h:Dv D)(hz:Zb z Z b)(hn:dQ D Z b n=0)(m:Nat):bf (gQ D z) m*((2^b:Nat):Rat)<=((fi D Z b n:Nat):Rat)+4*((n:Rat)+2):=by
 have h1:=E9 h hz n;have h2:=zQ h hz n;have h3:=wA h hz.z0 hz.z2 n m;have h4:=lY h3 (ou (mp b));rw[hn]at h2
 have:((0:Nat):Rat)=0:=rfl
 grind
theorem xJ (hZ:2*Z<=2^b)(n:Nat):2*dQ D Z b (n+1)<=dQ D Z b n:=by
 show 2*(dQ D Z b n*Z/2^b/D (n+1))<=dQ D Z b n
 have h1:dQ D Z b n*Z/2^b/D (n+1)<=dQ D Z b n*Z/2^b:=Nat.div_le_self _ _;have h2:dQ D Z b n*Z/2^b*2^b<=dQ D Z b n*Z:=Gr _ _;have h3:dQ D Z b n*(2*Z)<=dQ D Z b n*2^b:=GF _ hZ
 have h4:2*(dQ D Z b n*Z/2^b)*2^b<=dQ D Z b n*2^b:=by
  have:2*(dQ D Z b n*Z/2^b)*2^b=2*(dQ D Z b n*Z/2^b*2^b):=GN _ _ _
  have:dQ D Z b n*(2*Z)=2*(dQ D Z b n*Z):=by rw[Nat.mul_left_comm]
  omega
 have h5:=Nat.le_of_mul_le_mul_right h4 (Bx b);omega
theorem uU (hZ:2*Z<=2^b)(n:Nat):dQ D Z b n*2^n<=2^b:=by
 induction n with
 | zero=>show 2^b*2^0<=2^b;rw[Nat.pow_zero,Nat.mul_one];exact tz _
 | succ n ih =>
  have h1:=GE (2^n) (xJ (D:=D) hZ n);rw[Gm]
  have:dQ D Z b (n+1)*(2^n*2)=2*dQ D Z b (n+1)*2^n:=by rw[Gt (2^n) 2,← GN,Gt _ 2]
  omega
theorem iy (hZ:2*Z<=2^b)(hn:b < n):dQ D Z b n=0:=by
 rcases Gp (dQ D Z b n) with h0 | h0
 . exact h0
 . exfalso
   have h1:=uU (D:=D) hZ n;have h2:2^n<=dQ D Z b n*2^n:=Nat.le_mul_of_pos_left _ h0;have h3:2^b < 2^n:=Gw (by omega) hn;omega
def tw (e:Int):Rat:=(2:Rat)^e
theorem dD (e:Int):0 < tw e:=Rat.zpow_pos (by decide)
theorem fJ (a b:Int):tw (a+b)=tw a*tw b:=Rat.zpow_add (by decide) a b
theorem fx (n:Nat):tw (n:Int)=((2^n:Nat):Rat):=by
 unfold tw;rw[Rat.zpow_natCast]
 induction n with
 | zero=>rfl
 | succ n ih=>rw[Rat.pow_succ,ih,Gm];push_cast;rfl
theorem mJ:tw 0=1:=rfl
theorem j0 (n:Nat):tw (-(n:Int))*((2^n:Nat):Rat)=1:=by
 rw[← fx,← fJ,show -(n:Int)+(n:Int)=0 by omega,mJ]
theorem gV {a b:Int}(h:a<=b):tw a<=tw b:=by
 obtain⟨n,rfl⟩:∃ n:Nat,b=a+n:=⟨(b-a).toNat,by omega⟩;rw[fJ,fx]
 have h1:(1:Rat)<=((2^n:Nat):Rat):=by
  have:=Bx n
  exact_mod_cast this
 have:=mF h1 (ou (dD a))
 grind
structure Ex (y:Rat)(m:Nat)(e:Int)(a:Rat):Prop where
 y0:0<=y
 a0:0<=a
 a1:a<=1
 lo:∃ n,(m:Rat)*tw e<=aW y n
 hi:∀ n,aW y n*(1-a)<=(m:Rat)*tw e
theorem yD {b:Rat}(h0:0<=a)(h:a<=b):a*a<=b*b:=by
 have h1:=mF h h0;have h2:=lY h (Bl h0 h);exact Bl h1 h2
theorem Ex.sq {e:Int}(h:Ex y m e a){d:Nat}(hB:2^B<=m*m/2^d+1)(ha:2*a+tw (-(B:Int))<=1):
 Ex (2*y) (m*m/2^d) (2*e+(d:Int)) (2*a+tw (-(B:Int))):=by
 have hs:=dD (-(B:Int));have ha0:=h.a0;have hm:=bz m;have hte:=dD e
 have htt:tw (2*e+(d:Int))=tw e*tw e*((2^d:Nat):Rat):=by
  rw[fJ,fx,show 2*e=e+e by omega,fJ]
 have c1:((m*m/2^d:Nat):Rat)*((2^d:Nat):Rat)<=(m:Rat)*(m:Rat):=by
  have:=bW (Gr (m*m) (2^d))
  have e1:((m*m/2^d*2^d:Nat):Rat)=((m*m/2^d:Nat):Rat)*((2^d:Nat):Rat):=qK _ _;have e2:((m*m:Nat):Rat)=(m:Rat)*(m:Rat):=qK _ _;rw[e1,e2]at this;exact this
 have c2:(m:Rat)*(m:Rat)<=(((m*m/2^d:Nat):Rat)+1)*((2^d:Nat):Rat):=by
  have:=bW (EM (Gv (DE (m*m/2^d)) (Bx d)))
  have e1:(((m*m/2^d).succ*2^d:Nat):Rat)=(((m*m/2^d).succ:Nat):Rat)*((2^d:Nat):Rat):=qK _ _;have e2:((m*m:Nat):Rat)=(m:Rat)*(m:Rat):=qK _ _;have e3:(((m*m/2^d).succ:Nat):Rat)=((m*m/2^d:Nat):Rat)+1:=GD _ 1;rw[e1,e2,e3]at this;exact this
 have c3:1<=tw (-(B:Int))*(((m*m/2^d:Nat):Rat)+1):=by
  have h1:=bW hB;have e3:((m*m/2^d+1:Nat):Rat)=((m*m/2^d:Nat):Rat)+1:=GD _ 1;rw[e3]at h1;have h2:=mF h1 (ou hs);rw[j0]at h2;exact h2
 have hp:=mp d;have hq:=bz (m*m/2^d);refine⟨by have:=h.y0;grind,by grind,ha,?_,fun n=>?_⟩
 . obtain⟨n,hn⟩:=h.lo
   refine⟨2*n,?_⟩;have h1:=pY h.y0 h.y0 n;rw[show y+y=2*y by grind]at h1;have h2:=yD (oM hm (ou hte)) hn;rw[htt];have h3:=lY c1 (ou (DF hte hte))
   grind
 . have h1:=pZ h.y0 h.y0 n
   rw[show y+y=2*y by grind]at h1;have h2:=h.hi n;have hE:=jJ h.y0 n;have h3:0<=aW y n*(1-a):=oM (by grind) (by have:=h.a1;grind);have h4:=yD h3 h2;rw[htt];generalize aW (2*y) n=F at *;generalize aW y n=E at *;generalize((m*m/2^d:Nat):Rat)=q at *;generalize((2^d:Nat):Rat)=p at *;generalize tw (-(B:Int))=s at *;generalize tw e=t at *;generalize(m:Rat)=M at *;clear hB htt h2 h3;have ha1:=h.a1;clear h;have htp:0<=t*t:=ou (DF hte hte)
   have s1:0<=1-s:=by grind
   have k1:F*(1-(2*a+s))<=E*E*(1-(2*a+s)):=lY h1 (by grind)
   have k2:1-(2*a+s)<=(1-a)*(1-a)*(1-s):=by
    have x1:0<=a*a:=oM ha0 ha0;have x2:0<=a*s:=oM ha0 (ou hs);have x3:0<=a*a*(1-s):=oM x1 s1
    grind
   have k3:E*E*(1-(2*a+s))<=E*E*((1-a)*(1-a)*(1-s)):=mF k2 (oM (by grind) (by grind));have k4:E*(1-a)*(E*(1-a))*(1-s)<=M*t*(M*t)*(1-s):=lY h4 s1;have k5:M*M*(t*t*(1-s))<=(q+1)*p*(t*t*(1-s)):=lY c2 (oM htp s1)
   have k6:(q+1)*(1-s)<=q:=by grind
   have k7:(q+1)*(1-s)*(p*(t*t))<=q*(p*(t*t)):=lY k6 (oM (ou hp) htp)
   grind
theorem Ex.start (hz:Zb z Z b)(hn:dQ (fun n=>n) Z b n=0)(ha:4*((n:Rat)+2)*tw (-(b:Int))<=1):
 Ex z (fi (fun n=>n) Z b n) (-(b:Int)) (4*((n:Rat)+2)*tw (-(b:Int))):=by
 have hD:Dv (fun n=>n):=⟨tz _,fun n hn=>hn⟩;have hs:=dD (-(b:Int));have hp:=mp b;have hi:=j0 b;have hn0:=bz n
 have hg:∀ m,bf (gQ (fun n=>n) z) m=aW z m:=fun m=>fK fun i _=>E8 z i
 have hge:((2^b:Nat):Rat)<=((fi (fun n=>n) Z b n:Nat):Rat):=bW (by
  have:∀ k,2^b<=fi (fun n=>n) Z b k:=fun k=>by
   induction k with
   | zero=>exact tz _
   | succ k ih=>exact Gx ih (GJ _ _)
  exact this n)
 refine⟨hz.z0,oM (by grind) (ou hs),ha,⟨n,?_⟩,fun m=>?_⟩
 . have h1:=Gg hD hz n
   rw[hg]at h1;have h2:=lY h1 (ou hs);generalize aW z n=E at *;generalize((fi (fun n=>n) Z b n:Nat):Rat)=s at *;generalize((2^b:Nat):Rat)=p at *;generalize tw (-(b:Int))=t at *
   have:E*p*t=E:=by
    have:E*p*t=E*(t*p):=by grind
    rw[this,hi,Gl]
   grind
 . have h1:=zS hD hz hn m
   rw[hg]at h1
   have hE:0<=aW z m:=by have:=jJ hz.z0 m;grind
   generalize aW z m=E at *;generalize((fi (fun n=>n) Z b n:Nat):Rat)=s at *;generalize((2^b:Nat):Rat)=p at *;generalize tw (-(b:Int))=t at *;generalize hL:4*((n:Rat)+2)=L at *
   have hL0:0<=L:=by grind
   have k1:E*p*t<=(s+L)*t:=lY h1 (ou hs)
   have k2:E*p*t=E:=by
    have:E*p*t=E*(t*p):=by grind
    rw[this,hi,Gl]
   have k3:E*(1-L*t)<=(s+L)*t*(1-L*t):=lY (by grind) (by grind)
   have k4:L<=(s+L)*(L*t):=by
    have x1:p*(L*t)<=s*(L*t):=lY hge (oM hL0 (ou hs))
    have x2:p*(L*t)=L:=by
     have:p*(L*t)=L*(t*p):=by grind
     rw[this,hi,Gl]
    have x3:0<=L*(L*t):=oM hL0 (oM hL0 (ou hs))
    grind
   have k5:(s+L)*(1-L*t)<=s:=by grind
   have k6:(s+L)*(1-L*t)*t<=s*t:=lY k5 (ou hs)
   grind
def EG (B:Nat)(p:Nat×Int):Nat×Int:=(p.1*p.1/2^(nb (p.1*p.1)-B),2*p.2+((nb (p.1*p.1)-B:Nat):Int))
def oX (B:Nat)(p:Nat×Int):Nat->Nat×Int
 | 0=>p
 | k+1=>EG B (oX B p k)
def aQ (a s:Rat):Nat->Rat
 | 0=>a
 | k+1=>2*aQ a s k+s
theorem Dh (a s:Rat)(k:Nat):aQ a s k=((2^k:Nat):Rat)*(a+s)-s:=by
 induction k with
 | zero =>
  show a=((2^0:Nat):Rat)*(a+s)-s
  have:((2^0:Nat):Rat)=1:=rfl
  rw[this];grind
 | succ k ih =>
  show 2*aQ a s k+s=((2^(k+1):Nat):Rat)*(a+s)-s
  have:((2^(k+1):Nat):Rat)=2*((2^k:Nat):Rat):=by rw[Gm,Gt];exact qK 2 _
  rw[ih,this];grind
theorem rG {s:Rat}(ha:0<=a)(hs:0<=s){k l:Nat}(h:k<=l):aQ a s k<=aQ a s l/\0<=aQ a s k:=by
 have h0:∀ k,0<=aQ a s k:=fun k=>by
  induction k with
  | zero=>exact ha
  | succ k ih=>show 0<=2*aQ a s k+s;grind
 refine⟨?_,h0 k⟩
 induction l with
 | zero =>
  obtain rfl:k=0:=by omega
  exact oY
 | succ l ih =>
  rcases Gn l k with h1 | h1
  . obtain rfl:k=l+1:=by omega
    exact oY
  . have h2:=ih h1
    have h3:=h0 l
    show aQ a s k<=2*aQ a s l+s
    grind
theorem qz (hB:1<=B)(h:B<=nb m):nb (EG B (m,0)).1=B:=by
 have h0:0 < m:=by
  rcases Gp m with h1 | h1
  . subst h1;rw[aX]at h;omega
  . exact h1
 have h1:=fA h0;have h2:2^(nb m-1)*2^(nb m-1)<=m*m:=GM h1 h1;rw[← GP]at h2
 have h3:nb m-1+(nb m-1) < nb (m*m):=by
  rcases Gn (nb m-1+(nb m-1)) (nb (m*m)) with h4 | h4
  . exact h4
  . have h5:=dZ (m*m)
    have h6:2^nb (m*m)<=2^(nb m-1+(nb m-1)):=yb (by omega) h4;omega
 show nb (m*m/2^(nb (m*m)-B))=B
 rw[gH];omega
theorem kU {p:Nat×Int}(hB:1<=B)(h:B<=nb p.1)(k:Nat):B<=nb (oX B p k).1:=by
 induction k with
 | zero=>exact h
 | succ k ih=>exact Nat.le_of_eq (qz hB ih).symm
theorem Ex.pow {p:Nat×Int}(h:Ex z p.1 p.2 a)(hB:1<=B)(hp:B<=nb p.1)(k:Nat)(hk:aQ a (tw (-((B-1:Nat):Int))) k<=1):
 Ex (((2^k:Nat):Rat)*z) (oX B p k).1 (oX B p k).2 (aQ a (tw (-((B-1:Nat):Int))) k):=by
 have hs:=ou (dD (-((B-1:Nat):Int)))
 induction k with
 | zero =>
  have:((2^0:Nat):Rat)=1:=rfl
  rw[this,Gz];exact h
 | succ k ih =>
  have h1:=ih (Bl (rG h.a0 hs (Nat.le_succ k)).1 hk);have h2:=qz hB (kU hB hp k)
  have h3:=fA (V:=(EG B ((oX B p k).1,0)).1) (by
   rcases Gp (EG B ((oX B p k).1,0)).1 with h4 | h4
   . rw[h4,aX]at h2;omega
   . exact h4)
  rw[h2]at h3;have h4:=h1.sq (d:=nb ((oX B p k).1*(oX B p k).1)-B) (B:=B-1) (Nat.le_succ_of_le h3) hk
  have e:((2^(k+1):Nat):Rat)*z=2*(((2^k:Nat):Rat)*z):=by
   have:((2^(k+1):Nat):Rat)=2*((2^k:Nat):Rat):=by rw[Gm,Gt];exact qK 2 _
   rw[this];grind
  rw[e];exact h4
theorem Ex.span {lost:Nat}{e:Int}(h:Ex y m e a)(ha:a < 1)(hl:((m:Rat)+(lost:Rat))*a<=(lost:Rat))(n:Nat):aW y n<=((m:Rat)+(lost:Rat))*tw e:=by
 have h1:=h.hi n;have ht:=dD e;generalize(m:Rat)=M at *;generalize(lost:Rat)=l at *;generalize aW y n=E at *
 have k1:M<=(M+l)*(1-a):=by grind
 have k2:M*tw e<=(M+l)*(1-a)*tw e:=lY k1 (ou ht)
 have k3:E*(1-a)<=(M+l)*tw e*(1-a):=by grind
 exact Gq k3 (by grind)
theorem uV (D:Nat->Nat)(Z b k:Nat):2^b<=fi D Z b k:=by
 induction k with
 | zero=>exact tz _
 | succ k ih=>exact Gx ih (GJ _ _)
theorem cI (k:Nat)(e:Int):((2^k:Nat):Rat)*tw e=tw ((k:Int)+e):=by rw[fJ,fx]
def dN (Z B h:Nat):Nat×Int:=oX B (fi (fun n=>n) Z B (B+1),-(B:Int)) h
theorem Zb.two (hz:Zb z Z B):2*Z<=2^B:=by
 have h1:=hz.lo;have h2:=hz.z2;have hp:=mp B;have h3:=lY h2 (ou hp)
 have h4:((2*Z:Nat):Rat)<=((2^B:Nat):Rat):=by
  have e:((2*Z:Nat):Rat)=2*(Z:Rat):=qK 2 Z;rw[e]
  grind
 exact_mod_cast h4
theorem sM (hz:Zb z Z B)(hB:B=P+64+h)(hBl:B<=200000):
 B<=nb (dN Z B h).1/\(∃ n,((dN Z B h).1:Rat)*tw (dN Z B h).2<=aW (((2^h:Nat):Rat)*z) n) /\
  ∀ n,aW (((2^h:Nat):Rat)*z) n<=(((dN Z B h).1:Rat)+((2^(nb (dN Z B h).1-(P+32)):Nat):Rat))*tw (dN Z B h).2:=by
 have hB1:1<=B:=by omega
 have hn:dQ (fun n=>n) Z B (B+1)=0:=iy hz.two (DE B);have hbig:=uV (fun n=>n) Z B (B+1)
 have hnb:B<=nb (fi (fun n=>n) Z B (B+1)):=by
  rcases Gn (nb (fi (fun n=>n) Z B (B+1))) B with h1 | h1
  . have h2:=(bi (fi (fun n=>n) Z B (B+1)) (B-1)).1 (by omega)
    have h3:2^(B-1)<=2^B:=yb (by omega) (by omega);omega
  . exact h1
 have hL:4*(((B+1:Nat):Rat)+2)+2<=((2^20:Nat):Rat):=by
  have h1:4*(B+3)+2<=2^20:=by omega
  have h2:=bW h1
  have e:((4*(B+3)+2:Nat):Rat)=4*(((B+1:Nat):Rat)+2)+2:=by push_cast;grind
  rw[e]at h2;exact h2
 have hs:=dD (-(B:Int))
 have hss:tw (-((B-1:Nat):Int))=2*tw (-(B:Int)):=by
  have h1:-((B-1:Nat):Int)=((1:Nat):Int)+-(B:Int):=by omega
  rw[h1,fJ,fx]
  rfl
 have hn0:=bz (B+1)
 have ha:4*(((B+1:Nat):Rat)+2)*tw (-(B:Int))<=tw (20-(B:Int)):=by
  have e:tw (20-(B:Int))=((2^20:Nat):Rat)*tw (-(B:Int)):=by
   rw[cI];congr 1
  rw[e];refine lY ?_ (ou hs)
  grind
 have hone:tw (20-(B:Int))<=1:=by
  have:=gV (show 20-(B:Int)<=0 by omega)
  rw[mJ]at this;exact this
 have S:=Ex.start hz hn (Bl ha hone)
 have hA:aQ (4*(((B+1:Nat):Rat)+2)*tw (-(B:Int))) (tw (-((B-1:Nat):Int))) h<=tw (-((P+44:Nat):Int)):=by
  rw[Dh,hss]
  have e:tw (-((P+44:Nat):Int))=((2^h:Nat):Rat)*(((2^20:Nat):Rat)*tw (-(B:Int))):=by
   rw[cI,cI]
   congr 1 <;> omega
  rw[e]
  have h1:4*(((B+1:Nat):Rat)+2)*tw (-(B:Int))+2*tw (-(B:Int))<=((2^20:Nat):Rat)*tw (-(B:Int)):=by
   have:=lY hL (ou hs)
   grind
  have h2:=mF h1 (bz (2^h))
  grind
 have hA1:tw (-((P+44:Nat):Int)) < 1:=by
  have h1:=gV (show -((P+44:Nat):Int)<=-1 by omega)
  have h2:2*tw (-1)=1:=j0 1 |> fun h=>by
   have e:((2^1:Nat):Rat)=2:=rfl;rw[e]at h;have e2:tw (-((1:Nat):Int))=tw (-1):=rfl;rw[e2]at h
   grind
  have h3:=dD (-1)
  grind
 have W:=S.pow (p:=(fi (fun n=>n) Z B (B+1),-(B:Int))) hB1 hnb h (Bl hA (ou hA1));have hnbm:=kU (p:=(fi (fun n=>n) Z B (B+1),-(B:Int))) hB1 hnb h;refine⟨hnbm,W.lo,fun n=>?_⟩;refine W.span (by grind) ?_ n;have hnbm':B<=nb (dN Z B h).1:=hnbm;have hm:((dN Z B h).1:Rat)<=((2^nb (dN Z B h).1:Nat):Rat):=bW (EM (dZ _));have hl:((2^(nb (dN Z B h).1-(P+32)):Nat):Rat)<=((2^nb (dN Z B h).1:Nat):Rat):=bW (yb (by omega) (Nat.sub_le _ _))
 have hlost:((2^(nb (dN Z B h).1-(P+32)):Nat):Rat)=((2^nb (dN Z B h).1:Nat):Rat)*tw (-((P+32:Nat):Int)):=by
  rw[cI,← fx]
  congr 1 <;> omega
 have h44:tw (-((P+32:Nat):Int))=((2^12:Nat):Rat)*tw (-((P+44:Nat):Int)):=by
  rw[cI]
  congr 1 <;> omega
 have h12:((2^12:Nat):Rat)=4096:=rfl;have ht:=dD (-((P+44:Nat):Int));have hx:=mp (nb (dN Z B h).1);have hm0:=bz (dN Z B h).1;have hl0:=bz (2^(nb (dN Z B h).1-(P+32)));have hA0:=(rG (k:=h) (l:=h) S.a0 (ou (dD (-((B-1:Nat):Int)))) (tz h)).2
 change (((dN Z B h).1:Rat)+((2^(nb (dN Z B h).1-(P+32)):Nat):Rat))*aQ (4*(((B+1:Nat):Rat)+2)*tw (-(B:Int))) (tw (-((B-1:Nat):Int))) h<=((2^(nb (dN Z B h).1-(P+32)):Nat):Rat)
 generalize aQ (4*(((B+1:Nat):Rat)+2)*tw (-(B:Int))) (tw (-((B-1:Nat):Int))) h=a at *;rw[hlost]at hl hl0 ⊢;rw[h44,h12]at hl hl0 ⊢;generalize((dN Z B h).1:Rat)=m at *;generalize((2^nb (dN Z B h).1:Nat):Rat)=x at *;generalize tw (-((P+44:Nat):Int))=t at *;have k1:(m+x*(4096*t))*a<=(x+x)*a:=lY (by grind) hA0;have k2:(x+x)*a<=(x+x)*t:=mF hA (by grind);have k3:0<=x*t:=ou (DF hx ht)
 grind
def Bj (V:Nat)(n:Int):Nat:=if n < 0 then V/2^(-n).toNat else V*2^n.toNat
theorem rN {V:Nat}{E:Int}(hh:(nb V:Int)+E+1<=(h:Int))(hB:3<=B):Zb ((V:Rat)*tw (E-(h:Int))) (Bj V (E-(h:Int)+(B:Int))) B:=by
 have ht:=dD (E-(h:Int));have hV:=bz V
 have hz:(V:Rat)*tw (E-(h:Int))*((2^B:Nat):Rat)=(V:Rat)*tw (E-(h:Int)+(B:Int)):=by
  rw[fJ,fx,Rat.mul_assoc]
 refine⟨oM hV (ou ht),?_,?_,?_,hB⟩
 . have h1:=bW (EM (dZ V))
   have h2:(V:Rat)*tw (E-(h:Int))<=((2^nb V:Nat):Rat)*tw (E-(h:Int)):=lY h1 (ou ht);rw[cI]at h2;have h3:=gV (show(nb V:Int)+(E-(h:Int))<=-1 by omega)
   have h4:2*tw (-1)=1:=by
    have e:=j0 1;have e1:((2^1:Nat):Rat)=2:=rfl;have e2:tw (-((1:Nat):Int))=tw (-1):=rfl;rw[e1,e2]at e
    grind
   grind
 all_goals
  rw[hz];unfold Bj
  split
  case isTrue hn =>
   obtain⟨k,hk⟩:∃ k:Nat,E-(h:Int)+(B:Int)=-(k:Int):=⟨(-(E-(h:Int)+(B:Int))).toNat,by omega⟩;rw[hk,show(- -(k:Int)).toNat=k by omega];have hi:=j0 k;have htk:=dD (-(k:Int));have c1:=bW (Gr V (2^k));have e1:((V/2^k*2^k:Nat):Rat)=((V/2^k:Nat):Rat)*((2^k:Nat):Rat):=qK _ _;rw[e1]at c1;have c2:=bW (EM (Gv (DE (V/2^k)) (Bx k)));have e2:(((V/2^k).succ*2^k:Nat):Rat)=(((V/2^k).succ:Nat):Rat)*((2^k:Nat):Rat):=qK _ _;have e3:(((V/2^k).succ:Nat):Rat)=((V/2^k:Nat):Rat)+1:=GD _ 1;rw[e2,e3]at c2;have k1:=lY c1 (ou htk);have k2:=lY c2 (ou htk);generalize((V/2^k:Nat):Rat)=q at *;generalize((2^k:Nat):Rat)=p at *;generalize tw (-(k:Int))=t at *
   have k3:q*p*t=q:=by
    have:q*p*t=q*(t*p):=by grind
    rw[this,hi,Gl]
   have k4:(q+1)*p*t=q+1:=by
    have:(q+1)*p*t=(q+1)*(t*p):=by grind
    rw[this,hi,Gl]
   grind
  case isFalse hn =>
   obtain⟨k,hk⟩:∃ k:Nat,E-(h:Int)+(B:Int)=(k:Int):=⟨(E-(h:Int)+(B:Int)).toNat,by omega⟩;rw[hk,Int.toNat_natCast,fx];have e1:((V*2^k:Nat):Rat)=(V:Rat)*((2^k:Nat):Rat):=qK _ _;rw[e1]
   first | exact oY | grind
theorem Cl (V h:Nat)(E:Int):((2^h:Nat):Rat)*((V:Rat)*tw (E-(h:Int)))=(V:Rat)*tw E:=by
 have:((2^h:Nat):Rat)*((V:Rat)*tw (E-(h:Int)))=(V:Rat)*(((2^h:Nat):Rat)*tw (E-(h:Int))):=by grind
 rw[this,cI]
 congr 2
 omega
theorem tA (h0:0<=z)(h2:2*z<=1)(k n:Nat):aW (((2^k:Nat):Rat)*z) n<=tw ((2^k:Nat):Int):=by
 induction k with
 | zero =>
  have h1:=BV h0 h2 0 n;have e0:aW z 0=1:=rfl;have e1:bj z 0=1:=rfl;have e2:((2^0:Nat):Rat)=1:=rfl
  have e3:tw ((2^0:Nat):Int)=2:=by rw[show((2^0:Nat):Int)=((1:Nat):Int) from rfl,fx];rfl
  rw[e2,e3,Gz];rw[e0,e1]at h1
  grind
 | succ k ih =>
  have hy:0<=((2^k:Nat):Rat)*z:=oM (bz _) h0;have h1:=pZ hy hy n
  have e:((2^k:Nat):Rat)*z+((2^k:Nat):Rat)*z=((2^(k+1):Nat):Rat)*z:=by
   have:((2^(k+1):Nat):Rat)=2*((2^k:Nat):Rat):=by rw[Gm,Gt];exact qK 2 _
   rw[this];grind
  rw[e]at h1
  have h3:0<=aW (((2^k:Nat):Rat)*z) n:=by have:=jJ hy n;grind
  have h4:=yD h3 ih
  have e2:tw ((2^k:Nat):Int)*tw ((2^k:Nat):Int)=tw ((2^(k+1):Nat):Int):=by
   rw[← fJ];congr 1;rw[Gm];omega
  rw[e2]at h4;exact Bl h1 h4
theorem bT (a b:Rat):a<=b\/b<=a:=Rat.le_total
theorem mo {b:Rat}(ha:0 < a)(hb:0 < b):0 < a/b:=by
 rw[Gk];exact DF ha (GK.2 hb)
theorem gm {b:Rat}(h1:-a<=x)(h2:x<=a)(h3:-b<=y)(h4:y<=b):-(a*b)<=x*y/\x*y<=a*b:=by
 have k1:0<=(a-x)*(b+y):=oM (by grind) (by grind);have k2:0<=(a+x)*(b-y):=oM (by grind) (by grind);have k3:0<=(a-x)*(b-y):=oM (by grind) (by grind);have k4:0<=(a+x)*(b+y):=oM (by grind) (by grind)
 constructor <;> grind
theorem l6 {b:Rat}(h1:a<=x)(h2:x<=b)(h3:c<=y)(h4:y<=d)(k1:L<=a*c)(k2:L<=a*d)(k3:L<=b*c)(k4:L<=b*d):L<=x*y:=by
 have side:∀ z,L<=z*c->L<=z*d->L<=z*y:=fun z u v=>by
  rcases bT 0 z with hz | hz
  . have:=mF h3 hz
    grind
  . have:=mF h4 (show(0:Rat)<=-z by grind)
    grind
 have sa:=side a k1 k2;have sb:=side b k3 k4
 rcases bT 0 y with hy | hy
 . have:=lY h1 hy
   grind
 . have:=lY h2 (show(0:Rat)<=-y by grind)
   grind
theorem qh {b:Rat}(h1:a<=x)(h2:x<=b)(h3:c<=y)(h4:y<=d)(k1:a*c<=H)(k2:a*d<=H)(k3:b*c<=H)(k4:b*d<=H):x*y<=H:=by
 have:=l6 (a:=-b) (b:=-a) (c:=c) (d:=d) (x:=-x) (y:=y) (L:=-H) (by grind) (by grind) h3 h4 (by grind) (by grind) (by grind) (by grind)
 grind
theorem jH (x:Rat):∃ n:Nat,x<=(n:Rat):=by
 refine⟨x.ceil.toNat,Bl Rat.le_ceil ?_⟩
 have h:x.ceil<=(x.ceil.toNat:Int):=by omega
 have h2:(x.ceil:Rat)<=((x.ceil.toNat:Int):Rat):=by exact_mod_cast h
 exact h2
theorem un (n:Nat):n<=2^n:=EM Nat.lt_two_pow_self
theorem uS (c:Rat){e:Rat}(he:0 < e):∃ n:Nat,∀ m,n<=m->c<=e*((2^m:Nat):Rat):=by
 obtain⟨n,hn⟩:=jH (c/e);refine⟨n,fun m hm=>?_⟩;have h1:c/e*e=c:=GH (by grind)
 have h2:(n:Rat)<=((2^m:Nat):Rat):=by
  have:=Gx (un n) (yb (by omega) hm)
  exact_mod_cast this
 have h3:=lY (Bl hn h2) (ou he);rw[h1]at h3
 grind
theorem Dz (ha:0 < a)(hc:0 < c)(hd:0 < d):∃ f:Rat,0 < f/\f<=a/\f*c<=d:=by
 have h0:0 < d/c:=mo hd hc;have hm:d/c*c=d:=GH (by grind)
 rcases bT a (d/c) with h1 | h1
 . refine⟨a,ha,oY,?_⟩
   have:=lY h1 (ou hc)
   grind
 . exact⟨d/c,h0,h1,by grind⟩
def ij (s:Nat->Rat):Prop:=∀ e:Rat,0 < e->∃ N,∀ n,N<=n->-e<=s n/\s n<=e
def rM (s:Nat->Rat):Prop:=∃ M:Rat,0 < M/\∀ n,-M<=s n/\s n<=M
theorem ij.eq (h:ij s)(e:∀ n,s n=t n):ij t:=(funext e:s=t) ▸ h
theorem ij.zero:ij (fun _=>0):=fun e he=>⟨0,fun _ _=>⟨by grind,by grind⟩⟩
theorem ij.add (h:ij s)(k:ij t):ij (fun n=>s n+t n):=fun e he=>by
 obtain⟨N,hN⟩:=h (e/2) (by grind);obtain⟨M,hM⟩:=k (e/2) (by grind);refine⟨N+M,fun n hn=>?_⟩
 have:=hN n (by omega)
 have:=hM n (by omega)
 constructor <;> grind
theorem ij.neg (h:ij s):ij (fun n=>- s n):=fun e he=>by
 obtain⟨N,hN⟩:=h e he;exact⟨N,fun n hn=>by have:=hN n hn;constructor <;> grind⟩
theorem ij.le (h:ij s)(k:∀ n,- s n<=t n/\t n<=s n):ij t:=fun e he=>by
 obtain⟨N,hN⟩:=h e he;exact⟨N,fun n hn=>by have:=hN n hn;have:=k n;constructor <;> grind⟩
theorem rM.add (h:rM s)(k:rM t):rM (fun n=>s n+t n):=by
 obtain⟨M,hM,h⟩:=h;obtain⟨K,hK,k⟩:=k;exact⟨M+K,by grind,fun n=>by have:=h n;have:=k n;constructor <;> grind⟩
theorem rM.mul (h:rM s)(k:rM t):rM (fun n=>s n*t n):=by
 obtain⟨M,hM,h⟩:=h;obtain⟨K,hK,k⟩:=k;exact⟨M*K,DF hM hK,fun n=>gm (h n).1 (h n).2 (k n).1 (k n).2⟩
theorem rM.const (c:Rat):rM (fun _=>c):=⟨1+(if 0<=c then c else -c),by split <;> grind,fun _=>by split <;> constructor <;> grind⟩
def Hl (a b:Rat)(s:Nat->Rat):Prop:=∀ e:Rat,0 < e->∃ N,∀ n,N<=n->a-e<=s n/\s n<=b+e
section
variable {a b c d:Rat} {s t:Nat->Rat}
theorem Hl.of (h:∀ n,N<=n->a<=s n/\s n<=b):Hl a b s:=fun e he=>⟨N,fun n hn=>by have:=h n hn;constructor <;> grind⟩
theorem Hl.point (c:Rat):Hl c c (fun _=>c):=Hl.of (N:=0) fun _ _=>⟨oY,oY⟩
theorem Hl.mono (h:Hl a b s)(h1:c<=a)(h2:b<=d):Hl c d s:=fun e he=>by
 obtain⟨N,hN⟩:=h e he;exact⟨N,fun n hn=>by have:=hN n hn;constructor <;> grind⟩
theorem Hl.congr (h:Hl a b s)(k:ij (fun n=>s n-t n)):Hl a b t:=fun e he=>by
 obtain⟨N,hN⟩:=h (e/2) (by grind);obtain⟨M,hM⟩:=k (e/2) (by grind);refine⟨N+M,fun n hn=>?_⟩
 have:=hN n (by omega)
 have:=hM n (by omega)
 constructor <;> grind
theorem Hl.add (h:Hl a b s)(k:Hl c d t):Hl (a+c) (b+d) (fun n=>s n+t n):=fun e he=>by
 obtain⟨N,hN⟩:=h (e/2) (by grind);obtain⟨M,hM⟩:=k (e/2) (by grind);refine⟨N+M,fun n hn=>?_⟩
 have:=hN n (by omega)
 have:=hM n (by omega)
 constructor <;> grind
theorem Hl.neg (h:Hl a b s):Hl (-b) (-a) (fun n=>- s n):=fun e he=>by
 obtain⟨N,hN⟩:=h e he;exact⟨N,fun n hn=>by have:=hN n hn;constructor <;> grind⟩
theorem Hl.sub (h:Hl a b s)(k:Hl c d t):Hl (a-d) (b-c) (fun n=>s n-t n):=by
 have:=h.add k.neg
 simp only[GI];exact this
theorem Hl.meet (h:Hl a b s)(k:Hl c d t)(z:ij (fun n=>s n-t n)):a<=d:=by
 by_cases h1:a<=d
 . exact h1
 . exfalso
   have he:0 < (a-d)/4:=by have:=GQ.1 h1;grind
   obtain⟨N,hN⟩:=(h.congr z) _ he;obtain⟨M,hM⟩:=k _ he
   have:=hN (N+M) (by omega)
   have:=hM (N+M) (by omega)
   grind
theorem Hl.le (h:Hl a b s):a<=b:=h.meet h (ij.zero.eq (fun n=>by grind))
theorem Hl.mul (h:Hl a b s)(k:Hl c d t)(l1:L<=a*c)(l2:L<=a*d)(l3:L<=b*c)(l4:L<=b*d)
 (u1:a*c<=H) (u2:a*d<=H) (u3:b*c<=H) (u4:b*d<=H):Hl L H (fun n=>s n*t n):=fun e he=>by
 have hab:=h.le;have hcd:=k.le;obtain⟨A,hA0,hA1,hA2⟩:∃ A:Rat,0 < A/\-A<=a/\b<=A:=⟨1+(if 0<=a then a else -a)+(if 0<=b then b else -b),by split <;> split <;> grind,by split <;> split <;> grind,by split <;> split <;> grind⟩;obtain⟨C,hC0,hC1,hC2⟩:∃ C:Rat,0 < C/\-C<=c/\d<=C:=⟨1+(if 0<=c then c else -c)+(if 0<=d then d else -d),by split <;> split <;> grind,by split <;> split <;> grind,by split <;> split <;> grind⟩;obtain⟨f,hf0,hf1,hf2⟩:=Dz (a:=1) (c:=A+C+1) (d:=e) (by grind) (by grind) he;obtain⟨N,hN⟩:=h f hf0;obtain⟨M,hM⟩:=k f hf0;refine⟨N+M,fun n hn=>?_⟩;have hs:=hN n (by omega);have ht:=hM n (by omega)
 show L-e<=s n*t n/\s n*t n<=H+e
 generalize s n=x at *;generalize t n=y at *
 obtain⟨x',p1,p2,p3,p4⟩:∃ x',a<=x'/\x'<=b/\-f<=x-x'/\x-x'<=f:=by
  rcases bT x a with q | q
  . exact⟨a,oY,hab,by grind,by grind⟩
  . rcases bT b x with r | r
    . exact⟨b,hab,oY,by grind,by grind⟩
    . exact⟨x,q,r,by grind,by grind⟩
 obtain⟨y',q1,q2,q3,q4⟩:∃ y',c<=y'/\y'<=d/\-f<=y-y'/\y-y'<=f:=by
  rcases bT y c with q | q
  . exact⟨c,oY,hcd,by grind,by grind⟩
  . rcases bT d y with r | r
    . exact⟨d,hcd,oY,by grind,by grind⟩
    . exact⟨y,q,r,by grind,by grind⟩
 have c1:=l6 p1 p2 q1 q2 l1 l2 l3 l4;have c2:=qh p1 p2 q1 q2 u1 u2 u3 u4;have m1:=gm (a:=A) (b:=f) (x:=x') (y:=y-y') (by grind) (by grind) q3 q4;have m2:=gm (a:=f) (b:=C+1) (x:=x-x') (y:=y) p3 p4 (by grind) (by grind)
 have e1:x*y=x'*y'+x'*(y-y')+(x-x')*y:=by grind
 constructor <;> grind
theorem Hl.inv (h:Hl a b s)(ha:0 < a)(hst:ij (fun n=>s n*t n-1))(hL:L*b<=1)(hH:1<=H*a):Hl L H t:=fun e he=>by
 have hab:=h.le
 have hH0:0 < H:=by
  refine GQ.1 fun h1=>?_
  have:=lY h1 (ou ha)
  grind
 obtain⟨K,hK0,hK⟩:∃ K:Rat,0 < K/\L<=K:=⟨1+(if 0<=L then L else -L),by split <;> grind,by split <;> grind⟩
 obtain⟨f,hf0,hf1,hf3,hf2⟩:∃ f:Rat,0 < f/\f<=a/2/\f<=1/2/\f*(2+H+e+K)<=a*e/2:=by
  have hae:0 < a*e/2:=by have:=DF ha he;grind
  obtain⟨f,g0,g1,g2⟩:=Dz (a:=a/2) (c:=2+H+e+K) (d:=a*e/2) (by grind) (by grind) hae
  rcases bT f (1/2) with h1 | h1
  . exact⟨f,g0,g1,h1,g2⟩
  . refine⟨1/2,by grind,by grind,oY,?_⟩
    have:=lY h1 (show 0<=2+H+e+K by grind)
    grind
 obtain⟨N,hN⟩:=h f hf0;obtain⟨M,hM⟩:=hst f hf0;refine⟨N+M,fun n hn=>?_⟩;have hs:=hN n (by omega);have ht:=hM n (by omega)
 dsimp only at ht
 generalize s n=x at *;generalize t n=y at *
 have hx:0 < x:=by grind
 constructor
 . rcases bT (L-e) y with h1 | h1
   . exact h1
   . exfalso
     have h2:=mF h1 (ou hx)
     rcases bT (L-e) 0 with h3 | h3
     . have h4:0<=x*-(L-e):=oM (ou hx) (by grind)
       grind
     . have h4:=lY hs.2 h3
       have h5:=mF hK (ou hf0);have h6:=lY hab (ou he);have h7:f*(1+K)<=f*(2+H+e+K):=mF (by grind) (ou hf0);have h8:0<=f*e:=oM (ou hf0) (ou he);have h9:=DF ha he
       grind
 . rcases bT y (H+e) with h1 | h1
   . exact h1
   . have h2:=mF h1 (ou hx)
     have h3:(a-f)*(H+e)<=x*(H+e):=lY hs.1 (by grind);have h7:f*(1+H+e)<=f*(2+H+e+K):=mF (by grind) (ou hf0);have h9:=DF ha he
     exfalso
     grind
end
theorem jI (hc:0 < c)(h:c*x<=c*y):x<=y:=Rat.le_of_mul_le_mul_left h hc
theorem j5 (h1:-a<=x)(h2:x<=a)(n:Nat):-(bj a n)<=bj x n/\bj x n<=bj a n:=by
 induction n with
 | zero=>exact⟨by show -(1:Rat)<=1;grind,oY⟩
 | succ n ih =>
  have e1:=cZ x n;have e2:=cZ a n;have hp:=gI n;have h3:=gm h1 h2 ih.1 ih.2
  constructor
  . refine jI hp ?_
    grind
  . refine jI hp ?_
    grind
theorem vK (h:∀ i,-(g i)<=f i/\f i<=g i)(k:Nat):∀ d,-(bf g (k+d)-bf g k)<=bf f (k+d)-bf f k/\bf f (k+d)-bf f k<=bf g (k+d)-bf g k
 | 0=>by constructor <;> grind
 | d+1=>by
  have:=vK h k d
  have:=h (k+d+1)
  rw[show k+(d+1)=k+d+1 by omega,bM,bM]
  constructor <;> grind
theorem vL (h:∀ i,i<=n->-(g i)<=f i/\f i<=g i):-(bf g n)<=bf f n/\bf f n<=bf g n:=by
 induction n with
 | zero=>exact h 0 (tz _)
 | succ n ih =>
  have:=ih (fun i hi=>h i (by omega))
  have:=h (n+1) (tz _)
  rw[bM,bM]
  constructor <;> grind
theorem Gh (x y:Rat)(n:Nat):aW x n*aW y n-aW (x+y) n=bf (fun i=>bj x i*(bf (bj y) n-bf (bj y) (n-i))) n:=by
 have h:aW x n*aW y n=bf (fun i=>bj x i*aW y n) n:=by
  have e:(fun i=>bj x i*aW y n)=fun i=>aW y n*bj x i:=by funext i;exact Gs _ _
  rw[e,im];exact Gs _ _
 have h2:bf (fun i=>bj x i*(bf (bj y) n-bf (bj y) (n-i))) n+bf (fun i=>bj x i*bf (bj y) (n-i)) n=bf (fun i=>bj x i*aW y n) n:=by
  rw[← nw]
  refine fK fun i _=>?_
  show _=bj x i*bf (bj y) n
  grind
 rw[h,rg]
 grind
theorem BW {b:Rat}(h1:-a<=x)(h2:x<=a)(h3:-b<=y)(h4:y<=b)(n:Nat):
 -(aW a n*aW b n-aW (a+b) n)<=aW x n*aW y n-aW (x+y) n/\aW x n*aW y n-aW (x+y) n<=aW a n*aW b n-aW (a+b) n:=by
 rw[Gh,Gh]
 refine vL fun i hi=>?_
 have k1:=j5 h1 h2 i;have k2:=vK (fun j=>j5 h3 h4 j) (n-i) i;rw[show n-i+i=n by omega]at k2;exact gm k1.1 k1.2 k2.1 k2.2
theorem vH (ha:0<=a)(hK:2*a<=(K:Rat))(m:Nat):2*bj a (K+m+1)<=bj a (K+m):=by
 have h1:=cZ a (K+m);have h3:=bk ha (K+m);have hp:=gI (K+m)
 have e:((K+m:Nat):Rat)=(K:Rat)+(m:Rat):=by push_cast;rfl
 have hm:(0:Rat)<=(m:Rat):=by exact_mod_cast Gu m
 have h4:2*(a*bj a (K+m))<=(((K+m:Nat):Rat)+1)*bj a (K+m):=by
  have:=lY (show 2*a<=((K+m:Nat):Rat)+1 by grind) h3
  grind
 refine jI hp ?_
 grind
theorem Do (ha:0<=a)(hK:2*a<=(K:Rat))(m:Nat):bj a (K+m)*((2^m:Nat):Rat)<=bj a K:=by
 induction m with
 | zero =>
  have:((2^0:Nat):Rat)=1:=rfl
  rw[this,Gl];exact oY
 | succ m ih =>
  have h1:=vH ha hK m
  have e:((2^(m+1):Nat):Rat)=2*((2^m:Nat):Rat):=by rw[Gm,Gt];exact qK 2 _
  have hp:(0:Rat)<=((2^m:Nat):Rat):=by exact_mod_cast Gu _
  have:=lY h1 hp
  rw[e,show K+(m+1)=K+m+1 by omega]
  grind
theorem li (ha:0<=a)(hK:2*a<=(K:Rat))(m:Nat):∀ d,aW a (K+m+d)+bj a (K+m+d)<=aW a (K+m)+bj a (K+m)
 | 0=>oY
 | d+1=>by
  have:=li ha hK m d
  have h1:=vH ha hK (m+d);have e:aW a (K+m+(d+1))=aW a (K+m+d)+bj a (K+m+d+1):=rfl;rw[e,show K+m+(d+1)=K+m+d+1 by omega];rw[show K+(m+d)=K+m+d by omega]at h1
  grind
theorem Dn (ha:0<=a):ij (bj a):=fun e he=>by
 obtain⟨K,hK⟩:=jH (2*a);obtain⟨n,hn⟩:=uS (bj a K) he;refine⟨K+n,fun m hm=>?_⟩;have h1:=bk ha m;have h2:=Do ha hK (m-K);have h3:=hn (m-K) (by omega);rw[show K+(m-K)=m by omega]at h2
 have hp:(0:Rat) < ((2^(m-K):Nat):Rat):=by exact_mod_cast Bx _
 refine⟨by grind,?_⟩;refine jI hp ?_
 grind
theorem DU (ha:0<=a):ij (fun n=>aW a (2*n)-aW a n):=fun e he=>by
 obtain⟨K,hK⟩:=jH (2*a);obtain⟨N,hN⟩:=Dn ha e he;refine⟨K+N,fun n hn=>?_⟩;have h1:=li ha hK (n-K) n;have h2:=fC ha (show n<=2*n by omega);have h3:=hN n (by omega);have h4:=bk ha (2*n);rw[show K+(n-K)=n by omega,show n+n=2*n by omega]at h1
 constructor <;> grind
theorem vu (x:Rat):∃ a:Rat,0<=a/\-a<=x/\x<=a:=by
 rcases bT 0 x with h | h
 . exact⟨x,h,by grind,oY⟩
 . exact⟨-x,by grind,by grind,by grind⟩
theorem lZ (x y:Rat):ij (fun n=>aW x n*aW y n-aW (x+y) n):=by
 obtain⟨a,a0,a1,a2⟩:=vu x;obtain⟨b,b0,b1,b2⟩:=vu y;have h0:=DU (show 0<=a+b by grind)
 refine h0.le fun n=>?_
 have h1:=BW a1 a2 b1 b2 n;have h2:=pY a0 b0 n
 constructor <;> grind
theorem ow (x:Rat):rM (aW x):=by
 obtain⟨a,a0,a1,a2⟩:=vu x;obtain⟨K,hK⟩:=jH (2*a);have h0:=jJ a0 K;have h1:=bk a0 K;refine⟨aW a K+bj a K,by grind,fun n=>?_⟩;have h2:=vL (n:=n) (fun i _=>j5 a1 a2 i)
 have h3:aW a n<=aW a K+bj a K:=by
  rcases Gn n K with h | h
  . have:=fC a0 (EM h)
    grind
  . have h4:=li a0 hK 0 (n-K)
    have h5:=bk a0 n;rw[show K+0+(n-K)=n by omega,Nat.add_zero]at h4
    grind
 have e1:aW a n=bf (bj a) n:=rfl;have e2:aW x n=bf (bj x) n:=rfl
 constructor <;> grind
theorem lh (n:Nat):aW 0 n=1:=by
 have h:∀ k,bj 0 (k+1)=0:=fun k=>by
  show bj 0 k*0/((k:Rat)+1)=0
  rw[Rat.mul_zero,Gk,Rat.zero_mul]
 induction n with
 | zero=>rfl
 | succ n ih =>
  show aW 0 n+bj 0 (n+1)=1
  rw[h,ih,Rat.add_zero]
theorem zW (x:Rat):ij (fun n=>aW x n*aW (-x) n-1):=by
 have:=lZ x (-x)
 rw[show x+-x=0 by grind]at this
 exact this.eq fun n=>by rw[lh]
def Lq (s t:Nat->Rat):Prop:=∀ e:Rat,0 < e->∃ N,∀ n,N<=n->s n<=t n+e
section
variable {s t u v:Nat->Rat} {a b c d:Rat}
theorem Lq.of (h:∀ n,s n<=t n):Lq s t:=fun e he=>⟨0,fun n _=>by have:=h n;grind⟩
theorem Lq.trans (h:Lq s t)(k:Lq t u):Lq s u:=fun e he=>by
 obtain⟨N,hN⟩:=h (e/2) (by grind);obtain⟨M,hM⟩:=k (e/2) (by grind);refine⟨N+M,fun n hn=>?_⟩
 have:=hN n (by omega)
 have:=hM n (by omega)
 grind
theorem Lq.nul (h:ij (fun n=>s n-t n)):Lq s t:=fun e he=>by
 obtain⟨N,hN⟩:=h e he;exact⟨N,fun n hn=>by have:=hN n hn;grind⟩
theorem Lq.add (h:Lq s t)(k:Lq u v):Lq (fun n=>s n+u n) (fun n=>t n+v n):=fun e he=>by
 obtain⟨N,hN⟩:=h (e/2) (by grind);obtain⟨M,hM⟩:=k (e/2) (by grind);refine⟨N+M,fun n hn=>?_⟩
 have:=hN n (by omega)
 have:=hM n (by omega)
 grind
theorem Lq.neg (h:Lq s t):Lq (fun n=>- t n) (fun n=>- s n):=fun e he=>by
 obtain⟨N,hN⟩:=h e he;exact⟨N,fun n hn=>by have:=hN n hn;grind⟩
theorem Lq.sub (h:Lq s t):Lq (fun _=>0) (fun n=>t n-s n):=fun e he=>by
 obtain⟨N,hN⟩:=h e he;exact⟨N,fun n hn=>by have:=hN n hn;grind⟩
theorem Lq.of_sub (h:Lq (fun _=>0) (fun n=>t n-s n)):Lq s t:=fun e he=>by
 obtain⟨N,hN⟩:=h e he;exact⟨N,fun n hn=>by have:=hN n hn;grind⟩
theorem Lq.mul (h:Lq (fun _=>0) s)(k:Lq (fun _=>0) t)(hs:rM s)(ht:rM t):Lq (fun _=>0) (fun n=>s n*t n):=fun e he=>by
 obtain⟨M,hM0,hM⟩:=hs;obtain⟨K,hK0,hK⟩:=ht;obtain⟨f,f0,_,f2⟩:=Dz (a:=1) (c:=M+K) (d:=e) (by grind) (by grind) he;obtain⟨N,hN⟩:=h f f0;obtain⟨N',hN'⟩:=k f f0;refine⟨N+N',fun n hn=>?_⟩;have h1:=hN n (by omega);have h2:=hN' n (by omega);have h3:=hM n;have h4:=hK n
 show 0<=s n*t n+e
 dsimp only at h1 h2
 generalize s n=x at *;generalize t n=y at *;have h5:0<=(x+f)*(y+f):=oM (by grind) (by grind)
 rcases bT 0 x with hx | hx
 . have h6:0<=x*(y+f):=oM hx (by grind)
   have h7:f*x<=f*M:=mF h3.2 (ou f0);have h8:0<=f*K:=oM (ou f0) (ou hK0)
   grind
 . rcases bT 0 y with hy | hy
   . have h6:0<=(x+f)*y:=oM (by grind) hy
     have h7:f*y<=f*K:=mF h4.2 (ou f0);have h8:0<=f*M:=oM (ou f0) (ou hM0)
     grind
   . have h6:0<=(-x)*(-y):=oM (by grind) (by grind)
     grind
theorem Hl.between (h:Hl a b s)(k:Hl c d t)(h1:Lq s u)(h2:Lq u t):Hl a d u:=fun e he=>by
 obtain⟨N,hN⟩:=h (e/2) (by grind);obtain⟨M,hM⟩:=k (e/2) (by grind);obtain⟨N',hN'⟩:=h1 (e/2) (by grind);obtain⟨M',hM'⟩:=h2 (e/2) (by grind);refine⟨N+M+N'+M',fun n hn=>?_⟩
 have:=hN n (by omega)
 have:=hM n (by omega)
 have:=hN' n (by omega)
 have:=hM' n (by omega)
 constructor <;> grind
end
theorem DT (x:Rat):Lq (fun _=>0) (aW x):=by
 have h:=lZ (x/2) (x/2);rw[show x/2+x/2=x by grind]at h;refine Lq.trans (Lq.of fun n=>?_) (Lq.nul h)
 show 0<=aW (x/2) n*aW (x/2) n
 rcases bT 0 (aW (x/2) n) with h1 | h1
 . exact oM h1 h1
 . have:0<=(- aW (x/2) n)*(- aW (x/2) n):=oM (by grind) (by grind)
   grind
theorem wD (h:x<=y):Lq (aW x) (aW y):=by
 have h1:Lq (fun _=>0) (fun n=>aW x n*(aW (y-x) n-1)) :=
  (DT x).mul (Lq.of fun n=>by have:=jJ (show 0<=y-x by grind) n;grind) (ow x) ((ow (y-x)).add (rM.const (-1)) |> fun k=>by simpa only[GI] using k)
 have h2:=lZ x (y-x);rw[show x+(y-x)=y by grind]at h2;refine Lq.of_sub (Lq.trans h1 (Lq.nul (h2.eq fun n=>?_)))
 grind
def fG (x:Rat)(n:Nat):Rat:=(aW x n-aW (-x) n)/2
def eJ (x:Rat)(n:Nat):Rat:=(aW x n+aW (-x) n)/2
theorem Lq.half (h:Lq s t):Lq (fun n=>s n/2) (fun n=>t n/2):=fun e he=>by
 obtain⟨N,hN⟩:=h e he;exact⟨N,fun n hn=>by have:=hN n hn;grind⟩
theorem FY (h:x<=y):Lq (fG x) (fG y):=by
 have h1:=(wD h).add (wD (show -y<=-x by grind)).neg;have h2:=h1.half
 have e1:(fun n=>(aW x n+- aW (-x) n)/2)=fG x:=by funext n;unfold fG;grind
 have e2:(fun n=>(aW y n+- aW (-y) n)/2)=fG y:=by funext n;unfold fG;grind
 rw[e1,e2]at h2;exact h2
theorem jK (x:Rat)(n:Nat):eJ (-x) n=eJ x n:=by
 unfold eJ;rw[show - -x=x by grind]
 grind
theorem Dr (x:Rat)(n:Nat):fG (-x) n=- fG x n:=by
 unfold fG;rw[show - -x=x by grind]
 grind
theorem ie (h0:0<=x)(h:x<=y):Lq (eJ x) (eJ y):=by
 have b1:rM (fun n=>aW y n-aW x n):=by
  have k:=(ow y).add ((ow x).mul (rM.const (-1)))
  have e:(fun n=>aW y n+aW x n*-1)=fun n=>aW y n-aW x n:=by funext n;grind
  rw[e]at k;exact k
 have b2:rM (fun n=>1-aW (-(x+y)) n):=by
  have k:=(rM.const 1).add ((ow (-(x+y))).mul (rM.const (-1)))
  have e:(fun n=>(1:Rat)+aW (-(x+y)) n*-1)=fun n=>1-aW (-(x+y)) n:=by funext n;grind
  rw[e]at k;exact k
 have l2:Lq (aW (-(x+y))) (fun _=>1):=by
  have k:=wD (show -(x+y)<=0 by grind)
  have e:aW 0=fun _=>1:=by funext n;exact lh n
  rw[e]at k;exact k
 have h1:=(wD h).sub.mul l2.sub b1 b2;have n1:=lZ y (-(x+y));have n2:=lZ x (-(x+y));rw[show y+-(x+y)=-x by grind]at n1;rw[show x+-(x+y)=-y by grind]at n2
 have n3:ij (fun n=>(aW y n-aW x n)*(1-aW (-(x+y)) n)-(eJ y n-eJ x n)*2) :=
  (n1.neg.add n2).eq fun n=>by unfold eJ;grind
 have h2:=h1.trans (Lq.nul n3)
 refine Lq.of_sub fun e he=>?_
 obtain⟨N,hN⟩:=h2 e he;exact⟨N,fun n hn=>by have:=hN n hn;grind⟩
theorem wE (n:Nat):eJ 0 n=1:=by
 unfold eJ;rw[show -(0:Rat)=0 by grind,lh]
 grind
theorem ES {V U:Nat}(h:V<=U):nb V<=nb U:=(bi _ _).2 (Nat.lt_of_le_of_lt h (dZ U))
theorem xr {j:Nat}(hz:Zb z Z B)(hB:B=P+64+h)(hBl:B<=200000)(hj:j<=h):
 ∃ a,Ex (((2^j:Nat):Rat)*z) (dN Z B j).1 (dN Z B j).2 a/\a<=tw (-((P+44:Nat):Int))/\B<=nb (dN Z B j).1/\nb (dN Z B j).1<=B+21:=by
 have hB1:1<=B:=by omega
 have hn:dQ (fun n=>n) Z B (B+1)=0:=iy hz.two (DE B);have hbig:=uV (fun n=>n) Z B (B+1)
 have hnb:B<=nb (fi (fun n=>n) Z B (B+1)):=by
  rcases Gn (nb (fi (fun n=>n) Z B (B+1))) B with h1 | h1
  . have h2:=(bi (fi (fun n=>n) Z B (B+1)) (B-1)).1 (by omega)
    have h3:2^(B-1)<=2^B:=yb (by omega) (by omega);omega
  . exact h1
 have hL:4*(((B+1:Nat):Rat)+2)+2<=((2^20:Nat):Rat):=by
  have h1:4*(B+3)+2<=2^20:=by omega
  have h2:=bW h1
  have e:((4*(B+3)+2:Nat):Rat)=4*(((B+1:Nat):Rat)+2)+2:=by push_cast;grind
  rw[e]at h2;exact h2
 have hs:=dD (-(B:Int))
 have hss:tw (-((B-1:Nat):Int))=2*tw (-(B:Int)):=by
  have h1:-((B-1:Nat):Int)=((1:Nat):Int)+-(B:Int):=by omega
  rw[h1,fJ,fx]
  rfl
 have hn0:=bz (B+1)
 have ha:4*(((B+1:Nat):Rat)+2)*tw (-(B:Int))<=tw (20-(B:Int)):=by
  have e:tw (20-(B:Int))=((2^20:Nat):Rat)*tw (-(B:Int)):=by
   rw[cI];congr 1
  rw[e];refine lY ?_ (ou hs)
  grind
 have hone:tw (20-(B:Int))<=1:=by
  have:=gV (show 20-(B:Int)<=0 by omega)
  rw[mJ]at this;exact this
 have S:=Ex.start hz hn (Bl ha hone)
 have hA:aQ (4*(((B+1:Nat):Rat)+2)*tw (-(B:Int))) (tw (-((B-1:Nat):Int))) h<=tw (-((P+44:Nat):Int)):=by
  rw[Dh,hss]
  have e:tw (-((P+44:Nat):Int))=((2^h:Nat):Rat)*(((2^20:Nat):Rat)*tw (-(B:Int))):=by
   rw[cI,cI]
   congr 1 <;> omega
  rw[e]
  have h1:4*(((B+1:Nat):Rat)+2)*tw (-(B:Int))+2*tw (-(B:Int))<=((2^20:Nat):Rat)*tw (-(B:Int)):=by
   have:=lY hL (ou hs)
   grind
  have h2:=mF h1 (bz (2^h))
  grind
 have hA1:tw (-((P+44:Nat):Int))<=1:=by
  have h1:=gV (show -((P+44:Nat):Int)<=0 by omega);rw[mJ]at h1;exact h1
 have hAj:=Bl (rG (k:=j) (l:=h) S.a0 (ou (dD (-((B-1:Nat):Int)))) hj).1 hA;refine⟨_,S.pow (p:=(fi (fun n=>n) Z B (B+1),-(B:Int))) hB1 hnb j (Bl hAj hA1),hAj,kU (p:=(fi (fun n=>n) Z B (B+1),-(B:Int))) hB1 hnb j,?_⟩
 cases j with
 | zero =>
  have h1:fi (fun n=>n) Z B (B+1)<=2^(20+B):=by
   have hfs:∀ k,fi (fun n=>n) Z B k<=(k+1)*2^B:=fun k=>by
    have hft:∀ i,dQ (fun n=>n) Z B i<=2^B:=fun i=>by
     have h1:=uU (D:=fun n=>n) hz.two i;have h2:dQ (fun n=>n) Z B i*1<=dQ (fun n=>n) Z B i*2^i:=GF _ (Bx i);omega
    induction k with
    | zero=>have:=hft 0;show dQ (fun n=>n) Z B 0<=_;omega
    | succ k ih =>
     have h1:=hft (k+1)
     show fi (fun n=>n) Z B k+dQ (fun n=>n) Z B (k+1)<=(k+1+1)*2^B
     rw[Nat.add_mul (k+1) 1];omega
   rw[GP];exact Gx (hfs _) (GE _ (by omega))
  have h2:=ES h1;rw[show nb (2^(20+B))=20+B+1 from jU (Gw (by omega) (DE _)) (tz _)]at h2
  show nb (fi (fun n=>n) Z B (B+1))<=B+21
  omega
 | succ j =>
  have:=qz hB1 (kU (p:=(fi (fun n=>n) Z B (B+1),-(B:Int))) hB1 hnb j)
  have e:nb (EG B ((oX B (fi (fun n=>n) Z B (B+1),-(B:Int)) j).1,0)).1<=B+21:=by omega
  exact e
theorem Cy {a b:Int}(h:tw a < tw b):a < b:=by
 rcases Int.lt_or_le a b with h1 | h1
 . exact h1
 . have:=gV h1
   exact absurd h (Rat.not_lt.2 this)
theorem vE {a b:Int}(h:tw a<=tw b):a<=b:=by
 rcases Int.lt_or_le b a with h1 | h1
 . have h2:=gV (show b+1<=a by omega)
   have h3:tw (b+1)=tw b*2:=by rw[fJ];rfl
   have:=dD b
   grind
 . exact h1
theorem sK {j:Nat}(hz:Zb z Z B)(hB:B=P+64+h)(hBl:B<=200000)(hj:j<=h)(hx:((2^h:Nat):Rat)*z<=65536):
 B<=nb (dN Z B j).1/\nb (dN Z B j).1<=B+21/\-1-(nb (dN Z B j).1:Int)<=(dN Z B j).2/\(dN Z B j).2+(nb (dN Z B j).1:Int)<=131073:=by
 obtain⟨a,E,ha,n1,n2⟩:=xr hz hB hBl hj;refine⟨n1,n2,?_,?_⟩
 .
  have h1:=E.hi 0;have e0:aW (((2^j:Nat):Rat)*z) 0=1:=rfl;rw[e0,Gz]at h1;have h2:=gV (show -((P+44:Nat):Int)<=-1 by omega)
  have h3:2*tw (-1)=1:=j0 1 |> fun h=>by
   have e:((2^1:Nat):Rat)=2:=rfl;rw[e]at h;have e2:tw (-((1:Nat):Int))=tw (-1):=rfl;rw[e2]at h
   grind
  have h4:=lY (bW (EM (dZ (dN Z B j).1))) (ou (dD (dN Z B j).2));rw[cI]at h4
  have h5:tw (-1)<=tw ((nb (dN Z B j).1:Int)+(dN Z B j).2):=by grind
  have:=vE h5
  omega
 . obtain⟨n,hn⟩:=E.lo
   have hjh:(2^j:Nat)<=2^h:=yb (by omega) hj;have hy:((2^j:Nat):Rat)*z<=65536:=Bl (lY (bW hjh) hz.z0) hx;have hg:=tA (z:=((2^j:Nat):Rat)*z/131072) (by have:=E.y0;grind) (by grind) 17 n
   have e:((2^17:Nat):Rat)*(((2^j:Nat):Rat)*z/131072)=((2^j:Nat):Rat)*z:=by
    have:((2^17:Nat):Rat)=131072:=rfl
    rw[this];grind
   rw[e]at hg
   have h0:0 < (dN Z B j).1:=by
    rcases Gp (dN Z B j).1 with h1 | h1
    . rw[h1,aX]at n1;omega
    . exact h1
   have h4:=lY (bW (fA h0)) (ou (dD (dN Z B j).2));rw[cI]at h4
   have h5:tw (((nb (dN Z B j).1-1:Nat):Int)+(dN Z B j).2)<=tw ((2^17:Nat):Int):=by grind
   have:=vE h5
   have e17:((2^17:Nat):Int)=131072:=rfl;omega
def ev (odd:Nat)(n:Nat):Nat:=(2*n+odd)*(2*n+odd-1)
theorem oA {odd:Nat}:Dv (ev odd):=by
 have h:∀ n,1<=n->2<=ev odd n:=fun n hn=>by
  unfold ev
  have:2*1<=(2*n+odd)*(2*n+odd-1):=GM (by omega) (by omega)
  omega
 exact⟨by have:=h 1 (tz _);omega,fun n hn=>h n (by omega)⟩
theorem j4 (x:Rat):∀ n,bj (-x) (2*n)=bj x (2*n)/\bj (-x) (2*n+1)=- bj x (2*n+1)
 | 0=>by
  refine⟨rfl,?_⟩
  show 1*-x/(((0:Nat):Rat)+1)=-(1*x/(((0:Nat):Rat)+1))
  rw[Gk,Gk]
  grind
 | n+1=>by
  have ih:=j4 x n
  have step:∀ k (c:Rat),bj (-x) k=c*bj x k->bj (-x) (k+1)=-c*bj x (k+1):=fun k c h=>by
   show bj (-x) k*-x/((k:Rat)+1)=-c*(bj x k*x/((k:Rat)+1))
   rw[h,Gk,Gk]
   grind
  have s1:=step (2*n+1) (-1) (by rw[ih.2];grind);have s2:=step (2*n+2) 1 (by rw[show 2*n+2=2*n+1+1 from rfl,s1];grind);rw[show 2*(n+1)=2*n+1+1 by omega];exact⟨by rw[s1];grind,by rw[show 2*n+1+1=2*n+2 from rfl,s2];grind⟩
theorem vG (x:Rat):∀ n,bj x (2*n)=gQ (ev 0) (x*x) n/\bj x (2*n+1)=x*gQ (ev 1) (x*x) n
 | 0=>by
  refine⟨rfl,?_⟩;have h:=cZ x 0
  have e:((0:Nat):Rat)+1=1:=by
   have:((0:Nat):Rat)=0:=rfl
   rw[this];grind
  rw[e,Gz]at h;exact h
 | n+1=>by
  obtain⟨h1,h2⟩:=vG x n;have a1:=cZ x (2*n);have a2:=cZ x (2*n+1);have a3:=cZ x (2*n+2);have b1:=lg (D:=ev 0) oA (x*x) n;have b2:=lg (D:=ev 1) oA (x*x) n;have hn:=bz n
  have d1:((ev 0 (n+1):Nat):Rat)=(2*(n:Rat)+2)*(2*(n:Rat)+1):=by
   have:ev 0 (n+1)=(2*n+2)*(2*n+1):=by unfold ev;rw[show 2*(n+1)+0=2*n+2 by omega,show 2*n+2-1=2*n+1 by omega]
   rw[this];push_cast;grind
  have d2:((ev 1 (n+1):Nat):Rat)=(2*(n:Rat)+3)*(2*(n:Rat)+2):=by
   have:ev 1 (n+1)=(2*n+3)*(2*n+2):=by unfold ev;rw[show 2*(n+1)+1=2*n+3 by omega,show 2*n+3-1=2*n+2 by omega]
   rw[this];push_cast;grind
  have c1:((2*n:Nat):Rat)=2*(n:Rat):=by push_cast;rfl
  have c2:((2*n+1:Nat):Rat)=2*(n:Rat)+1:=by push_cast;rfl
  have c3:((2*n+2:Nat):Rat)=2*(n:Rat)+2:=by push_cast;rfl
  rw[c1]at a1;rw[c2]at a2;rw[c3]at a3;rw[d1]at b1;rw[d2]at b2;rw[show 2*(n+1)=2*n+2 by omega];rw[show 2*n+1+1=2*n+2 from rfl]at a2;generalize(n:Rat)=q at *;generalize bj x (2*n)=t0 at *;generalize bj x (2*n+1)=t1 at *;generalize bj x (2*n+2)=t2 at *;generalize bj x (2*n+2+1)=t3 at *;generalize gQ (ev 0) (x*x) (n+1)=u1 at *;generalize gQ (ev 1) (x*x) (n+1)=v1 at *;generalize gQ (ev 0) (x*x) n=u0 at *;generalize gQ (ev 1) (x*x) n=v0 at *;have p1:0 < (2*q+2)*(2*q+1):=DF (by grind) (by grind);have p2:0 < (2*q+3)*(2*q+2):=DF (by grind) (by grind)
  have f1:(2*q+2)*(2*q+1)*t2=(2*q+2)*(2*q+1)*u1:=by
   have:(2*q+2)*(2*q+1)*t2=(2*q+1)*((2*q+1+1)*t2):=by grind
   rw[this,a2,b1]
   have:(2*q+1)*(x*t1)=x*((2*q+1)*t1):=by grind
   rw[this,a1,h1]
   grind
  have f2:(2*q+3)*(2*q+2)*t3=(2*q+3)*(2*q+2)*(x*v1):=by
   have:(2*q+3)*(2*q+2)*t3=(2*q+2)*((2*q+2+1)*t3):=by grind
   rw[this,a3]
   have:(2*q+2)*(x*t2)=x*((2*q+1+1)*t2):=by grind
   rw[this,a2,h2]
   have:(2*q+3)*(2*q+2)*(x*v1)=x*((2*q+3)*(2*q+2)*v1):=by grind
   rw[this,b2]
   grind
  have can:∀ {c a b:Rat},0 < c->c*a=c*b->a=b:=fun {c a b} hc h=>by
   have h1:c*(a-b)=0:=by grind
   rcases GL.1 h1 with h2 | h2 <;> grind
  exact⟨can p1 f1,can p2 f2⟩
theorem rC (x:Rat):∀ n,eJ x (2*n)=bf (gQ (ev 0) (x*x)) n/\eJ x (2*n+1)=bf (gQ (ev 0) (x*x)) n
 | 0=>by
  have h1:=(j4 x 0).2
  have e0:eJ x (2*0)=1:=by unfold eJ;show((1:Rat)+1)/2=1;grind
  have e1:eJ x (2*0+1)=1:=by
   unfold eJ
   show((1+bj x (0+1))+(1+bj (-x) (0+1)))/2=1
   rw[show bj (-x) (0+1)=- bj x (0+1) from h1]
   grind
  exact⟨e0,e1⟩
 | n+1=>by
  obtain⟨h1,h2⟩:=rC x n;have t1:=j4 x (n+1);have t2:=(vG x (n+1)).1
  have s1:eJ x (2*(n+1))=eJ x (2*n+1)+(bj x (2*(n+1))+bj (-x) (2*(n+1)))/2:=by
   unfold eJ;rw[show 2*(n+1)=2*n+1+1 by omega]
   show((aW x (2*n+1)+bj x (2*n+1+1))+(aW (-x) (2*n+1)+bj (-x) (2*n+1+1)))/2=_
   grind
  have s2:eJ x (2*(n+1)+1)=eJ x (2*(n+1))+(bj x (2*(n+1)+1)+bj (-x) (2*(n+1)+1))/2:=by
   unfold eJ
   show((aW x (2*(n+1))+bj x (2*(n+1)+1))+(aW (-x) (2*(n+1))+bj (-x) (2*(n+1)+1)))/2=_
   grind
  have s3q:eJ x (2*(n+1))=bf (gQ (ev 0) (x*x)) (n+1):=by
   rw[s1,h2,t1.1,bM,← t2]
   grind
  exact⟨s3q,by rw[s2,s3q,t1.2];grind⟩
theorem qF (x:Rat):∀ n,fG x (2*n+1)=x*bf (gQ (ev 1) (x*x)) n/\fG x (2*n+2)=x*bf (gQ (ev 1) (x*x)) n
 | 0=>by
  have h1:=(j4 x 0).2;have h2:=(j4 x 1).1;have h3:=(vG x 0).2
  have e1:fG x (2*0+1)=x*bf (gQ (ev 1) (x*x)) 0:=by
   unfold fG
   show((1+bj x (2*0+1))-(1+bj (-x) (2*0+1)))/2=x*gQ (ev 1) (x*x) 0
   rw[h1,← h3]
   grind
  refine⟨e1,?_⟩;rw[← e1];unfold fG
  show((aW x (2*0+1)+bj x (2*1))-(aW (-x) (2*0+1)+bj (-x) (2*1)))/2=_
  rw[h2]
  grind
 | n+1=>by
  obtain⟨h1,h2⟩:=qF x n;have t1:=(j4 x (n+1)).2;have t2:=(j4 x (n+2)).1;have t3:=(vG x (n+1)).2
  have s1:fG x (2*(n+1)+1)=fG x (2*n+2)+(bj x (2*(n+1)+1)-bj (-x) (2*(n+1)+1))/2:=by
   unfold fG
   show((aW x (2*n+2)+bj x (2*(n+1)+1))-(aW (-x) (2*n+2)+bj (-x) (2*(n+1)+1)))/2=_
   grind
  have s2:fG x (2*(n+1)+2)=fG x (2*(n+1)+1)+(bj x (2*(n+2))-bj (-x) (2*(n+2)))/2:=by
   unfold fG
   show((aW x (2*(n+1)+1)+bj x (2*(n+2)))-(aW (-x) (2*(n+1)+1)+bj (-x) (2*(n+2))))/2=_
   grind
  have s3q:fG x (2*(n+1)+1)=x*bf (gQ (ev 1) (x*x)) (n+1):=by
   rw[s1,h2,t1,bM,t3]
   grind
  exact⟨s3q,by rw[s2,s3q,t2];grind⟩
theorem EW {b:Rat}(h:∀ n,N<=n->a<=bf (gQ (ev 0) (x*x)) n/\bf (gQ (ev 0) (x*x)) n<=b):Hl a b (eJ x) :=
 Hl.of (N:=2*N) fun n hn=>by
  rcases Gy n with h0 | h0
  . have e:n=2*(n/2):=by omega
    rw[e,(rC x (n/2)).1];exact h _ (by omega)
  . have e:n=2*(n/2)+1:=by omega
    rw[e,(rC x (n/2)).2];exact h _ (by omega)
theorem EV {b:Rat}(h:∀ n,N<=n->a<=x*bf (gQ (ev 1) (x*x)) n/\x*bf (gQ (ev 1) (x*x)) n<=b):Hl a b (fG x) :=
 Hl.of (N:=2*N+2) fun n hn=>by
  rcases Gy n with h0 | h0
  . have e:n=2*(n/2-1)+2:=by omega
    rw[e,(qF x (n/2-1)).2];exact h _ (by omega)
  . have e:n=2*(n/2)+1:=by omega
    rw[e,(qF x (n/2)).1];exact h _ (by omega)
theorem oU {odd:Nat}(hz:Zb z Z B)(hB:B=P+64)(hBl:B<=200000):
 B<=nb (fi (ev odd) Z B (B+1))/\nb (fi (ev odd) Z B (B+1))<=B+2 /\
 ∀ n,B+1<=n->((fi (ev odd) Z B (B+1):Nat):Rat)*tw (-(B:Int))<=bf (gQ (ev odd) z) n /\
  bf (gQ (ev odd) z) n<=(((fi (ev odd) Z B (B+1):Nat):Rat)+((2^(nb (fi (ev odd) Z B (B+1))-(P+32)):Nat):Rat))*tw (-(B:Int)):=by
 have hn:dQ (ev odd) Z B (B+1)=0:=iy hz.two (DE B);have hbig:=uV (ev odd) Z B (B+1);have hs:=dD (-(B:Int));have hp:=mp B;have hi:=j0 B
 have hnb1:B+1<=nb (fi (ev odd) Z B (B+1)):=by
  have:=ES hbig
  rw[show nb (2^B)=B+1 from jU (Gw (by omega) (DE _)) (tz _)]at this;exact this
 have low:=Gg (oA (odd:=odd)) hz (B+1);have hgn:∀ n,0<=gQ (ev odd) z n:=eQ oA hz.z0
 have two:∀ n,bf (gQ (ev odd) z) n<=2:=fun n=>by
  have h1:=wA (oA (odd:=odd)) hz.z0 hz.z2 0 n;have e0:bf (gQ (ev odd) z) 0=1:=rfl;have e1:gQ (ev odd) z 0=1:=rfl;rw[e0,e1]at h1
  grind
 have hnb2:nb (fi (ev odd) Z B (B+1))<=B+2:=by
  refine(bi _ _).2 ?_;have h1:=lY (two (B+1)) (ou hp)
  have h2:((fi (ev odd) Z B (B+1):Nat):Rat)<=((2*2^B:Nat):Rat):=by
   rw[qK]
   have:((2:Nat):Rat)=2:=rfl
   rw[this];exact Bl low h1
  have h3:fi (ev odd) Z B (B+1)<=2*2^B:=by exact_mod_cast h2
  have h4:=Bx B;rw[Gm,Gm];omega
 refine⟨by omega,hnb2,fun n hn'=>⟨?_,?_⟩⟩
 . have h1:=jA hgn hn'
   have h2:=lY low (ou hs);generalize bf (gQ (ev odd) z) (B+1)=E at *;generalize((2^B:Nat):Rat)=p at *;generalize tw (-(B:Int))=t at *
   have:E*p*t=E:=by
    have:E*p*t=E*(t*p):=by grind
    rw[this,hi,Gl]
   grind
 . have h1:=zS (oA (odd:=odd)) hz hn n
   have h2:4*(((B+1:Nat):Rat)+2)<=((2^(nb (fi (ev odd) Z B (B+1))-(P+32)):Nat):Rat):=by
    have h3:4*(B+3)<=2^20:=by omega
    have h4:2^20<=2^(nb (fi (ev odd) Z B (B+1))-(P+32)):=yb (by omega) (by omega);have h5:=bW (Gx h3 h4)
    have e:((4*(B+3):Nat):Rat)=4*(((B+1:Nat):Rat)+2):=by push_cast;grind
    rw[e]at h5;exact h5
   have h6:bf (gQ (ev odd) z) n*((2^B:Nat):Rat)*tw (-(B:Int))<=(((fi (ev odd) Z B (B+1):Nat):Rat)+((2^(nb (fi (ev odd) Z B (B+1))-(P+32)):Nat):Rat))*tw (-(B:Int)) :=
    lY (by grind) (ou hs)
   generalize bf (gQ (ev odd) z) n=E at *;generalize((2^B:Nat):Rat)=p at *;generalize tw (-(B:Int))=t at *
   have:E*p*t=E:=by
    have:E*p*t=E*(t*p):=by grind
    rw[this,hi,Gl]
   grind
end Go.Proofs.YtmbmohibpkepdaaGreatDoor
