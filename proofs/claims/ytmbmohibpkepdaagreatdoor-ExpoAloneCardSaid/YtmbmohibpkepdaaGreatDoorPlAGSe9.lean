import Derived.Test.YtmbmohibpkepdaaGreatDoorPlAGSp11
import Derived.Test.YtmbmohibpkepdaaGreatDoorPlAGSe8
open Bool renaming false_eq_true->FQ, not_false->FW, not_true->FX
open Rat renaming mul_le_mul_of_nonneg_right->FU, le_of_lt->FV
namespace Go.Proofs.YtmbmohibpkepdaaGreatDoor
open Go.RowKit
variable {B e g:Int} {r:DR}
def tp (e:Int):Rat:=(2:Rat)^e
theorem co (e:Int):0 < tp e:=Rat.zpow_pos (by decide)
theorem bV (a b:Int):tp (a+b)=tp a*tp b:=Rat.zpow_add (by decide) a b
theorem dH (n:Nat):tp (n:Int)=((2^n:Nat):Rat):=by
 unfold tp;rw[Rat.zpow_natCast]
 induction n with
 | zero=>rfl
 | succ n ih=>rw[Rat.pow_succ,ih,Nat.pow_succ];push_cast;rfl
theorem kG:tp 0=1:=rfl
theorem dj {a b:Int}(h:a<=b):tp a<=tp b:=by
 obtain⟨n,rfl⟩:∃ n:Nat,b=a+n:=⟨(b-a).toNat,by omega⟩;rw[bV,dH]
 have h1:(1:Rat)<=((2^n:Nat):Rat):=by
  have:=Nat.two_pow_pos n
  exact_mod_cast this
 have h2:=co a
 have:=Rat.mul_le_mul_of_nonneg_left h1 (FV h2)
 grind
theorem Et {a b:Int}(h:tp a < tp b):a < b:=by
 rcases Int.lt_or_le a b with h1 | h1
 . exact h1
 . have:=dj h1;grind
def Bk (neg:Bool)(x:Rat):Rat:=if neg then -x else x
def qv (neg:Bool)(V:Nat)(e:Int):Rat:=Bk neg ((V:Rat)*tp e)
def rv (r:DR):Rat:=qv r.neg r.m r.e
theorem fL (neg:Bool)(e:Int):qv neg 0 e=0:=by
 unfold qv Bk
 have:((0:Nat):Rat)=0:=rfl
 cases neg <;> simp[this] <;> grind
theorem je {a b:Nat}(h:a<=b):(a:Rat)<=(b:Rat):=by exact_mod_cast h
theorem zc (neg:Bool)(V:Nat)(hg:g<=e):qv neg V e=(iG neg V e g:Rat)*tp g:=by
 obtain⟨n,rfl⟩:∃ n:Nat,e=g+n:=⟨(e-g).toNat,by omega⟩;unfold qv iG jQ Bk;rw[bV,dH,show(g+(n:Int)-g).toNat=n by omega];cases neg
 . simp only[FQ,if_false]
   push_cast
   grind
 . simp only[if_true]
   push_cast
   grind
theorem j8 (hg:r.m=0\/g<=r.e):rv r=(val r g:Rat)*tp g:=by
 rcases Nat.eq_zero_or_pos r.m with h | h
 . unfold rv
   rw[kC h,h,fL]
   have:((0:Int):Rat)=0:=rfl
   rw[this]
   grind
 . exact zc _ _ (by rcases hg with h1 | h1 <;> omega)
theorem AF.rv_eq {neg:Bool}{V:Nat}(h:AF r neg V e):rv r=qv neg V e:=by
 have hv:=(h.val (g:=min e r.e) (by omega)).2;rw[j8 (g:=min e r.e) (.inr (by omega)),zc neg V (g:=min e r.e) (by omega),← hv]
 rfl
theorem iV {s:DR}(hr:r.m=0\/g<=r.e)(hs:s.m=0\/g<=s.e):rv r<=rv s ↔ val r g<=val s g:=by
 rw[j8 hr,j8 hs];have ht:=co g
 constructor
 . intro h
   have:=Rat.le_of_mul_le_mul_right h ht
   exact_mod_cast this
 . intro h
   have:(val r g:Rat)<=(val s g:Rat):=by exact_mod_cast h
   exact FU this (FV ht)
structure Tm (B:Int)(r:DR):Prop where
 ok:r.ok=true
 pl:aR r.neg r.m r.e=true
 b:nb r.m<=800
 e1:-B<=r.e
 e2:r.e<=B
theorem Tm.more {B':Int}(h:Tm B r)(hb:B<=B'):Tm B' r:=⟨h.ok,h.pl,h.b,by have:=h.e1;omega,by have:=h.e2;omega⟩
theorem Tm.p (h:Tm B r):Pl r:=⟨h.ok,h.pl⟩
theorem Tm.pr (h:Tm B r):bl r:=aV h.pl
theorem Tm.up (h:Tm B r)(hg:g<=-B):Up r g:=⟨h.ok,fun h0=>(h.pr.zero h0).2,by have:=h.e1;omega⟩
theorem nF {lo hi:DR}(h1:Tm B lo)(h2:Tm B hi)(h:rv lo<=rv hi):aw lo hi=true:=by
 unfold aw bG;rw[h1.ok,h2.ok]
 have:=nU (g:=-B) (fun h0=>(h1.pr.zero h0).2) (fun h0=>(h2.pr.zero h0).2) (.inr h1.e1) (.inr h2.e1) ((iV (.inr h1.e1) (.inr h2.e1)).1 h)
 simp[this]
theorem BF {p:Int}(h1:1<=p)(h2:p<=700):ge p=false:=by unfold ge;simp;omega
theorem nZ (neg:Bool)(Q:Nat)(more:Bool)(P:Nat)(up:Bool):nb (kept neg Q more P up)<=P+1:=by
 have h1:Q/2^(nb Q-P) < 2^P:=by
  rcases Nat.lt_or_ge (nb Q) P with h | h
  . rw[show nb Q-P=0 by omega,Nat.pow_zero,Nat.div_one]
    exact Nat.lt_of_lt_of_le (dZ Q) (Nat.pow_le_pow_right (by omega) (by omega))
  . exact D0 h
 have h2:kept neg Q more P up<=Q/2^(nb Q-P)+1:=by unfold kept;split <;> omega
 have h3:=Nat.two_pow_pos P;refine(bi _ _).2 ?_;rw[Nat.pow_succ];omega
theorem uI (neg:Bool)(T D:Nat)(e:Int):qv neg T (e+(D:Int))=qv neg (T*2^D) e:=by
 unfold qv;rw[bV,dH]
 push_cast
 congr 1
 grind
theorem ze {neg:Bool}{A B:Nat}(h:if neg then B<=A else A<=B):qv neg A e<=qv neg B e:=by
 have ht:=FV (co e);unfold qv Bk;cases neg
 . simp only[FQ,if_false]at h ⊢
   exact FU (je h) ht
 . simp only[if_true]at h ⊢
   have:=FU (je h) ht
   grind
theorem Aj {neg:Bool}{V:Nat}{P:Nat}(up:Bool)(hP:P<=700)(h1:-B<=e)(h2:e+(nb V:Int)<=B)(hB:B<=200000)(hB0:0<=B):
 Tm (B+1) (cj neg V e false P up)/\(up=false->rv (cj neg V e false P up)<=qv neg V e)/\(up=true->qv neg V e<=rv (cj neg V e false P up)):=by
 have hk:=qW neg V false P up;have hk2:=nZ neg V false P up
 have hz:nb V<=P->nb (kept neg V false P up)<=nb V+1:=fun h=>by omega
 rw[oH];have G:=jg neg (V:=kept neg V false P up) (e:=e+((nb V-P:Nat):Int)) (by omega) (by omega) (by omega)
 have hlow:=fun h=>tc (neg:=neg) (Q:=V) (more:=false) (P:=P) (up:=up) h
 have hhigh:=fun h=>pU (neg:=neg) (Q:=V) (more:=false) (P:=P) (up:=up) h
 generalize bH neg (kept neg V false P up) (e+((nb V-P:Nat):Int))=r at *;have hv:=G.rv_eq;rw[uI]at hv;have hm:=bQ G.le;refine⟨⟨G.ok,G.plain,by omega,?_,?_⟩,fun hu=>?_,fun hu=>?_⟩
 . rcases G.e1 with h | h
   . have:=((aV G.plain).zero (G.z h).1).1;omega
   . omega
 . rcases G.e2 with h | h
   . have:=((aV G.plain).zero h).1;omega
   . omega
 . rw[hv]
   refine ze ?_;cases neg
   . simp only[FQ,if_false];exact hlow hu
   . simp only[if_true];have:=hhigh (by rw[hu];decide);simpa using this
 . rw[hv]
   refine ze ?_;cases neg
   . simp only[FQ,if_false];have:=hhigh (by rw[hu];decide);simpa using this
   . simp only[if_true];exact hlow hu
theorem dc (V:Nat)(e:Int):qv false V e=(V:Rat)*tp e:=rfl
theorem lL (h:r.neg=false):0<=rv r:=by
 unfold rv;rw[h,dc];have h1:(0:Rat)<=(r.m:Rat):=Rat.natCast_nonneg;exact Rat.mul_nonneg h1 (FV (co _))
theorem zq (V:Nat)(e o:Int):((cF V e o:Nat):Rat)*tp (min e o)=(V:Rat)*tp e:=by
 unfold cF;obtain⟨n,hn⟩:∃ n:Nat,(e-min e o).toNat=n:=⟨_,rfl⟩;have h:=bV (min e o) (n:Int);rw[show min e o+(n:Int)=e by omega,dH]at h;rw[hn,h]
 push_cast
 grind
theorem jD {a b:Nat}(h:b<=a):((a-b:Nat):Rat)=(a:Rat)-(b:Rat):=by
 obtain⟨c,rfl⟩:∃ c,a=b+c:=⟨a-b,by omega⟩;rw[Nat.add_sub_cancel_left]
 push_cast
 grind
theorem mM (r s:DR):rv (bS r s)=rv r+rv s:=by
 have a1:=zq r.m r.e s.e;have a2:=zq s.m s.e r.e;rw[show min s.e r.e=min r.e s.e by omega]at a2;unfold bS
 by_cases h0:r.m=0
 . rw[if_pos h0]
   have:rv r=0:=by unfold rv;rw[h0,fL]
   rw[this];grind
 . rw[if_neg h0]
   by_cases h1:s.m=0
   . rw[if_pos h1]
     have:rv s=0:=by unfold rv;rw[h1,fL]
     rw[this];grind
   . rw[if_neg h1]
     by_cases hn:r.neg=s.neg
     . rw[if_pos hn]
       unfold rv qv Bk;rw[← hn,← a1,← a2]
       cases r.neg <;> simp only[FQ,if_true,if_false] <;> push_cast <;> grind
     . rw[if_neg hn]
       have hn':s.neg=!r.neg:=by cases hr:r.neg <;> cases hs:s.neg <;> simp_all
       by_cases hle:cF s.m s.e r.e<=cF r.m r.e s.e
       . rw[if_pos hle]
         unfold rv qv Bk
         simp only
         rw[jD hle,hn',← a1,← a2]
         cases r.neg <;> simp only[FX,FW,FQ,if_true,if_false] <;> grind
       . rw[if_neg hle]
         unfold rv qv Bk
         simp only
         rw[jD (Nat.le_of_lt (Nat.not_le.1 hle)),hn',← a1,← a2]
         cases r.neg <;> simp only[FX,FW,FQ,if_true,if_false] <;> grind
theorem vN {s:DR}(h1:Tm B r)(h2:Tm B s):-B<=(bS r s).e/\(bS r s).e+(nb (bS r s).m:Int)<=B+801:=by
 have a1:=h1.b;have a2:=h1.e1;have a3:=h1.e2;have b1:=h2.b;have b2:=h2.e1;have b3:=h2.e2;unfold bS
 by_cases h0:r.m=0
 . rw[if_pos h0];omega
 . rw[if_neg h0]
   by_cases h1:s.m=0
   . rw[if_pos h1];omega
   . rw[if_neg h1]
     have n1:nb (cF r.m r.e s.e)=nb r.m+(r.e-min r.e s.e).toNat:=by unfold cF;rw[ch (by omega)]
     have n2:nb (cF s.m s.e r.e)=nb s.m+(s.e-min s.e r.e).toNat:=by unfold cF;rw[ch (by omega)]
     by_cases hn:r.neg=s.neg
     . rw[if_pos hn]
       have:=lW (X:=cF r.m r.e s.e) (Y:=cF s.m s.e r.e) (K:=max (nb (cF r.m r.e s.e)) (nb (cF s.m s.e r.e))) (by omega) (by omega)
       simp only
       omega
     . rw[if_neg hn]
       by_cases hle:cF s.m s.e r.e<=cF r.m r.e s.e
       . rw[if_pos hle]
         have:=bQ (Nat.sub_le (cF r.m r.e s.e) (cF s.m s.e r.e))
         simp only
         omega
       . rw[if_neg hle]
         have:=bQ (Nat.sub_le (cF s.m s.e r.e) (cF r.m r.e s.e))
         simp only
         omega
theorem kX (h:r.ok=true):rv (aT r)=- rv r:=by
 unfold aT;rw[h,if_pos rfl]
 by_cases h0:r.m=0
 . rw[if_pos h0]
   unfold rv;rw[h0,fL,show DR.zero.m=0 from rfl,fL]
   grind
 . rw[if_neg h0]
   unfold rv qv Bk
   cases r.neg <;> simp only[FX,FW,FQ,if_true,if_false] <;> grind
theorem ws (h:Tm B r)(hB0:0<=B):Tm B (aT r):=by
 have P:=i9 h.p;refine⟨P.ok,P.pl,?_,?_,?_⟩
 all_goals
  have h1:=h.b;have h2:=h.e1;have h3:=h.e2;unfold aT;rw[h.ok,if_pos rfl]
  by_cases h0:r.m=0
  . rw[if_pos h0];unfold DR.zero;simp only[aX];omega
  . rw[if_neg h0];simp only;omega
structure En (B:Int)(r:SRes)(x:Rat):Prop where
 bad:r.bad=false
 l:Tm B r.lo
 h:Tm B r.hi
 x1:rv r.lo<=x
 x2:x<=rv r.hi
theorem En.more {B':Int}{r:SRes}{x:Rat}(h:En B r x)(hb:B<=B'):En B' r x:=⟨h.bad,h.l.more hb,h.h.more hb,h.x1,h.x2⟩
theorem En.le {r:SRes}{x:Rat}(h:En B r x):rv r.lo<=rv r.hi:=Rat.le_trans h.x1 h.x2
section
variable {p B:Int} {r s:SRes} {x y:Rat} (hp1:1<=p) (hp2:p<=700)
include hp1 hp2
theorem En.add (h:En B r x)(k:En B s y)(hB:B<=150000)(hB0:0<=B):En (B+900) (dC p false r.lo r.hi s.lo s.hi) (x+y):=by
 have b1:=vN h.l k.l;have b2:=vN h.h k.h;have c1:=Aj (neg:=(bS r.lo s.lo).neg) (V:=(bS r.lo s.lo).m) (e:=(bS r.lo s.lo).e) (B:=B+801) (P:=p.toNat) false (by omega) (by omega) (by omega) (by omega) (by omega);have c2:=Aj (neg:=(bS r.hi s.hi).neg) (V:=(bS r.hi s.hi).m) (e:=(bS r.hi s.hi).e) (B:=B+801) (P:=p.toNat) true (by omega) (by omega) (by omega) (by omega) (by omega);have e1:=mM r.lo s.lo;have e2:=mM r.hi s.hi;have g1:=c1.2.1 rfl;have g2:=c2.2.2 rfl
 change _<=rv (bS r.lo s.lo) at g1
 change rv (bS r.hi s.hi)<=_ at g2
 have hb:dL p false r.lo r.hi s.lo s.hi=false:=by
  unfold dL;rw[nF h.l h.h h.le,nF k.l k.h k.le,BF hp1 hp2]
  rfl
 unfold dC il cG j6;rw[hb,c1.1.ok,c2.1.ok];simp only[FQ,if_false,Bool.and_self,if_true]
 have:=h.x1
 have:=h.x2
 have:=k.x1
 have:=k.x2
 exact⟨rfl,c1.1.more (by omega),c2.1.more (by omega),by show rv _<=_;grind,by show _<=rv _;grind⟩
theorem En.neg (h:En B r x)(hB0:0<=B):En B (gS p false r.lo r.hi) (-x):=by
 have hr:=dW (nF h.l h.h h.le);rw[mX hp1 (by omega) hr h.l.p h.h.p];have h1:=h.x1;have h2:=h.x2;have e1:=kX h.l.ok;have e2:=kX h.h.ok;exact⟨rfl,ws h.h hB0,ws h.l hB0,by show rv (aT r.hi)<=_;grind,by show _<=rv (aT r.lo);grind⟩
end
section
variable {p B:Int} {r:SRes} {x y n:Rat} {d:DR} (hp1:1<=p) (hp2:p<=700)
include hp1 hp2
end
end Go.Proofs.YtmbmohibpkepdaaGreatDoor
