import Derived.Test.YtmbmohibpkepdaaGreatDoorPlSGSp11
import Derived.Test.YtmbmohibpkepdaaGreatDoorPlSGSe8
open Bool renaming false_eq_true->lY, not_false->oM, not_true->oY
namespace Go.Proofs.YtmbmohibpkepdaaGreatDoor
open Go.RowKit
variable {g:Int} {r:DR}
def tp (e:Int):Rat:=(2:Rat)^e
theorem co (e:Int):0 < tp e:=Rat.zpow_pos (by decide)
theorem bV (a b:Int):tp (a+b)=tp a*tp b:=Rat.zpow_add (by decide) a b
theorem dH (n:Nat):tp (n:Int)=((2^n:Nat):Rat):=by
 unfold tp;rw[Rat.zpow_natCast]
 induction n with
 | zero=>rfl
 | succ n ih=>rw[Rat.pow_succ,ih,Nat.pow_succ];push_cast;rfl
theorem kG:tp 0=1:=rfl
theorem dj {a b:Int}(h:a<=b):tp a<=tp b:=by
 obtain⟨n,rfl⟩:∃ n:Nat,b=a+n:=⟨(b-a).toNat,by omega⟩;rw[bV,dH]
 have h1:(1:Rat)<=((2^n:Nat):Rat):=by
  have:=Nat.two_pow_pos n
  exact_mod_cast this
 have h2:=co a
 have:=Rat.mul_le_mul_of_nonneg_left h1 (Rat.le_of_lt h2)
 grind
theorem Et {a b:Int}(h:tp a < tp b):a < b:=by
 rcases Int.lt_or_le a b with h1 | h1
 . exact h1
 . have:=dj h1;grind
def Bk (neg:Bool)(x:Rat):Rat:=if neg then -x else x
def qv (neg:Bool)(V:Nat)(e:Int):Rat:=Bk neg ((V:Rat)*tp e)
def rv (r:DR):Rat:=qv r.neg r.m r.e
theorem fL (neg:Bool)(e:Int):qv neg 0 e=0:=by
 unfold qv Bk
 have:((0:Nat):Rat)=0:=rfl
 cases neg <;> simp[this] <;> grind
theorem je {a b:Nat}(h:a<=b):(a:Rat)<=(b:Rat):=by exact_mod_cast h
theorem zc (neg:Bool)(V:Nat){e:Int}(hg:g<=e):qv neg V e=(iG neg V e g:Rat)*tp g:=by
 obtain⟨n,rfl⟩:∃ n:Nat,e=g+n:=⟨(e-g).toNat,by omega⟩;unfold qv iG jQ Bk;rw[bV,dH,show(g+(n:Int)-g).toNat=n by omega];cases neg
 . simp only[lY,if_false]
   push_cast
   grind
 . simp only[if_true]
   push_cast
   grind
theorem j8 (hg:r.m=0\/g<=r.e):rv r=(val r g:Rat)*tp g:=by
 rcases Nat.eq_zero_or_pos r.m with h | h
 . unfold rv
   rw[kC h,h,fL]
   have:((0:Int):Rat)=0:=rfl
   rw[this]
   grind
 . exact zc _ _ (by rcases hg with h1 | h1 <;> omega)
theorem AF.rv_eq {neg:Bool}{V:Nat}{e:Int}(h:AF r neg V e):rv r=qv neg V e:=by
 have hv:=(h.val (g:=min e r.e) (by omega)).2;rw[j8 (g:=min e r.e) (.inr (by omega)),zc neg V (g:=min e r.e) (by omega),← hv]
 rfl
theorem iV {s:DR}(hr:r.m=0\/g<=r.e)(hs:s.m=0\/g<=s.e):rv r<=rv s ↔ val r g<=val s g:=by
 rw[j8 hr,j8 hs];have ht:=co g
 constructor
 . intro h
   have:=Rat.le_of_mul_le_mul_right h ht
   exact_mod_cast this
 . intro h
   have:(val r g:Rat)<=(val s g:Rat):=by exact_mod_cast h
   exact Rat.mul_le_mul_of_nonneg_right this (Rat.le_of_lt ht)
structure Tm (B:Int)(r:DR):Prop where
 ok:r.ok=true
 pl:aR r.neg r.m r.e=true
 b:nb r.m<=800
 e1:-B<=r.e
 e2:r.e<=B
theorem Tm.p {B:Int}(h:Tm B r):Pl r:=⟨h.ok,h.pl⟩
theorem nZ (neg:Bool)(Q:Nat)(more:Bool)(P:Nat)(up:Bool):nb (kept neg Q more P up)<=P+1:=by
 have h1:Q/2^(nb Q-P) < 2^P:=by
  rcases Nat.lt_or_ge (nb Q) P with h | h
  . rw[show nb Q-P=0 by omega,Nat.pow_zero,Nat.div_one]
    exact Nat.lt_of_lt_of_le (dZ Q) (Nat.pow_le_pow_right (by omega) (by omega))
  . exact D0 h
 have h2:kept neg Q more P up<=Q/2^(nb Q-P)+1:=by unfold kept;split <;> omega
 have h3:=Nat.two_pow_pos P;refine(bi _ _).2 ?_;rw[Nat.pow_succ];omega
theorem uI (neg:Bool)(T D:Nat)(e:Int):qv neg T (e+(D:Int))=qv neg (T*2^D) e:=by
 unfold qv;rw[bV,dH]
 push_cast
 congr 1
 grind
theorem dc (V:Nat)(e:Int):qv false V e=(V:Rat)*tp e:=rfl
theorem lL (h:r.neg=false):0<=rv r:=by
 unfold rv;rw[h,dc];have h1:(0:Rat)<=(r.m:Rat):=Rat.natCast_nonneg;exact Rat.mul_nonneg h1 (Rat.le_of_lt (co _))
theorem zq (V:Nat)(e o:Int):((cF V e o:Nat):Rat)*tp (min e o)=(V:Rat)*tp e:=by
 unfold cF;obtain⟨n,hn⟩:∃ n:Nat,(e-min e o).toNat=n:=⟨_,rfl⟩;have h:=bV (min e o) (n:Int);rw[show min e o+(n:Int)=e by omega,dH]at h;rw[hn,h]
 push_cast
 grind
theorem jD {a b:Nat}(h:b<=a):((a-b:Nat):Rat)=(a:Rat)-(b:Rat):=by
 obtain⟨c,rfl⟩:∃ c,a=b+c:=⟨a-b,by omega⟩;rw[Nat.add_sub_cancel_left]
 push_cast
 grind
theorem mM (r s:DR):rv (bS r s)=rv r+rv s:=by
 have a1:=zq r.m r.e s.e;have a2:=zq s.m s.e r.e;rw[show min s.e r.e=min r.e s.e by omega]at a2;unfold bS
 by_cases h0:r.m=0
 . rw[if_pos h0]
   have:rv r=0:=by unfold rv;rw[h0,fL]
   rw[this];grind
 . rw[if_neg h0]
   by_cases h1:s.m=0
   . rw[if_pos h1]
     have:rv s=0:=by unfold rv;rw[h1,fL]
     rw[this];grind
   . rw[if_neg h1]
     by_cases hn:r.neg=s.neg
     . rw[if_pos hn]
       unfold rv qv Bk;rw[← hn,← a1,← a2]
       cases r.neg <;> simp only[lY,if_true,if_false] <;> push_cast <;> grind
     . rw[if_neg hn]
       have hn':s.neg=!r.neg:=by cases hr:r.neg <;> cases hs:s.neg <;> simp_all
       by_cases hle:cF s.m s.e r.e<=cF r.m r.e s.e
       . rw[if_pos hle]
         unfold rv qv Bk
         simp only
         rw[jD hle,hn',← a1,← a2]
         cases r.neg <;> simp only[oY,oM,lY,if_true,if_false] <;> grind
       . rw[if_neg hle]
         unfold rv qv Bk
         simp only
         rw[jD (Nat.le_of_lt (Nat.not_le.1 hle)),hn',← a1,← a2]
         cases r.neg <;> simp only[oY,oM,lY,if_true,if_false] <;> grind
theorem kX (h:r.ok=true):rv (aT r)=- rv r:=by
 unfold aT;rw[h,if_pos rfl]
 by_cases h0:r.m=0
 . rw[if_pos h0]
   unfold rv;rw[h0,fL,show DR.zero.m=0 from rfl,fL]
   grind
 . rw[if_neg h0]
   unfold rv qv Bk
   cases r.neg <;> simp only[oY,oM,lY,if_true,if_false] <;> grind
section
variable {p B:Int} {r s:SRes} {x y:Rat} (hp1:1<=p) (hp2:p<=700)
include hp1 hp2
end
section
variable {p B:Int} {r:SRes} {x y n:Rat} {d:DR} (hp1:1<=p) (hp2:p<=700)
include hp1 hp2
end
end Go.Proofs.YtmbmohibpkepdaaGreatDoor
