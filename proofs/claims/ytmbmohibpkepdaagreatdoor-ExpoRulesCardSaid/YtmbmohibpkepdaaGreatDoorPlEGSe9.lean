/-
 What dyads stand for, as rational numbers; cuts, sums, products and quotients enclose. No program is named here.
 A span that encloses a rational number: what the reference's calls on spans keep of that. No program is named here.
-/
import Derived.Test.YtmbmohibpkepdaaGreatDoorPlEGDy8
import Derived.Test.YtmbmohibpkepdaaGreatDoorPlEGDy10
import Derived.Test.YtmbmohibpkepdaaGreatDoorPlEGSp3
import Derived.Test.YtmbmohibpkepdaaGreatDoorPlEGSp6
import Derived.Test.YtmbmohibpkepdaaGreatDoorPlEGSp9
import Derived.Test.YtmbmohibpkepdaaGreatDoorPlEGSp11
import Derived.Test.YtmbmohibpkepdaaGreatDoorPlEGSp5
import Derived.Test.YtmbmohibpkepdaaGreatDoorPlEGSe1
namespace Go.Proofs.YtmbmohibpkepdaaGreatDoor
open Go.RowKit
def tp (e:Int):Rat:=(2:Rat)^e
theorem tp_pos (e:Int):0 < tp e:=Rat.zpow_pos (by decide)
theorem tp_add (a b:Int):tp (a+b)=tp a*tp b:=Rat.zpow_add (by decide) a b
theorem tp_nat (n:Nat):tp (n:Int)=((2^n:Nat):Rat):=by
 unfold tp
 rw [Rat.zpow_natCast]
 induction n with
 | zero=>rfl
 | succ n ih=>rw [Rat.pow_succ,ih,Nat.pow_succ];push_cast;rfl
theorem tp_zero:tp 0=1:=rfl
theorem tp_mono {a b:Int} (h:a≤b):tp a≤tp b:=by
 obtain ⟨n,rfl⟩:∃ n:Nat,b=a+n:=⟨(b-a).toNat,by omega⟩
 rw [tp_add,tp_nat]
 have h1:(1:Rat)≤((2^n:Nat):Rat):=by
  have:=Nat.two_pow_pos n
  exact_mod_cast this
 have h2:=tp_pos a
 have:=Rat.mul_le_mul_of_nonneg_left h1 (Rat.le_of_lt h2)
 grind
def sgR (neg:Bool) (x:Rat):Rat:=if neg then -x else x
def qv (neg:Bool) (V:Nat) (e:Int):Rat:=sgR neg ((V:Rat)*tp e)
def rv (r:DR):Rat:=qv r.neg r.m r.e
theorem qv_zero (neg:Bool) (e:Int):qv neg 0 e=0:=by
 unfold qv sgR
 have:((0:Nat):Rat)=0:=rfl
 cases neg <;> simp [this] <;> grind
theorem nat_le {a b:Nat} (h:a≤b):(a:Rat)≤(b:Rat):=by exact_mod_cast h
theorem qv_val (neg:Bool) (V:Nat) {e g:Int} (hg:g≤e):qv neg V e=(valI neg V e g:Rat)*tp g:=by
 obtain ⟨n,rfl⟩:∃ n:Nat,e=g+n:=⟨(e-g).toNat,by omega⟩
 unfold qv valI mag sgR
 rw [tp_add,tp_nat,show (g+(n:Int)-g).toNat=n by omega]
 cases neg
 · simp only [Bool.false_eq_true,if_false]
   push_cast
   grind
 · simp only [if_true]
   push_cast
   grind
theorem rv_val {r:DR} {g:Int} (hg:r.m=0∨g≤r.e):rv r=(val r g:Rat)*tp g:=by
 rcases Nat.eq_zero_or_pos r.m with h | h
 · unfold rv
   rw [val_zero h,h,qv_zero]
   have:((0:Int):Rat)=0:=rfl
   rw [this]
   grind
 · exact qv_val _ _ (by rcases hg with h1 | h1 <;> omega)
theorem Good.rv_eq {r:DR} {neg:Bool} {V:Nat} {e:Int} (h:Good r neg V e):rv r=qv neg V e:=by
 have hv:=(h.val (g:=min e r.e) (by omega)).2
 rw [rv_val (g:=min e r.e) (.inr (by omega)),qv_val neg V (g:=min e r.e) (by omega),← hv]
 rfl
theorem rv_le {r s:DR} {g:Int} (hr:r.m=0∨g≤r.e) (hs:s.m=0∨g≤s.e):rv r≤rv s ↔ val r g≤val s g:=by
 rw [rv_val hr,rv_val hs]
 have ht:=tp_pos g
 constructor
 · intro h
   have:=Rat.le_of_mul_le_mul_right h ht
   exact_mod_cast this
 · intro h
   have:(val r g:Rat)≤(val s g:Rat):=by exact_mod_cast h
   exact Rat.mul_le_mul_of_nonneg_right this (Rat.le_of_lt ht)
structure Tm (B:Int) (r:DR):Prop where
 ok:r.ok=true
 pl:plainV r.neg r.m r.e=true
 b:nb r.m≤800
 e1:-B≤r.e
 e2:r.e≤B
theorem Tm.more {B B':Int} {r:DR} (h:Tm B r) (hb:B≤B'):Tm B' r:=⟨h.ok,h.pl,h.b,by have:=h.e1;omega,by have:=h.e2;omega⟩
theorem Tm.p {B:Int} {r:DR} (h:Tm B r):Pl r:=⟨h.ok,h.pl⟩
theorem Tm.pr {B:Int} {r:DR} (h:Tm B r):PlainR r:=plainR_of h.pl
theorem Tm.up {B g:Int} {r:DR} (h:Tm B r) (hg:g≤-B):Up r g:=⟨h.ok,fun h0=>(h.pr.zero h0).2,by have:=h.e1;omega⟩
theorem right_tm {B:Int} {lo hi:DR} (h1:Tm B lo) (h2:Tm B hi) (h:rv lo≤rv hi):rightI lo hi=true:=by
 unfold rightI rightB
 rw [h1.ok,h2.ok]
 have:=ord_le (g:=-B) (fun h0=>(h1.pr.zero h0).2) (fun h0=>(h2.pr.zero h0).2) (.inr h1.e1) (.inr h2.e1) ((rv_le (.inr h1.e1) (.inr h2.e1)).1 h)
 simp [this]
theorem pBad_no {p:Int} (h1:1≤p) (h2:p≤700):pBad p=false:=by unfold pBad;simp;omega
theorem nb_kept2 (neg:Bool) (Q:Nat) (more:Bool) (P:Nat) (up:Bool):nb (kept neg Q more P up)≤P+1:=by
 have h1:Q/2^(nb Q-P) < 2^P:=by
  rcases Nat.lt_or_ge (nb Q) P with h | h
  · rw [show nb Q-P=0 by omega,Nat.pow_zero,Nat.div_one]
    exact Nat.lt_of_lt_of_le (nb_lt Q) (Nat.pow_le_pow_right (by omega) (by omega))
  · exact cut_lt h
 have h2:kept neg Q more P up≤Q/2^(nb Q-P)+1:=by unfold kept;split <;> omega
 have h3:=Nat.two_pow_pos P
 refine (nb_le_iff _ _).2 ?_
 rw [Nat.pow_succ]
 omega
theorem qv_mul (neg:Bool) (T D:Nat) (e:Int):qv neg T (e+(D:Int))=qv neg (T*2^D) e:=by
 unfold qv
 rw [tp_add,tp_nat]
 push_cast
 congr 1
 grind
theorem qv_low {neg:Bool} {A B:Nat} {e:Int} (h:if neg then B≤A else A≤B):qv neg A e≤qv neg B e:=by
 have ht:=Rat.le_of_lt (tp_pos e)
 unfold qv sgR
 cases neg
 · simp only [Bool.false_eq_true,if_false] at h ⊢
   exact Rat.mul_le_mul_of_nonneg_right (nat_le h) ht
 · simp only [if_true] at h ⊢
   have:=Rat.mul_le_mul_of_nonneg_right (nat_le h) ht
   grind
theorem cut_rv {neg:Bool} {V:Nat} {e B:Int} {P:Nat} (up:Bool) (hP:P≤700) (h1:-B≤e) (h2:e+(nb V:Int)≤B) (hB:B≤200000) (hB0:0≤B) :
 Tm (B+1) (cutD neg V e false P up)∧(up=false→rv (cutD neg V e false P up)≤qv neg V e)∧(up=true→qv neg V e≤rv (cutD neg V e false P up)):=by
 have hk:=nb_kept neg V false P up
 have hk2:=nb_kept2 neg V false P up
 have hz:nb V≤P→nb (kept neg V false P up)≤nb V+1:=fun h=>by omega
 rw [cut_kept]
 have G:=mkD_good neg (V:=kept neg V false P up) (e:=e+((nb V-P:Nat):Int)) (by omega) (by omega) (by omega)
 have hlow:=fun h=>kept_low (neg:=neg) (Q:=V) (more:=false) (P:=P) (up:=up) h
 have hhigh:=fun h=>kept_high (neg:=neg) (Q:=V) (more:=false) (P:=P) (up:=up) h
 generalize mkD neg (kept neg V false P up) (e+((nb V-P:Nat):Int))=r at *
 have hv:=G.rv_eq
 rw [qv_mul] at hv
 have hm:=nb_mono G.le
 refine ⟨⟨G.ok,G.plain,by omega,?_,?_⟩,fun hu=>?_,fun hu=>?_⟩
 · rcases G.e1 with h | h
   · have:=((plainR_of G.plain).zero (G.z h).1).1;omega
   · omega
 · rcases G.e2 with h | h
   · have:=((plainR_of G.plain).zero h).1;omega
   · omega
 · rw [hv]
   refine qv_low ?_
   cases neg
   · simp only [Bool.false_eq_true,if_false];exact hlow hu
   · simp only [if_true];have:=hhigh (by rw [hu];decide);simpa using this
 · rw [hv]
   refine qv_low ?_
   cases neg
   · simp only [Bool.false_eq_true,if_false];have:=hhigh (by rw [hu];decide);simpa using this
   · simp only [if_true];exact hlow hu
theorem qv_false (V:Nat) (e:Int):qv false V e=(V:Rat)*tp e:=rfl
theorem rv_nonneg {r:DR} (h:r.neg=false):0≤rv r:=by
 unfold rv
 rw [h,qv_false]
 have h1:(0:Rat)≤(r.m:Rat):=Rat.natCast_nonneg
 exact Rat.mul_nonneg h1 (Rat.le_of_lt (tp_pos _))
end Go.Proofs.YtmbmohibpkepdaaGreatDoor
namespace Go.Proofs.YtmbmohibpkepdaaGreatDoor
open Go.RowKit
theorem onE_tp (V:Nat) (e o:Int):((onE V e o:Nat):Rat)*tp (min e o)=(V:Rat)*tp e:=by
 unfold onE
 obtain ⟨n,hn⟩:∃ n:Nat,(e-min e o).toNat=n:=⟨_,rfl⟩
 have h:=tp_add (min e o) (n:Int)
 rw [show min e o+(n:Int)=e by omega,tp_nat] at h
 rw [hn,h]
 push_cast
 grind
theorem rat_sub {a b:Nat} (h:b≤a):((a-b:Nat):Rat)=(a:Rat)-(b:Rat):=by
 obtain ⟨c,rfl⟩:∃ c,a=b+c:=⟨a-b,by omega⟩
 rw [Nat.add_sub_cancel_left]
 push_cast
 grind
theorem sumN_rv (r s:DR):rv (sumN r s)=rv r+rv s:=by
 have a1:=onE_tp r.m r.e s.e
 have a2:=onE_tp s.m s.e r.e
 rw [show min s.e r.e=min r.e s.e by omega] at a2
 unfold sumN
 by_cases h0:r.m=0
 · rw [if_pos h0]
   have:rv r=0:=by unfold rv;rw [h0,qv_zero]
   rw [this];grind
 · rw [if_neg h0]
   by_cases h1:s.m=0
   · rw [if_pos h1]
     have:rv s=0:=by unfold rv;rw [h1,qv_zero]
     rw [this];grind
   · rw [if_neg h1]
     by_cases hn:r.neg=s.neg
     · rw [if_pos hn]
       unfold rv qv sgR
       rw [← hn,← a1,← a2]
       cases r.neg <;> simp only [Bool.false_eq_true,if_true,if_false] <;> push_cast <;> grind
     · rw [if_neg hn]
       have hn':s.neg=!r.neg:=by cases hr:r.neg <;> cases hs:s.neg <;> simp_all
       by_cases hle:onE s.m s.e r.e≤onE r.m r.e s.e
       · rw [if_pos hle]
         unfold rv qv sgR
         simp only
         rw [rat_sub hle,hn',← a1,← a2]
         cases r.neg <;> simp only [Bool.not_true,Bool.not_false,Bool.false_eq_true,if_true,if_false] <;> grind
       · rw [if_neg hle]
         unfold rv qv sgR
         simp only
         rw [rat_sub (Nat.le_of_lt (Nat.not_le.1 hle)),hn',← a1,← a2]
         cases r.neg <;> simp only [Bool.not_true,Bool.not_false,Bool.false_eq_true,if_true,if_false] <;> grind
theorem sumN_tm {B:Int} {r s:DR} (h1:Tm B r) (h2:Tm B s):-B≤(sumN r s).e∧(sumN r s).e+(nb (sumN r s).m:Int)≤B+801:=by
 have a1:=h1.b
 have a2:=h1.e1
 have a3:=h1.e2
 have b1:=h2.b
 have b2:=h2.e1
 have b3:=h2.e2
 unfold sumN
 by_cases h0:r.m=0
 · rw [if_pos h0];omega
 · rw [if_neg h0]
   by_cases h1:s.m=0
   · rw [if_pos h1];omega
   · rw [if_neg h1]
     have n1:nb (onE r.m r.e s.e)=nb r.m+(r.e-min r.e s.e).toNat:=by unfold onE;rw [nb_mul_pow (by omega)]
     have n2:nb (onE s.m s.e r.e)=nb s.m+(s.e-min s.e r.e).toNat:=by unfold onE;rw [nb_mul_pow (by omega)]
     by_cases hn:r.neg=s.neg
     · rw [if_pos hn]
       have:=nb_add (X:=onE r.m r.e s.e) (Y:=onE s.m s.e r.e) (K:=max (nb (onE r.m r.e s.e)) (nb (onE s.m s.e r.e))) (by omega) (by omega)
       simp only
       omega
     · rw [if_neg hn]
       by_cases hle:onE s.m s.e r.e≤onE r.m r.e s.e
       · rw [if_pos hle]
         have:=nb_mono (Nat.sub_le (onE r.m r.e s.e) (onE s.m s.e r.e))
         simp only
         omega
       · rw [if_neg hle]
         have:=nb_mono (Nat.sub_le (onE s.m s.e r.e) (onE r.m r.e s.e))
         simp only
         omega
theorem negI_rv {r:DR} (h:r.ok=true):rv (negI r)=- rv r:=by
 unfold negI
 rw [h,if_pos rfl]
 by_cases h0:r.m=0
 · rw [if_pos h0]
   unfold rv
   rw [h0,qv_zero,show DR.zero.m=0 from rfl,qv_zero]
   grind
 · rw [if_neg h0]
   unfold rv qv sgR
   cases r.neg <;> simp only [Bool.not_true,Bool.not_false,Bool.false_eq_true,if_true,if_false] <;> grind
theorem negI_tm {B:Int} {r:DR} (h:Tm B r) (hB0:0≤B):Tm B (negI r):=by
 have P:=pl_neg h.p
 refine ⟨P.ok,P.pl,?_,?_,?_⟩
 all_goals
  have h1:=h.b
  have h2:=h.e1
  have h3:=h.e2
  unfold negI
  rw [h.ok,if_pos rfl]
  by_cases h0:r.m=0
  · rw [if_pos h0];unfold DR.zero;simp only [nb_zero];omega
  · rw [if_neg h0];simp only;omega
structure En (B:Int) (r:SRes) (x:Rat):Prop where
 bad:r.bad=false
 l:Tm B r.lo
 h:Tm B r.hi
 x1:rv r.lo≤x
 x2:x≤rv r.hi
theorem En.more {B B':Int} {r:SRes} {x:Rat} (h:En B r x) (hb:B≤B'):En B' r x:=⟨h.bad,h.l.more hb,h.h.more hb,h.x1,h.x2⟩
theorem En.le {B:Int} {r:SRes} {x:Rat} (h:En B r x):rv r.lo≤rv r.hi:=Rat.le_trans h.x1 h.x2
section
variable {p B:Int} {r s:SRes} {x y:Rat} (hp1:1≤p) (hp2:p≤700)
include hp1 hp2
theorem En.add (h:En B r x) (k:En B s y) (hB:B≤150000) (hB0:0≤B):En (B+900) (addS p false r.lo r.hi s.lo s.hi) (x+y):=by
 have b1:=sumN_tm h.l k.l
 have b2:=sumN_tm h.h k.h
 have c1:=cut_rv (neg:=(sumN r.lo s.lo).neg) (V:=(sumN r.lo s.lo).m) (e:=(sumN r.lo s.lo).e) (B:=B+801) (P:=p.toNat) false (by omega) (by omega) (by omega) (by omega) (by omega)
 have c2:=cut_rv (neg:=(sumN r.hi s.hi).neg) (V:=(sumN r.hi s.hi).m) (e:=(sumN r.hi s.hi).e) (B:=B+801) (P:=p.toNat) true (by omega) (by omega) (by omega) (by omega) (by omega)
 have e1:=sumN_rv r.lo s.lo
 have e2:=sumN_rv r.hi s.hi
 have g1:=c1.2.1 rfl
 have g2:=c2.2.2 rfl
 change _≤rv (sumN r.lo s.lo) at g1
 change rv (sumN r.hi s.hi)≤_ at g2
 have hb:bad2 p false r.lo r.hi s.lo s.hi=false:=by
  unfold bad2
  rw [right_tm h.l h.h h.le,right_tm k.l k.h k.le,pBad_no hp1 hp2]
  rfl
 unfold addS twoS keepS sumC
 rw [hb,c1.1.ok,c2.1.ok]
 simp only [Bool.false_eq_true,if_false,Bool.and_self,if_true]
 have:=h.x1
 have:=h.x2
 have:=k.x1
 have:=k.x2
 exact ⟨rfl,c1.1.more (by omega),c2.1.more (by omega),by show rv _≤_;grind,by show _≤rv _;grind⟩
theorem En.neg (h:En B r x) (hB0:0≤B):En B (negS p false r.lo r.hi) (-x):=by
 have hr:=rightF_of (right_tm h.l h.h h.le)
 rw [negS_ok hp1 (by omega) hr h.l.p h.h.p]
 have h1:=h.x1
 have h2:=h.x2
 have e1:=negI_rv h.l.ok
 have e2:=negI_rv h.h.ok
 exact ⟨rfl,negI_tm h.h hB0,negI_tm h.l hB0,by show rv (negI r.hi)≤_;grind,by show _≤rv (negI r.lo);grind⟩
end
section
variable {p B:Int} {r:SRes} {x y n:Rat} {d:DR} (hp1:1≤p) (hp2:p≤700)
include hp1 hp2
end
end Go.Proofs.YtmbmohibpkepdaaGreatDoor
