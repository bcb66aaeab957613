import Derived.Laws.AppendOwn
import Derived.Test.YtmbmohibpkepdaaGreatDoorPlSGSp10
import Derived.Test.YtmbmohibpkepdaaGreatDoorPlSGSp7
set_option maxRecDepth 8000
open Bool renaming false_eq_true->lY, not_false->DF, not_true->Gk, or_self->Gm, true_or->Gs, or_true->Gt
open Int renaming mul_comm->mF, mul_le_mul_of_nonneg_right->tz, mul_le_mul_of_nonpos_right->yb, mul_le_mul_of_nonneg_left->Bl, mul_le_mul_of_nonpos_left->Bx, add_comm->Gu, le_refl->Gv
open Nat renaming lt_of_lt_of_le->ou, mul_le_mul_right->EM, lt_or_ge->Gl, le_refl->Gp, two_pow_pos->Gq
open List renaming getElem?_append_right->oM, getElem?_append_left->oY, mem_append->DE, length_cons->Gn, length_nil->Gr
open Go.Proofs.Tryz renaming prog->qK
namespace Go.Proofs.YtmbmohibpkepdaaGreatDoor
open Go.RowKit
variable {V base k n:Nat} {a1 a2 b1 b2 g g':Int} {hi lo r s:DR} {v:Value} {w w':World}
def val (r:DR)(g:Int):Int:=iG r.neg r.m r.e g
theorem kC (h:r.m=0):val r g=0:=by
 unfold val iG jQ;rw[h,Nat.zero_mul]
 split <;> rfl
theorem wv {e:Int}(h:0 < V):0 < jQ V e g:=Nat.mul_pos h (Gq _)
theorem vD (h:r.neg=true):val r g<=0/\(0 < r.m->val r g < 0):=by
 unfold val iG;rw[if_pos h];exact⟨by omega,fun h0=>by have:=wv (e:=r.e) (g:=g) h0;omega⟩
theorem vC (h:r.neg=false):0<=val r g/\(0 < r.m->0 < val r g):=by
 unfold val iG;rw[if_neg (by rw[h];decide)];exact⟨by omega,fun h0=>by have:=wv (e:=r.e) (g:=g) h0;omega⟩
theorem fR (hr:g<=r.e)(hs:g'<=s.e):val (aH r s) (g+g')=val r g*val s g':=by
 have hm:(jQ (r.m*s.m) (r.e+s.e) (g+g'):Int)=(jQ r.m r.e g:Int)*(jQ s.m s.e g':Int):=by
  rw[← Int.natCast_mul]
  congr 1
  unfold jQ;rw[show(r.e+s.e-(g+g')).toNat=(r.e-g).toNat+(s.e-g').toNat by omega,Nat.pow_add];simp only[Nat.mul_assoc,Nat.mul_left_comm]
 unfold val iG aH
 simp only
 rw[hm]
 cases r.neg <;> cases s.neg <;> simp[Int.neg_mul,Int.mul_neg]
theorem wg (hr:g<=r.e)(hs:g<=s.e)(h:fa r.neg s.neg r.m s.m r.e s.e<=0):val r g<=val s g:=by
 have m1:=lX (Va:=r.m) hr hs;have m2:=lX (Va:=s.m) hs hr;rw[show min s.e r.e=min r.e s.e by omega]at m2
 have key:∀ {X Y:Nat},X<=Y->X*2^(min r.e s.e-g).toNat<=Y*2^(min r.e s.e-g).toNat:=fun h=>EM _ h
 unfold fa dx at h;unfold val iG
 have hc:∀ {X Y:Nat},cQ X Y<=0->X<=Y:=fun {X Y} h=>by
  rcases Gl Y X with h1 | h1
  . rw[cO h1]at h;omega
  . exact h1
 cases hr1:r.neg <;> cases hs1:s.neg <;> rw[hr1,hs1]at h
 . simp only[if_true,lY,if_false]at h ⊢
   have:=key (hc h)
   omega
 . simp at h
 . simp only[if_true,lY,if_false];omega
 . simp only[if_true]at h ⊢
   rw[qi]at h
   have:=key (hc (X:=cF s.m s.e r.e) (Y:=cF r.m r.e s.e) (by omega))
   omega
theorem zN (hr:g<=r.e)(hs:g<=s.e):(pW r s=s/\jQ r.m r.e g < jQ s.m s.e g)\/(pW r s=r/\jQ s.m s.e g<=jQ r.m r.e g):=by
 have m1:=lX (Va:=r.m) hr hs;have m2:=lX (Va:=s.m) hs hr;rw[show min s.e r.e=min r.e s.e by omega]at m2;unfold pW
 by_cases h:cF r.m r.e s.e < cF s.m s.e r.e
 . rw[if_pos h]
   exact .inl ⟨rfl,by rw[m1,m2];exact Nat.mul_lt_mul_of_pos_right h (Gq _)⟩
 . rw[if_neg h]
   exact .inr ⟨rfl,by rw[m1,m2];exact EM _ (by omega)⟩
structure ud (x a1 a2 b1 b2:Int):Prop where
 l1:x<=a1*b1
 l2:x<=a1*b2
 l3:x<=a2*b1
 l4:x<=a2*b2
 one:x=a1*b1\/x=a1*b2\/x=a2*b1\/x=a2*b2
structure ue (x a1 a2 b1 b2:Int):Prop where
 l1:a1*b1<=x
 l2:a1*b2<=x
 l3:a2*b1<=x
 l4:a2*b2<=x
 one:x=a1*b1\/x=a1*b2\/x=a2*b1\/x=a2*b2
structure Fp (a1 a2 b1 b2:Int):Prop where
 r1:0<=a1->a1*b1<=a1*b2
 r2:a1<=0->a1*b2<=a1*b1
 r3:0<=a2->a2*b1<=a2*b2
 r4:a2<=0->a2*b2<=a2*b1
 c1:0<=b1->a1*b1<=a2*b1
 c2:b1<=0->a2*b1<=a1*b1
 c3:0<=b2->a1*b2<=a2*b2
 c4:b2<=0->a2*b2<=a1*b2
theorem zi (ha:a1<=a2)(hb:b1<=b2):Fp a1 a2 b1 b2 :=
 ⟨fun h=>Bl hb h,fun h=>Bx h hb,fun h=>Bl hb h,fun h=>Bx h hb,
  fun h=>tz ha h,fun h=>yb ha h,fun h=>tz ha h,fun h=>yb ha h⟩
theorem ud.swap {x:Int}(h:ud x b1 b2 a1 a2):ud x a1 a2 b1 b2:=by
 obtain⟨h1,h2,h3,h4,h5⟩:=h;rw[mF b1 a1]at h1 h5;rw[mF b1 a2]at h2 h5;rw[mF b2 a1]at h3 h5;rw[mF b2 a2]at h4 h5;exact⟨h1,h3,h2,h4,by omega⟩
theorem ue.swap {x:Int}(h:ue x b1 b2 a1 a2):ue x a1 a2 b1 b2:=by
 obtain⟨h1,h2,h3,h4,h5⟩:=h;rw[mF b1 a1]at h1 h5;rw[mF b1 a2]at h2 h5;rw[mF b2 a1]at h3 h5;rw[mF b2 a2]at h4 h5;exact⟨h1,h3,h2,h4,by omega⟩
structure Fo (r:DR)(a:Int):Prop where
 neg:r.neg=true->a < 0
 pos:r.neg=false->0<=a
theorem nB (h:bl r):Fo r (val r g):=by
 refine⟨fun hn=>(vD hn).2 ?_,fun hn=>(vC hn).1⟩
 rcases Nat.eq_zero_or_pos r.m with h0 | h0
 . have:=(h.zero h0).2;rw[this]at hn;cases hn
 . exact h0
theorem Cp (h:dt r=false):val r g<=0:=by
 unfold dt at h;cases hn:r.neg
 . rw[hn]at h
   have:r.m=0:=by simpa using h
   rw[kC this];exact Gv 0
 . exact(vD hn).1
theorem iL {lo' hi':DR}(h1:bl lo)(h2:bl hi)(h3:bl lo')(e1:g<=lo.e)(e2:g<=hi.e)(e3:g'<=lo'.e)(e4:g'<=hi'.e)
 (ha:val lo g<=val hi g) (hb:val lo' g'<=val hi' g') (h0:lo'.neg=true->dt hi'=false) :
 ud (val (dO lo hi lo' hi').1 (g+g')) (val lo g) (val hi g) (val lo' g') (val hi' g')/\ue (val (dO lo hi lo' hi').2 (g+g')) (val lo g) (val hi g) (val lo' g') (val hi' g'):=by
 have s1:=nB (g:=g) h1;have s2:=nB (g:=g) h2;have s3q:=nB (g:=g') h3;have P:=zi ha hb;obtain⟨q1,q2,q3,q4,q5,q6,q7,q8⟩:=P;have v11:=fR (r:=lo) (s:=lo') e1 e3;have v12:=fR (r:=lo) (s:=hi') e1 e4;have v21:=fR (r:=hi) (s:=lo') e2 e3;have v22:=fR (r:=hi) (s:=hi') e2 e4
 have hab:=fun h=>Cp (g:=g') (h0 h)
 unfold dO aF;generalize val lo g=a1 at *;generalize val hi g=a2 at *;generalize val lo' g'=b1 at *;generalize val hi' g'=b2 at *
 cases hs:lo'.neg <;> cases hl:lo.neg <;> cases hh:hi.neg <;> simp only[lY,if_true,if_false,v11,v12,v21,v22]
 all_goals
  have t1:=s1.neg;have t2:=s1.pos;have t3:=s2.neg;have t4:=s2.pos;have t5:=s3q.neg;have t6:=s3q.pos;rw[hl]at t1 t2;rw[hh]at t3 t4;rw[hs]at t5 t6 hab
  simp at t1 t2 t3 t4 t5 t6 hab
  exact⟨⟨by omega,by omega,by omega,by omega,by omega⟩,⟨by omega,by omega,by omega,by omega,by omega⟩⟩
theorem ub (h:dt r=true):0 < val r g:=(vC (ft h).2).2 (ft h).1
theorem xp {lo' hi':DR}(h1:bl lo)(h2:bl hi)(h3:bl lo')(h4:bl hi')(e1:g<=lo.e)(e2:g<=hi.e)(e3:g'<=lo'.e)(e4:g'<=hi'.e)
 (ha:val lo g<=val hi g) (hb:val lo' g'<=val hi' g') :
 ud (val (dw lo hi lo' hi').1 (g+g')) (val lo g) (val hi g) (val lo' g') (val hi' g')/\ue (val (dw lo hi lo' hi').2 (g+g')) (val lo g) (val hi g) (val lo' g') (val hi' g'):=by
 unfold dw;cases hs:lo'.neg
 . simp only[DF,Gs,if_true]
   exact iL h1 h2 h3 e1 e2 e3 e4 ha hb (fun h=>by rw[hs]at h;cases h)
 . cases hh':dt hi'
   . simp only[DF,Gt,if_true]
     exact iL h1 h2 h3 e1 e2 e3 e4 ha hb (fun _=>hh')
   . cases hl:lo.neg
     . simp only[Gk,Gm,lY,if_false,DF,Gs,if_true]
       have:=iL h3 h4 h1 e3 e4 e1 e2 hb ha (fun h=>by rw[hl]at h;cases h)
       rw[Gu g' g]at this;exact⟨this.1.swap,this.2.swap⟩
     . cases hh:dt hi
       . simp only[Gk,Gm,lY,if_false,DF,Gt,if_true]
         have:=iL h3 h4 h1 e3 e4 e1 e2 hb ha (fun _=>hh)
         rw[Gu g' g]at this;exact⟨this.1.swap,this.2.swap⟩
       . simp only[Gk,Gm,lY,if_false]
         have a1:=(nB (g:=g) h1).neg hl;have b1:=(nB (g:=g') h3).neg hs;have a2:=ub (g:=g) hh;have b2:=ub (g:=g') hh';have v11:=fR (r:=lo) (s:=lo') e1 e3;have v12:=fR (r:=lo) (s:=hi') e1 e4;have v21:=fR (r:=hi) (s:=lo') e2 e3;have v22:=fR (r:=hi) (s:=hi') e2 e4
         have n11:(aH lo lo').neg=false:=by unfold aH;rw[hl,hs];rfl
         have n12:(aH lo hi').neg=true:=by unfold aH;rw[hl,(ft hh').2];rfl
         have n21:(aH hi lo').neg=true:=by unfold aH;rw[hs,(ft hh).2];rfl
         have n22:(aH hi hi').neg=false:=by unfold aH;rw[(ft hh).2,(ft hh').2];rfl
         have m11:val (aH lo lo') (g+g')=(jQ (aH lo lo').m (aH lo lo').e (g+g'):Int):=by unfold val iG;rw[n11];rfl
         have m12:val (aH lo hi') (g+g')=-(jQ (aH lo hi').m (aH lo hi').e (g+g'):Int):=by unfold val iG;rw[n12];rfl
         have m21:val (aH hi lo') (g+g')=-(jQ (aH hi lo').m (aH hi lo').e (g+g'):Int):=by unfold val iG;rw[n21];rfl
         have m22:val (aH hi hi') (g+g')=(jQ (aH hi hi').m (aH hi hi').e (g+g'):Int):=by unfold val iG;rw[n22];rfl
         have x11:0<=val lo g*val lo' g':=Int.mul_nonneg_of_nonpos_of_nonpos (by omega) (by omega);have x22:0<=val hi g*val hi' g':=Int.mul_nonneg (by omega) (by omega);have x12:val lo g*val hi' g'<=0:=Int.mul_nonpos_of_nonpos_of_nonneg (by omega) (by omega);have x21:val hi g*val lo' g'<=0:=Int.mul_nonpos_of_nonneg_of_nonpos (by omega) (by omega);have g1:=zN (r:=aH lo hi') (s:=aH hi lo') (g:=g+g') (by show _<=lo.e+hi'.e;omega) (by show _<=hi.e+lo'.e;omega);have g2:=zN (r:=aH lo lo') (s:=aH hi hi') (g:=g+g') (by show _<=lo.e+lo'.e;omega) (by show _<=hi.e+hi'.e;omega)
         constructor
         . rcases g1 with⟨e,h⟩ | ⟨e,h⟩ <;> rw[e]
           . exact⟨by omega,by omega,by omega,by omega,by omega⟩
           . exact⟨by omega,by omega,by omega,by omega,by omega⟩
         . rcases g2 with⟨e,h⟩ | ⟨e,h⟩ <;> rw[e]
           . exact⟨by omega,by omega,by omega,by omega,by omega⟩
           . exact⟨by omega,by omega,by omega,by omega,by omega⟩
def lv (r:Nat->DR)(most:Bool)(a b:Nat):Bool:=if most then decide (0 < cB (r a) (r b)) else decide (cB (r a) (r b) < 0)
def gk (r:Nat->DR)(most:Bool):Nat->Nat
 | 0=>0
 | i+1=>if lv r most (i+1) (gk r most i) then i+1 else gk r most i
def bp (r:Nat->DR)(most:Bool):DR:=r (gk r most 3)
theorem jr (r:Nat->DR)(most:Bool)(i:Nat):gk r most i<=i:=by
 induction i with
 | zero=>exact Gp _
 | succ i ih=>unfold gk;split <;> omega
theorem Ck (l:DL)(r:Nat->DR)(most:Bool)(k:Nat)(h:∀ a b,a < k->b < k->oI l a b=cB (r a) (r b))(n:Nat)(hn:n < k):fH l most n=gk r most n:=by
 induction n with
 | zero=>rfl
 | succ n ih =>
  have hb:=jr r most n
  have e:iU l most (n+1) (gk r most n)=lv r most (n+1) (gk r most n):=by
   unfold iU lv;rw[h (n+1) _ hn (by omega)]
  rw[fH,gk,ih (by omega),e]
theorem Ar (r:Nat->DR)(most:Bool)(k:Nat)(f:Nat->Int)(hc:∀ i j,i < k->j < k->lv r most i j=if most then decide (f j < f i) else decide (f i < f j))(n:Nat)(hn:n < k):
 ∀ i,i<=n->if most then f i<=f (gk r most n) else f (gk r most n)<=f i:=by
 induction n with
 | zero =>
  intro i hi
  obtain rfl:i=0:=by omega
  cases most <;> exact Gv _
 | succ n ih =>
  intro i hi;have h0:=ih (by omega);have hb:=jr r most n;have h1:=hc (n+1) (gk r most n) hn (by omega);rw[gk];generalize gk r most n=b at *;rw[h1];cases most
  . simp only[lY,if_false,decide_eq_true_eq]at h0 ⊢
    rcases Gl n i with h | h
    . obtain rfl:i=n+1:=by omega
      split <;> omega
    . have:=h0 i h
      split <;> omega
  . simp only[if_true,decide_eq_true_eq]at h0 ⊢
    rcases Gl n i with h | h
    . obtain rfl:i=n+1:=by omega
      split <;> omega
    . have:=h0 i h
      split <;> omega
structure Up (r:DR)(g:Int):Prop where
 ok:r.ok=true
 z:r.m=0->r.neg=false
 e:g<=r.e
theorem rB (hr:Up r g)(hs:Up s g):decide (cB r s < 0)=decide (val r g < val s g):=by
 have h1:cB r s=fa r.neg s.neg r.m s.m r.e s.e:=by unfold cB gh;rw[hr.ok,hs.ok];rfl
 have h2:cB s r=fa s.neg r.neg s.m r.m s.e r.e:=by unfold cB gh;rw[hr.ok,hs.ok];rfl
 have h3:=kn r s
 by_cases h:val s g<=val r g
 . have:=nU (g:=g) hs.z hr.z (.inr hs.e) (.inr hr.e) h
   rw[decide_eq_false (by omega),decide_eq_false (by omega)]
 . have h4:¬ fa s.neg r.neg s.m r.m s.e r.e<=0:=fun h4=>h (wg hs.e hr.e h4)
   rw[decide_eq_true (by omega),decide_eq_true (by omega)]
theorem Ak (hr:Up r g)(hs:Up s g):decide (0 < cB r s)=decide (val s g < val r g):=by
 rw[← rB hs hr]
 have:=kn r s
 by_cases h:0 < cB r s
 . rw[decide_eq_true h,decide_eq_true (by omega)]
 . rw[decide_eq_false h,decide_eq_false (by omega)]
theorem sO {r:Nat->DR}(h:∀ j,j < 4->Up (r j) g)(most:Bool):(∃ j,j < 4/\bp r most=r j)/\∀ j,j < 4->if most then val (r j) g<=val (bp r most) g else val (bp r most) g<=val (r j) g:=by
 have hb:=jr r most 3;refine⟨⟨_,by omega,rfl⟩,fun j hj=>?_⟩;refine Ar r most 4 (fun j=>val (r j) g) (fun i j hi hj=>?_) 3 (by omega) j (by omega);unfold lv;cases most
 . simp only[lY,if_false];exact rB (h i hi) (h j hj)
 . simp only[if_true];exact Ak (h i hi) (h j hj)
theorem pJ {r:Nat->DR}(h:∀ j,j < 4->Up (r j) g):(∃ j,j < 4/\bp r false=r j)/\∀ j,j < 4->val (bp r false) g<=val (r j) g:=sO h false
theorem nQ {r:Nat->DR}(h:∀ j,j < 4->Up (r j) g):(∃ j,j < 4/\bp r true=r j)/\∀ j,j < 4->val (r j) g<=val (bp r true) g:=sO h true
theorem D0 {p:Nat}(hp:p<=nb V):V/2^(nb V-p) < 2^p:=by
 have h:=dZ (V/2^(nb V-p));rw[gH,show nb V-(nb V-p)=p by omega]at h;exact h
def qN (r s:DR)(P:Nat)(up:Bool):DR:=mC r.neg s.neg r.m s.m r.e s.e (P+nb s.m-nb r.m) P up
structure Bd (r:DR):Prop where
 b:nb r.m<=3000
 lo:-30000<=r.e
 hi:r.e<=30000
 z:r.m=0->r.neg=false
theorem nR {p:Int}(up:Bool)(hr:r.ok=true)(hs:s.ok=true)(h:0 < s.m)(hp:aJ p=true):eS r s p up=qN r s p.toNat up:=by
 unfold eS dX qN;rw[hr,hs,hp,show decide (s.m=0)=false from decide_eq_false (by omega)]
 rfl
def iw (r s:DR):DR:=qY (r.ok && s.ok) r.neg s.neg r.m s.m r.e s.e
theorem xv (r s:DR):kq (iw r s):=by
 unfold iw qY
 split
 . exact gZ _ _ _
 . exact mT
def mE (lo hi:DR)(j:Nat):DR:=if j/2=0 then lo else hi
def mD (lo hi:DR)(j:Nat):DR:=if j%2=0 then lo else hi
def bu (lo hi lo' hi':DR)(j:Nat):DR:=iw (mE lo hi j) (mD lo' hi' j)
def uk (r:Nat->DR):Bool:=(r 0).ok && (r 1).ok && (r 2).ok && (r 3).ok
theorem zt {r:Nat->DR}(h:uk r=true):∀ j,j < 4->(r j).ok=true:=by
 unfold uk at h;simp only[Bool.and_eq_true]at h;intro j hj
 have:j=0\/j=1\/j=2\/j=3:=by omega
 rcases this with rfl | rfl | rfl | rfl
 . exact h.1.1.1
 . exact h.1.1.2
 . exact h.1.2
 . exact h.2
theorem nX {r:Nat->DR}(h:∀ j,j < 4->(r j).ok=true):uk r=true:=by
 unfold uk;rw[h 0 (by omega),h 1 (by omega),h 2 (by omega),h 3 (by omega)]
 rfl
theorem lS {r:Nat->DR}{j:Nat}(hj:j < 4)(h:(r j).ok=false):uk r=false:=by
 cases h4:uk r
 . rfl
 . rw[zt h4 j hj]at h;cases h
theorem sN {r:Nat->DR}(h:∀ j,j < 4->(r j).ok=true/\aR (r j).neg (r j).m (r j).e=true)(most:Bool):Pl (bp r most):=by
 have hb:=jr r most 3
 have:=h (gk r most 3) (by omega)
 exact⟨this.1,this.2⟩
def eu (p:Int)(bad:Bool)(lo hi lo' hi':DR):SRes :=
 if dL p bad lo hi lo' hi' then SRes.no else if uk (bu lo hi lo' hi') then eI p false (bp (bu lo hi lo' hi') false) (bp (bu lo hi lo' hi') true) else SRes.no
def cq (p:Int)(up:Bool)(lo hi lo' hi':DR)(j:Nat):DR:=eS (mE lo hi j) (mD lo' hi' j) p up
def eR (p:Int)(bad:Bool)(lo hi lo' hi':DR):SRes :=
 if dL p bad lo hi lo' hi' then SRes.no else if dv lo' hi'=0 then SRes.no else
  if uk (cq p false lo hi lo' hi') && uk (cq p true lo hi lo' hi') then⟨false,bp (cq p false lo hi lo' hi') false,bp (cq p true lo hi lo' hi') true⟩ else SRes.no
theorem CQ (h:Pl r):Up r (-300000):=by
 have P:=aV h.pl;exact⟨h.ok,fun h0=>(P.zero h0).2,by have:=P.e1;omega⟩
structure Fr (lo hi:DR):Prop where
 b1:Bd lo
 b2:Bd hi
 o1:lo.ok=true
 o2:hi.ok=true
 m1:0 < lo.m
 n1:lo.neg=false
 m2:0 < hi.m
 n2:hi.neg=false
 le:val lo (-30000)<=val hi (-30000)
structure Cv (lo hi:DR):Prop where
 b1:Bd lo
 b2:Bd hi
 o1:lo.ok=true
 o2:hi.ok=true
 le:val lo (-30000)<=val hi (-30000)
section
variable {p:Int} {lo hi lo' hi':DR} (hx:Cv lo hi) (hy:Fr lo' hi') (hp1:1<=p) (hp2:p<=600)
include hx hy hp1 hp2
end
theorem uw (h:aw lo hi=true):(lo.m≠0/\lo.neg=false/\dv lo hi=1)\/(hi.neg=true/\dv lo hi=-1)\/dv lo hi=0:=by
 unfold dv fy;rw[h];simp only[if_true]
 by_cases h0:lo.m=0
 . rw[if_pos h0,if_neg (fun h=>h.1 rfl)]
   cases hi.neg
   . exact .inr (.inr rfl)
   . exact .inr (.inl ⟨rfl,rfl⟩)
 . rw[if_neg h0]
   cases hn:lo.neg
   . exact .inl ⟨h0,rfl,if_pos ⟨by omega,rfl⟩⟩
   . rw[if_neg (fun h=>by cases h.2)]
     cases hi.neg
     . exact .inr (.inr rfl)
     . exact .inr (.inl ⟨rfl,rfl⟩)
theorem EU:(Tryz.prog.info? 24).map (fun i=>(i.zero,i.size,i.bytes))=some (some (.agg #[.bool false,.slice none 0 0,.int .i64 0]),3,40):=by kernel_rfl
def pd (w:World)(base:Nat)(v:Value)(n:Nat)(xs:List Value):Prop :=
 w.ownsRow base 24 3 v n xs/\∀ g,v.ownBlock=some g->∃ cur,w.heap[g]?=some (.cells cur 24 (0,0))/\∀ u ∈ cur.toList,gp u
theorem pd.nil (w:World)(base:Nat):pd w base (.slice none 0 0) 0 []:=⟨World.ownsRow_nil w base _ 3,fun g h=>by cases h⟩
theorem pe (k:Nat):∀ u ∈ (Builtin.zeroCells (Value.agg #[.bool false,.slice none 0 0,.int .i64 0]).cells k).toList,gp u:=by
 intro u hu
 have hu':u=.bool false\/u=.slice none 0 0\/u=.int .i64 0:=by
  simp[Builtin.zeroCells,Value.cells]at hu
  obtain⟨j,_,h⟩:=hu
  have hj:j%3=0\/j%3=1\/j%3=2:=by omega
  rcases hj with hj | hj | hj <;> rw[hj]at h
  . exact Or.inl h.symm
  . exact Or.inr (Or.inl h.symm)
  . exact Or.inr (Or.inr h.symm)
 rcases hu' with h | h | h
 . rw[h];exact aD _
 . rw[h];exact av _ _ _
 . rw[h];exact aI _
theorem mB (T ty:TypeId)(hT:Tryz.prog.underlying T=some (.slice 24))(v:Value)(n:Nat)(xs:List Value)(hown:pd w base v n xs)(hn:n<=1000)(hx:∀ u ∈ xs,gp u)(ad:Addr)(neg:Bool)(A:OA)(k c:Nat)(e:Int)
 (hc0:w.cell? (ad.add 0)=some (.bool neg)) (hc1:w.cell? (ad.add 1)=some (.slice A k c)) (hc2:w.cell? (ad.add 2)=some (.int .i64 e)) (hbase:base<=w.heap.size) :
 ∃ v' w',(Builtin.append_ #[T,T] ty #[v,.slice (some ad) 1 1]).run qK w=.ok v' w'/\pd w' base v' (n+1) (xs ++ [.bool neg,.slice A k c,.int .i64 e])/\w.grownBy w' v.ownBlock/\∀ g,v'.ownBlock=some g->v.ownBlock=some g\/w.heap.size<=g:=by
 obtain⟨i,hi,hzz⟩:=Option.map_eq_some_iff.1 EU;simp only[Prod.mk.injEq]at hzz;obtain⟨hz,hsz,hby⟩:=hzz
 have hnews:∀ j u,([.bool neg,.slice A k c,.int .i64 e]:List Value)[j]?=some u->w.cell? (ad.add j)=some u:=by
  intro j u hj
  rcases j with _ | _ | _ | j
  . simp at hj;rw[← hj];exact hc0
  . simp at hj;rw[← hj];exact hc1
  . simp at hj;rw[← hj];exact hc2
  . simp at hj
 have h1:∀ u ∈ ([.bool neg,.slice A k c,.int .i64 e]:List Value),u.oneCell'=true:=by
  intro u hu
  simp at hu
  rcases hu with rfl | rfl | rfl <;> rfl
 have hnu:∀ u ∈ ([.bool neg,.slice A k c,.int .i64 e]:List Value),gp u:=by
  intro u hu
  simp at hu
  rcases hu with rfl | rfl | rfl
  . exact aD _
  . exact av _ _ _
  . exact aI _
 have hm1:n+1<=maxLen:=by simp only[maxLen];omega
 obtain⟨v',w',hr,h2,h3,_⟩:=run_append_own (P:=qK) w base T ty 24 i _ 3 40 hT hi hz hsz hby rfl (by omega) v n xs hown.1 ad 1 1 [.bool neg,.slice A k c,.int .i64 e] rfl hnews h1 hm1 (by omega) hbase
 suffices hkey:∀ g,v'.ownBlock=some g->(∃ cur,w'.heap[g]?=some (.cells cur 24 (0,0))/\∀ u ∈ cur.toList,gp u)/\(v.ownBlock=some g\/w.heap.size<=g) from
  ⟨v',w',hr,⟨h2,fun g hg=>(hkey g hg).1⟩,h3,fun g hg=>(hkey g hg).2⟩
 intro g hg
 rcases hown.1.2 with⟨rfl,rfl⟩ | ⟨g0,cap,cur,rfl,hb0,hg0,hnc,hcm,hcs,htake⟩
 . have er:=run_append_nil (P:=qK) w T ty 24 i _ hT hi hz ad 1 1 [.bool neg,.slice A k c,.int .i64 e] (by rw[hsz];rfl) hnews (by omega) (by omega) (by rw[hby];omega)
   rw[hr]at er
   injection er with e1 e2
   subst e1 e2
   simp[Value.ownBlock]at hg
   subst hg;refine⟨⟨_,heap_alloc_new _ _,fun u hu=>?_⟩,.inr (Gp _)⟩;rw[Array.toList_append,DE]at hu
   rcases hu with hu | hu
   . exact hnu u hu
   . exact pe _ u hu
 . obtain⟨cur',hc',hnu'⟩:=hown.2 g0 rfl
   have ecur:cur'=cur:=by rw[hg0]at hc';injection hc' with hc';injection hc' with hc';exact hc'.symm
   subst ecur
   by_cases hroom:n+1<=cap
   . have er:=run_append_room (P:=qK) w T ty 24 i hT hi g0 n cap cur' hg0 ad 1 1 [.bool neg,.slice A k c,.int .i64 e] (by rw[hsz];rfl) hnews h1 hroom (by rw[hsz,hcs];simp only[Gn,Gr];omega)
     rw[hr]at er
     injection er with e1 e2
     subst e1 e2
     simp[Value.ownBlock]at hg
     subst hg;refine⟨⟨_,setRow_heap w g0 cur' _ _ _ hg0,fun u hu=>?_⟩,.inl rfl⟩;simp only[DE]at hu
     rcases hu with(hu | hu) | hu
     . exact hnu' u (List.mem_of_mem_take hu)
     . exact hnu u hu
     . exact hnu' u (List.mem_of_mem_drop hu)
   . have holds:∀ j u,xs[j]?=some u->w.cell? ((⟨g0,0,none⟩:Addr).add j)=some u:=hown.1.cells (g:=g0) rfl
     have er:=run_append_grow (P:=qK) w T ty 24 i _ hT hi hz ⟨g0,0,none⟩ n cap xs (by rw[hsz];exact hown.1.1) holds ad 1 1 [.bool neg,.slice A k c,.int .i64 e] (by rw[hsz];rfl) hnews (by omega) (by omega) (growslice_fits (by omega) (by rw[hby];omega));rw[hr]at er
     injection er with e1 e2
     subst e1 e2
     simp[Value.ownBlock]at hg
     subst hg;refine⟨⟨_,heap_alloc_new _ _,fun u hu=>?_⟩,.inr (Gp _)⟩;simp only[Array.toList_append,DE]at hu
     rcases hu with(hu | hu) | hu
     . exact hx u hu
     . exact hnu u hu
     . exact pe _ u hu
def fo (r:Nat->DR)(q:Nat->OA×Nat×Nat):Nat->List Value
 | 0=>[]
 | k+1=>fo r q k ++ [.bool (r k).neg,.slice (q k).1 (q k).2.1 (q k).2.2,.int .i64 (r k).e]
section
variable {r:Nat->DR} {q q':Nat->OA×Nat×Nat}
theorem vn (k:Nat):(fo r q k).length=k*3:=by
 induction k with
 | zero=>rfl
 | succ k ih=>rw[fo,List.length_append,ih];simp only[Gn,Gr];omega
theorem x7 {j:Nat}(h:j < k):(fo r q k)[j*3]?=some (.bool (r j).neg)/\(fo r q k)[j*3+1]?=some (.slice (q j).1 (q j).2.1 (q j).2.2)/\(fo r q k)[j*3+2]?=some (.int .i64 (r j).e):=by
 induction k with
 | zero=>omega
 | succ k ih =>
  have l:=vn (r:=r) (q:=q) k;rw[fo]
  by_cases hj:j < k
  . rw[oY (by omega),oY (by omega),oY (by omega)]
    exact ih hj
  . obtain rfl:j=k:=by omega
    rw[oM (by omega),oM (by omega),oM (by omega),l];rw[show j*3-j*3=0 by omega,show j*3+1-j*3=1 by omega,show j*3+2-j*3=2 by omega];exact⟨rfl,rfl,rfl⟩
theorem tR (k:Nat):∀ u ∈ fo r q k,gp u:=by
 induction k with
 | zero=>intro u hu;cases hu
 | succ k ih =>
  intro u hu;rw[fo,DE]at hu
  rcases hu with hu | hu
  . exact ih u hu
  . simp at hu
    rcases hu with rfl | rfl | rfl
    . exact aD _
    . exact av _ _ _
    . exact aI _
theorem rD (h:∀ j,j < k->q j=q' j):fo r q k=fo r q' k:=by
 induction k with
 | zero=>rfl
 | succ k ih=>rw[fo,fo,ih (fun j hj=>h j (by omega)),h k (by omega)]
end
theorem pd.kept {xs:List Value}{row:Option Nat}(h:pd w base v n xs)(hg:w.grownBy w' row)(hne:v.ownBlock=none\/v.ownBlock≠row):pd w' base v n xs:=by
 refine⟨h.1.kept hg hne,fun g hv=>?_⟩;obtain⟨cur,hc,hn⟩:=h.2 g hv;refine⟨cur,(hg.block g (h.1.lt g hv).2 ?_).trans hc,hn⟩
 rcases hne with h1 | h1
 . rw[hv]at h1;cases h1
 . rw[hv]at h1;exact h1
theorem tj (b:Below w.heap.size w w'):w.grownBy w' none:=⟨b.os,b.tape,b.output,b.size,fun k hk _=>b.block k hk⟩
theorem xy {u:Value}{xs:List Value}(h:pd w base v n xs)(hg:w.grownBy w' v.ownBlock)(hn:am w u V):am w' u V:=by
 obtain⟨A,m,c,f,hv,hs,hc,he⟩:=hn;refine⟨A,m,c,f,hv,⟨hs.1,hs.2.1,fun hm=>?_⟩,hc,he⟩;obtain⟨ad,e,hb,hcell⟩:=hs.2.2 hm
 have hne:some ad.block≠v.ownBlock:=by
  intro hx;obtain⟨cur,hcur,hnu⟩:=h.2 ad.block hx.symm;have h0:=hcell 0 hm;rw[show ad.add 0=ad from by simp[Addr.add]]at h0;simp only[World.cell?,hcur]at h0
  split at h0
  . cases h0
  . have hmem:=Array.mem_of_getElem? h0
    exact hnu _ (Array.mem_toList_iff.2 hmem) _ rfl
 exact⟨ad,e,ou hb hg.size,fun j hj=>(World.cell?_of_block (hg.block _ (by rw[ao];exact hb) (by rw[ao];exact hne))).trans (hcell j hj)⟩
def iW (w:World)(base:Nat)(v:Value)(k:Nat)(r:Nat->DR):Prop:=∃ q,pd w base v k (fo r q k)/\∀ j,j < k->am w (.slice (q j).1 (q j).2.1 (q j).2.2) (r j).m
section
variable {w w':World} {base k:Nat} {v:Value} {r:Nat->DR}
theorem iW.nil (w:World)(base:Nat)(r:Nat->DR):iW w base (.slice none 0 0) 0 r:=⟨fun _=>(none,0,0),pd.nil w base,fun j hj=>by omega⟩
theorem iW.below (h:iW w base v k r)(b:Below w.heap.size w w'):iW w' base v k r:=by
 obtain⟨q,h1,h2⟩:=h;refine⟨q,h1.kept (tj b) ?_,fun j hj=>(h2 j hj).below b⟩;cases v.ownBlock
 . exact .inl rfl
 . exact .inr (fun h=>by cases h)
theorem iW.lt (h:iW w base v k r):∀ g,v.ownBlock=some g->base<=g/\g < w.heap.size:=by
 obtain⟨q,h1,_⟩:=h;exact h1.1.lt
theorem iW.append (T ty:TypeId)(hT:Tryz.prog.underlying T=some (.slice 24))(h:iW w base v k r)(hk:k<=1000)(ad:Addr)(A:OA)(n c:Nat)
 (hc0:w.cell? (ad.add 0)=some (.bool (r k).neg)) (hc1:w.cell? (ad.add 1)=some (.slice A n c)) (hc2:w.cell? (ad.add 2)=some (.int .i64 (r k).e)) (hn:am w (.slice A n c) (r k).m) (hbase:base<=w.heap.size) :
 ∃ v' w',(Builtin.append_ #[T,T] ty #[v,.slice (some ad) 1 1]).run qK w=.ok v' w'/\iW w' base v' (k+1) r/\w.grownBy w' v.ownBlock/\(∀ u V,am w u V->am w' u V)/\(∀ g,v.ownBlock=some g->base<=g)/\∀ g,v'.ownBlock=some g->v.ownBlock=some g\/w.heap.size<=g:=by
 obtain⟨q,h1,h2⟩:=h;obtain⟨v',w',hr,h3,h4,h5⟩:=mB T ty hT v k _ h1 hk (tR k) ad (r k).neg A n c (r k).e hc0 hc1 hc2 hbase
 have hN:∀ u V,am w u V->am w' u V:=fun u V hu=>xy h1 h4 hu
 refine⟨v',w',hr,⟨fun j=>if j=k then(A,n,c) else q j,?_,fun j hj=>?_⟩,h4,hN,fun g hg=>(h1.1.lt g hg).1,h5⟩
 . rw[fo,if_pos rfl,rD (q':=q) (fun j hj=>if_neg (by omega))]
   exact h3
 . by_cases e:j=k
   . subst e;simp only[if_true];exact hN _ _ hn
   . simp only[e,if_false];exact hN _ _ (h2 j (by omega))
theorem iW.other {k':Nat}{v' u:Value}{r':Nat->DR}(h:iW w base u k' r')(o:w.grownBy w' v.ownBlock)(hN:∀ u V,am w u V->am w' u V)(hne:u.ownBlock=none\/u.ownBlock≠v.ownBlock)
 (hf:∀ g,v'.ownBlock=some g->v.ownBlock=some g\/w.heap.size<=g):iW w' base u k' r'/\(u.ownBlock=none\/u.ownBlock≠v'.ownBlock):=by
 have hu:=h.lt;obtain⟨q,h1,h2⟩:=h;refine⟨⟨q,h1.kept o hne,fun j hj=>hN _ _ (h2 j hj)⟩,?_⟩
 cases hg:u.ownBlock with
 | none=>exact .inl rfl
 | some g =>
  refine .inr (fun e=>?_)
  rcases hf g e.symm with h3 | h3
  . rw[hg]at hne
    rcases hne with h4 | h4
    . cases h4
    . exact h4 h3.symm
  . have:=(hu g hg).2;omega
theorem iW.ls (h:iW w base v k r)(hk:0 < k)(hp:∀ j,j < k->(r j).ok=true/\aR (r j).neg (r j).m (r j).e=true):
 ∃ L cp l,v=.slice L k cp/\Ls w L k cp l/\(∀ j,j < k->l.n j<=400000)/\(∀ a b,a < k->b < k->oI l a b=cB (r a) (r b))/\∀ j,j < k->l.ng j=(r j).neg/\l.e j=(r j).e/\am w (.slice (l.A j) (l.n j) (l.c j)) (r j).m:=by
 obtain⟨q,h1,h2⟩:=h
 have hx:∀ j,∃ x:Nat->Nat,j < k->Sl w (q j).1 (q j).2.1 (q j).2.2 x/\(q j).2.1<=400000/\(r j).m=vs ai x (q j).2.1/\(r j).ok=aj (r j).neg (q j).2.1 x (r j).e:=by
  intro j
  by_cases hj:j < k
  . obtain⟨x,a1,a2,a3,a4⟩:=aC.of_num (h2 j hj) (hp j hj).2 (hp j hj).1
    exact⟨x,fun _=>⟨a1,a2,a3,a4⟩⟩
  . exact⟨fun _=>0,fun h=>absurd h hj⟩
 obtain⟨X,hX⟩:=Classical.axiomOfChoice hx
 rcases h1.1.2 with⟨_,h0⟩ | ⟨g,cap,cur,rfl,hb,hgg,hnc,hcm,hcs,htake⟩
 . omega
 have hcell:=h1.1.cells (g:=g) rfl;refine⟨_,cap,⟨fun j=>(r j).neg,fun j=>(q j).1,fun j=>(q j).2.1,fun j=>(q j).2.2,X,fun j=>(r j).e⟩,rfl,⟨hnc,fun _=>⟨⟨g,0,none⟩,rfl,(Array.getElem?_eq_some_iff.1 hgg).1,fun j hj=>?_⟩,fun j hj=>(hX j hj).1⟩,fun j hj=>(hX j hj).2.1,fun a b ha hb'=>?_,fun j hj=>⟨rfl,rfl,h2 j hj⟩⟩
 . obtain⟨c0,c1,c2⟩:=x7 (r:=r) (q:=q) hj
   have d0:=hcell _ _ c0;have d1:=hcell _ _ c1;have d2:=hcell _ _ c2
   have ha:∀ i,(⟨g,0,none⟩:Addr).add i=⟨g,i,none⟩:=fun i=>by unfold Addr.add;split <;> simp_all
   rw[ha]at d0 d1 d2;rw[ha];exact⟨d0,d1,d2⟩
 . unfold oI cB
   simp only
   rw[(hX a ha).2.2.2,(hX b hb').2.2.2,(hX a ha).2.2.1,(hX b hb').2.2.1]
theorem qZ {L:Value}(most:Bool)(w:World)(h:iW w base L 4 r)(hp:∀ j,j < 4->(r j).ok=true/\aR (r j).neg (r j).m (r j).e=true):
 Calls qK 102 #[L,.bool most] w (fg w (bp r most)):=by
 obtain⟨L',cp,l,rfl,h1,h2,h3,h4⟩:=h.ls (by omega) hp;refine(pS L' 4 cp l most w h1 (by omega) (by omega) h2).mono ?_;rintro e w' ⟨rfl,b⟩;have hb:=jr r most 3;rw[show(4-1:Nat)=3 from rfl,Ck l r most 4 h3 3 (by omega)];obtain⟨e1,e2,e3⟩:=h4 (gk r most 3) (by omega);unfold bp;rw[e1,e2];exact⟨_,_,_,rfl,e3.below b,b⟩
end
theorem fk {ops:Array Oper}{rest:List Oper}{o:Oper}{a:Act}{Q:Exit->Act->World->Prop}(hgd:o.guard=none)(s x:Operand)(T:TypeId)(ho:o.op=.call { callee:=.builtin .append,args:=#[s,x],argTypes:=#[T,T] })
 (hT:Tryz.prog.underlying T=some (.slice 24)) {base k:Nat} {v:Value} {r:Nat->DR} (hs:a.eval s=v) (h:iW w base v k r) (hk:k<=1000) (ad:Addr) (hx:a.eval x=.slice (some ad) 1 1) (A:OA) (n c:Nat)
 (hc0:w.cell? (ad.add 0)=some (.bool (r k).neg)) (hc1:w.cell? (ad.add 1)=some (.slice A n c)) (hc2:w.cell? (ad.add 2)=some (.int .i64 (r k).e)) (hn:am w (.slice A n c) (r k).m) (hbase:base<=w.heap.size)
 (hK:∀ v' w',iW w' base v' (k+1) r->w.grownBy w' v.ownBlock->(∀ u V,am w u V->am w' u V)->(∀ g,v.ownBlock=some g->base<=g)->(∀ g,v'.ownBlock=some g->v.ownBlock=some g\/w.heap.size<=g)->wpList qK ops Q rest (a.put o.dst v') w'):wpList qK ops Q (o :: rest) a w:=by
 refine wpList_plain hgd fun _ hK'=>?_
 obtain⟨v',w',hrun,h1,h2,h3,h4,h5⟩:=h.append T o.type hT hk ad A n c hc0 hc1 hc2 hn hbase;unfold Oper.wp execOp;simp only[ho,resolve,invoke,builtin,Sem.run_bind,Sem.run_pure,Result.andThen_ok,List.map_toArray,List.map_cons,List.map_nil,hs,hx,hrun];exact hK' _ _ (hK v' w' h1 h2 h3 h4 h5)
def FC (B:Nat):List (TypeId×Nat×Array Value)->Prop
 | []=>True
 | (_,a,_) :: r=>a < B/\FC B r
theorem KS.grown {g B:Nat}{row:Option Nat}(o:w.grownBy w' row)(hr:∀ a,row=some a->B<=a):∀ {ks:List (TypeId×Nat×Array Value)},KS w g ks->FC B ks->KS w' g ks
 | [],_,_=>trivial
 | (_,_,_) :: _,h,hne=>⟨⟨⟨(o.block _ h.1.1.2 (fun e=>by have:=hr _ e.symm;have:=hne.1;omega)).trans h.1.1.1,ou h.1.1.2 o.size⟩,h.1.2⟩,KS.grown o hr h.2 hne.2⟩
section
variable {T:TypeId} {w wi wj:World} {g:Nat} {p:Int} {bad:Bool} {ks:List (TypeId×Nat×Array Value)} {ns:List (Value×Nat)}
theorem St.grown {B:Nat}{row:Option Nat}(h:St T w g p bad wi ks [])(o:wi.grownBy wj row)(hB:w.heap.size<=B)(hr:∀ a,row=some a->B<=a)(hk:FC B ks):St T w g p bad wj ks []:=by
 have h0:=h.hg;refine⟨h.hg,⟨o.os.trans h.O.os,o.tape.trans h.O.tape,o.output.trans h.O.output,Nat.le_trans h.O.size o.size,fun k hk' hne=>(o.block k (ou hk' h.O.size) (fun e=>by have:=hr _ e.symm;omega)).trans (h.O.block k hk' hne)⟩,⟨?_,ou h.W.2 o.size⟩,h.ks.grown o hr hk,trivial⟩;exact(o.block g h.W.2 (fun e=>by have:=hr _ e.symm;omega)).trans h.W.1
theorem St.drop {k:TypeId×Nat×Array Value}(h:St T w g p bad wi (k :: ks) ns):St T w g p bad wi ks ns:=⟨h.hg,h.O,h.W,h.ks.2,h.ns⟩
theorem St.forget (h:St T w g p bad wi ks ns):St T w g p bad wi ks []:=⟨h.hg,h.O,h.W,h.ks,trivial⟩
end
theorem ld {T:TypeId}{a:Nat}{r:Nat->DR}{na:Bool}{A:OA}{c:Nat}{e:Int}(hk:KC T w a #[.bool na,.slice A n c,.int .i64 e])(h:iW w base v k r)(hne:v.ownBlock≠some a)(x y z:Value):iW (put3 w a x y z) base v k r:=by
 obtain⟨q,h1,h2⟩:=h;exact⟨q,h1.kept (aZ w a x y z) (.inr hne),fun j hj=>eK (h2 j hj) hk x y z⟩
theorem qR (w:World)(a b c:Value):(w.alloc (bJ a b c)).cell? ((⟨w.heap.size,0,none⟩:Addr).add 0)=some a/\(w.alloc (bJ a b c)).cell? ((⟨w.heap.size,0,none⟩:Addr).add 1)=some b/\(w.alloc (bJ a b c)).cell? ((⟨w.heap.size,0,none⟩:Addr).add 2)=some c:=by
 have k:=KC.made 24 w #[a,b,c]
 have ha:∀ i,(⟨w.heap.size,0,none⟩:Addr).add i=⟨w.heap.size,i,none⟩:=fun i=>by unfold Addr.add;split <;> simp_all
 rw[ha,ha,ha];exact(k.c3)
theorem KC.grownR {T:TypeId}{a:Nat}{cs:Array Value}{row:Option Nat}(h:KC T w a cs)(o:w.grownBy w' row)(hne:row≠some a):KC T w' a cs:=⟨(o.block a h.2 (fun e=>hne e.symm)).trans h.1,ou h.2 o.size⟩
theorem wG {a b:Option Nat}(h:a=none\/a≠b):b=none\/b≠a:=by
 rcases h with rfl | h
 . cases b
   . exact .inl rfl
   . exact .inr (fun h=>by cases h)
 . exact .inr (fun e=>h e.symm)
theorem rj (lo hi:DR)(A B:OA)(n c m d k:Nat)(hk:k < 2):∃ X a b,(∀ w' gx ax,ax=(⟨gx,0,none⟩:Addr)->KC 24 w' gx #[.bool lo.neg,.slice A n c,.int .i64 lo.e,.bool hi.neg,.slice B m d,.int .i64 hi.e] ->
 w'.cell? (ax.add (k*3))=some (.bool (if k=0 then lo else hi).neg)/\w'.cell? ⟨(ax.add (k*3)).block,(ax.add (k*3)).off+1,none⟩=some (.slice X a b)/\w'.cell? ⟨(ax.add (k*3)).block,(ax.add (k*3)).off+2,none⟩=some (.int .i64 (if k=0 then lo else hi).e)) /\
 ∀ w',aC w' A n c lo->aC w' B m d hi->aC w' X a b (if k=0 then lo else hi):=by
 have ha:∀ gx i,(⟨gx,0,none⟩:Addr).add i=⟨gx,i,none⟩:=fun gx i=>by unfold Addr.add;split <;> simp_all
 have:k=0\/k=1:=by omega
 rcases this with rfl | rfl
 . refine⟨A,n,c,fun w' gx ax e h=>?_,fun w' h1 h2=>h1⟩
   subst e;rw[ha];exact(h.c3)
 . refine⟨B,m,d,fun w' gx ax e h=>?_,fun w' h1 h2=>h2⟩
   subst e;rw[ha];exact⟨h.at_ 3 _ rfl,h.at_ 4 _ rfl,h.at_ 5 _ rfl⟩
end Go.Proofs.YtmbmohibpkepdaaGreatDoor
