import Derived.Below
import Derived.Laws.OwnMore
import Derived.Deep.AppendLies
import Derived.Deep.Draws
import Derived.Laws.Rows
import Derived.RowKit
import Derived.Deep.OwnRows
import Derived.Laws.AppendOwn
import Derived.Laws.CopyOwn
import Derived.Lib.Hide
import Derived.Maps.AppendAt
import Derived.OwnWalk
import Derived.Laws.NewBlocks
import Derived.Laws.AppendOwnNone
import Derived.Deep.RegionLaw
import Derived.Test.YtmbmohibpkepdaaGreatDoorRows
import Derived.WalkKit
import Derived.ProofKit
import Derived.Outline
import Derived.Laws.Externs
import Derived.Shelf.Spec.BitsCarry
import Derived.Laws.BitsAllLaws
import Derived.Laws.Bits64
import Derived.IntWalk
import Derived.Lib.ItoaNum
import Derived.Lib.TrailingZeros
set_option maxHeartbeats 400000
open Nat renaming mul_le_mul_right->lY, two_pow_pos->mF, pow_add->ou, add_mul->oM, mul_le_mul_left->oY, mul_comm->qK, mul_add->tz, eq_zero_or_pos->yb, lt_or_ge->Bl, mul_assoc->Bx, lt_of_le_of_lt->DF, le_div_iff_mul_le->EM, add_sub_cancel->Gk, pow_lt_pow_iff_right->Gl, div_lt_of_lt_mul->Gm, div_eq_of_lt->Gn, lt_of_lt_of_le->Gp, add_mul_div_right->Gq, one_mul->Gr, div_add_mod->Gs, le_refl->Gt, pow_le_pow_right->Gu, eq_of_mul_eq_mul_right->Gv, zero_add->Gw, mod_lt->Gx, zero_le->Gy, mul_one->Gz, mul_mod_mul_left->GD, add_sub_cancel'->GE, div_mul_le_self->GF, pow_succ->GG, zero_mul->GH, add_zero->GI, two_pow_add_eq_or_of_lt->GJ, add_comm->GK, add_assoc->GP, div_le_self->GQ, mul_div_mul_right->GR, div_lt_iff_lt_mul->GT, le_sub_one_of_lt->GU, mod_eq_of_lt->GY, add_mod->GZ, mul_pos->G0, le_antisymm->G6, mul_add_div->G7, mul_le_mul->G8, zero_mod->G9, pow_pos->Ha, pow_mul->Hb
open List renaming getElem?_eq_none->DE, getElem?_append_right->GM, getElem?_append_left->GN, ext_getElem?->GO, getElem?_take->GW
open Array renaming getElem?_toList->GC, getElem?_eq_some_iff->GL
open Go.Proofs.Tryz renaming prog->GV
namespace Go.Proofs.YtmbmohibpkepdaaGreatDoor
variable {A:Option Addr} {B V b c j n p r y:Nat} {a w:World} {f g:Nat->Nat}
def ai:Nat:=18446744073709551616
abbrev OA:Type:=Option Addr
theorem du {α:Type}(a:α): ∃ x,x=a:=⟨_,rfl⟩
theorem bm:0 < ai:=by unfold ai;omega
def vs (b:Nat)(f:Nat->Nat):Nat->Nat
 | 0=>0
 | n+1=>vs b f n+f n*b^n
def Cn (n:Nat)(f:Nat->Nat):Prop:=n=0\/f (n-1)≠0
def tl (f:Nat->Nat):Nat->Nat
 | 0=>0
 | k+1=>if f k=0 then tl f k else k+1
def fF (f:Nat->Nat)(i x:Nat):Nat->Nat:=fun j=>if j=i then x else f j
theorem bO (f:Nat->Nat)(i x:Nat):fF f i x i=x:=by simp[fF]
theorem aU (f:Nat->Nat)(i x j:Nat)(h:j≠i):fF f i x j=f j:=by simp[fF,h]
theorem aL (b:Nat)(f:Nat->Nat):vs b f 0=0:=rfl
theorem aA (b:Nat)(f:Nat->Nat)(n:Nat):vs b f (n+1)=vs b f n+f n*b^n:=rfl
theorem bg (h:∀ j,j < n->f j=g j):vs b f n=vs b g n:=by
 induction n with
 | zero=>rfl
 | succ n ih=>rw[aA,aA,ih (fun j hj=>h j (by omega)),h n (by omega)]
theorem bL (h:∀ j,j < n->f j < b):vs b f n < b^n:=by
 induction n with
 | zero=>simp[aL]
 | succ n ih =>
  have h1:=ih (fun j hj=>h j (by omega));have h2:=h n (by omega);rw[aA,GG];have h3:(f n+1)*b^n<=b*b^n:=lY _ h2;rw[oM,Gr]at h3;rw[qK (b^n) b];omega
theorem cW (b:Nat)(f:Nat->Nat)(m n:Nat):vs b f (m+n)=vs b f m+b^m*vs b (fun j=>f (m+j)) n:=by
 induction n with
 | zero=>simp[aL]
 | succ n ih =>
  rw[← GP,aA,ih,aA,tz,ou]
  have:f (m+n)*(b^m*b^n)=b^m*(f (m+n)*b^n):=by ac_rfl
  omega
theorem dU (b:Nat)(f:Nat->Nat)(i x n:Nat)(h:n<=i):vs b (fF f i x) n=vs b f n :=
 bg fun j hj=>aU f i x j (by omega)
theorem dK (b:Nat)(f:Nat->Nat)(n:Nat):vs b f (tl f n)=vs b f n:=by
 induction n with
 | zero=>rfl
 | succ n ih =>
  unfold tl
  by_cases h:f n=0
  . rw[if_pos h,ih,aA,h,GH,GI]
  . rw[if_neg h]
theorem cJ (f:Nat->Nat)(n:Nat):tl f n<=n:=by
 induction n with
 | zero=>exact Gt _
 | succ n ih=>unfold tl;split <;> omega
theorem fT (f:Nat->Nat)(n:Nat):Cn (tl f n) f:=by
 induction n with
 | zero=>exact .inl rfl
 | succ n ih =>
  unfold tl
  by_cases h:f n=0
  . rw[if_pos h];exact ih
  . rw[if_neg h];exact .inr (by simpa using h)
theorem pj (h:Cn n f)(hn:0 < n):b^(n-1)<=vs b f n:=by
 rcases h with h | h
 . omega
 . obtain⟨k,rfl⟩:∃ k,n=k+1:=⟨n-1,by omega⟩
   rw[aA]
   have:1*b^k<=f k*b^k:=lY _ (by simp only[Gk]at h;omega)
   simp only[Gk];omega
theorem jZ (hb:0 < b)(h:Cn n f)(hv:vs b f n=0):n=0:=by
 rcases yb n with h0 | h0
 . exact h0
 . have h1:=pj (b:=b) h h0
   have h2:0 < b^(n-1):=Ha hb;omega
theorem ib {m:Nat}(hb:1 < b)(h:Cn n f)(hv:vs b f n < b^m):n<=m:=by
 rcases yb n with h0 | h0
 . omega
 . have h1:=pj (b:=b) h h0
   have h2:b^(n-1) < b^m:=by omega
   have h3:=(Gl hb).1 h2;omega
theorem xT (hf:∀ j,j < n->f j < b)(hg:∀ j,j < n->g j < b)(hv:vs b f n=vs b g n):∀ j,j < n->f j=g j:=by
 induction n with
 | zero=>intro j hj;omega
 | succ n ih =>
  have h1:=bL (fun j hj=>hf j (by omega):∀ j,j < n->f j < b);have h2:=bL (fun j hj=>hg j (by omega):∀ j,j < n->g j < b);rw[aA,aA]at hv
  have hp:0 < b^n:=by omega
  have e1:f n=g n:=by
   have a1:(vs b f n+f n*b^n)/b^n=f n:=by rw[Gq _ _ hp,Gn h1,Gw]
   have a2:(vs b g n+g n*b^n)/b^n=g n:=by rw[Gq _ _ hp,Gn h2,Gw]
   rw[← a1,← a2,hv]
  have e2:vs b f n=vs b g n:=by rw[e1]at hv;omega
  intro j hj
  rcases Bl j n with hlt | hge
  . exact ih (fun j hj=>hf j (by omega)) (fun j hj=>hg j (by omega)) e2 j hlt
  . have:j=n:=by omega
    subst this;exact e1
theorem Ao {m:Nat}(hb:1 < b)(hf:∀ j,j < n->f j < b)(hg:∀ j,j < m->g j < b)(cf:Cn n f)(cg:Cn m g)(hv:vs b f n=vs b g m):
 n=m/\∀ j,j < n->f j=g j:=by
 have h1:=ib hb cf (hv ▸ bL hg);have h2:=ib hb cg (hv ▸ bL hf)
 have:n=m:=by omega
 subst this;exact⟨rfl,xT hf hg hv⟩
theorem ul (b x:Nat)(y:Nat->Nat)(n:Nat):vs b (fun j=>x*y j) n=x*vs b y n:=by
 induction n with
 | zero=>simp[aL]
 | succ n ih=>rw[aA,aA,ih,tz,Bx]
theorem kI {S Y s d:Nat}(h:V+c*b^n=S+Y)(hr:r+d*b=s+y+c):V+r*b^n+d*b^(n+1)=S+s*b^n+(Y+y*b^n):=by
 have h1:(r+d*b)*b^n=(s+y+c)*b^n:=by rw[hr]
 rw[oM,oM,oM]at h1
 have h2:d*b^(n+1)=d*b*b^n:=by rw[GG];ac_rfl
 omega
open Go.RowKit
theorem ao (a:Addr)(n:Nat):(a.add n).block=a.block:=by unfold Addr.add;split <;> rfl
theorem oO (a:Addr)(i j:Nat):(a.add i).add j=a.add (i+j):=by
 unfold Addr.add
 by_cases hi:i=0 <;> by_cases hj:j=0 <;> simp[hi,hj,GP]
def Sl (w:World)(A:Option Addr)(n c:Nat)(f:Nat->Nat):Prop :=
 n<=c/\(∀ j,j < n->f j < ai) /\
  (0 < n->∃ ad,A=some ad/\ad.block < w.heap.size/\∀ j,j < n->w.cell? (ad.add j)=some (.int .u64 ((f j:Nat):Int)))
def am (w:World)(v:Value)(V:Nat):Prop:=∃ A n c f,v=.slice A n c/\Sl w A n c f/\Cn n f/\vs ai f n=V
section
variable {w w':World} {A:Option Addr} {n c:Nat} {f:Nat->Nat}
theorem Sl.cap (h:Sl w A n c f):n<=c:=h.1
theorem Sl.small (h:Sl w A n c f):∀ j,j < n->f j < ai:=h.2.1
theorem Sl.none_ (w:World)(c:Nat)(A:Option Addr)(f:Nat->Nat):Sl w A 0 c f:=⟨Gy _,fun j h=>absurd h (by omega),fun h=>absurd h (by omega)⟩
theorem Sl.at_ {k:Nat}(h:Sl w A n c f)(hk:k < n):∃ ad,A=some ad/\ad.block < w.heap.size/\f k < ai/\w.cell? (ad.add k)=some (.int .u64 ((f k:Nat):Int)):=by
 obtain⟨_,h2,h3⟩:=h;obtain⟨ad,e,hb,hc⟩:=h3 (by omega);exact⟨ad,e,hb,h2 k hk,hc k hk⟩
theorem Sl.keep (h:Sl w A n c f)(hz:w.heap.size<=w'.heap.size)(hk:∀ p:Addr,p.block < w.heap.size->w'.cell? p=w.cell? p):Sl w' A n c f :=
 ⟨h.1,h.2.1,fun hn=>by
  obtain⟨ad,e,hb,hc⟩:=h.2.2 hn
  exact⟨ad,e,by omega,fun j hj=>(hk _ (by rw[ao];exact hb)).trans (hc j hj)⟩⟩
theorem Sl.below (h:Sl w A n c f)(hb:Below w.heap.size w w'):Sl w' A n c f:=h.keep hb.size fun _ hp=>hb.cell hp
theorem Sl.drew (h:Sl w A n c f):Sl w.drew A n c f:=h
theorem Sl.drewN (h:Sl w A n c f)(k:Nat):Sl (w.drewN k) A n c f:=h
theorem Sl.alloc (h:Sl w A n c f)(o:Obj):Sl (w.alloc o) A n c f:=h.keep (by simp) fun p hp=>World.cell?_alloc_lt w o p hp
theorem Sl.take (h:Sl w A n c f){k:Nat}(hk:k<=n):Sl w A k c f:=by
 obtain⟨h1,h2,h3⟩:=h;refine⟨by omega,fun j hj=>h2 j (by omega),fun hn=>?_⟩;obtain⟨ad,e,hb,hc⟩:=h3 (by omega);exact⟨ad,e,hb,fun j hj=>hc j (by omega)⟩
theorem Sl.congr (h:Sl w A n c f)(hg:∀ j,j < n->f j=g j):Sl w A n c g:=by
 obtain⟨h1,h2,h3⟩:=h;refine⟨h1,fun j hj=>hg j hj ▸ h2 j hj,fun hn=>?_⟩;obtain⟨ad,e,hb,hc⟩:=h3 hn;exact⟨ad,e,hb,fun j hj=>by rw[← hg j hj];exact hc j hj⟩
theorem am.below {v:Value}(h:am w v V)(hb:Below w.heap.size w w'):am w' v V:=by
 obtain⟨A,n,c,f,hv,hs,hc,he⟩:=h;exact⟨A,n,c,f,hv,hs.below hb,hc,he⟩
end
def nl (A:Option Addr)(c k:Nat):Value:=if k=0 then .slice none 0 0 else .slice A k c
theorem cm (h:Sl w A n c f):∃ A' c',nl A c (tl f n)=.slice A' (tl f n) c'/\Sl w A' (tl f n) c' f:=by
 unfold nl
 by_cases h0:tl f n=0
 . rw[if_pos h0,h0];exact⟨none,0,rfl,Sl.none_ w 0 none f⟩
 . rw[if_neg h0];exact⟨A,c,rfl,h.take (cJ f n)⟩
theorem eE (h:Sl w A n c f):am w (nl A c (tl f n)) (vs ai f n):=by
 obtain⟨A',c',e,hs⟩:=cm h;exact⟨A',_,c',f,e,hs,fT f n,dK _ f n⟩
def dG (t:TypeId)(w:World)(g N:Nat)(F:Nat->Nat):Prop :=
 (∃ c:Array Value,w.heap[g]?=some (.cells c t (0,0))/\N<=c.size/\∀ i,i < N->c[i]?=some (.int .u64 ((F i:Nat):Int)))/\∀ j,j < N->F j < ai
abbrev az (w w':World)(g:Nat):Prop:=w.grownBy w' (some g)
section
variable {t:TypeId} {w w':World} {g N:Nat} {F:Nat->Nat}
theorem dG.lt (h:dG t w g N F):g < w.heap.size:=by
 obtain⟨⟨c,hb,_⟩,_⟩:=h;exact(GL.1 hb).1
theorem dG.cell (h:dG t w g N F){i:Nat}(hi:i < N):w.cell? ⟨g,i,none⟩=some (.int .u64 ((F i:Nat):Int)):=by
 obtain⟨⟨c,hb,_,hc⟩,_⟩:=h
 simp[World.cell?,hb,hc i hi]
theorem dG.frozen (h:dG t w g N F)(i:Nat):w.frozen? ⟨g,i,none⟩=false:=by
 obtain⟨⟨c,hb,_,_⟩,_⟩:=h
 simp[World.frozen?,hb]
theorem dG.set_ (h:dG t w g N F)(i x:Nat)(hx:x < ai):dG t (w.setCell ⟨g,i,none⟩ (.int .u64 ((x:Nat):Int))) g N (fF F i x):=by
 obtain⟨⟨c,hb,hn,hc⟩,h2⟩:=h;refine⟨⟨c.setIfInBounds i (.int .u64 ((x:Nat):Int)),by simp[World.setCell,Array.getElem?_modify,hb],by simpa using hn,fun j hj=>?_⟩,fun j hj=>?_⟩
 . rw[Array.getElem?_setIfInBounds]
   by_cases e:j=i
   . subst e;rw[if_pos rfl,if_pos (by omega),bO]
   . rw[if_neg (fun h=>e h.symm),aU _ _ _ _ e];exact hc j hj
 . unfold fF;split
   . exact hx
   . exact h2 j hj
theorem dG.of_block (h:dG t w g N F)(e:w'.heap[g]?=w.heap[g]?):dG t w' g N F:=by
 obtain⟨⟨c,hb,r⟩,h2⟩:=h;exact⟨⟨c,e.trans hb,r⟩,h2⟩
theorem dG.alloc (h:dG t w g N F)(o:Obj):dG t (w.alloc o) g N F:=h.of_block (Below.heap_alloc w o g h.lt)
theorem dG.drew (h:dG t w g N F):dG t w.drew g N F:=h
theorem dG.drewN (h:dG t w g N F)(n:Nat):dG t (w.drewN n) g N F:=h
theorem dG.below (h:dG t w g N F)(hb:Below B w w')(hg:g < B):dG t w' g N F:=h.of_block (hb.block g hg)
theorem dG.other (h:dG t w g N F){g':Nat}(ho:az w w' g')(hne:g≠g'):dG t w' g N F:=h.of_block (ho.block g h.lt (by simpa using hne))
theorem dG.congr {G:Nat->Nat}(h:dG t w g N F)(e:∀ j,j < N->F j=G j):dG t w g N G:=by
 obtain⟨⟨c,hb,hn,hc⟩,h2⟩:=h;exact⟨⟨c,hb,hn,fun i hi=>by rw[hc i hi,e i hi]⟩,fun j hj=>e j hj ▸ h2 j hj⟩
theorem dG.made (t:TypeId)(w:World)(n:Nat):dG t (w.alloc (.cells (madeCells #[.int .u64 0] n) t)) w.heap.size n (fun _=>0):=by
 obtain⟨c,hb,hn,hc⟩:=World.rowIs_made w (.int .u64 0) n t;exact⟨⟨c,hb,by omega,hc⟩,fun _ _=>bm⟩
theorem az.refl (w:World)(g:Nat):az w w g:=⟨rfl,rfl,rfl,Gt _,fun _ _ _=>rfl⟩
theorem az.trans {b c:World}{g:Nat}(h:az a b g)(k:az b c g):az a c g :=
 ⟨k.os.trans h.os,k.tape.trans h.tape,k.output.trans h.output,Nat.le_trans h.size k.size,fun i hi hne=>(k.block i (Gp hi h.size) hne).trans (h.block i hi hne)⟩
theorem az.set_ (h:az a w g)(i:Nat)(u:Value):az a (w.setCell ⟨g,i,none⟩ u) g :=
 ⟨h.os,h.tape,h.output,by simpa [World.setCell] using h.size,fun i hi hne=>(Below.heap_setCell w _ u i (by intro e;exact hne (by rw[e]))).trans (h.block i hi hne)⟩
theorem az.below (h:Below B a w)(k:az w w' g)(hB:B<=w.heap.size)(hg:B<=g):Below B a w' :=
 h.grown k hB fun i hi=>by injection hi with hi;omega
theorem Sl.only (h:Sl w A n c f)(k:az w w' g)(hne:0 < n->∀ ad,A=some ad->ad.block≠g):Sl w' A n c f :=
 ⟨h.1,h.2.1,fun hn=>by
  obtain⟨ad,e,hb,hc⟩:=h.2.2 hn
  exact⟨ad,e,Gp hb k.size,fun j hj=>(World.cell?_of_block (k.block _ (by rw[ao];exact hb) (by rw[ao];have:=hne hn ad e;simpa using this))).trans (hc j hj)⟩⟩
theorem Sl.far (h:Sl w A n c f)(hg:w.heap.size<=g):0 < n->∀ ad,A=some ad->ad.block≠g:=fun hn ad e=>by
 obtain⟨ad',e',hb,_⟩:=h.2.2 hn;rw[e]at e'
 injection e' with e'
 subst e';omega
theorem rF (g off j:Nat):(Addr.mk g off none).add j=⟨g,off+j,none⟩:=by
 unfold Addr.add;split
 . rename_i h;subst h;rfl
 . rfl
theorem dG.sl (h:dG t w g N F)(off n c:Nat)(hN:off+n<=N)(hc:n<=c):Sl w (some ⟨g,off,none⟩) n c (fun j=>F (off+j)) :=
 ⟨hc,fun j hj=>h.2 _ (by omega),fun _=>⟨_,rfl,h.lt,fun j hj=>by rw[rF];exact h.cell (by omega)⟩⟩
theorem dG.sl0 (h:dG t w g N F)(n c:Nat)(hN:n<=N)(hc:n<=c):Sl w (some ⟨g,0,none⟩) n c F :=
 (h.sl 0 n c (by omega) hc).congr fun j _=>by rw[Gw]
end
def eC (t:TypeId)(D:Nat)(w wr:World)(g N off:Nat)(F F' y:Nat->Nat)(m k d:Nat):Prop :=
 d<=D/\dG t wr g N F'/\az w wr g/\(∀ j,j < off\/off+k<=j->F' j=F j) /\
  vs ai (fun j=>F' (off+j)) k+d*ai^k=vs ai (fun j=>F (off+j)) k+vs ai (fun j=>if j < m then y j else 0) k
section
variable {t:TypeId} {w wr:World} {g N off:Nat} {F F' y:Nat->Nat} {m k d D:Nat}
theorem eC.start (h:dG t w g N F):eC t D w w g N off F F y m 0 0:=⟨Gy _,h,az.refl _ _,fun _ _=>rfl,by simp[aL]⟩
theorem eC.step (h:eC t D w wr g N off F F' y m k d){d':Nat}(hr:r+d'*ai=F (off+k)+(if k < m then y k else 0)+d)(h1:r < ai)(h2:d'<=D):
 eC t D w (wr.setCell ⟨g,off+k,none⟩ (.int .u64 ((r:Nat):Int))) g N off F (fF F' (off+k) r) y m (k+1) d':=by
 obtain⟨_,hrow,hon,hag,hv⟩:=h;refine⟨h2,hrow.set_ _ _ h1,hon.set_ _ _,fun j hj=>?_,?_⟩
 . rw[aU _ _ _ _ (by omega)];exact hag j (by omega)
 . rw[aA,aA,aA,bO]
   have e:vs ai (fun j=>fF F' (off+k) r (off+j)) k=vs ai (fun j=>F' (off+j)) k:=bg fun j hj=>aU _ _ _ _ (by omega)
   rw[e];exact kI hv hr
theorem eC.rest (h:eC t D w wr g N off F F' y m k 0)(hm:m<=k)(i:Nat):eC t D w wr g N off F F' y m (k+i) 0:=by
 induction i with
 | zero=>exact h
 | succ i ih =>
  obtain⟨_,hrow,hon,hag,hv⟩:=ih;refine⟨Gy _,hrow,hon,fun j hj=>h.2.2.2.1 j (by omega),?_⟩;rw[← GP,aA,aA,aA,if_neg (by omega),h.2.2.2.1 (off+(k+i)) (by omega)];simp only[GH,GI]at hv ⊢;omega
theorem fl (b:Nat)(y:Nat->Nat)(m n:Nat)(h:m<=n):vs b (fun j=>if j < m then y j else 0) n=vs b y m:=by
 obtain⟨i,rfl⟩:=Nat.exists_eq_add_of_le h;clear h
 induction i with
 | zero=>exact bg fun j hj=>by rw[if_pos (by omega)]
 | succ i ih=>rw[← GP,aA,ih,if_neg (by omega),GH,GI]
end
def cellsOf (f:Nat->Nat)(n:Nat):List Value:=(List.range n).map fun j=>Value.int .u64 ((f j:Nat):Int)
theorem bs (f:Nat->Nat)(n:Nat):(cellsOf f n).length=n:=by simp[cellsOf]
theorem oJ {u:Value}(h:(cellsOf f n)[j]?=some u):j < n/\u=.int .u64 ((f j:Nat):Int):=by
 have hl:j < n:=by
  rcases Bl j n with h1 | h1
  . exact h1
  . rw[DE (by rw[bs];exact h1)]at h;cases h
 refine⟨hl,?_⟩
 simp[cellsOf,hl]at h
 exact h.symm
theorem dz (h:j < n):(cellsOf f n)[j]?=some (.int .u64 ((f j:Nat):Int)):=by simp[cellsOf,h]
theorem my :∀ u ∈ cellsOf f n,u.oneCell'=true:=by
 intro u hu;simp only[cellsOf,List.mem_map]at hu;obtain⟨j,_,rfl⟩:=hu
 rfl
theorem pc (h:∀ j,j < n->f j=g j):cellsOf f n=cellsOf g n:=by
 apply GO
 intro j
 rcases Bl j n with h1 | h1
 . rw[dz h1,dz h1,h j h1]
 . rw[DE (by rw[bs];exact h1),DE (by rw[bs];exact h1)]
def kx (f:Nat->Nat)(n:Nat)(h:Nat->Nat):Nat->Nat:=fun j=>if j < n then f j else h (j-n)
theorem tQ (f h:Nat->Nat)(n m:Nat):cellsOf (kx f n h) (n+m)=cellsOf f n ++ cellsOf h m:=by
 apply GO
 intro j
 rcases Bl j n with h1 | h1
 . rw[dz (by omega),GN (by rw[bs];exact h1),dz h1]
   simp[kx,h1]
 . rw[GM (by rw[bs];exact h1),bs]
   rcases Bl j (n+m) with h2 | h2
   . rw[dz h2,dz (by omega)]
     simp[kx,Nat.not_lt.2 h1]
   . rw[DE (by rw[bs];exact h2),DE (by rw[bs];omega)]
def ig (t:TypeId)(w:World)(base:Nat)(v:Value)(n:Nat)(f:Nat->Nat):Prop:=w.ownsRow base t 1 v n (cellsOf f n)/\∀ j,j < n->f j < ai
section
variable {t:TypeId} {w w':World} {base:Nat} {v:Value} {n:Nat} {f:Nat->Nat}
theorem ig.nil (t:TypeId)(w:World)(base:Nat)(f:Nat->Nat):ig t w base (.slice none 0 0) 0 f:=⟨⟨rfl,.inl ⟨rfl,rfl⟩⟩,fun j h=>absurd h (by omega)⟩
theorem ig.empty (t:TypeId)(w:World)(base:Nat)(f:Nat->Nat)(hb:base<=w.heap.size):ig t (w.alloc (.cells #[] t)) base (.slice (some ⟨w.heap.size,0,none⟩) 0 0) 0 f :=
 ⟨⟨rfl,.inr ⟨w.heap.size,0,#[],rfl,hb,heap_alloc_new w _,Gt _,Gy _,rfl,rfl⟩⟩,fun j h=>absurd h (by omega)⟩
theorem ig.made (t:TypeId)(w:World)(base n:Nat)(hb:base<=w.heap.size)(hn:n<=1000000):ig t (w.alloc (.cells (madeCells #[.int .u64 0] n) t)) base (.slice (some ⟨w.heap.size,0,none⟩) n n) n (fun _=>0):=by
 refine⟨⟨by rw[bs];omega,.inr ⟨w.heap.size,n,_,rfl,hb,heap_alloc_new w _,Gt _,by simp only[maxLen];omega,by rw[size_madeCells];omega,?_⟩⟩,fun _ _=>bm⟩;rw[toList_madeCells_one,List.take_of_length_le (by simp)]
 apply GO
 intro j
 rcases Bl j n with h1 | h1
 . rw[dz h1];simp[h1]
 . rw[DE (by simpa using h1),DE (by rw[bs];exact h1)]
theorem ig.row {t:TypeId}{base:Nat}{v:Value}(h:ig t w base v n f)(hn:0 < n):∃ g c,v=.slice (some ⟨g,0,none⟩) n c/\base<=g/\n<=c/\dG t w g n f:=by
 obtain⟨⟨hl,h1⟩,h2⟩:=h
 rcases h1 with⟨_,h0⟩ | ⟨g,cap,cur,rfl,hg,hh,hnc,hcm,hcs,hct⟩
 . omega
 . refine⟨g,cap,rfl,hg,hnc,⟨cur,hh,by omega,fun j hj=>?_⟩,h2⟩
   have e1:(cellsOf f n)[j]?=cur.toList[j]?:=by rw[← hct,GW,if_pos (by omega)]
   rw[dz hj,GC]at e1;exact e1.symm
theorem ig.alloc (h:ig t w base v n f)(o:Obj):ig t (w.alloc o) base v n f:=⟨h.1.alloc o,h.2⟩
theorem ig.congr (h:ig t w base v n f)(e:∀ j,j < n->f j=g j):ig t w base v n g:=by
 refine⟨?_,fun j hj=>e j hj ▸ h.2 j hj⟩
 rw[← pc e];exact h.1
theorem ig.sl (h:ig t w base v n f):∃ A c,v=.slice A n c/\Sl w A n c f/\∀ ad,A=some ad->base<=ad.block:=by
 obtain⟨⟨hl,h1⟩,h2⟩:=h
 rcases h1 with⟨rfl,rfl⟩ | ⟨g,cap,cur,rfl,hg,hh,hnc,hcm,hcs,hct⟩
 . exact⟨none,0,rfl,Sl.none_ w 0 none f,fun ad e=>by cases e⟩
 . refine⟨_,cap,rfl,⟨hnc,h2,fun hn=>⟨_,rfl,?_,fun j hj=>?_⟩⟩,fun ad e=>by injection e with e;subst e;exact hg⟩
   . exact(GL.1 hh).1
   . rw[rF,Gw]
     have e1:(cellsOf f n)[j]?=cur.toList[j]?:=by rw[← hct,GW,if_pos (by omega)]
     rw[dz hj]at e1
     simp[World.cell?,hh]
     rw[GC]at e1;exact e1.symm
end
section
variable {P:Program} {w:World} {ops:Array Oper} {rest:List Oper} {o:Oper} {a:Act} {Q:Exit->Act->World->Prop}
theorem eG (hgd:o.guard=none)(d s:Operand)(T:TypeId)(ho:o.op=.call { callee:=.builtin .copy,args:=#[d,s],argTypes:=#[T,T] })
 (E:TypeId) (hu:P.underlying T=some (.slice E)) (hsz:(P.info? E).map (·.size)=some 1) (t:TypeId) (g N dLen dCap:Nat) (F:Nat->Nat) (A:Option Addr) (sLen sCap:Nat) (f:Nat->Nat)
 (hd:a.eval d=.slice (some ⟨g,0,none⟩) dLen dCap) (hs:a.eval s=.slice A sLen sCap) (hr:dG t w g N F) (hdl:dLen<=N) (hf:Sl w A sLen sCap f) (hle:sLen<=dLen)
 (h:∀ w',dG t w' g N (fun j=>if j < sLen then f j else F j)->az w w' g->wpList P ops Q rest (a.put o.dst (goInt sLen)) w'):wpList P ops Q (o :: rest) a w:=by
 rcases yb sLen with h0 | h0
 . subst h0
   refine wpList_copy_nothing hgd d s T T ho E hu hsz _ _ _ _ _ _ hd hs (by simp) ?_;exact h w (hr.congr fun j _=>by simp) (az.refl _ _)
 . obtain⟨ad,rfl,hb,hc⟩:=hf.2.2 h0
   obtain⟨⟨cur,hg,hcs,hcur⟩,hF⟩:=hr
   refine wpList_copy_own hgd d s T T ho E hu hsz g 0 dLen dCap ad sLen sCap hd hs cur t hg (cellsOf f sLen) (by rw[bs];exact(Nat.min_eq_left hle).symm)
    (fun j u hj=>by obtain⟨h1,rfl⟩:=oJ hj;exact hc j h1) (by rw[bs];omega) my ?_
   rw[bs];refine h _ ⟨⟨_,setRow_heap w g _ _ t _ hg,?_,fun j hj=>?_⟩,fun j hj=>?_⟩ ⟨rfl,rfl,rfl,by simp[World.setRow],fun k _ hk=>setRow_other w g k _ (by simpa using hk)⟩
   . simp[bs];omega
   . simp only[List.take_zero,List.nil_append,Gw,List.getElem?_toArray]
     by_cases h1:j < sLen
     . rw[GN (by rw[bs];exact h1),dz h1,if_pos h1]
     . rw[GM (by rw[bs];omega),bs,List.getElem?_drop,if_neg h1]
       rw[GE (by omega),GC];exact hcur j hj
   . show(if j < sLen then f j else F j) < ai
     by_cases h1:j < sLen
     . rw[if_pos h1];exact hf.2.1 j h1
     . rw[if_neg h1];exact hF j hj
theorem mz {K:Act->World->Prop}(s x:Operand)(T:TypeId)(ho:o.op=.call { callee:=.builtin .append,args:=#[s,x],argTypes:=#[T,T] })
 (base:Nat) (t:TypeId) (hu:P.underlying T=some (.slice t)) (hinfo:(P.info? t).map (fun i=>(i.zero,i.size,i.bytes))=some (some (.int .u64 0),1,8))
 (v:Value) (n:Nat) (f:Nat->Nat) (hs:a.eval s=v) (hown:ig t w base v n f) (A:Option Addr) (m c:Nat) (y:Nat->Nat) (hx:a.eval x=.slice A m c) (hy:Sl w A m c y)
 (hnm:n+m<=1000000) (hbase:base<=w.heap.size)
 (h:∀ v' w',ig t w' base v' (n+m) (kx f n y)->(∀ B w0,B<=base->Below B w0 w->Below B w0 w')->K (a.put o.dst v') w'):o.wp P a w K Q:=by
 obtain⟨i,hi,hzz⟩:=Option.map_eq_some_iff.1 hinfo;simp only[Prod.mk.injEq]at hzz;obtain⟨hz,hsz,hby⟩:=hzz
 have hcat:∀ j,j < n+m->kx f n y j < ai:=fun j hj=>by
  unfold kx;split
  . exact hown.2 j (by omega)
  . exact hy.2.1 _ (by omega)
 have hrow:∀ g,v.ownBlock=some g->base<=g:=fun g hg=>by
  obtain⟨A',c',rfl,_,hA⟩:=hown.sl
  rcases A' with _ | ad
  . simp[Value.ownBlock]at hg
  . simp[Value.ownBlock]at hg;rw[← hg];exact hA ad rfl
 have key:∃ v' w',(Builtin.append_ #[T,T] o.type #[v,.slice A m c]).run P w=.ok v' w'/\w'.ownsRow base t 1 v' (n+m) (cellsOf f n ++ cellsOf y m)/\w.grownBy w' v.ownBlock:=by
  rcases A with _ | ad
  . have hm:m=0:=by
     rcases yb m with h0 | h0
     . exact h0
     . obtain⟨ad,he,_⟩:=hy.2.2 h0;cases he
    subst hm;refine⟨v,w,?_,by simpa [cellsOf] using hown.1,World.grownBy.refl w _⟩
    rcases hown.1.2 with⟨rfl,rfl⟩ | ⟨g,cap,cur,rfl,_,_,hnc,_⟩
    . simp[Builtin.append_,run_underlying hu,sizeOf,typeInfo,hi,Builtin.lenOf,Builtin.firstCells]
    . simp[Builtin.append_,run_underlying hu,sizeOf,typeInfo,hi,Builtin.lenOf,Builtin.firstCells,hnc,storeCells]
  . have hcells:∀ j u,(cellsOf y m)[j]?=some u->w.cell? (ad.add j)=some u:=fun j u hj=>by
     obtain⟨h1,rfl⟩:=oJ hj;obtain⟨ad',e,_,hc⟩:=hy.2.2 (by omega)
     injection e with e
     subst e;exact hc j h1
    obtain⟨v',w',hrun,h2,h3,_,_⟩:=run_append_own_at (P:=P) w base T o.type t i _ 1 8 hu hi hz hsz hby rfl (by omega) v n (cellsOf f n) hown.1 ad m c (cellsOf y m) (by rw[bs];omega) hcells my
     (by simp only[maxLen];omega) (by omega) hbase
    exact⟨v',w',hrun,h2,h3⟩
 obtain⟨v',w',hrun,h2,h3⟩:=key;unfold Oper.wp execOp;simp only[ho,resolve,invoke,builtin,Sem.run_bind,Sem.run_pure,Result.andThen_ok,List.map_toArray,List.map_cons,List.map_nil,hs,hx,hrun]
 refine h v' w' ⟨by rw[tQ];exact h2,hcat⟩ fun B w0 hB hb=>hb.grown h3 (by omega) fun g hg=>by have:=hrow g hg;omega
theorem bD (hgd:o.guard=none)(s x:Operand)(T:TypeId)(ho:o.op=.call { callee:=.builtin .append,args:=#[s,x],argTypes:=#[T,T] })
 (base:Nat) (t:TypeId) (hu:P.underlying T=some (.slice t)) (hinfo:(P.info? t).map (fun i=>(i.zero,i.size,i.bytes))=some (some (.int .u64 0),1,8))
 (v:Value) (n:Nat) (f:Nat->Nat) (hs:a.eval s=v) (hown:ig t w base v n f) (A:Option Addr) (m c:Nat) (y:Nat->Nat) (hx:a.eval x=.slice A m c) (hy:Sl w A m c y)
 (hnm:n+m<=1000000) (hbase:base<=w.heap.size)
 (h:∀ v' w',ig t w' base v' (n+m) (kx f n y)->(∀ B w0,B<=base->Below B w0 w->Below B w0 w')->wpList P ops Q rest (a.put o.dst v') w'):wpList P ops Q (o :: rest) a w :=
 wpList_plain hgd fun _ hK=>mz s x T ho base t hu hinfo v n f hs hown A m c y hx hy hnm hbase fun v' w' h1 h2=>hK _ _ (h v' w' h1 h2)
theorem kz (hgd:o.guard=none)(s x:Operand)(T:TypeId)(ho:o.op=.call { callee:=.builtin .append,args:=#[s,x],argTypes:=#[T,T] })
 (base:Nat) (t:TypeId) (hu:P.underlying T=some (.slice t)) (hinfo:(P.info? t).map (fun i=>(i.zero,i.size,i.bytes))=some (some (.int .u64 0),1,8))
 (v:Value) (n:Nat) (f:Nat->Nat) (hs:a.eval s=v) (hown:ig t w base v n f) (y:Nat) (hx:a.eval x=.slice (some ⟨w.heap.size,0,none⟩) 1 1) (hy:y < ai)
 (hnm:n+1<=1000000) (hbase:base<=w.heap.size)
 (h:∀ v' w',ig t w' base v' (n+1) (fF f n y)->(∀ B w0,B<=base->Below B w0 w->Below B w0 w')->wpList P ops Q rest (a.put o.dst v') w') :
 wpList P ops Q (o :: rest) a (w.alloc (.cells #[.int .u64 ((y:Nat):Int)] t)):=by
 have hsl:Sl (w.alloc (.cells #[.int .u64 ((y:Nat):Int)] t)) (some ⟨w.heap.size,0,none⟩) 1 1 (fun _=>y) :=
  ⟨Gt _,fun _ _=>hy,fun _=>⟨_,rfl,by simp,fun j hj=>by
   obtain rfl:j=0:=by omega
   rw[rF,World.cell?_alloc_at _ _ _ _ rfl];rfl⟩⟩
 refine bD hgd s x T ho base t hu hinfo v n f hs (hown.alloc _) _ 1 1 _ hx hsl hnm (by simp;omega) fun v' w' h1 h2=>?_
 refine h v' w' (h1.congr fun j hj=>?_) fun B w0 hB hb=>h2 B w0 hB (hb.alloc (by omega) _)
 unfold kx fF
 by_cases e:j=n
 . subst e;simp
 . rw[if_neg e,if_pos (by omega)]
theorem br (hgd:o.guard=none)(s x:Operand)(T:TypeId)(ho:o.op=.call { callee:=.builtin .append,args:=#[s,x],argTypes:=#[T,T] })
 (base:Nat) (t:TypeId) (hu:P.underlying T=some (.slice t)) (hinfo:(P.info? t).map (fun i=>(i.zero,i.size,i.bytes))=some (some (.int .u64 0),1,8))
 (v:Value) (n:Nat) (f:Nat->Nat) (hs:a.eval s=v) (hown:ig t w base v n f) (y:Nat) (z:Int) (hz:z=(y:Int)) (hx:a.eval x=.slice (some ⟨w.heap.size,0,none⟩) 1 1) (hy:y < ai)
 (hnm:n+1<=1000000) (hbase:base<=w.heap.size)
 (h:∀ v' w',ig t w' base v' (n+1) (fF f n y)->(∀ B w0,B<=base->Below B w0 w->Below B w0 w')->wpList P ops Q rest (a.put o.dst v') w') :
 wpList P ops Q (o :: rest) a (w.alloc (.cells #[.int .u64 z] t)):=by
 subst hz;exact kz hgd s x T ho base t hu hinfo v n f hs hown y hx hy hnm hbase h
end
theorem a6:(Tryz.prog.info? 51).map (fun i=>(i.zero,i.size,i.bytes))=some (some (.int .u64 0),1,8):=by kernel_rfl
theorem qA:(Tryz.prog.info? 51).map (·.size)=some 1:=by kernel_rfl
theorem ec (n:Nat)(hn:n<=1000001)(u:World):(Instr.makeSlice 22 (.int .i64 (n:Int)) (.int .i64 (n:Int))).run GV u =
 .ok (.slice (some ⟨u.heap.size,0,none⟩) n n) (u.alloc (.cells (madeCells #[.int .u64 0] n) 51)) :=
 run_make_row' 22 51 (.int .u64 0) 8 Tryz.underlying22 a6 rfl .i64 .i64 n (by omega) (by omega) u
theorem pm (A:Option Addr)(n c:Nat)(f:Nat->Nat)(w:World)(h:Sl w A n c f)(hn:n<=70368744177664):
 Calls GV 132 #[.slice A n c] w fun e w'=>e=.returned (nl A c (tl f n))/\w=w':=by
 have hcap:=h.cap;go_enter Tryz.func132,Tryz.ntmps132
 go_wp2
 go_loop [3] (fun i=>∃ k:Nat,k<=n/\i=.int .i64 k/\Hid (tl f k=tl f n)) (fun i=>(intOf i).toNat)
 case atStart=>exact⟨n,Gt _,rfl,rfl⟩
 case round =>
  obtain⟨k,hk,rfl,ht⟩:=hrel
  rcases k with _ | m
  . go_wp2
    go_ret;exact⟨by rw[← ht.out];rfl,rfl⟩
  . obtain⟨ad,rfl,hb,hx64,hcell⟩:=h.at_ (k:=m) (by omega)
    have hxd:Hid (tl f (m+1)=if f m=0 then tl f m else m+1):=rfl;generalize f m=x at *
    by_cases h0:x=0
    . subst h0
      go_wp2
      go_round
      case rel=>exact⟨m,by omega,by go_num,Lib.hid (by rw[← ht.out,hxd.out,if_pos rfl])⟩
      case measure=>simp[intOf]
    . have hne:((x:Int) != 0)=true:=by simp;omega
      go_wp2
      go_ret;refine⟨?_,rfl⟩;rw[← ht.out,hxd.out,if_neg h0]
      rfl
theorem bn (A:Option Addr)(n c:Nat)(f:Nat->Nat)(w:World)(h:Sl w A n c f)(hn:n<=1000000):
 Calls GV 132 #[.slice A n c] w fun e w'=>e=.returned (nl A c (tl f n))/\w=w':=pm A n c f w h (by omega)
theorem ee (x y c:Nat)(hc:c<=1)(w:World):
 ∃ r d:Nat,r+d*ai=x+y+c/\r < ai/\(x < ai->y < ai->d<=1) /\
  (callFunc 131 #[.int .u64 x,.int .u64 y,.int .u64 c]).run GV w=.ok (.value (.tuple #[.int .u64 (r:Int),.int .u64 (d:Int)])) w:=by
 refine⟨(x+y+c)%18446744073709551616,(x+y+c)/18446744073709551616,?_,?_,?_,?_⟩
 . unfold ai;omega
 . unfold ai;omega
 . unfold ai;omega
 . rw[run_callFunc_extern Tryz.func131 (by kernel_rfl) (by kernel_rfl) (by kernel_rfl) (e:=add64Entry) (by kernel_rfl),run_add64 x y c (by omega) (by omega) (by omega) (by omega)]
   simp only[Result.andThen]
   congr 5 <;> omega
def Cw (t:TypeId)(w:World)(g N off n:Nat)(F y:Nat->Nat)(m:Nat)(e:Ending)(w':World):Prop :=
 ∃ F' d,e=.returned (.int .u64 ((d:Nat):Int))/\eC t 1 w w' g N off F F' y m n d
theorem js (g off n c N:Nat)(F:Nat->Nat)(A:Option Addr)(m cb:Nat)(y:Nat->Nat)(w:World)(hr:dG 51 w g N F)(hoff:off+n<=N)(hN:N<=1000000)
 (hy:Sl w A m cb y) (hmn:m<=n) (hne:0 < m->∀ ad,A=some ad->ad.block≠g) :
 Calls GV 179 #[.slice (some ⟨g,off,none⟩) n c,.slice A m cb] w (Cw 51 w g N off n F y m):=by
 go_enter Tryz.func179,Tryz.ntmps179
 go_wp2
 go_loopw [5,11] (fun cy i wr=>∃ k d F',k<=m/\i=.int .i64 ((k:Nat):Int)/\cy=.int .u64 ((d:Nat):Int)/\eC 51 1 w wr g N off F F' y m k d) (fun _ i _=>m-(intOf i).toNat)
 case atStart=>exact⟨0,0,F,Gy _,rfl,rfl,eC.start hr⟩
 case round =>
  obtain⟨k,d,F',hk,rfl,rfl,hinv⟩:=hrel
  by_cases hlt:k < m
  . obtain⟨ad,rfl,hb,hx64,hcell⟩:=(hy.only hinv.2.2.1 hne).at_ hlt
    have hrc:=hinv.2.1.cell (i:=off+k) (by omega);have hrf:=hinv.2.1.frozen (off+k);have hF:Hid (F' (off+k)=F (off+k)):=hinv.2.2.2.1 _ (by omega);have hFs:=hinv.2.1.2 (off+k) (by omega);obtain⟨r,d',h1,h2,h3,h4⟩:=ee (F' (off+k)) (y k) d hinv.1 wr;have H1:=Lib.hid h1;clear h1
    go_wp2
    go_roundw
    case rel=>exact⟨k+1,d',fF F' (off+k) r,by omega,by go_num,rfl,hinv.step (by rw[← hF.out,if_pos hlt];exact H1.out) h2 (h3 hFs hx64)⟩
    case measure=>simp[intOf];omega
  . obtain rfl:k=m:=by omega
    clear hlt hk
    go_wp2
    go_loopw [5,8] (fun cy i wr=>∃ q d F',k<=q/\q<=n/\i=.int .i64 ((q:Nat):Int)/\cy=.int .u64 ((d:Nat):Int)/\eC 51 1 w wr g N off F F' y k q d) (fun _ i _=>n-(intOf i).toNat)
    case atStart=>exact⟨k,d,F',Gt _,hmn,rfl,rfl,hinv⟩
    case round =>
     clear hinv;obtain⟨q,d,F',hq,hqn,rfl,rfl,hinv⟩:=hrel
     by_cases hlt:q < n
     . by_cases hd:d=0
       . subst hd
         go_wp2
         go_ret;exact⟨F',0,rfl,by have:=hinv.rest hq (n-q);rwa [GE hqn]at this⟩
       . have hdn:((d:Int) != 0)=true:=by simp;omega
         have hrc:=hinv.2.1.cell (i:=off+q) (by omega);have hrf:=hinv.2.1.frozen (off+q);have hF:Hid (F' (off+q)=F (off+q)):=hinv.2.2.2.1 _ (by omega);have hFs:=hinv.2.1.2 (off+q) (by omega);obtain⟨r,d',h1,h2,h3,h4⟩:=ee (F' (off+q)) 0 d hinv.1 wr;rw[show((0:Nat):Int)=0 from rfl]at h4;have H1:=Lib.hid h1;clear h1
         go_wp2
         go_roundw
         case rel=>exact⟨q+1,d',fF F' (off+q) r,by omega,by omega,by go_num,rfl,hinv.step (by rw[← hF.out,if_neg (by omega)];exact H1.out) h2 (h3 hFs bm)⟩
         case measure=>simp[intOf];omega
     . obtain rfl:q=n:=by omega
       go_wp2
       go_ret;exact⟨F',d,rfl,hinv⟩
theorem bv:ai=2^64:=by unfold ai;decide
theorem iQ (x:Nat)(h0:0 < x)(h:x < ai):1<=Lib.bitLen x/\Lib.bitLen x<=64/\2^(Lib.bitLen x-1)<=x/\x < 2^Lib.bitLen x:=by
 rw[bv]at h;obtain⟨h1,h2,h3⟩:=Lib.bitLenAux_bounds 64 x h (by omega);refine⟨h1,?_,h2,h3⟩;have h4:2^(Lib.bitLenAux 64 x-1) < 2^64:=DF h2 h;have h5:=(Gl (by omega)).1 h4
 show Lib.bitLenAux 64 x<=64
 omega
theorem gC (x s:Nat):IntKind.u64.wrap ((x:Int)*2^s)=((x*2^s%ai:Nat):Int):=by
 rw[IntKind.wrap_u64]
 have e:((x:Int)*2^s)=((x*2^s:Nat):Int):=by simp
 rw[e];unfold ai;omega
theorem fU (x s:Nat):((x:Int))/2^s=((x/2^s:Nat):Int):=by simp
theorem t8 (x:Nat)(h:x < ai):bits .and .u64 (x:Int) 4294967295=((x%4294967296:Nat):Int):=by
 have e:=u64_and_nat x 4294967295 h (by omega);rw[show(((4294967295:Nat)):Int)=4294967295 from rfl]at e;rw[e,show(4294967295:Nat)=2^32-1 from rfl,Nat.and_two_pow_sub_one_eq_mod]
theorem BJ (x y s:Nat)(hy:y < ai)(hs:s<=64):(x*2^s%ai) ||| (y/2^(64-s))=x*2^s%ai+y/2^(64-s):=by
 have e:x*2^s%ai=2^s*(x%2^(64-s)):=by
  rw[bv,show(2:Nat)^64=2^s*2^(64-s) by rw[← ou];congr 1;omega,qK x,GD]
 have hlt:y/2^(64-s) < 2^s:=by
  apply Gm
  rw[← ou,show 64-s+s=64 by omega,← bv];exact hy
 rw[e,← GJ hlt]
theorem mr (x y s:Nat)(hy:y < ai)(hs:s<=64):bits .or .u64 ((x*2^s%ai:Nat):Int) ((y/2^(64-s):Nat):Int)=((x*2^s%ai+y/2^(64-s):Nat):Int):=by
 have h1:x*2^s%ai < ai:=Gx _ bm;have h2:y/2^(64-s) < ai:=DF (GQ _ _) hy;rw[u64_or_nat _ _ h1 h2,BJ x y s hy hs]
theorem sR (x y s:Nat)(hy:y < ai)(hs:s<=64):x*2^s%ai+y/2^(64-s)=(x*ai+y)*2^s/ai%ai:=by
 have e:(x*ai+y)*2^s/ai=x*2^s+y/2^(64-s):=by
  have h1:(x*ai+y)*2^s=x*2^s*ai+y*2^s:=by rw[oM];congr 1;ac_rfl
  have h2:y*2^s/ai=y/2^(64-s):=by
   rw[bv,show(2:Nat)^64=2^(64-s)*2^s by rw[← ou];congr 1;omega,GR _ _ (mF s)]
  rw[h1,GK,Gq _ _ bm,h2,GK]
 rw[e];have h1:x*2^s%ai < ai:=Gx _ bm
 have e2:x*2^s%ai=2^s*(x%2^(64-s)):=by
  rw[bv,show(2:Nat)^64=2^s*2^(64-s) by rw[← ou];congr 1;omega,qK x,GD]
 have hlt:y/2^(64-s) < 2^s:=by
  apply Gm
  rw[← ou,show 64-s+s=64 by omega,← bv];exact hy
 have hsum:x*2^s%ai+y/2^(64-s) < ai:=by
  have h3:x%2^(64-s) < 2^(64-s):=Gx _ (mF _);have h4:2^s*(x%2^(64-s)+1)<=2^s*2^(64-s):=oY _ h3;rw[← ou,show s+(64-s)=64 by omega,← bv,tz,Gz]at h4
  rw[e2];omega
 rw[GZ,← GZ,GZ];have h5:y/2^(64-s)%ai=y/2^(64-s):=GY (DF (GQ _ _) hy);rw[h5,GY hsum]
def mH (U a1 a0 u q r:Nat):Prop:=q*a1+r=U/\(U*4294967296+u)/(a1*4294967296+a0)<=q
section
variable {U a1 a0 u q r:Nat}
theorem mH.start (ha:2147483648<=a1)(hu:u < 4294967296):mH U a1 a0 u (U/a1) (U%a1):=by
 refine⟨by rw[qK];exact Gs U a1,?_⟩;rw[EM (by omega)];generalize hQ:(U*4294967296+u)/(a1*4294967296+a0)=Q
 have h1:Q*(a1*4294967296+a0)<=U*4294967296+u:=by rw[← hQ];exact GF _ _
 rw[tz,← Bx]at h1;omega
theorem mH.down (h:mH U a1 a0 u q r)(hU:U < a1*4294967296+a0)(hu:u < 4294967296)(hc:4294967296<=q\/4294967296*r+u < q*a0):0 < q/\mH U a1 a0 u (q-1) (r+a1):=by
 obtain⟨h1,h2⟩:=h
 have hlt:(U*4294967296+u)/(a1*4294967296+a0) < q:=by
  rcases hc with hc | hc
  . refine Gp (Gm ?_) hc
    have:(U+1)*4294967296<=(a1*4294967296+a0)*4294967296:=lY _ hU
    omega
  . apply Gm
    have e:(a1*4294967296+a0)*q=q*a1*4294967296+q*a0:=by rw[oM];congr 1 <;> ac_rfl
    rw[e];omega
 have hq:0 < q:=DF (Gy _) hlt;refine⟨hq,?_,GU hlt⟩;clear hlt h2;obtain⟨k,rfl⟩:∃ k,q=k+1:=⟨q-1,by omega⟩;rw[oM,Gr]at h1;simp only[Gk];omega
theorem mH.done (h:mH U a1 a0 u q r)(ha:2147483648<=a1)(hc:q*a0<=4294967296*r+u):q=(U*4294967296+u)/(a1*4294967296+a0):=by
 obtain⟨h1,h2⟩:=h
 apply G6 _ h2
 rw[EM (by omega)]
 have e:q*(a1*4294967296+a0)=q*a1*4294967296+q*a0:=by rw[tz];congr 1;ac_rfl
 rw[e];omega
theorem mH.far (h:mH U a1 a0 u q r)(ha:2147483648<=a1)(ha0:a0 < 4294967296)(hU:U < a1*4294967296+a0)(hr:4294967296<=r):q=(U*4294967296+u)/(a1*4294967296+a0):=by
 have hq:q < 4294967296:=by
  rcases Bl q 4294967296 with h5 | h5
  . exact h5
  . have:4294967296*a1<=q*a1:=lY _ h5
    have:=h.1
    omega
 refine h.done ha ?_
 have:q*a0<=4294967295*4294967295:=G8 (by omega) (by omega)
 omega
end
theorem xE {U u:Nat}(h:U*4294967296+u=p+V)(hV:V < ai):
 IntKind.u64.wrap (IntKind.u64.wrap (IntKind.u64.wrap ((U:Int)*4294967296)+(u:Int))-IntKind.u64.wrap (p:Int))=(V:Int):=by
 simp only[IntKind.wrap_u64];unfold ai at hV;omega
theorem Bi (x r:Nat)(hr:r<=64):x*2^r/ai=x/2^(64-r):=by
 rw[bv,show(2:Nat)^64=2^(64-r)*2^r by rw[← ou];congr 1;omega,GR _ _ (mF r)]
theorem wW (x r:Nat)(hr:r<=64):x*2^r%ai+x/2^(64-r)*ai=x*2^r:=by
 rw[← Bi x r hr,qK (x*2^r/ai)];exact Nat.mod_add_div _ _
theorem qB (x r:Nat)(hr:r<=64)(hx:x < ai):x/2^(64-r) < 2^r:=by
 apply Gm
 rw[← ou,show 64-r+r=64 by omega,← bv];exact hx
theorem qD (x r:Nat)(hr:r<=64):x*2^r%ai=2^r*(x%2^(64-r)):=by
 rw[bv,show(2:Nat)^64=2^r*2^(64-r) by rw[← ou];congr 1;omega,qK x,GD]
theorem zH (s x r:Nat)(hr:r<=64)(hs:s < 2^r):s ||| x*2^r%ai=s+x*2^r%ai:=by
 rw[qD x r hr,Nat.or_comm,← GJ hs,GK]
theorem iP (s x r:Nat)(hr:r<=64)(hs:s < 2^r):s+x*2^r%ai < ai:=by
 rw[qD x r hr];have h3:x%2^(64-r) < 2^(64-r):=Gx _ (mF _);have h4:2^r*(x%2^(64-r)+1)<=2^r*2^(64-r):=oY _ h3;rw[← ou,show r+(64-r)=64 by omega,← bv,tz,Gz]at h4;omega
theorem uO (s x r:Nat)(hr:r<=64)(hs:s < 2^r)(hs':s < ai):bits .or .u64 (s:Int) ((x*2^r%ai:Nat):Int)=((s+x*2^r%ai:Nat):Int):=by
 have h1:x*2^r%ai < ai:=Gx _ bm;rw[u64_or_nat s (x*2^r%ai) hs' h1,zH s x r hr hs]
theorem nN (r:Nat)(hr:r<=64):2^r<=ai:=by rw[bv];exact Gu (by omega) hr
theorem ER (a b:Nat)(ha:a < ai)(hb:b < ai):bits .or .u64 (a:Int) (b:Int)=((a ||| b:Nat):Int):=u64_or_nat a b ha hb
theorem rX {X i s x:Nat}(hr:r<=64)(h:V+s*ai^i=X*2^r):V+(s+x*2^r%ai)*ai^i+x/2^(64-r)*ai^(i+1)=(X+x*ai^i)*2^r:=by
 have h1:=wW x r hr
 have h2:(x*2^r%ai+x/2^(64-r)*ai)*ai^i=x*2^r*ai^i:=by rw[h1]
 rw[oM]at h2
 have e1:x/2^(64-r)*ai^(i+1)=x/2^(64-r)*ai*ai^i:=by rw[GG];ac_rfl
 have e2:(X+x*ai^i)*2^r=X*2^r+x*2^r*ai^i:=by rw[oM];congr 1;ac_rfl
 rw[e1,e2,oM];omega
def lw (y:Nat->Nat)(r i:Nat):Nat:=y i/2^r+y (i+1)*2^(64-r)%ai
theorem C7 (y z r:Nat)(hr:r<=64)(hy:y < ai):y/2^r ||| z*2^(64-r)%ai=y/2^r+z*2^(64-r)%ai:=by
 have h:=qB y (64-r) (by omega) hy;rw[show 64-(64-r)=r by omega]at h;exact zH _ z (64-r) (by omega) h
theorem C8 (y z r:Nat)(hr:r<=64)(hy:y < ai):y/2^r+z*2^(64-r)%ai < ai:=by
 have h:=qB y (64-r) (by omega) hy;rw[show 64-(64-r)=r by omega]at h;exact iP _ z (64-r) (by omega) h
theorem Eo (y:Nat->Nat)(r:Nat)(hr:r<=64)(k:Nat):2^r*vs ai (lw y r) k+y 0%2^r=vs ai y k+y k%2^r*ai^k:=by
 induction k with
 | zero=>simp[aL]
 | succ k ih =>
  rw[aA,aA,tz]
  have h1:2^r*(y (k+1)*2^(64-r)%ai)=y (k+1)%2^r*ai:=by
   rw[qD _ _ (by omega),show 64-(64-r)=r by omega,← Bx,← ou,show r+(64-r)=64 by omega,← bv,qK]
  have h2:=Gs (y k) (2^r)
  have e:2^r*(lw y r k*ai^k)=(2^r*(y k/2^r)+y (k+1)%2^r*ai)*ai^k:=by
   unfold lw;rw[← Bx,tz,h1]
  have e2:(2^r*(y k/2^r)+y k%2^r)*ai^k=y k*ai^k:=by rw[h2]
  rw[oM]at e2;rw[e,oM]
  have e3:y (k+1)%2^r*ai*ai^k=y (k+1)%2^r*ai^(k+1):=by rw[GG];ac_rfl
  omega
theorem pg (y:Nat->Nat)(r L:Nat)(hr:r<=64)(h0:y L=0):vs ai (lw y r) L=vs ai y L/2^r:=by
 have h:=Eo y r hr L;rw[h0]at h;simp only[G9,GH,GI]at h;have hlt:y 0%2^r < 2^r:=Gx _ (mF _);rw[← h,qK,GK,Gq _ _ (mF _),Gn hlt,Gw]
theorem gu (n:Nat):2^n=ai^(n/64)*2^(n%64):=by
 rw[bv,← Hb,← ou];congr 1;omega
theorem qt (x:Nat->Nat)(n W:Nat)(hx:∀ j,j < n->x j < ai)(hW:W<=n):vs ai (fun j=>x (W+j)) (n-W)=vs ai x n/ai^W:=by
 have h:=cW ai x W (n-W);rw[GE hW]at h;have hlt:=bL (fun j hj=>hx j (by omega):∀ j,j < W->x j < ai);rw[h,qK,Gq _ _ (Ha bm),Gn hlt,Gw]
theorem pz (x:Nat->Nat)(n W:Nat)(hx:∀ j,j < n->x j < ai)(hW:n<=W)(r:Nat):vs ai x n/(ai^W*2^r)=0:=by
 apply Gn
 have h1:=bL hx;have h2:ai^n<=ai^W:=Gu bm hW;have h3:ai^W*1<=ai^W*2^r:=oY _ (mF r);omega
def fE (V B:Nat):Prop:=V < 2^B/\(V=0->B=0)/\(V≠0->0 < B/\2^(B-1)<=V)
theorem fE.unique {C:Nat}(h:fE V B)(k:fE V C):B=C:=by
 obtain⟨h1,h2,h3⟩:=h;obtain⟨k1,k2,k3⟩:=k
 rcases yb V with h0 | h0
 . rw[h2 h0,k2 h0]
 . obtain⟨p1,p2⟩:=h3 (by omega)
   obtain⟨q1,q2⟩:=k3 (by omega);have a:=(Gl (by omega:1 < 2)).1 (DF p2 k1);have b:=(Gl (by omega:1 < 2)).1 (DF q2 h1);omega
theorem fE.zero:fE 0 0:=⟨by simp,fun _=>rfl,fun h=>absurd rfl h⟩
theorem tT {L:Nat}(hf:∀ j,j < n+1->f j < ai)(h1:1<=L)(h2:2^(L-1)<=f n)(h3:f n < 2^L):fE (vs ai f (n+1)) (64*n+L):=by
 have hlow:=bL (fun j hj=>hf j (by omega):∀ j,j < n->f j < ai)
 have hB:ai^n=2^(64*n):=by rw[bv,← Hb]
 rw[aA]
 have hge:2^(64*n+L-1)<=vs ai f n+f n*ai^n:=by
  rw[show 64*n+L-1=(L-1)+64*n by omega,ou,← hB]
  have:=lY (ai^n) h2
  omega
 have hlt:vs ai f n+f n*ai^n < 2^(64*n+L):=by
  rw[show 64*n+L=L+64*n by omega,ou,← hB]
  have:=lY (ai^n) h3
  rw[Nat.succ_mul]at this;omega
 refine⟨hlt,fun h=>?_,fun _=>⟨by omega,hge⟩⟩
 have:0 < 2^(64*n+L-1):=mF _
 omega
def v2 (V:Nat):Nat:=Lib.ctzFrom V V
def od (V:Nat):Nat:=V/2^v2 V
theorem AM (h:0 < V):∃ m,V=2^v2 V*(2*m+1):=by
 obtain⟨m,h1,_⟩:=Lib.ctzFrom_spec V V h Nat.lt_two_pow_self;exact⟨m,h1⟩
theorem eP (h:0 < V):V=od V*2^v2 V/\od V%2=1:=by
 obtain⟨m,hm⟩:=AM h
 have e:od V=2*m+1:=by
  unfold od;exact Nat.div_eq_of_eq_mul_left (mF _) (by rw[qK];exact hm)
 rw[e];exact⟨by rw[qK];exact hm,by omega⟩
theorem nY {T U z:Nat}(hT:T%2=1)(hU:U%2=1)(h:T*2^z=U*2^y):T=U/\z=y:=by
 have key:∀ {T U z y:Nat},T%2=1->T*2^z=U*2^y->y<=z:=fun {T U z y} hT h=>by
  rcases Bl z y with hlt | hge
  . exfalso
    have e:U*2^y=U*2^(y-z)*2^z:=by rw[Bx,← ou];congr 2;omega
    rw[e]at h;have h1:=Gv (mF z) h
    have h2:2^(y-z)=2*2^(y-z-1):=by rw[← Nat.pow_succ'];congr 1;omega
    rw[h1,h2,← Bx,qK U 2,Bx,Nat.mul_mod_right]at hT;omega
  . exact hge
 have h1:=key hT h;have h2:=key hU h.symm
 have e:z=y:=by omega
 subst e;exact⟨Gv (mF z) h,rfl⟩
theorem pM {T z:Nat}(h:V=T*2^z)(hT:T%2=1):od V=T/\v2 V=z:=by
 have h0:0 < V:=by
  rw[h];exact G0 (by omega) (mF z)
 obtain⟨h1,h2⟩:=eP h0;exact nY h2 hT (h1.symm.trans h)
theorem zu (V z:Nat)(h0:0 < V):od (V*2^z)=od V/\v2 (V*2^z)=v2 V+z:=by
 obtain⟨h1,h2⟩:=eP h0;refine pM ?_ h2;rw[ou,← Bx,← h1]
theorem pN (V:Nat):od V<=V:=GQ _ _
theorem jc (h:0 < V):0 < od V:=by have:=(eP h).2;omega
def nb (V:Nat):Nat:=if V=0 then 0 else Nat.log2 V+1
theorem mY (V:Nat):fE V (nb V):=by
 unfold nb
 by_cases h:V=0
 . subst h;exact fE.zero
 . rw[if_neg h]
   exact⟨Nat.lt_log2_self,fun e=>absurd e h,fun _=>⟨by omega,by rw[Gk];exact Nat.log2_self_le h⟩⟩
theorem hJ (h:fE V B):B=nb V:=h.unique (mY V)
theorem aX:nb 0=0:=rfl
theorem gg (h:0 < V):0 < nb V:=((mY V).2.2 (by omega)).1
theorem dZ (V:Nat):V < 2^nb V:=(mY V).1
theorem fA (h:0 < V):2^(nb V-1)<=V:=((mY V).2.2 (by omega)).2
theorem jU (h1:V < 2^(B+1))(h2:2^B<=V):nb V=B+1 :=
 (hJ ⟨h1,fun e=>by subst e;have:=mF B;omega,fun _=>⟨by omega,h2⟩⟩).symm
theorem bi (V k:Nat):nb V<=k ↔ V < 2^k:=by
 constructor
 . intro h
   exact Gp (dZ V) (Gu (by omega) h)
 . intro h
   rcases yb V with h0 | h0
   . subst h0;rw[aX];omega
   . have:=(Gl (by omega:1 < 2)).1 (DF (fA h0) h)
     omega
theorem ch (h0:0 < V)(z:Nat):nb (V*2^z)=nb V+z:=by
 obtain⟨k,hk⟩:∃ k,nb V=k+1:=⟨nb V-1,by have:=gg h0;omega⟩;have h1:=dZ V;have h2:=fA h0;rw[hk]at h1 h2;rw[hk,show k+1+z=(k+z)+1 by omega];refine jU ?_ ?_
 . rw[show k+z+1=(k+1)+z by omega,ou]
   exact Nat.mul_lt_mul_of_pos_right h1 (mF z)
 . rw[ou]
   exact lY _ (by simpa using h2)
theorem gH (V z:Nat):nb (V/2^z)=nb V-z:=by
 rcases Bl V (2^z) with h | h
 . rw[Gn h,aX]
   have:=(bi V z).2 h;omega
 . have h0:0 < V:=Gp (mF z) h
   have hz:z < nb V:=by
    rcases Bl z (nb V) with h' | h'
    . exact h'
    . have:=(bi V z).1 h';omega
   obtain⟨k,hk⟩:∃ k,nb V=k+1+z:=⟨nb V-1-z,by omega⟩;have h1:=dZ V;have h2:=fA h0;rw[hk]at h1 h2;rw[hk,Gk];refine jU ?_ ?_
   . rw[GT (mF z),← ou];exact h1
   . rw[EM (mF z),← ou]
     rw[show k+1+z-1=k+z by omega]at h2;exact h2
def MB:Nat:=16384
theorem iD:MB=16384:=rfl
def cR (e:Int):Prop:=-262144<=e/\e<=262144
instance (e:Int):Decidable (cR e):=by unfold cR;infer_instance
structure DR where
 ok:Bool
 neg:Bool
 m:Nat
 e:Int
def DR.zero:DR:=⟨true,false,0,0⟩
def DR.no:DR:=⟨false,false,0,0⟩
def bH (neg:Bool)(V:Nat)(e:Int):DR :=
 if V=0 then .zero else if nb (od V)<=MB/\cR (e+(v2 V:Int)) then⟨true,neg,od V,e+(v2 V:Int)⟩ else .no
theorem zD (neg:Bool)(e:Int):bH neg 0 e=.zero:=rfl
theorem BM (neg:Bool)(V z:Nat)(e:Int):bH neg (V*2^z) (e-(z:Int))=bH neg V e:=by
 unfold bH
 rcases yb V with h | h
 . subst h;simp
 . obtain⟨h1,h2⟩:=zu V z h
   have h3:¬ V*2^z=0:=by have:=G0 h (mF z);omega
   rw[h1,h2,if_neg h3,if_neg (by omega:¬ V=0)];rw[show e-(z:Int)+((v2 V+z:Nat):Int)=e+(v2 V:Int) by omega]
def cj (neg:Bool)(V:Nat)(e:Int)(more:Bool)(p:Nat)(up:Bool):DR :=
 bH neg (V/2^(nb V-p)+(if (more || decide (V/2^(nb V-p)*2^(nb V-p)≠V)) && (up != neg) then 1 else 0)) (e+((nb V-p:Nat):Int))
def jv (D U a1 a0 u q r:Nat):Prop:=q*a1+r=U/\(U*D+u)/(a1*D+a0)<=q
section
variable {D U a1 a0 u q r:Nat}
theorem jv.start (ha:0 < a1)(hu:u < D):jv D U a1 a0 u (U/a1) (U%a1):=by
 refine⟨by rw[qK];exact Gs U a1,?_⟩;rw[EM ha];generalize hQ:(U*D+u)/(a1*D+a0)=Q
 have h1:Q*(a1*D+a0)<=U*D+u:=by rw[← hQ];exact GF _ _
 rw[tz,← Bx]at h1
 rcases Bl U (Q*a1) with h | h
 . have h2:(U+1)*D<=Q*a1*D:=lY _ h
   rw[oM,Gr]at h2;omega
 . exact h
theorem jv.down (h:jv D U a1 a0 u q r)(hc:D*r+u < q*a0):0 < q/\jv D U a1 a0 u (q-1) (r+a1):=by
 obtain⟨h1,h2⟩:=h
 have hlt:(U*D+u)/(a1*D+a0) < q:=by
  apply Gm
  have e:(a1*D+a0)*q=q*a1*D+q*a0:=by rw[oM];congr 1 <;> ac_rfl
  have e2:U*D=q*a1*D+D*r:=by rw[← h1,oM,qK r]
  rw[e];omega
 have hq:0 < q:=DF (Gy _) hlt;refine⟨hq,?_,GU hlt⟩;clear hlt h2;obtain⟨k,rfl⟩:∃ k,q=k+1:=⟨q-1,by omega⟩;rw[oM,Gr]at h1;simp only[Gk];omega
theorem jv.done (h:jv D U a1 a0 u q r)(hp:0 < a1*D+a0)(hc:q*a0<=D*r+u):q=(U*D+u)/(a1*D+a0):=by
 obtain⟨h1,h2⟩:=h
 apply G6 _ h2
 rw[EM hp]
 have e:q*(a1*D+a0)=q*a1*D+q*a0:=by rw[tz];congr 1;ac_rfl
 have e2:U*D=q*a1*D+D*r:=by rw[← h1,oM,qK r]
 rw[e];omega
theorem jv.far (h:jv D U a1 a0 u q r)(hp:0 < a1*D+a0)(hq:q < D)(ha:a0 < D)(hr:D<=r):q=(U*D+u)/(a1*D+a0):=by
 refine h.done hp ?_;have h1:q*a0<=D*D:=G8 (by omega) (by omega);have h2:D*D<=D*r:=oY _ hr;omega
end
theorem mU {x u o v:Nat}(h:o*ai+v=x*y)(hu:u < ai)(hv:v < ai):ai*r+u < x*y ↔ (r < o\/(o=r/\u < v)):=by
 rw[← h,qK ai]
 constructor
 . intro hlt
   rcases Bl r o with h1 | h1
   . exact .inl h1
   . rcases Bl o r with h2 | h2
     . have:(o+1)*ai<=r*ai:=lY _ h2
       rw[oM,Gr]at this;omega
     . have:o=r:=by omega
       subst this;exact .inr ⟨rfl,by omega⟩
 . rintro(h1 | ⟨rfl,h1⟩)
   . have:(r+1)*ai<=o*ai:=lY _ h1
     rw[oM,Gr]at this;omega
   . omega
def fP (l0 l1 l2 d0 d1 q:Nat):Prop:=q < ai/\((d1<=l2/\q=ai-1)\/(l2 < d1/\q=((l2*ai+l1)*ai+l0)/(d1*ai+d0)))
theorem uT {l0 l1 l2 d0 d1 q P a v:Nat}(h:fP l0 l1 l2 d0 d1 q)(hd:ai<=2*d1)(hd0:d0 < ai)(ha:a < P)(hv:v < P)
 (hlt:a+P*((l2*ai+l1)*ai+l0) < (v+P*(d1*ai+d0))*ai) :
 ∃ R,R < v+P*(d1*ai+d0)/\((a+P*((l2*ai+l1)*ai+l0)=q*(v+P*(d1*ai+d0))+R)\/(0 < q/\a+P*((l2*ai+l1)*ai+l0)=(q-1)*(v+P*(d1*ai+d0))+R/\a+P*((l2*ai+l1)*ai+l0) < q*(v+P*(d1*ai+d0)))):=by
 have hB:=bm
 have hP:0 < P:=by omega
 have hd1:0 < d1:=by omega
 have hD2:ai<=d1*ai+d0:=by have:1*ai<=d1*ai:=lY _ hd1;omega
 obtain⟨hqB,hq⟩:=h
 have key:(q-1)*(v+P*(d1*ai+d0))<=a+P*((l2*ai+l1)*ai+l0)/\a+P*((l2*ai+l1)*ai+l0) < (q+1)*(v+P*(d1*ai+d0)):=by
  rcases hq with⟨hge,rfl⟩ | ⟨hl,hqe⟩
  . refine⟨?_,?_⟩
    . have h1:(v+P*(d1*ai+d0))<=P*(d1*ai+d0+1):=by rw[tz P (d1*ai+d0)];omega
      have h2:(ai-1-1)*(d1*ai+d0+1)<=l2*ai*ai:=by
       have h3:d1*ai+d0+1<=(d1+1)*ai:=by rw[oM,Gr];omega
       have h4:(ai-1-1)*(d1*ai+d0+1)<=(ai-1-1)*((d1+1)*ai):=oY _ h3
       have h5:(ai-1-1)*(d1+1)<=d1*ai:=by
        obtain⟨k,hk⟩:∃ k,ai=k+2:=⟨ai-2,by unfold ai;omega⟩
        rw[hk];simp only[show k+2-1-1=k by omega]
        rw[tz,tz,qK k d1];omega
       have h6:(ai-1-1)*((d1+1)*ai)<=d1*ai*ai:=by rw[← Bx];exact lY _ h5
       have h7:d1*ai*ai<=l2*ai*ai:=lY _ (lY _ hge);omega
      have h8:(ai-1-1)*(v+P*(d1*ai+d0))<=(ai-1-1)*(P*(d1*ai+d0+1)):=oY _ h1
      have h9:(ai-1-1)*(P*(d1*ai+d0+1))=P*((ai-1-1)*(d1*ai+d0+1)):=by ac_rfl
      have h10:P*((ai-1-1)*(d1*ai+d0+1))<=P*((l2*ai+l1)*ai+l0):=by
       apply oY
       rw[oM];omega
      omega
    . rw[show ai-1+1=ai by omega,qK ai];exact hlt
  . have hdm:=Gs ((l2*ai+l1)*ai+l0) (d1*ai+d0)
    have hm:((l2*ai+l1)*ai+l0)%(d1*ai+d0) < d1*ai+d0:=Gx _ (by omega);rw[← hqe]at hdm;generalize((l2*ai+l1)*ai+l0)%(d1*ai+d0)=m at *;generalize(l2*ai+l1)*ai+l0=T at *;generalize d1*ai+d0=D2 at *;refine⟨?_,?_⟩
    . rcases yb q with h0 | h0
      . subst h0;simp
      . obtain⟨k,rfl⟩:∃ k,q=k+1:=⟨q-1,by omega⟩
        simp only[Gk];have h1:k*(v+P*D2)<=k*(P+P*D2):=oY _ (by omega)
        have h2:k*(P+P*D2)=P*(k*(1+D2)):=by rw[show P+P*D2=P*(1+D2) by rw[tz,Gz]];ac_rfl
        have h3:k*(1+D2)<=T:=by
         rw[tz,Gz]
         have:D2*(k+1)=k*D2+D2:=by rw[tz,Gz,qK]
         omega
        have h4:P*(k*(1+D2))<=P*T:=oY _ h3;omega
    . have h1:P*(T+1)<=P*(D2*q+D2):=oY _ (by omega)
      have h2:P*(D2*q+D2)=(q+1)*(P*D2):=by rw[show D2*q+D2=D2*(q+1) by rw[tz,Gz]];ac_rfl
      have h3:(q+1)*(P*D2)<=(q+1)*(v+P*D2):=oY _ (by omega);rw[tz,Gz]at h1;omega
 generalize v+P*(d1*ai+d0)=V at *;generalize a+P*((l2*ai+l1)*ai+l0)=Z at *;obtain⟨k1,k2⟩:=key;rw[oM,Gr]at k2
 rcases Bl Z (q*V) with h1 | h1
 . have hq0:0 < q:=by
    rcases yb q with h0 | h0
    . subst h0;omega
    . exact h0
   refine⟨Z-(q-1)*V,?_,.inr ⟨hq0,by omega,h1⟩⟩
   have e:q*V=(q-1)*V+V:=by
    obtain⟨k,rfl⟩:∃ k,q=k+1:=⟨q-1,by omega⟩
    rw[oM,Gr];simp
   omega
 . exact⟨Z-q*V,by omega,.inl (by omega)⟩
def AC (a s r:Nat):Prop:=s*s+r=a/\r<=2*s
theorem AC.zero:AC 0 0 0:=⟨rfl,Gt _⟩
theorem jl (c:Nat)(hc:c<=1000)(h:V < ai^n):c*V+1000 < ai^(n+1):=by
 rw[GG]
 have h0:1<=ai^n:=by omega
 have h1:c*V<=1000*V:=lY _ hc;have h2:ai^n*2001<=ai^n*ai:=oY _ (by unfold ai;omega);omega
theorem tP {t:Nat}(neg up:Bool)(e:Int)(more more':Bool)(hp:p<=nb V)(hV:0 < V)(ht:t < 2^j)(hm:more=(more' || decide (t≠0))):
 cj neg (V*2^j+t) (e-(j:Int)) more' p up=cj neg V e more p up:=by
 have hj:=mF j
 have hnb:nb (V*2^j+t)=nb V+j:=by
  obtain⟨k,hk⟩:∃ k,nb V=k+1:=⟨nb V-1,by have:=gg hV;omega⟩;have h1:=dZ V;have h2:=fA hV;rw[hk]at h1 h2 ⊢;rw[show k+1+j=(k+j)+1 by omega];refine jU ?_ ?_
  . have h3:(V+1)*2^j<=2^(k+1)*2^j:=lY _ h1
    rw[← ou,show k+1+j=k+j+1 by omega,oM,Gr]at h3;omega
  . have h3:2^(k+1-1)*2^j<=V*2^j:=lY _ h2
    rw[← ou,show k+1-1+j=k+j by omega]at h3;omega
 obtain⟨k,hk⟩:∃ k,k=nb V-p:=⟨_,rfl⟩
 have hk':nb (V*2^j+t)-p=j+k:=by omega
 have hdiv:(V*2^j+t)/2^(j+k)=V/2^k:=by
  rw[ou,← Nat.div_div_eq_div_mul,qK V,G7 hj,Gn ht,GI]
 unfold cj;rw[hk',← hk,hdiv]
 have hb:(more' || decide (V/2^k*2^(j+k)≠V*2^j+t))=(more || decide (V/2^k*2^k≠V)):=by
  rw[hm,Bool.or_assoc]
  congr 1
  have h1:V/2^k*2^(j+k)=V/2^k*2^k*2^j:=by rw[GK j k,ou,Bx]
  rw[h1];have h2:V/2^k*2^k<=V:=GF _ _;generalize V/2^k*2^k=U at *
  by_cases h:t=0
  . subst h
    by_cases h':U=V
    . subst h';simp
    . have:U*2^j≠V*2^j:=fun hh=>h' (Gv hj hh)
      simp[h',this]
  . have h3:U*2^j<=V*2^j:=lY _ h2
    have:U*2^j≠V*2^j+t:=by omega
    simp[h,this]
 rw[hb]
 congr 1
 omega
theorem gM (neg up:Bool)(e:Int)(p:Nat):cj neg 0 e false p up=DR.zero:=by
 unfold cj
 simp[bH]
theorem sF {Va Vb:Nat}(ha:0 < Va)(hb:0 < Vb)(hr:p+nb Vb<=nb Va+r)(hp:1<=p):p<=nb (Va*2^r/Vb)/\0 < Va*2^r/Vb:=by
 have h1:=fA ha;have h2:=dZ Vb;have h3:=gg ha
 have h4:2^(p-1)*Vb<=Va*2^r:=by
  have e1:2^(p-1)*Vb<=2^(p-1)*2^nb Vb:=oY _ (Nat.le_of_lt h2);have e2:2^(nb Va-1)*2^r<=Va*2^r:=lY _ h1;rw[← ou]at e1 e2;have e3:2^(p-1+nb Vb)<=2^(nb Va-1+r):=Gu (by omega) (by omega);omega
 have h5:2^(p-1)<=Va*2^r/Vb:=(EM hb).2 h4;have h6:0 < Va*2^r/Vb:=Gp (mF _) h5;refine⟨?_,h6⟩
 rcases Bl (nb (Va*2^r/Vb)) p with h | h
 . have:=(bi (Va*2^r/Vb) (p-1)).1 (by omega);omega
 . exact h
theorem zf {Va Vb:Nat}(neg up:Bool)(e:Int)(hb:0 < Vb)(hr:p+nb Vb<=nb Va+r)(hp:1<=p):
 cj neg (Va*2^(r+j)/Vb) (e-((r+j:Nat):Int)) (decide (Va*2^(r+j)%Vb≠0)) p up=cj neg (Va*2^r/Vb) (e-(r:Int)) (decide (Va*2^r%Vb≠0)) p up:=by
 rcases yb Va with h0 | h0
 . subst h0
   simp only[GH,Nat.zero_div,G9];rw[show decide ((0:Nat)≠0)=false by decide,gM,gM]
 . obtain⟨h1,h2⟩:=sF h0 hb hr hp
   have hj:=mF j;generalize hX:Va*2^r=X at *
   have hXj:Va*2^(r+j)=X*2^j:=by rw[ou,← Bx,hX]
   rw[hXj];have hR:=Gx X hb;have hdm:=Gs X Vb;generalize X/Vb=Q at *;generalize X%Vb=R at *
   have e1:X*2^j=Vb*(Q*2^j)+R*2^j:=by rw[← hdm,oM,Bx]
   rw[e1,G7 hb,Nat.mul_add_mod];have ht:R*2^j/Vb < 2^j:=(GT hb).2 (by rw[qK];exact Nat.mul_lt_mul_of_pos_left hR hj);rw[show e-((r+j:Nat):Int)=e-(r:Int)-(j:Int) by omega];refine tP neg up (e-(r:Int)) (decide (R≠0)) _ h1 h2 ht ?_;have hd2:=Gs (R*2^j) Vb
   by_cases h:R=0
   . subst h;simp
   . have h3:0 < R*2^j:=G0 (by omega) hj
     by_cases h4:R*2^j%Vb=0
     . have h5:R*2^j/Vb≠0:=fun h6=>by rw[h6,h4]at hd2;omega
       simp[h,h4,h5]
     . simp[h,h4]
end Go.Proofs.YtmbmohibpkepdaaGreatDoor
