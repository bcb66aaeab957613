import Derived.Test.YtmbmohibpkepdaaGreatDoorPlSGDy10
open Nat renaming eq_zero_or_pos->lY, two_pow_pos->ou, zero_mul->oM, le_refl->oY, lt_of_lt_of_le->qK, add_zero->tz, pow_add->yb, mul_assoc->Bl, mul_pos->Bx
open Bool renaming false_eq_true->mF
namespace Go.Proofs.YtmbmohibpkepdaaGreatDoor
open Go.RowKit
variable {V Va g:Nat} {a b c:Value} {e ea eb:Int} {neg:Bool} {w w':World}
def sP (na nb':Bool)(A B:OA)(n m c d:Nat)(x y:Nat->Nat)(ea eb:Int):DL :=
 ⟨fun j=>if j=0 then na else nb',fun j=>if j=0 then A else B,fun j=>if j=0 then n else m,fun j=>if j=0 then c else d,fun j=>if j=0 then x else y,fun j=>if j=0 then ea else eb⟩
abbrev c6 (na nb':Bool)(A B:OA)(n m c d:Nat)(ea eb:Int):Obj:=.cells #[.bool na,.slice A n c,.int .i64 ea,.bool nb',.slice B m d,.int .i64 eb] 24
theorem BC (na nb':Bool)(A B:OA)(n m c d:Nat)(x y:Nat->Nat)(ea eb:Int)(w:World)(ha:Sl w A n c x)(hb:Sl w B m d y):
 Ls (w.alloc (c6 na nb' A B n m c d ea eb)) (some ⟨w.heap.size,0,none⟩) 2 2 (sP na nb' A B n m c d x y ea eb):=by
 have bB:Below w.heap.size w (w.alloc (c6 na nb' A B n m c d ea eb)):=(Below.refl _ w).alloc (oY _) _
 have hcell:∀ i v,(#[.bool na,.slice A n c,.int .i64 ea,.bool nb',.slice B m d,.int .i64 eb]:Array Value)[i]?=some v ->
  (w.alloc (c6 na nb' A B n m c d ea eb)).cell? ⟨w.heap.size,i,none⟩=some v:=fun i v h=>by
  rw[World.cell?_alloc_at _ _ _ _ (by simp)];exact h
 refine⟨oY _,fun _=>⟨_,rfl,by simp,fun j hj=>?_⟩,fun j hj=>?_⟩
 . have:j=0\/j=1:=by omega
   rcases this with rfl | rfl
   . exact⟨hcell 0 _ rfl,hcell 1 _ rfl,hcell 2 _ rfl⟩
   . exact⟨hcell 3 _ rfl,hcell 4 _ rfl,hcell 5 _ rfl⟩
 . have:j=0\/j=1:=by omega
   rcases this with rfl | rfl
   . exact ha.below bB
   . exact hb.below bB
def K3 (w:World)(g:Nat)(a b c:Value):Prop:=cA w g a b c/\g < w.heap.size
theorem K3.adv (h:K3 w g a b c)(hb:Below w.heap.size w w'):K3 w' g a b c:=⟨h.1.below hb h.2,qK h.2 hb.size⟩
theorem K3.cell (h:K3 w g a b c):w.cell? ⟨g,0,none⟩=some a/\w.cell? ⟨g,1,none⟩=some b/\w.cell? ⟨g,2,none⟩=some c/\g < w.heap.size:=⟨h.1.cell.1,h.1.cell.2.1,h.1.cell.2.2,h.2⟩
theorem K3.made (w:World)(a b c:Value):K3 (w.alloc (bJ a b c)) w.heap.size a b c:=⟨cA.made w a b c,by simp⟩
theorem ag (w:World)(o:Obj):Below w.heap.size w (w.alloc o):=(Below.refl _ w).alloc (oY _) _
theorem mN (w:World)(a b c d e f:Value):Below w.heap.size w ((w.alloc (bJ a b c)).alloc (bJ d e f))/\K3 ((w.alloc (bJ a b c)).alloc (bJ d e f)) w.heap.size a b c /\
 K3 ((w.alloc (bJ a b c)).alloc (bJ d e f)) (w.heap.size+1) d e f:=by
 have b1:=ag w (bJ a b c);have b2:=ag (w.alloc (bJ a b c)) (bJ d e f);have k2:=K3.made (w.alloc (bJ a b c)) d e f;rw[show(w.alloc (bJ a b c)).heap.size=w.heap.size+1 by simp]at k2;exact⟨b1.trans (b2.mono b1.size),(K3.made w a b c).adv b2,k2⟩
theorem aB {w1 w2:World}(h:Below w.heap.size w w1)(b:Below w1.heap.size w1 w2):Below w.heap.size w w2:=h.trans (b.mono h.size)
def DP (w:World)(r:DR)(e:Ending)(w':World):Prop:=∃ A p c,e=.returned (.tuple #[.agg #[.bool r.neg,.slice A p c,.int .i64 r.e],.bool r.ok])/\am w' (.slice A p c) r.m/\Below w.heap.size w w'
theorem fI.dp {r:DR}{e:Ending}(h:fI w r e w'):DP w r e w':=by
 obtain⟨v,rfl,⟨A,n,c,f,rfl,hm⟩,b⟩:=h;exact⟨A,n,c,rfl,⟨A,n,c,f,rfl,hm⟩,b⟩
def jQ (V:Nat)(e g:Int):Nat:=V*2^(e-g).toNat
def iG (neg:Bool)(V:Nat)(e g:Int):Int:=if neg then-(jQ V e g:Int) else(jQ V e g:Int)
theorem lX {g:Int}(ha:g<=ea)(hb:g<=eb):jQ Va ea g=cF Va ea eb*2^(min ea eb-g).toNat:=by
 unfold jQ cF;rw[Bl,← yb]
 congr 2
 omega
theorem Cf {a b:Nat}(h:a<=b):cQ a b<=0:=by
 unfold cQ
 split
 . omega
 . split <;> omega
theorem Cg {a b:Nat}(h:b<=a):0<=cQ a b:=by
 unfold cQ
 split
 . omega
 . split <;> omega
theorem zr {Vb:Nat}{g:Int}(ha:Va=0\/g<=ea)(hb:Vb=0\/g<=eb)(h:jQ Va ea g<=jQ Vb eb g):cF Va ea eb<=cF Vb eb ea:=by
 rcases lY Va with h0 | h0
 . subst h0;unfold cF;rw[oM];exact Nat.zero_le _
 . have ha':g<=ea:=by
    rcases ha with h | h
    . omega
    . exact h
   have hp:0 < jQ Va ea g:=Bx h0 (ou _)
   rcases lY Vb with h1 | h1
   . subst h1;unfold jQ at h hp;rw[oM]at h;omega
   . have hb':g<=eb:=by
      rcases hb with h | h
      . omega
      . exact h
     rw[lX ha' hb',lX hb' ha',show min eb ea=min ea eb by omega]at h;exact Nat.le_of_mul_le_mul_right h (ou _)
theorem nU {na nb':Bool}{Vb:Nat}{g:Int}(za:Va=0->na=false)(zb:Vb=0->nb'=false)(ha:Va=0\/g<=ea)(hb:Vb=0\/g<=eb)(h:iG na Va ea g<=iG nb' Vb eb g):fa na nb' Va Vb ea eb<=0:=by
 unfold iG at h;unfold fa dx
 cases na <;> cases nb'
 . simp only[if_true,if_false,mF]at h ⊢
   exact Cf (zr ha hb (by omega))
 . simp only[if_true,if_false,mF]at h ⊢
   have h1:0 < Vb:=by
    rcases lY Vb with h1 | h1
    . cases zb h1
    . exact h1
   have h2:0 < jQ Vb eb g:=Bx h1 (ou _);omega
 . simp
 . simp only[if_true]at h ⊢
   have:=Cg (zr hb ha (by omega:jQ Vb eb g<=jQ Va ea g))
   omega
structure AF (r:DR)(neg:Bool)(V:Nat)(e:Int):Prop where
 ok:r.ok=true
 plain:aR r.neg r.m r.e=true
 le:r.m<=V
 sg:r.m=0->r.neg=false
 z:V=0->r.m=0/\r.neg=false
 nz:0 < V->r.neg=neg/\∃ z:Nat,V=r.m*2^z/\r.e=e+z
 e1:V=0\/e<=r.e
 e2:r.m=0\/r.e<=e+(nb V:Int)
theorem jg (neg:Bool)(h1:nb V<=16384)(h2:-262144<=e)(h3:e+(nb V:Int)<=262144):AF (bH neg V e) neg V e:=by
 unfold bH
 rcases lY V with h | h
 . subst h
   rw[if_pos rfl];exact⟨rfl,rfl,oY _,fun _=>rfl,fun _=>⟨rfl,rfl⟩,fun h=>absurd h (by omega),.inl rfl,.inl rfl⟩
 . obtain⟨g1,g2⟩:=eP h
   have hv:v2 V < nb V:=by
    have e1:1*2^v2 V<=od V*2^v2 V:=Nat.mul_le_mul_right _ (jc h);have e2:=dZ V;exact(Nat.pow_lt_pow_iff_right (by omega:1 < 2)).1 (by omega)
   have hb:=bQ (pN V);have hf:cR (e+(v2 V:Int)):=⟨by omega,by omega⟩;have hc:nb (od V)<=MB/\cR (e+(v2 V:Int)):=⟨by rw[iD];omega,hf⟩;have hp:=jc h;rw[if_neg (by omega),if_pos hc];refine⟨rfl,?_,pN V,fun h0=>?_,fun h0=>absurd h0 (by omega),fun _=>⟨rfl,v2 V,g1,rfl⟩,.inr (by simp only;omega),.inr (by simp only;omega)⟩
   . unfold aR
     rw[if_neg (by simp only;omega)]
     simp[g2,hc.1,hc.2]
   . simp only at h0;omega
theorem AF.val {r:DR}{g:Int}(h:AF r neg V e)(hg:g<=e):jQ r.m r.e g=jQ V e g/\iG r.neg r.m r.e g=iG neg V e g:=by
 have hm:jQ r.m r.e g=jQ V e g:=by
  rcases lY V with h0 | h0
  . obtain⟨h1,_⟩:=h.z h0
    unfold jQ;rw[h1,h0,oM,oM]
  . obtain⟨_,z,h1,h2⟩:=h.nz h0
    unfold jQ;rw[h2]
    conv=>rhs;rw[h1]
    rw[Bl,← yb]
    congr 2
    omega
 refine⟨hm,?_⟩;unfold iG;rw[hm]
 rcases lY V with h0 | h0
 . subst h0;unfold jQ;rw[oM];simp
 . rw[(h.nz h0).1]
def kept (neg:Bool)(Q:Nat)(more:Bool)(P:Nat)(up:Bool):Nat:=Q/2^(nb Q-P)+(if (more || decide (Q/2^(nb Q-P)*2^(nb Q-P)≠Q)) && (up != neg) then 1 else 0)
theorem oH (neg:Bool)(Q:Nat)(e:Int)(more:Bool)(P:Nat)(up:Bool):cj neg Q e more P up=bH neg (kept neg Q more P up) (e+((nb Q-P:Nat):Int)):=rfl
theorem tc {Q:Nat}{more:Bool}{P:Nat}{up:Bool}(h:up=neg):kept neg Q more P up*2^(nb Q-P)<=Q:=by
 unfold kept;rw[show(up != neg)=false by simp[h],Bool.and_false];simp only[mF,if_false,tz];exact Nat.div_mul_le_self _ _
theorem pU {Q:Nat}{more:Bool}{P:Nat}{up:Bool}(h:up≠neg):Q+(if more then 1 else 0)<=kept neg Q more P up*2^(nb Q-P):=by
 have hu:(up != neg)=true:=by simpa using h
 have h1:Q < (Q/2^(nb Q-P)+1)*2^(nb Q-P):=Nat.lt_mul_of_div_lt (Nat.lt_succ_self _) (ou _);unfold kept;rw[hu,Bool.and_true];cases more
 . simp only[Bool.false_or,mF,if_false,tz]
   by_cases h2:Q/2^(nb Q-P)*2^(nb Q-P)=Q
   . rw[show decide (Q/2^(nb Q-P)*2^(nb Q-P)≠Q)=false by simp[h2]]
     simp only[mF,if_false,tz];omega
   . rw[show decide (Q/2^(nb Q-P)*2^(nb Q-P)≠Q)=true by simp[h2]]
     simp only[if_true];omega
 . simp only[Bool.true_or,if_true]
   omega
theorem qW (neg:Bool)(Q:Nat)(more:Bool)(P:Nat)(up:Bool):nb (kept neg Q more P up)+(nb Q-P)<=nb Q+1+(nb Q-P):=by
 have h1:kept neg Q more P up<=Q+1:=by
  unfold kept
  have:=Nat.div_le_self Q (2^(nb Q-P))
  split <;> omega
 have h2:=bQ h1;have h3:=iO Q;omega
theorem lV (A B:Nat):nb (A*B)<=nb A+nb B:=by
 refine(bi _ _).2 ?_;rw[yb];exact Nat.mul_lt_mul'' (dZ A) (dZ B)
theorem K3.only {g':Nat}(h:K3 w g' a b c)(o:az w w' g)(hne:g'≠g):K3 w' g' a b c:=⟨(o.block g' h.2 (by simpa using hne)).trans h.1,qK h.2 o.size⟩
theorem K3.put (h:K3 w g a b c)(x y z:Value):K3 (put3 w g x y z) g x y z:=by
 obtain⟨h1,h2⟩:=h;unfold cA at h1;refine⟨?_,by simpa [put3,World.setCell] using h2⟩;unfold cA
 simp[put3,World.setCell,Array.getElem?_modify,h1]
theorem K3.frozen (h:K3 w g a b c):w.frozen? ⟨g,0,none⟩=false/\w.frozen? ⟨g,1,none⟩=false/\w.frozen? ⟨g,2,none⟩=false:=h.1.frozen
theorem zv {v:Value}{na:Bool}{A:OA}{n c:Nat}(h:am w v V)(k:K3 w g (.bool na) (.slice A n c) (.int .i64 e))(o:az w w' g):am w' v V:=by
 obtain⟨A,n,cp,f,hv,hs,hc,he⟩:=h;exact⟨A,n,cp,f,hv,hs.only o (hs.apart k.1 (aD _) (av _ _ _) (aI _)),hc,he⟩
theorem ct {w0:World}(h:Below w0.heap.size w0 w)(o:az w w' g)(hg:w0.heap.size<=g):Below w0.heap.size w0 w':=az.below h o h.size hg
end Go.Proofs.YtmbmohibpkepdaaGreatDoor
