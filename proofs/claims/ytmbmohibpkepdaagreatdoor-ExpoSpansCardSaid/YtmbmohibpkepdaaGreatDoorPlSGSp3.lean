import Derived.Deep.DeepCutAuto
import Derived.Deep.RegionHeld3
import Derived.Test.YtmbmohibpkepdaaGreatDoorPlSGSp1
open Bool renaming and_eq_true->lY, or_eq_false_iff->oY, not_eq_false'->qK
open Go.Proofs.Tryz renaming prog->mF
open Nat renaming lt_of_lt_of_le->ou
open Go.World renaming setCell->oM, cell?->tz
namespace Go.Proofs.YtmbmohibpkepdaaGreatDoor
open Go.RowKit
variable {A B:OA} {T T':TypeId} {a c d g m n:Nat} {b:Value} {bad na:Bool} {cs:Array Value} {e p:Int} {hi hi' lo lo' r:DR} {ks:List (TypeId×Nat×Array Value)} {ns:List (Value×Nat)} {w w' wi:World}
section
variable {TW:TypeId}
def KC (T:TypeId)(w:World)(g:Nat)(cs:Array Value):Prop:=w.heap[g]?=some (.cells cs T (0,0))/\g < w.heap.size
theorem KC.adv (h:KC T w g cs)(b:Below w.heap.size w w'):KC T w' g cs:=⟨(b.block g h.2).trans h.1,ou h.2 b.size⟩
theorem KC.only {g':Nat}(h:KC T w g cs)(o:az w w' g')(hne:g≠g'):KC T w' g cs:=⟨(o.block g h.2 (by simpa using hne)).trans h.1,ou h.2 o.size⟩
theorem KC.drew (h:KC T w g cs):KC T w.drew g cs:=h
theorem KC.made (T:TypeId)(w:World)(cs:Array Value):KC T (w.alloc (.cells cs T)) w.heap.size cs:=⟨heap_alloc_new w _,by simp⟩
theorem KC.at_ (h:KC T w g cs)(i:Nat)(v:Value)(hv:cs[i]?=some v):w.cell? ⟨g,i,none⟩=some v:=by
 have h1:=h.1
 simp[tz,h1,hv]
theorem KC.fr (h:KC T w g cs)(i:Nat):w.frozen? ⟨g,i,none⟩=false:=by
 have h1:=h.1
 simp[World.frozen?,h1]
abbrev C6 (w:World)(g:Nat)(a b c d e f:Value):Prop:=w.cell? ⟨g,0,none⟩=some a/\w.cell? ⟨g,1,none⟩=some b/\w.cell? ⟨g,2,none⟩=some c/\w.cell? ⟨g,3,none⟩=some d/\w.cell? ⟨g,4,none⟩=some e/\w.cell? ⟨g,5,none⟩=some f
abbrev C3 (w:World)(g:Nat)(a b c:Value):Prop:=w.cell? ⟨g,0,none⟩=some a/\w.cell? ⟨g,1,none⟩=some b/\w.cell? ⟨g,2,none⟩=some c
abbrev D6 (w:World)(g:Nat)(x:DR)(A:OA)(n c:Nat)(y:DR)(B:OA)(m d:Nat):Prop:=C6 w g (.bool x.neg) (.slice A n c) (.int .i64 x.e) (.bool y.neg) (.slice B m d) (.int .i64 y.e)
abbrev s6 (x:DR)(A:OA)(n c:Nat)(y:DR)(B:OA)(m d:Nat):Array Value:=#[.bool x.neg,.slice A n c,.int .i64 x.e,.bool y.neg,.slice B m d,.int .i64 y.e]
abbrev s3 (x:DR)(A:OA)(n c:Nat):Array Value:=#[.bool x.neg,.slice A n c,.int .i64 x.e]
theorem KC.c6 {T w g}{a b c d e f:Value}(h:KC T w g #[a,b,c,d,e,f]): C6 w g a b c d e f:=⟨h.at_ 0 _ rfl,h.at_ 1 _ rfl,h.at_ 2 _ rfl,h.at_ 3 _ rfl,h.at_ 4 _ rfl,h.at_ 5 _ rfl⟩
theorem KC.c3 {T w g}{a b c:Value}{r:List Value}(h:KC T w g (a::b::c::r).toArray): C3 w g a b c:=⟨h.at_ 0 _ rfl,h.at_ 1 _ rfl,h.at_ 2 _ rfl⟩
theorem KC.c2 {T w g}{a b:Value}(h:KC T w g #[a,b]): w.cell? ⟨g,0,none⟩=some a/\w.cell? ⟨g,1,none⟩=some b:=⟨h.at_ 0 _ rfl,h.at_ 1 _ rfl⟩
theorem KC.f6 {T w g cs}(h:KC T w g cs): w.frozen? ⟨g,0,none⟩=false/\w.frozen? ⟨g,1,none⟩=false/\w.frozen? ⟨g,2,none⟩=false/\w.frozen? ⟨g,3,none⟩=false/\w.frozen? ⟨g,4,none⟩=false/\w.frozen? ⟨g,5,none⟩=false:=⟨h.fr 0,h.fr 1,h.fr 2,h.fr 3,h.fr 4,h.fr 5⟩
theorem KC.f3 {T w g cs}(h:KC T w g cs): w.frozen? ⟨g,0,none⟩=false/\w.frozen? ⟨g,1,none⟩=false/\w.frozen? ⟨g,2,none⟩=false:=⟨h.fr 0,h.fr 1,h.fr 2⟩
theorem KC.f2 {T w g cs}(h:KC T w g cs): w.frozen? ⟨g,0,none⟩=false/\w.frozen? ⟨g,1,none⟩=false:=⟨h.fr 0,h.fr 1⟩
theorem KC.b6 {a c d e f:Value}(h:KC 31 w g #[a,b,c,d,e,f]):ej w g a b c d e f:=h.1
theorem K3.kc {a c:Value}(h:K3 w g a b c):KC 24 w g #[a,b,c]:=h
theorem Wk.drew (h:Wk T w g p bad):Wk T w.drew g p bad:=h
def aC (w:World)(A:OA)(n c:Nat)(r:DR):Prop:=∃ x,Sl w A n c x/\n<=400000/\r.m=vs ai x n/\r.ok=aj r.neg n x r.e
section
variable {w w':World} {A:OA} {n c:Nat} {r:DR}
theorem aC.below (h:aC w A n c r)(b:Below w.heap.size w w'):aC w' A n c r:=by
 obtain⟨x,h1,h2⟩:=h;exact⟨x,h1.below b,h2⟩
theorem aC.wk (h:aC w A n c r)(k:Wk T w g p bad)(o:az w w' g):aC w' A n c r:=by
 obtain⟨x,h1,h2⟩:=h;exact⟨x,h1.wk k o,h2⟩
end
structure bl (r:DR):Prop where
 pl:aR r.neg r.m r.e=true
 bits:nb r.m<=16384
 e1:-262144<=r.e
 e2:r.e<=262144
 zero:r.m=0->r.e=0/\r.neg=false
 odd:r.m≠0->r.m%2=1
theorem aV (h:aR r.neg r.m r.e=true):bl r:=by
 have h':=h;unfold aR at h
 by_cases h0:r.m=0
 . rw[if_pos h0]at h
   simp only[lY,decide_eq_true_eq,Bool.not_eq_true']at h;exact⟨h',by rw[h0,aX];omega,by omega,by omega,fun _=>h,fun h=>absurd h0 h⟩
 . rw[if_neg h0]at h
   simp only[lY,decide_eq_true_eq]at h;obtain⟨⟨h1,h2⟩,h3⟩:=h;rw[iD]at h2;exact⟨h',h2,h3.1,h3.2,fun h=>absurd h h0,fun _=>h1⟩
section
variable {w w':World} {A:OA} {n c:Nat} {r:DR}
theorem aC.num (h:aC w A n c r)(hok:r.ok=true):am w (.slice A n c) r.m:=by
 obtain⟨x,h1,h2,h3,h4⟩:=h;rw[hok]at h4;rw[h3];exact(aS h4.symm).num h1
theorem aC.plain (h:aC w A n c r)(hok:r.ok=true):bl r:=by
 obtain⟨x,h1,h2,h3,h4⟩:=h;rw[hok]at h4;refine aV ?_;rw[h3,← mS (aS h4.symm).cn];exact h4.symm
theorem aC.of_num (h:am w (.slice A n c) r.m)(hp:aR r.neg r.m r.e=true)(hok:r.ok=true):aC w A n c r:=by
 have P:=aV hp;have l:=h.len 256 (by have:=P.bits;omega);obtain⟨A',n',c',x,hv,hs,hc,he⟩:=h;cases hv;refine⟨x,hs,by omega,he.symm,?_⟩;rw[mS hc,he,hp,hok]
theorem aC.len0 (h:aC w A n c r)(hok:r.ok=true):n=0 ↔ r.m=0:=(h.num hok).empty
end
def kq (r:DR):Prop:=r.ok=true->aR r.neg r.m r.e=true
theorem gZ (neg:Bool)(V:Nat)(e:Int):kq (bH neg V e):=by
 intro h;unfold bH at h ⊢
 by_cases h0:V=0
 . rw[if_pos h0];rfl
 . rw[if_neg h0]at h ⊢
   by_cases h1:nb (od V)<=MB/\cR (e+(v2 V:Int))
   . rw[if_pos h1]
     have h2:=eP (show 0 < V by omega);have h3:=jc (show 0 < V by omega);unfold aR;rw[if_neg (by simp only;omega)];simp only[h2.2,h1.1,h1.2,decide_true,Bool.and_self]
   . rw[if_neg h1]at h;cases h
theorem zo (neg:Bool)(V:Nat)(e:Int)(more:Bool)(p:Nat)(up:Bool):kq (cj neg V e more p up):=gZ _ _ _
theorem xu:kq DR.zero:=fun _=>rfl
theorem mT:kq DR.no:=fun h=>by cases h
structure dA (r:SRes):Prop where
 l1:r.lo.ok=true
 l2:aR r.lo.neg r.lo.m r.lo.e=true
 h1:r.hi.ok=true
 h2:aR r.hi.neg r.hi.m r.hi.e=true
theorem nC:dA SRes.no:=⟨rfl,rfl,rfl,rfl⟩
theorem ux (h1:kq lo)(h2:kq hi):dA (cG bad lo hi (lo.ok && hi.ok)):=by
 unfold cG
 by_cases h:(lo.ok && hi.ok)=true
 . rw[if_pos h]
   rw[lY]at h;exact⟨h.1,h1 h.1,h.2,h2 h.2⟩
 . rw[if_neg h];exact nC
theorem lI {b:Bool}(h1:kq lo)(h2:kq hi):dA (il b lo hi):=by
 unfold il;cases b
 . exact ux h1 h2
 . exact nC
theorem dA.lo_small {r:SRes}(h:dA r):r.lo.m < ai^256:=fW (n:=256) (by have:=(aV h.l2).bits;omega)
theorem dA.hi_small {r:SRes}(h:dA r):r.hi.m < ai^256:=fW (n:=256) (by have:=(aV h.h2).bits;omega)
def aw (lo hi:DR):Bool:=bG (lo.ok && hi.ok) lo.neg hi.neg lo.m hi.m lo.e hi.e
def eD (p:Int)(bad:Bool)(lo hi:DR):Bool:=bad || ge p || !aw lo hi
def dL (p:Int)(bad:Bool)(lo hi lo' hi':DR):Bool:=bad || ge p || !(aw lo hi && aw lo' hi')
structure oP (lo hi:DR):Prop where
 l:lo.ok=true
 h:hi.ok=true
 le:fa lo.neg hi.neg lo.m hi.m lo.e hi.e<=0
theorem dW (h:aw lo hi=true):oP lo hi:=by
 unfold aw bG at h;simp only[lY,decide_eq_true_eq]at h;exact⟨h.1.1,h.1.2,h.2⟩
theorem gN (h:eD p bad lo hi=false):bad=false/\(1<=p/\p<=8192)/\oP lo hi:=by
 unfold eD ge at h;simp only[oY,decide_eq_false_iff_not,qK]at h;exact⟨h.1.1,by omega,dW h.2⟩
theorem eB (h:dL p bad lo hi lo' hi'=false):bad=false/\(1<=p/\p<=8192)/\oP lo hi/\oP lo' hi':=by
 unfold dL ge at h;simp only[oY,decide_eq_false_iff_not,qK,lY]at h;exact⟨h.1.1,by omega,dW h.2.1,dW h.2.2⟩
theorem CF (g:Nat)(p:Int)(bad:Bool)(w:World)(hW:Wk TW w g p bad)(ha:aC w A n c lo)(hb:aC w B m d hi):
 Calls mF 42 #[.pointer (some ⟨g,0,none⟩),.slice (some ⟨w.heap.size,0,none⟩) 1 1] (w.alloc (ce (.bool lo.neg) (.slice A n c) (.int .i64 lo.e) (.bool hi.neg) (.slice B m d) (.int .i64 hi.e))) (qm TW w g p (eD p bad lo hi)):=by
 obtain⟨x,a1,a2,a3,a4⟩:=ha;obtain⟨y,b1,b2,b3,b4⟩:=hb;refine(lE lo.neg hi.neg A B n c m d x y lo.e hi.e g p bad w hW a1 b1 a2 b2).mono ?_;rintro e w' ⟨rfl,h1,h2⟩
 have e1:ck p bad lo.neg hi.neg n m x y lo.e hi.e=eD p bad lo hi:=by unfold ck eD aw;rw[a3,a4,b3,b4]
 rw[e1]at h1 ⊢;exact⟨rfl,h1,h2⟩
theorem qJ (g:Nat)(p:Int)(bad:Bool)(w:World)(hW:Wk 49 w g p bad)(ha:aC w A n c lo)(hb:aC w B m d hi):
 Calls mF 96 #[.pointer (some ⟨g,0,none⟩),.slice (some ⟨w.heap.size,0,none⟩) 1 1] (w.alloc (ce (.bool lo.neg) (.slice A n c) (.int .i64 lo.e) (.bool hi.neg) (.slice B m d) (.int .i64 hi.e))) (qm 49 w g p (eD p bad lo hi)):=by
 obtain⟨x,a1,a2,a3,a4⟩:=ha;obtain⟨y,b1,b2,b3,b4⟩:=hb;refine(lM lo.neg hi.neg A B n c m d x y lo.e hi.e g p bad w hW a1 b1 a2 b2).mono ?_;rintro e w' ⟨rfl,h1,h2⟩
 have e1:ck p bad lo.neg hi.neg n m x y lo.e hi.e=eD p bad lo hi:=by unfold ck eD aw;rw[a3,a4,b3,b4]
 rw[e1]at h1 ⊢;exact⟨rfl,h1,h2⟩
abbrev vm (a b c d e f a' b' c' d' e' f':Value):Obj:=.cells #[a,b,c,d,e,f,a',b',c',d',e',f'] 31
def two (na nb' na2 nb2:Bool)(A B A2 B2:OA)(n c m d n2 c2 m2 d2:Nat)(x y x2 y2:Nat->Nat)(ea eb ea2 eb2:Int):AJ :=
 ⟨⟨fun j=>if j=0 then na else na2,fun j=>if j=0 then A else A2,fun j=>if j=0 then n else n2,fun j=>if j=0 then c else c2,fun j=>if j=0 then x else x2,fun j=>if j=0 then ea else ea2⟩,
  ⟨fun j=>if j=0 then nb' else nb2,fun j=>if j=0 then B else B2,fun j=>if j=0 then m else m2,fun j=>if j=0 then d else d2,fun j=>if j=0 then y else y2,fun j=>if j=0 then eb else eb2⟩⟩
theorem vR (na nb' na2 nb2:Bool)(A B A2 B2:OA)(n c m d n2 c2 m2 d2:Nat)(x y x2 y2:Nat->Nat)(ea eb ea2 eb2:Int)(w:World)(ha:Sl w A n c x)(hb:Sl w B m d y)(ha2:Sl w A2 n2 c2 x2)(hb2:Sl w B2 m2 d2 y2):
 AK (w.alloc (vm (.bool na) (.slice A n c) (.int .i64 ea) (.bool nb') (.slice B m d) (.int .i64 eb) (.bool na2) (.slice A2 n2 c2) (.int .i64 ea2) (.bool nb2) (.slice B2 m2 d2) (.int .i64 eb2))) (some ⟨w.heap.size,0,none⟩) 2 2 (two na nb' na2 nb2 A B A2 B2 n c m d n2 c2 m2 d2 x y x2 y2 ea eb ea2 eb2):=by
 have bB:=ag w (vm (.bool na) (.slice A n c) (.int .i64 ea) (.bool nb') (.slice B m d) (.int .i64 eb) (.bool na2) (.slice A2 n2 c2) (.int .i64 ea2) (.bool nb2) (.slice B2 m2 d2) (.int .i64 eb2))
 have hcell:∀ i v,(#[.bool na,.slice A n c,.int .i64 ea,.bool nb',.slice B m d,.int .i64 eb,.bool na2,.slice A2 n2 c2,.int .i64 ea2,.bool nb2,.slice B2 m2 d2,.int .i64 eb2]:Array Value)[i]?=some v ->
  (w.alloc (vm (.bool na) (.slice A n c) (.int .i64 ea) (.bool nb') (.slice B m d) (.int .i64 eb) (.bool na2) (.slice A2 n2 c2) (.int .i64 ea2) (.bool nb2) (.slice B2 m2 d2) (.int .i64 eb2))).cell? ⟨w.heap.size,i,none⟩=some v:=fun i v h=>by
  rw[World.cell?_alloc_at _ _ _ _ (by simp)];exact h
 refine⟨Nat.le_refl _,fun _=>⟨_,rfl,by simp,fun j hj=>?_⟩,fun j hj=>?_⟩
 . have:j=0\/j=1:=by omega
   rcases this with rfl | rfl
   . exact⟨⟨hcell 0 _ rfl,hcell 1 _ rfl,hcell 2 _ rfl⟩,⟨hcell 3 _ rfl,hcell 4 _ rfl,hcell 5 _ rfl⟩⟩
   . exact⟨⟨hcell 6 _ rfl,hcell 7 _ rfl,hcell 8 _ rfl⟩,⟨hcell 9 _ rfl,hcell 10 _ rfl,hcell 11 _ rfl⟩⟩
 . have:j=0\/j=1:=by omega
   rcases this with rfl | rfl
   . exact⟨ha.below bB,hb.below bB⟩
   . exact⟨ha2.below bB,hb2.below bB⟩
theorem vI {A' B':OA}{n' c' m' d':Nat}(g:Nat)(p:Int)(bad:Bool)(w:World)(hW:Wk TW w g p bad)(ha:aC w A n c lo)(hb:aC w B m d hi)(ha':aC w A' n' c' lo')(hb':aC w B' m' d' hi'):
 Calls mF 42 #[.pointer (some ⟨g,0,none⟩),.slice (some ⟨w.heap.size,0,none⟩) 2 2]
  (w.alloc (vm (.bool lo.neg) (.slice A n c) (.int .i64 lo.e) (.bool hi.neg) (.slice B m d) (.int .i64 hi.e) (.bool lo'.neg) (.slice A' n' c') (.int .i64 lo'.e) (.bool hi'.neg) (.slice B' m' d') (.int .i64 hi'.e))) (qm TW w g p (dL p bad lo hi lo' hi')):=by
 obtain⟨x,a1,a2,a3,a4⟩:=ha;obtain⟨y,b1,b2,b3,b4⟩:=hb;obtain⟨x',a1',a2',a3',a4'⟩:=ha';obtain⟨y',b1',b2',b3',b4'⟩:=hb';have b:=ag w (vm (.bool lo.neg) (.slice A n c) (.int .i64 lo.e) (.bool hi.neg) (.slice B m d) (.int .i64 hi.e) (.bool lo'.neg) (.slice A' n' c') (.int .i64 lo'.e) (.bool hi'.neg) (.slice B' m' d') (.int .i64 hi'.e));refine(pp _ 2 2 _ g p bad _ (hW.below b) (vR lo.neg hi.neg lo'.neg hi'.neg A B A' B' n c m d n' c' m' d' x y x' y' lo.e hi.e lo'.e hi'.e w a1 b1 a1' b1') (fun j hj=>?_) (by omega)).mono ?_
 . have:j=0\/j=1:=by omega
   rcases this with rfl | rfl
   . exact⟨a2,b2⟩
   . exact⟨a2',b2'⟩
 . rintro e w' ⟨rfl,h1,h2⟩
   have e1:gT p bad (two lo.neg hi.neg lo'.neg hi'.neg A B A' B' n c m d n' c' m' d' x y x' y' lo.e hi.e lo'.e hi'.e) 2=dL p bad lo hi lo' hi':=by
    unfold gT dL bh bh bh dM two DL.v aw;rw[a3,a4,b3,b4,a3',a4',b3',b4']
    simp
   rw[e1]at h1 ⊢;exact⟨rfl,h1,(bU g b).trans h2⟩
theorem nD {A' B':OA}{n' c' m' d':Nat}(g:Nat)(p:Int)(bad:Bool)(w:World)(hW:Wk 49 w g p bad)(ha:aC w A n c lo)(hb:aC w B m d hi)(ha':aC w A' n' c' lo')(hb':aC w B' m' d' hi'):
 Calls mF 96 #[.pointer (some ⟨g,0,none⟩),.slice (some ⟨w.heap.size,0,none⟩) 2 2]
  (w.alloc (vm (.bool lo.neg) (.slice A n c) (.int .i64 lo.e) (.bool hi.neg) (.slice B m d) (.int .i64 hi.e) (.bool lo'.neg) (.slice A' n' c') (.int .i64 lo'.e) (.bool hi'.neg) (.slice B' m' d') (.int .i64 hi'.e))) (qm 49 w g p (dL p bad lo hi lo' hi')):=by
 obtain⟨x,a1,a2,a3,a4⟩:=ha;obtain⟨y,b1,b2,b3,b4⟩:=hb;obtain⟨x',a1',a2',a3',a4'⟩:=ha';obtain⟨y',b1',b2',b3',b4'⟩:=hb';have b:=ag w (vm (.bool lo.neg) (.slice A n c) (.int .i64 lo.e) (.bool hi.neg) (.slice B m d) (.int .i64 hi.e) (.bool lo'.neg) (.slice A' n' c') (.int .i64 lo'.e) (.bool hi'.neg) (.slice B' m' d') (.int .i64 hi'.e));refine(pB _ 2 2 _ g p bad _ (hW.below b) (vR lo.neg hi.neg lo'.neg hi'.neg A B A' B' n c m d n' c' m' d' x y x' y' lo.e hi.e lo'.e hi'.e w a1 b1 a1' b1') (fun j hj=>?_) (by omega)).mono ?_
 . have:j=0\/j=1:=by omega
   rcases this with rfl | rfl
   . exact⟨a2,b2⟩
   . exact⟨a2',b2'⟩
 . rintro e w' ⟨rfl,h1,h2⟩
   have e1:gT p bad (two lo.neg hi.neg lo'.neg hi'.neg A B A' B' n c m d n' c' m' d' x y x' y' lo.e hi.e lo'.e hi'.e) 2=dL p bad lo hi lo' hi':=by
    unfold gT dL bh bh bh dM two DL.v aw;rw[a3,a4,b3,b4,a3',a4',b3',b4']
    simp
   rw[e1]at h1 ⊢;exact⟨rfl,h1,(bU g b).trans h2⟩
end
def KS (w:World)(g:Nat):List (TypeId×Nat×Array Value)->Prop
 | []=>True
 | (T,a,cs) :: r=>(KC T w a cs/\a≠g)/\KS w g r
def NS (w:World):List (Value×Nat)->Prop
 | []=>True
 | (v,V) :: r=>am w v V/\NS w r
theorem KS.adv (b:Below w.heap.size w w'):∀ {ks:List (TypeId×Nat×Array Value)},KS w g ks->KS w' g ks
 | [],_=>trivial
 | (_,_,_) :: _,h=>⟨⟨h.1.1.adv b,h.1.2⟩,KS.adv b h.2⟩
theorem KS.only (o:az w w' g):∀ {ks:List (TypeId×Nat×Array Value)},KS w g ks->KS w' g ks
 | [],_=>trivial
 | (_,_,_) :: _,h=>⟨⟨h.1.1.only o h.1.2,h.1.2⟩,KS.only o h.2⟩
theorem KS.drew :∀ {ks:List (TypeId×Nat×Array Value)},KS w g ks->KS w.drew g ks
 | [],_=>trivial
 | (_,_,_) :: _,h=>⟨⟨h.1.1.drew,h.1.2⟩,KS.drew h.2⟩
theorem NS.adv (b:Below w.heap.size w w'):∀ {ns:List (Value×Nat)},NS w ns->NS w' ns
 | [],_=>trivial
 | (_,_) :: _,h=>⟨h.1.below b,NS.adv b h.2⟩
theorem NS.wk (k:Wk T w g p bad)(o:az w w' g):∀ {ns:List (Value×Nat)},NS w ns->NS w' ns
 | [],_=>trivial
 | (_,_) :: _,h=>⟨gG k o h.1,NS.wk k o h.2⟩
theorem NS.drew :∀ {ns:List (Value×Nat)},NS w ns->NS w.drew ns
 | [],_=>trivial
 | (_,_) :: _,h=>⟨h.1.below (Below.refl _ w).drew,NS.drew h.2⟩
structure St (T:TypeId)(w:World)(g:Nat)(p:Int)(bad:Bool)(wi:World)(ks:List (TypeId×Nat×Array Value))(ns:List (Value×Nat)):Prop where
 hg:g < w.heap.size
 O:az w wi g
 W:Wk T wi g p bad
 ks:KS wi g ks
 ns:NS wi ns
section
variable {T:TypeId} {w wi wj:World} {g:Nat} {p:Int} {bad bad':Bool} {ks:List (TypeId×Nat×Array Value)} {ns:List (Value×Nat)}
theorem St.below (h:St T w g p bad wi ks ns)(b:Below wi.heap.size wi wj):St T w g p bad wj ks ns:=⟨h.hg,bN h.O b,h.W.below b,h.ks.adv b,h.ns.adv b⟩
theorem St.only (h:St T w g p bad wi ks ns)(o:az wi wj g)(W':Wk T wj g p bad'):St T w g p bad' wj ks ns:=⟨h.hg,h.O.trans o,W',h.ks.only o,h.ns.wk h.W o⟩
theorem St.drew (h:St T w g p bad wi ks ns):St T w g p bad wi.drew ks ns:=⟨h.hg,bN h.O (Below.refl _ wi).drew,h.W.drew,h.ks.drew,h.ns.drew⟩
theorem St.num (h:St T w g p bad wi ks ns){v:Value}{V:Nat}(n:am wi v V):St T w g p bad wi ks ((v,V) :: ns):=⟨h.hg,h.O,h.W,h.ks,n,h.ns⟩
theorem St.lt (h:St T w g p bad wi ks ns):g < wi.heap.size:=ou h.hg h.O.size
theorem St.blk (h:St T w g p bad wi ks ns)(k:KC T' wi a cs)(hne:a≠g):St T w g p bad wi ((T',a,cs) :: ks) ns:=⟨h.hg,h.O,h.W,⟨⟨k,hne⟩,h.ks⟩,h.ns⟩
theorem St.alloc (h:St T w g p bad wi ks ns)(T':TypeId)(cs:Array Value):St T w g p bad (wi.alloc (.cells cs T')) ((T',wi.heap.size,cs) :: ks) ns :=
 (h.below (ag wi _)).blk (KC.made T' wi cs) (by have:=h.lt;omega)
theorem St.wc (h:St T w g p bad wi ks ns):wi.cell? ⟨g,0,none⟩=some (.int .i64 p)/\wi.cell? ⟨g,1,none⟩=some (.bool bad):=h.W.cell
theorem St.size (h:St T w g p bad wi ks ns):w.heap.size<=wi.heap.size:=h.O.size
theorem St.start (hW:Wk T w g p bad):St T w g p bad w [] []:=⟨hW.2,az.refl w g,hW,trivial,trivial⟩
theorem St.other (h:St T w g p bad wi ks ns)(o:az wi wj a)(ha:w.heap.size<=a)(hk:KS wj g ks)(hn:NS wj ns):St T w g p bad wj ks ns :=
 ⟨h.hg,fV h.O o ha,h.W.only o (by have:=h.hg;omega),hk,hn⟩
end
theorem KC.put3 {a c:Value}(h:KC T w g #[a,b,c])(x y z:Value):KC T (put3 w g x y z) g #[x,y,z]:=by
 obtain⟨h1,h2⟩:=h;refine⟨?_,by simpa [put3,oM] using h2⟩
 simp[oM,Array.getElem?_modify,h1]
theorem KC.put6 {a c d e f:Value}(h:KC T w g #[a,b,c,d,e,f])(x y z x' y' z':Value):KC T (put6 w g x y z x' y' z') g #[x,y,z,x',y',z']:=by
 obtain⟨h1,h2⟩:=h;refine⟨?_,by simpa [put6,oM] using h2⟩
 simp[oM,Array.getElem?_modify,h1]
abbrev zd:Array Value:=#[.bool false,.slice none 0 0,.int .i64 0]
abbrev zs:Array Value:=#[.bool false,.slice none 0 0,.int .i64 0,.bool false,.slice none 0 0,.int .i64 0]
theorem eK {v:Value}{V:Nat}(h:am w v V)(k:KC T w g #[.bool na,.slice A n c,.int .i64 e])(x y z:Value):am (put3 w g x y z) v V:=by
 obtain⟨A',n',cp,f,hv,hs,hc,he⟩:=h;refine⟨A',n',cp,f,hv,hs.only (aZ w g x y z) ?_,hc,he⟩;intro hn ad e he';obtain⟨ad',e',_,_,hc⟩:=hs.at_ (k:=0) hn;rw[e]at e'
 injection e' with e'
 subst e';have hb:=k.1;rw[show ad.add 0=ad from by simp[Addr.add]]at hc;simp only[tz,he',hb]at hc
 split at hc
 . cases hc
 . rcases h3:ad.off with _ | _ | _ | k
   . rw[h3]at hc;simp at hc
   . rw[h3]at hc;simp at hc
   . rw[h3]at hc;simp at hc
   . rw[h3]at hc;simp at hc
theorem NS.put3 (k:KC T w g #[.bool na,.slice A n c,.int .i64 e])(x y z:Value):∀ {ns:List (Value×Nat)},NS w ns->NS (put3 w g x y z) ns
 | [],_=>trivial
 | (_,_) :: _,h=>⟨eK h.1 k x y z,NS.put3 k x y z h.2⟩
def mG (a:Nat):List (TypeId×Nat×Array Value)->Prop
 | []=>True
 | (_,b,_) :: r=>b≠a/\mG a r
theorem KS.put (o:az w w' a):∀ {ks:List (TypeId×Nat×Array Value)},KS w g ks->mG a ks->KS w' g ks
 | [],_,_=>trivial
 | (_,_,_) :: _,h,hne=>⟨⟨h.1.1.only o hne.1,h.1.2⟩,KS.put o h.2 hne.2⟩
theorem St.put (h:St T w g p bad wi ks ns)(k:KC T' wi a #[.bool na,.slice A n c,.int .i64 e])
 (ha:w.heap.size<=a) (hne:mG a ks) (x y z:Value):St T w g p bad (put3 wi a x y z) ks ns :=
 h.other (aZ _ _ _ _ _) ha (h.ks.put (aZ _ _ _ _ _) hne) (h.ns.put3 k x y z)
theorem St.putK (h:St T w g p bad wi ks ns)(k:KC T' wi a #[.bool na,.slice A n c,.int .i64 e])
 (ha:w.heap.size<=a) (hne:mG a ks) (x y z:Value):St T w g p bad (put3 wi a x y z) ((T',a,#[x,y,z]) :: ks) ns :=
 (h.put k ha hne x y z).blk (k.put3 x y z) (by have:=h.hg;omega)
theorem St.give (h:St T w g p bad wi ks ns){gr:Nat} 
 (ha:am wi (.slice A n c) lo.m) (hb:am wi (.slice B m d) hi.m) (hr:KC 31 wi gr zs) (h1:w.heap.size<=gr) :
 am (put6 wi gr (.bool lo.neg) (.slice A n c) (.int .i64 lo.e) (.bool hi.neg) (.slice B m d) (.int .i64 hi.e)) (.slice A n c) lo.m/\am (put6 wi gr (.bool lo.neg) (.slice A n c) (.int .i64 lo.e) (.bool hi.neg) (.slice B m d) (.int .i64 hi.e)) (.slice B m d) hi.m /\
 Wk T (put6 wi gr (.bool lo.neg) (.slice A n c) (.int .i64 lo.e) (.bool hi.neg) (.slice B m d) (.int .i64 hi.e)) g p bad/\az w (put6 wi gr (.bool lo.neg) (.slice A n c) (.int .i64 lo.e) (.bool hi.neg) (.slice B m d) (.int .i64 hi.e)) g :=
 dm ha hb h.W h.O hr.b6 h1 h.hg
theorem ui (hW:Wk T w g p bad)(a b c d e f:Value):
 St T w g p bad ((w.alloc (ce a b c d e f)).alloc z6) [(31,w.heap.size+1,zs),(31,w.heap.size,#[a,b,c,d,e,f])] []:=by
 have h:=((St.start hW).alloc 31 #[a,b,c,d,e,f]).alloc 31 zs;rw[show(w.alloc (.cells #[a,b,c,d,e,f] 31)).heap.size=w.heap.size+1 by simp]at h;exact h
theorem yB (hW:Wk T w g p bad)(a b c d e f a' b' c' d' e' f':Value):
 St T w g p bad (((w.alloc (ce a b c d e f)).alloc (ce a' b' c' d' e' f')).alloc z6) [(31,w.heap.size+1+1,zs),(31,w.heap.size+1,#[a',b',c',d',e',f']),(31,w.heap.size,#[a,b,c,d,e,f])] []:=by
 have h:=(((St.start hW).alloc 31 #[a,b,c,d,e,f]).alloc 31 #[a',b',c',d',e',f']).alloc 31 zs;rw[show((w.alloc (.cells #[a,b,c,d,e,f] 31)).alloc (.cells #[a',b',c',d',e',f'] 31)).heap.size=w.heap.size+1+1 by simp,show(w.alloc (.cells #[a,b,c,d,e,f] 31)).heap.size=w.heap.size+1 by simp]at h;exact h
section
variable {TW:TypeId}
def aT (r:DR):DR:=if r.ok then(if r.m=0 then DR.zero else⟨true,!r.neg,r.m,r.e⟩) else DR.no
theorem jF (h:r.ok=true->bl r):kq (aT r):=by
 unfold aT;cases ho:r.ok
 . exact mT
 . simp only[if_true]
   by_cases h0:r.m=0
   . rw[if_pos h0];exact xu
   . rw[if_neg h0]
     intro _
     have:=(h ho).pl
     unfold aR at this ⊢;rw[if_neg h0]at this;simp only[if_neg h0];exact this
theorem jG (h:aC w A n c r){x:Nat->Nat}(a3:r.m=vs ai x n)(a4:r.ok=aj r.neg n x r.e):ep (aj r.neg n x r.e) r.neg n (vs ai x n) r.e=aT r:=by
 unfold ep aT;rw[← a4,← a3];cases ho:r.ok
 . rfl
 . simp only[if_true]
   have:=h.len0 ho
   by_cases h0:r.m=0
   . rw[if_pos h0,if_pos (this.2 h0)]
   . rw[if_neg h0,if_neg (fun h=>h0 (this.1 h))]
def gS (p:Int)(bad:Bool)(lo hi:DR):SRes:=il (eD p bad lo hi) (aT hi) (aT lo)
def uj (p:Int)(bad:Bool)(r:DR):SRes:=Bu (eD p bad r r) r.neg r.m r.e
theorem yH (h:r.ok=true->bl r):dA (uj p bad r):=by
 unfold uj Bu;cases hb:eD p bad r r
 . have hr:=(gN hb).2.2.l
   exact⟨rfl,(h hr).pl,rfl,(h hr).pl⟩
 . exact nC
def dv (lo hi:DR):Int:=fy (aw lo hi) lo.neg hi.neg (if lo.m=0 then 0 else 1)
theorem wm (g:Nat)(p:Int)(bad:Bool)(w:World)(hW:Wk TW w g p bad)(ha:aC w A n c lo)(hb:aC w B m d hi)(hT:bx w):
 Calls mF 69 #[.pointer (some ⟨g,0,none⟩),aG lo.neg A n c lo.e hi.neg B m d hi.e] w (ap TW w g p (gS p bad lo hi)):=by
 have da:=ha;have db:=hb;obtain⟨x,a1,a2,a3,a4⟩:=ha;obtain⟨y,b1,b2,b3,b4⟩:=hb
 have:=yE lo.neg hi.neg A B n c m d x y lo.e hi.e g p bad w hW a1 b1 a2 b2 hT
 rw[jG db b3 b4,jG da a3 a4,show ck p bad lo.neg hi.neg n m x y lo.e hi.e=eD p bad lo hi by unfold ck eD aw;rw[a3,a4,b3,b4]]at this;exact this
theorem yP (g:Nat)(p:Int)(bad:Bool)(w:World)(hW:Wk 49 w g p bad)(ha:aC w A n c lo)(hb:aC w B m d hi)(hT:bx w):
 Calls mF 106 #[.pointer (some ⟨g,0,none⟩),aG lo.neg A n c lo.e hi.neg B m d hi.e] w (ap 49 w g p (gS p bad lo hi)):=by
 have da:=ha;have db:=hb;obtain⟨x,a1,a2,a3,a4⟩:=ha;obtain⟨y,b1,b2,b3,b4⟩:=hb
 have:=xb lo.neg hi.neg A B n c m d x y lo.e hi.e g p bad w hW a1 b1 a2 b2 hT
 rw[jG db b3 b4,jG da a3 a4,show ck p bad lo.neg hi.neg n m x y lo.e hi.e=eD p bad lo hi by unfold ck eD aw;rw[a3,a4,b3,b4]]at this;exact this
theorem gY (g:Nat)(p:Int)(bad:Bool)(w:World)(hW:Wk TW w g p bad)(ha:aC w A n c r):
 Calls mF 13 #[.pointer (some ⟨g,0,none⟩),aP r.neg A n c r.e] w (ap TW w g p (uj p bad r)):=by
 obtain⟨x,a1,a2,a3,a4⟩:=ha
 have:=xt r.neg A n c x r.e g p bad w hW a1 a2
 rw[show ck p bad r.neg r.neg n n x x r.e r.e=eD p bad r r by unfold ck eD aw;rw[a3,a4],← a3]at this;exact this
theorem kN (g:Nat)(p:Int)(bad:Bool)(w:World)(hW:Wk 49 w g p bad)(ha:aC w A n c r):
 Calls mF 48 #[.pointer (some ⟨g,0,none⟩),aP r.neg A n c r.e] w (ap 49 w g p (uj p bad r)):=by
 obtain⟨x,a1,a2,a3,a4⟩:=ha
 have:=uA r.neg A n c x r.e g p bad w hW a1 a2
 rw[show ck p bad r.neg r.neg n n x x r.e r.e=eD p bad r r by unfold ck eD aw;rw[a3,a4],← a3]at this;exact this
theorem yG (w:World)(ha:aC w A n c lo)(hb:aC w B m d hi):
 Calls mF 61 #[aG lo.neg A n c lo.e hi.neg B m d hi.e] w fun o w'=>o=.returned (.int .i64 (dv lo hi))/\Below w.heap.size w w':=by
 have da:=ha;obtain⟨x,a1,a2,a3,a4⟩:=ha;obtain⟨y,b1,b2,b3,b4⟩:=hb;have h:=wU lo.neg hi.neg A B n c m d x y lo.e hi.e w a1 b1 a2 b2
 have e:fy (bG (aj lo.neg n x lo.e && aj hi.neg m y hi.e) lo.neg hi.neg (vs ai x n) (vs ai y m) lo.e hi.e) lo.neg hi.neg n=dv lo hi:=by
  unfold dv aw;rw[a3,a4,b3,b4];rw[← a3,← a4,← b3,← b4];cases hr:bG (lo.ok && hi.ok) lo.neg hi.neg lo.m hi.m lo.e hi.e
  . rfl
  . have:=da.len0 (dW (lo:=lo) (hi:=hi) hr).l
    unfold fy;simp only[if_true]
    by_cases h0:lo.m=0
    . rw[if_pos h0,this.2 h0]
    . rw[if_neg h0]
      have h1:n≠0:=fun h=>h0 (this.1 h)
      simp[h1]
 rw[e]at h;exact h
theorem Bm (w:World)(ha:aC w A n c lo)(hb:aC w B m d hi):
 Calls mF 100 #[aG lo.neg A n c lo.e hi.neg B m d hi.e] w fun o w'=>o=.returned (.int .i64 (dv lo hi))/\Below w.heap.size w w':=by
 have da:=ha;obtain⟨x,a1,a2,a3,a4⟩:=ha;obtain⟨y,b1,b2,b3,b4⟩:=hb;have h:=uz lo.neg hi.neg A B n c m d x y lo.e hi.e w a1 b1 a2 b2
 have e:fy (bG (aj lo.neg n x lo.e && aj hi.neg m y hi.e) lo.neg hi.neg (vs ai x n) (vs ai y m) lo.e hi.e) lo.neg hi.neg n=dv lo hi:=by
  unfold dv aw;rw[a3,a4,b3,b4];rw[← a3,← a4,← b3,← b4];cases hr:bG (lo.ok && hi.ok) lo.neg hi.neg lo.m hi.m lo.e hi.e
  . rfl
  . have:=da.len0 (dW (lo:=lo) (hi:=hi) hr).l
    unfold fy;simp only[if_true]
    by_cases h0:lo.m=0
    . rw[if_pos h0,this.2 h0]
    . rw[if_neg h0]
      have h1:n≠0:=fun h=>h0 (this.1 h)
      simp[h1]
 rw[e]at h;exact h
end
end Go.Proofs.YtmbmohibpkepdaaGreatDoor
