import Derived.Test.YtmbmohibpkepdaaGreatDoorPlSGDy11
set_option maxHeartbeats 8000000
set_option maxRecDepth 8000
open Go.Lib renaming hid->lY
open Go.Proofs.Tryz renaming prog->mF, results106->DE, results99->EM, results69->Gk, results125->Gq, results13->Gr, results48->Gs
open Nat renaming le_trans->ou, lt_of_lt_of_le->oM, le_refl->oY, zero_le->tz, eq_zero_or_pos->Gn
open Bool renaming true_and->qK, false_and->yb, and_eq_true->Bx, or_eq_false_iff->Gl, false_eq_true->Gm, not_not->Gp
open Go.World renaming cell?->Bl, cell?_of_block->DF, frozen?->Gt, setCell->Gu
namespace Go.Proofs.YtmbmohibpkepdaaGreatDoor
open Go.RowKit
variable {A:OA} {T:TypeId} {a b c d e f v:Value} {bad:Bool} {g gr m n:Nat} {p:Int} {w w' w1:World}
abbrev aG (na:Bool)(A:OA)(n c:Nat)(ea:Int)(nb':Bool)(B:OA)(m d:Nat)(eb:Int):Value :=
 .agg #[.bool na,.slice A n c,.int .i64 ea,.bool nb',.slice B m d,.int .i64 eb]
def bG (ok na nb':Bool)(Va Vb:Nat)(ea eb:Int):Bool:=ok && decide (fa na nb' Va Vb ea eb<=0)
abbrev ce (a b c d e f:Value):Obj:=.cells #[a,b,c,d,e,f] 31
def ej (w:World)(g:Nat)(a b c d e f:Value):Prop:=w.heap[g]?=some (.cells #[a,b,c,d,e,f] 31 (0,0))
theorem ej.made (w:World)(a b c d e f:Value):ej (w.alloc (ce a b c d e f)) w.heap.size a b c d e f:=heap_alloc_new w _
theorem ej.below {B:Nat}(h:ej w g a b c d e f)(hb:Below B w w')(hg:g < B):ej w' g a b c d e f:=(hb.block g hg).trans h
theorem ej.cell (h:ej w g a b c d e f):w.cell? ⟨g,0,none⟩=some a/\w.cell? ⟨g,1,none⟩=some b/\w.cell? ⟨g,2,none⟩=some c/\w.cell? ⟨g,3,none⟩=some d/\w.cell? ⟨g,4,none⟩=some e/\w.cell? ⟨g,5,none⟩=some f:=by
 unfold ej at h
 simp[Bl,h]
theorem ej.frozen (h:ej w g a b c d e f)(i:Nat):w.frozen? ⟨g,i,none⟩=false:=by
 unfold ej at h
 simp[Gt,h]
theorem hO (na nb':Bool)(A B:OA)(n c m d:Nat)(x y:Nat->Nat)(ea eb:Int)(w:World)(ha:Sl w A n c x)(hb:Sl w B m d y)(hn:n<=400000)(hm:m<=400000):
 Calls mF 85 #[aG na A n c ea nb' B m d eb] w
  fun o w'=>o=.returned (.bool (bG (aj na n x ea && aj nb' m y eb) na nb' (vs ai x n) (vs ai y m) ea eb))/\Below w.heap.size w w':=by
 have bA:Below w.heap.size w (w.alloc (ce (.bool na) (.slice A n c) (.int .i64 ea) (.bool nb') (.slice B m d) (.int .i64 eb))):=(Below.refl _ w).alloc (oY _) _;have kA:=(ej.made w (.bool na) (.slice A n c) (.int .i64 ea) (.bool nb') (.slice B m d) (.int .i64 eb)).cell;obtain⟨k0,k1,k2,k3,k4,k5⟩:=kA;have CM:=lY (oC na nb' A B n c m d x y ea eb _ (ha.below bA) (hb.below bA) hn hm)
 have HR:Hid (bG (aj na n x ea && aj nb' m y eb) na nb' (vs ai x n) (vs ai y m) ea eb=((aj na n x ea && aj nb' m y eb) && decide (gh (aj na n x ea && aj nb' m y eb) na nb' (vs ai x n) (vs ai y m) ea eb<=0))):=lY (by
  unfold bG gh
  cases (aj na n x ea && aj nb' m y eb) <;> simp)
 rw[HR.out];generalize gh (aj na n x ea && aj nb' m y eb) na nb' (vs ai x n) (vs ai y m) ea eb=z at *;generalize(aj na n x ea && aj nb' m y eb)=ok at *;clear HR;go_enter Tryz.func85,Tryz.ntmps85;go_wp2_with fail;refine CM.out.mono ?_;rintro e' w2 ⟨rfl,b⟩;have B2:=bA.trans (b.mono bA.size);clear CM b bA k0 k1 k2 k3 k4 k5;cases ok
 . go_wp2_with fail
   go_ret;exact⟨rfl,B2⟩
 . go_wp2_with fail
   go_ret;exact⟨by simp,B2⟩
theorem gD (na nb':Bool)(A B:OA)(n c m d:Nat)(x y:Nat->Nat)(ea eb:Int)(w:World)(ha:Sl w A n c x)(hb:Sl w B m d y)(hn:n<=400000)(hm:m<=400000):
 Calls mF 24 #[aG na A n c ea nb' B m d eb] w
  fun o w'=>o=.returned (.bool (bG (aj na n x ea && aj nb' m y eb) na nb' (vs ai x n) (vs ai y m) ea eb))/\Below w.heap.size w w':=by
 have bA:Below w.heap.size w (w.alloc (ce (.bool na) (.slice A n c) (.int .i64 ea) (.bool nb') (.slice B m d) (.int .i64 eb))):=(Below.refl _ w).alloc (oY _) _;have kA:=(ej.made w (.bool na) (.slice A n c) (.int .i64 ea) (.bool nb') (.slice B m d) (.int .i64 eb)).cell;obtain⟨k0,k1,k2,k3,k4,k5⟩:=kA;have CM:=lY (lP na nb' A B n c m d x y ea eb _ (ha.below bA) (hb.below bA) hn hm)
 have HR:Hid (bG (aj na n x ea && aj nb' m y eb) na nb' (vs ai x n) (vs ai y m) ea eb=((aj na n x ea && aj nb' m y eb) && decide (gh (aj na n x ea && aj nb' m y eb) na nb' (vs ai x n) (vs ai y m) ea eb<=0))):=lY (by
  unfold bG gh
  cases (aj na n x ea && aj nb' m y eb) <;> simp)
 rw[HR.out];generalize gh (aj na n x ea && aj nb' m y eb) na nb' (vs ai x n) (vs ai y m) ea eb=z at *;generalize(aj na n x ea && aj nb' m y eb)=ok at *;clear HR;go_enter Tryz.func24,Tryz.ntmps24;go_wp2_with fail;refine CM.out.mono ?_;rintro e' w2 ⟨rfl,b⟩;have B2:=bA.trans (b.mono bA.size);clear CM b bA k0 k1 k2 k3 k4 k5;cases ok
 . go_wp2_with fail
   go_ret;exact⟨rfl,B2⟩
 . go_wp2_with fail
   go_ret;exact⟨by simp,B2⟩
theorem jj (na nb':Bool)(A B:OA)(n c m d:Nat)(x y:Nat->Nat)(ea eb:Int)(w:World)(ha:Sl w A n c x)(hb:Sl w B m d y)(hn:n<=400000)(hm:m<=400000):
 Calls mF 113 #[aP na A n c ea,aP nb' B m d eb] w
  fun o w'=>o=.returned (.bool (decide (gh (aj na n x ea && aj nb' m y eb) na nb' (vs ai x n) (vs ai y m) ea eb < 0)))/\Below w.heap.size w w':=by
 have S:=FA.start w na A n c ea nb' B m d eb;have CM:=lY (oC na nb' A B n c m d x y ea eb _ (ha.below S.bel) (hb.below S.bel) hn hm);generalize gh (aj na n x ea && aj nb' m y eb) na nb' (vs ai x n) (vs ai y m) ea eb=z at *;generalize(aj na n x ea && aj nb' m y eb)=ok at *;go_enter Tryz.func113,Tryz.ntmps113;go_wp2_with fail;refine CM.out.mono ?_;rintro e' w2 ⟨rfl,b⟩;have F:=S.adv b;have B2:=F.bel;clear S b F CM;go_wp2_with fail;go_ret;exact⟨rfl,B2⟩
def Wk (T:TypeId)(w:World)(g:Nat)(p:Int)(bad:Bool):Prop:=w.heap[g]?=some (.cells #[.int .i64 p,.bool bad] T (0,0))/\g < w.heap.size
theorem Wk.cell (h:Wk T w g p bad):w.cell? ⟨g,0,none⟩=some (.int .i64 p)/\w.cell? ⟨g,1,none⟩=some (.bool bad):=by
 have h1:=h.1
 constructor <;> simp[Bl,h1]
theorem Wk.frozen (h:Wk T w g p bad)(i:Nat):w.frozen? ⟨g,i,none⟩=false:=by
 have h1:=h.1
 simp[Gt,h1]
theorem Wk.below (h:Wk T w g p bad)(b:Below w.heap.size w w'):Wk T w' g p bad:=⟨(b.block g h.2).trans h.1,oM h.2 b.size⟩
theorem Wk.set1 (h:Wk T w g p bad)(b:Bool):Wk T (w.setCell ⟨g,1,none⟩ (.bool b)) g p b:=by
 obtain⟨h1,h2⟩:=h;refine⟨?_,by simpa [Gu] using h2⟩
 simp[Gu,Array.getElem?_modify,h1]
theorem Wk.only {g':Nat}(h:Wk T w g p bad)(o:az w w' g')(hne:g≠g'):Wk T w' g p bad:=⟨(o.block g h.2 (by simpa using hne)).trans h.1,oM h.2 o.size⟩
theorem bU (g:Nat)(b:Below w.heap.size w w'):az w w' g:=⟨b.os,b.tape,b.output,b.size,fun i hi _=>b.block i hi⟩
theorem bN {w2:World}(o:az w w1 g)(b:Below w1.heap.size w1 w2):az w w2 g:=o.trans (bU g b)
theorem qp (k:Wk T w g p bad)(o:az w w' g){a:Addr}(h:w.cell? a=some v)(hv:(∀ z,v≠.int .i64 z)/\∀ b,v≠.bool b):w'.cell? a=some v:=by
 have hne:a.block≠g:=fun e=>by
  have h1:=k.1;simp only[Bl,e,h1]at h
  split at h
  . cases h
  . rcases h3:a.off with _ | _ | i
    . rw[h3]at h;simp at h;exact hv.1 _ h.symm
    . rw[h3]at h;simp at h;exact hv.2 _ h.symm
    . rw[h3]at h;simp at h
 have hb:=World.block_lt_of_cell? _ _ h;exact(DF (o.block _ hb (by simpa using hne))).trans h
theorem rO (k:Wk T w g p bad){a:Addr}(h:w.cell? a=some v)(hv:(∀ z,v≠.int .i64 z)/\∀ b,v≠.bool b):a.block≠g:=fun e=>by
 have h1:=k.1;simp only[Bl,e,h1]at h
 split at h
 . cases h
 . rcases h3:a.off with _ | _ | i
   . rw[h3]at h;simp at h;exact hv.1 _ h.symm
   . rw[h3]at h;simp at h;exact hv.2 _ h.symm
   . rw[h3]at h;simp at h
theorem Sl.wk (k:Wk T w g p bad)(o:az w w' g){c:Nat}{f:Nat->Nat}(h:Sl w A n c f):Sl w' A n c f :=
 h.only o fun hn ad e=>by
  obtain⟨ad',e',_,_,hc⟩:=h.at_ (k:=0) hn;rw[e]at e'
  injection e' with e'
  subst e';rw[show ad.add 0=ad from by simp[Addr.add]]at hc;exact rO k hc ⟨fun z h=>(by cases h),fun b h=>(by cases h)⟩
structure AJ where
 lo:DL
 hi:DL
def AK (w:World)(L:OA)(k cp:Nat)(l:AJ):Prop :=
 k<=cp/\(0 < k->∃ ad,L=some ad/\ad.block < w.heap.size/\∀ j,j < k ->
  (w.cell? (ad.add (j*6))=some (.bool (l.lo.ng j))/\w.cell? ⟨(ad.add (j*6)).block,(ad.add (j*6)).off+1,none⟩=some (.slice (l.lo.A j) (l.lo.n j) (l.lo.c j))/\w.cell? ⟨(ad.add (j*6)).block,(ad.add (j*6)).off+2,none⟩=some (.int .i64 (l.lo.e j))) /\
  (w.cell? ⟨(ad.add (j*6)).block,(ad.add (j*6)).off+3,none⟩=some (.bool (l.hi.ng j))/\w.cell? ⟨(ad.add (j*6)).block,(ad.add (j*6)).off+4,none⟩=some (.slice (l.hi.A j) (l.hi.n j) (l.hi.c j))/\w.cell? ⟨(ad.add (j*6)).block,(ad.add (j*6)).off+5,none⟩=some (.int .i64 (l.hi.e j)))) /\
  ∀ j,j < k->Sl w (l.lo.A j) (l.lo.n j) (l.lo.c j) (l.lo.x j)/\Sl w (l.hi.A j) (l.hi.n j) (l.hi.c j) (l.hi.x j)
theorem AK.below {L:OA}{k cp:Nat}{l:AJ}(h:AK w L k cp l)(b:Below w.heap.size w w'):AK w' L k cp l:=by
 obtain⟨h1,h2,h3⟩:=h;refine⟨h1,fun hk=>?_,fun j hj=>⟨(h3 j hj).1.below b,(h3 j hj).2.below b⟩⟩;obtain⟨ad,e,hb,hc⟩:=h2 hk;refine⟨ad,e,oM hb b.size,fun j hj=>?_⟩;obtain⟨⟨c0,c1,c2⟩,⟨c3,c4,c5⟩⟩:=hc j hj
 exact⟨⟨(b.cell (by rw[ao];exact hb)).trans c0,(b.cell (by simp only[ao];exact hb)).trans c1,(b.cell (by simp only[ao];exact hb)).trans c2⟩,
  ⟨(b.cell (by simp only[ao];exact hb)).trans c3,(b.cell (by simp only[ao];exact hb)).trans c4,(b.cell (by simp only[ao];exact hb)).trans c5⟩⟩
theorem AK.wk (kw:Wk T w g p bad)(o:az w w' g){L:OA}{k cp:Nat}{l:AJ}(h:AK w L k cp l):AK w' L k cp l:=by
 obtain⟨h1,h2,h3⟩:=h;refine⟨h1,fun hk=>?_,fun j hj=>⟨(h3 j hj).1.wk kw o,(h3 j hj).2.wk kw o⟩⟩;obtain⟨ad,e,hb,hc⟩:=h2 hk
 have hne:ad.block≠g:=by
  have h4:=rO kw (hc 0 hk).1.2.1 ⟨fun z h=>(by cases h),fun b h=>(by cases h)⟩
  simpa only[ao] using h4
 have hs:∀ a:Addr,a.block=ad.block->w'.cell? a=w.cell? a:=fun a ha=>DF (o.block _ (by rw[ha];exact hb) (by rw[ha];simpa using hne))
 refine⟨ad,e,oM hb o.size,fun j hj=>?_⟩;obtain⟨⟨c0,c1,c2⟩,⟨c3,c4,c5⟩⟩:=hc j hj;exact⟨⟨(hs _ (ao _ _)).trans c0,(hs _ (by simp only[ao])).trans c1,(hs _ (by simp only[ao])).trans c2⟩,⟨(hs _ (by simp only[ao])).trans c3,(hs _ (by simp only[ao])).trans c4,(hs _ (by simp only[ao])).trans c5⟩⟩
def dM (l:AJ)(j:Nat):Bool:=bG (aj (l.lo.ng j) (l.lo.n j) (l.lo.x j) (l.lo.e j) && aj (l.hi.ng j) (l.hi.n j) (l.hi.x j) (l.hi.e j)) (l.lo.ng j) (l.hi.ng j) (l.lo.v j) (l.hi.v j) (l.lo.e j) (l.hi.e j)
def bh (l:AJ):Nat->Bool
 | 0=>true
 | k+1=>bh l k && dM l k
def ge (p:Int):Bool:=decide (p < 1) || decide (8192 < p)
section
variable {TW:TypeId}
def gT (p:Int)(bad:Bool)(l:AJ)(k:Nat):Bool:=bad || ge p || !bh l k
def qm (T:TypeId)(w:World)(g:Nat)(p:Int)(nb:Bool)(e:Ending)(w':World):Prop:=e=.returned (.bool (!nb))/\Wk T w' g p nb/\az w w' g
theorem bZ (w:World)(g:Nat)(v:Value):az w (w.setCell ⟨g,1,none⟩ v) g:=(az.refl w g).set_ 1 v
theorem ko (w:World)(a b c d e f:Value):Below w.heap.size w (w.alloc (ce a b c d e f)):=(Below.refl _ w).alloc (oY _) _
theorem pp (L:OA)(k cp:Nat)(l:AJ)(g:Nat)(p:Int)(bad:Bool)(w:World)(hW:Wk TW w g p bad)(h:AK w L k cp l)(hlen:∀ j,j < k->l.lo.n j<=400000/\l.hi.n j<=400000)(hk:k<=9223372036854775807):
 Calls mF 42 #[.pointer (some ⟨g,0,none⟩),.slice L k cp] w (qm TW w g p (gT p bad l k)):=by
 have HLEN:=lY hlen;clear hlen;obtain⟨kw0,kw1⟩:=hW.cell;have kwf:=hW.frozen 1;go_enter Tryz.func42,Tryz.ntmps42;cases bad
 . by_cases h1:p < 1
   . have HNB:Hid (gT p false l k=true):=lY (by unfold gT;rw[show ge p=true by unfold ge;simp;omega];simp)
     have KW1:Wk TW (w.setCell ⟨g,1,none⟩ (.bool true)) g p (true):=hW.set1 true;have O1:=bZ w g (.bool true);go_wp2_with fail;generalize w.setCell ⟨g,1,none⟩ (.bool true)=w1 at *;clear kw0 kw1 kwf
     go_loopw [32] (fun s32 wr=>∃ j:Nat,j<=k/\s32=.int .i64 (j:Int)/\Wk TW wr g p (true)/\az w wr g) (fun s32 _=>k-(intOf s32).toNat)
     case atStart=>exact⟨0,tz _,rfl,KW1,O1⟩
     case round =>
      clear KW1 O1;obtain⟨j,hj,rfl,KW,O⟩:=hrel
      by_cases hlt:j < k
      . have hlt':(j:Int) < (k:Int):=by omega
        have HS:=h.wk hW O;have hln:=HLEN.out j hlt;obtain⟨ad,rfl,hb,hc⟩:=(HS).2.1 (by omega);obtain⟨⟨d0,d1,d2⟩,⟨d3,d4,d5⟩⟩:=hc j hlt;obtain⟨sl,sh⟩:=(HS).2.2 j hlt;clear hc;have bA:=ko wr (.bool (l.lo.ng j)) (.slice (l.lo.A j) (l.lo.n j) (l.lo.c j)) (.int .i64 (l.lo.e j)) (.bool (l.hi.ng j)) (.slice (l.hi.A j) (l.hi.n j) (l.hi.c j)) (.int .i64 (l.hi.e j));have kA:=(ej.made wr (.bool (l.lo.ng j)) (.slice (l.lo.A j) (l.lo.n j) (l.lo.c j)) (.int .i64 (l.lo.e j)) (.bool (l.hi.ng j)) (.slice (l.hi.A j) (l.hi.n j) (l.hi.c j)) (.int .i64 (l.hi.e j))).cell;obtain⟨ka0,ka1,ka2,ka3,ka4,ka5⟩:=kA;have KA:=KW.below bA;have OAq:=bN O bA;have IR:=lY (hO (l.lo.ng j) (l.hi.ng j) (l.lo.A j) (l.hi.A j) (l.lo.n j) (l.lo.c j) (l.hi.n j) (l.hi.c j) (l.lo.x j) (l.hi.x j) (l.lo.e j) (l.hi.e j) _ (sl.below bA) (sh.below bA) hln.1 hln.2);have HR:Hid (bh l (j+1)=(bh l j && dM l j)):=lY rfl;have HR1:Hid (bG (aj (l.lo.ng j) (l.lo.n j) (l.lo.x j) (l.lo.e j) && aj (l.hi.ng j) (l.hi.n j) (l.hi.x j) (l.hi.e j)) (l.lo.ng j) (l.hi.ng j) (vs ai (l.lo.x j) (l.lo.n j)) (vs ai (l.hi.x j) (l.hi.n j)) (l.lo.e j) (l.hi.e j)=dM l j):=lY rfl;rw[HR1.out]at IR;obtain⟨kw0,kw1⟩:=KA.cell;have kwf:=KA.frozen 1;clear HR1 HS bA KW O sl sh;go_wp2_with fail;go_roundw
        case rel=>exact⟨j+1,by omega,by go_num,KA.set1 true,OAq.trans (bZ _ g _)⟩
        case measure=>simp[intOf];omega
      . obtain rfl:j=k:=by omega
        have hlt':¬ (j:Int) < (j:Int):=by omega
        obtain⟨kw0,kw1⟩:=KW.cell;go_wp2_with fail;go_ret;exact⟨by rw[HNB.out];first | rfl | (rw[Gp];rfl),by rw[HNB.out];exact KW,O⟩
   . by_cases h2:8192 < p
     . have HNB:Hid (gT p false l k=true):=lY (by unfold gT;rw[show ge p=true by unfold ge;simp;omega];simp)
       have KW1:Wk TW (w.setCell ⟨g,1,none⟩ (.bool true)) g p (true):=hW.set1 true;have O1:=bZ w g (.bool true);go_wp2_with fail;generalize w.setCell ⟨g,1,none⟩ (.bool true)=w1 at *;clear kw0 kw1 kwf
       go_loopw [32] (fun s32 wr=>∃ j:Nat,j<=k/\s32=.int .i64 (j:Int)/\Wk TW wr g p (true)/\az w wr g) (fun s32 _=>k-(intOf s32).toNat)
       case atStart=>exact⟨0,tz _,rfl,KW1,O1⟩
       case round =>
        clear KW1 O1;obtain⟨j,hj,rfl,KW,O⟩:=hrel
        by_cases hlt:j < k
        . have hlt':(j:Int) < (k:Int):=by omega
          have HS:=h.wk hW O;have hln:=HLEN.out j hlt;obtain⟨ad,rfl,hb,hc⟩:=(HS).2.1 (by omega);obtain⟨⟨d0,d1,d2⟩,⟨d3,d4,d5⟩⟩:=hc j hlt;obtain⟨sl,sh⟩:=(HS).2.2 j hlt;clear hc;have bA:=ko wr (.bool (l.lo.ng j)) (.slice (l.lo.A j) (l.lo.n j) (l.lo.c j)) (.int .i64 (l.lo.e j)) (.bool (l.hi.ng j)) (.slice (l.hi.A j) (l.hi.n j) (l.hi.c j)) (.int .i64 (l.hi.e j));have kA:=(ej.made wr (.bool (l.lo.ng j)) (.slice (l.lo.A j) (l.lo.n j) (l.lo.c j)) (.int .i64 (l.lo.e j)) (.bool (l.hi.ng j)) (.slice (l.hi.A j) (l.hi.n j) (l.hi.c j)) (.int .i64 (l.hi.e j))).cell;obtain⟨ka0,ka1,ka2,ka3,ka4,ka5⟩:=kA;have KA:=KW.below bA;have OAq:=bN O bA;have IR:=lY (hO (l.lo.ng j) (l.hi.ng j) (l.lo.A j) (l.hi.A j) (l.lo.n j) (l.lo.c j) (l.hi.n j) (l.hi.c j) (l.lo.x j) (l.hi.x j) (l.lo.e j) (l.hi.e j) _ (sl.below bA) (sh.below bA) hln.1 hln.2);have HR:Hid (bh l (j+1)=(bh l j && dM l j)):=lY rfl;have HR1:Hid (bG (aj (l.lo.ng j) (l.lo.n j) (l.lo.x j) (l.lo.e j) && aj (l.hi.ng j) (l.hi.n j) (l.hi.x j) (l.hi.e j)) (l.lo.ng j) (l.hi.ng j) (vs ai (l.lo.x j) (l.lo.n j)) (vs ai (l.hi.x j) (l.hi.n j)) (l.lo.e j) (l.hi.e j)=dM l j):=lY rfl;rw[HR1.out]at IR;obtain⟨kw0,kw1⟩:=KA.cell;have kwf:=KA.frozen 1;clear HR1 HS bA KW O sl sh;go_wp2_with fail;go_roundw
          case rel=>exact⟨j+1,by omega,by go_num,KA.set1 true,OAq.trans (bZ _ g _)⟩
          case measure=>simp[intOf];omega
        . obtain rfl:j=k:=by omega
          have hlt':¬ (j:Int) < (j:Int):=by omega
          obtain⟨kw0,kw1⟩:=KW.cell;go_wp2_with fail;go_ret;exact⟨by rw[HNB.out];first | rfl | (rw[Gp];rfl),by rw[HNB.out];exact KW,O⟩
     . have HNB:Hid (gT p false l k=!bh l k):=lY (by unfold gT;rw[show ge p=false by unfold ge;simp;omega];simp)
       have KW1:Wk TW (w.setCell ⟨g,1,none⟩ (.bool false)) g p (!bh l 0):=hW.set1 false;have O1:=bZ w g (.bool false);go_wp2_with fail;generalize w.setCell ⟨g,1,none⟩ (.bool false)=w1 at *;clear kw0 kw1 kwf
       go_loopw [32] (fun s32 wr=>∃ j:Nat,j<=k/\s32=.int .i64 (j:Int)/\Wk TW wr g p (!bh l j)/\az w wr g) (fun s32 _=>k-(intOf s32).toNat)
       case atStart=>exact⟨0,tz _,rfl,KW1,O1⟩
       case round =>
        clear KW1 O1;obtain⟨j,hj,rfl,KW,O⟩:=hrel
        by_cases hlt:j < k
        . have hlt':(j:Int) < (k:Int):=by omega
          have HS:=h.wk hW O;have hln:=HLEN.out j hlt;obtain⟨ad,rfl,hb,hc⟩:=(HS).2.1 (by omega);obtain⟨⟨d0,d1,d2⟩,⟨d3,d4,d5⟩⟩:=hc j hlt;obtain⟨sl,sh⟩:=(HS).2.2 j hlt;clear hc;have bA:=ko wr (.bool (l.lo.ng j)) (.slice (l.lo.A j) (l.lo.n j) (l.lo.c j)) (.int .i64 (l.lo.e j)) (.bool (l.hi.ng j)) (.slice (l.hi.A j) (l.hi.n j) (l.hi.c j)) (.int .i64 (l.hi.e j));have kA:=(ej.made wr (.bool (l.lo.ng j)) (.slice (l.lo.A j) (l.lo.n j) (l.lo.c j)) (.int .i64 (l.lo.e j)) (.bool (l.hi.ng j)) (.slice (l.hi.A j) (l.hi.n j) (l.hi.c j)) (.int .i64 (l.hi.e j))).cell;obtain⟨ka0,ka1,ka2,ka3,ka4,ka5⟩:=kA;have KA:=KW.below bA;have OAq:=bN O bA;have IR:=lY (hO (l.lo.ng j) (l.hi.ng j) (l.lo.A j) (l.hi.A j) (l.lo.n j) (l.lo.c j) (l.hi.n j) (l.hi.c j) (l.lo.x j) (l.hi.x j) (l.lo.e j) (l.hi.e j) _ (sl.below bA) (sh.below bA) hln.1 hln.2);have HR:Hid (bh l (j+1)=(bh l j && dM l j)):=lY rfl;have HR1:Hid (bG (aj (l.lo.ng j) (l.lo.n j) (l.lo.x j) (l.lo.e j) && aj (l.hi.ng j) (l.hi.n j) (l.hi.x j) (l.hi.e j)) (l.lo.ng j) (l.hi.ng j) (vs ai (l.lo.x j) (l.lo.n j)) (vs ai (l.hi.x j) (l.hi.n j)) (l.lo.e j) (l.hi.e j)=dM l j):=lY rfl;rw[HR1.out]at IR;obtain⟨kw0,kw1⟩:=KA.cell;have kwf:=KA.frozen 1;clear HR1 HS bA KW O sl sh;cases hrl:bh l j
          . rw[hrl]at KA kw1
            rw[hrl]at HR;have HN:Hid (bh l (j+1)=false):=lY (HR.out.trans (by simp));clear IR HR;go_wp2_with fail;go_roundw
            case rel=>exact⟨j+1,by omega,by go_num,by rw[HN.out];exact KA.set1 true,OAq.trans (bZ _ g _)⟩
            case measure=>simp[intOf];omega
          . rw[hrl]at KA kw1
            rw[hrl]at HR;have HN:Hid (bh l (j+1)=dM l j):=lY (HR.out.trans (by simp));clear HR;generalize dM l j=rt at *;go_wp2_with fail;refine IR.out.mono ?_;rintro e' w3 ⟨rfl,b⟩;have KB:=KA.below b;have OB:=bN OAq b;clear IR b KA OAq d0 d1 d2 d3 d4 d5 kw0 kw1 kwf ka0 ka1 ka2 ka3 ka4 ka5;obtain⟨kw0,kw1⟩:=KB.cell;have kwf:=KB.frozen 1;go_wp2_with fail;go_roundw
            case rel=>exact⟨j+1,by omega,by go_num,by rw[HN.out];exact KB.set1 _,OB.trans (bZ _ g _)⟩
            case measure=>simp[intOf];omega
        . obtain rfl:j=k:=by omega
          have hlt':¬ (j:Int) < (j:Int):=by omega
          obtain⟨kw0,kw1⟩:=KW.cell;go_wp2_with fail;go_ret;exact⟨by rw[HNB.out];first | rfl | (rw[Gp];rfl),by rw[HNB.out];exact KW,O⟩
 . have HNB:Hid (gT p true l k=true):=lY (by unfold gT;simp)
   go_wp2_with fail;go_ret;exact⟨by rw[HNB.out];rfl,by rw[HNB.out];exact hW,az.refl _ _⟩
theorem pB (L:OA)(k cp:Nat)(l:AJ)(g:Nat)(p:Int)(bad:Bool)(w:World)(hW:Wk 49 w g p bad)(h:AK w L k cp l)(hlen:∀ j,j < k->l.lo.n j<=400000/\l.hi.n j<=400000)(hk:k<=9223372036854775807):
 Calls mF 96 #[.pointer (some ⟨g,0,none⟩),.slice L k cp] w (qm 49 w g p (gT p bad l k)):=by
 have HLEN:=lY hlen;clear hlen;obtain⟨kw0,kw1⟩:=hW.cell;have kwf:=hW.frozen 1;go_enter Tryz.func96,Tryz.ntmps96
 by_cases h1:p < 1
 . have HNB:Hid (gT p bad l k=(true || !bh l k)):=lY (by unfold gT;rw[show ge p=true by unfold ge;simp;omega];simp)
   have KW1:Wk 49 (w.setCell ⟨g,1,none⟩ (.bool true)) g p (true || !bh l 0):=hW.set1 true;have O1:=bZ w g (.bool true);go_wp2_with fail;generalize w.setCell ⟨g,1,none⟩ (.bool true)=w1 at *;clear kw0 kw1 kwf
   go_loopw [5] (fun s5 wr=>∃ j:Nat,j<=k/\s5=.int .i64 (j:Int)/\Wk 49 wr g p (true || !bh l j)/\az w wr g) (fun s5 _=>k-(intOf s5).toNat)
   case atStart=>exact⟨0,tz _,rfl,KW1,O1⟩
   case round =>
    clear KW1 O1;obtain⟨j,hj,rfl,KW,O⟩:=hrel
    by_cases hlt:j < k
    . have hlt':(j:Int) < (k:Int):=by omega
      have HS:=h.wk hW O;have hln:=HLEN.out j hlt;obtain⟨ad,rfl,hb,hc⟩:=(HS).2.1 (by omega);obtain⟨⟨d0,d1,d2⟩,⟨d3,d4,d5⟩⟩:=hc j hlt;obtain⟨sl,sh⟩:=(HS).2.2 j hlt;clear hc;have IR:=lY (gD (l.lo.ng j) (l.hi.ng j) (l.lo.A j) (l.hi.A j) (l.lo.n j) (l.lo.c j) (l.hi.n j) (l.hi.c j) (l.lo.x j) (l.hi.x j) (l.lo.e j) (l.hi.e j) wr sl sh hln.1 hln.2);have HR:Hid (bh l (j+1)=(bh l j && dM l j)):=lY rfl;have HR1:Hid (bG (aj (l.lo.ng j) (l.lo.n j) (l.lo.x j) (l.lo.e j) && aj (l.hi.ng j) (l.hi.n j) (l.hi.x j) (l.hi.e j)) (l.lo.ng j) (l.hi.ng j) (vs ai (l.lo.x j) (l.lo.n j)) (vs ai (l.hi.x j) (l.hi.n j)) (l.lo.e j) (l.hi.e j)=dM l j):=lY rfl;rw[HR1.out]at IR;clear HR1 HS sl sh;generalize dM l j=rt at *;go_wp2_with fail;refine IR.out.mono ?_;rintro e' w3 ⟨rfl,bb⟩;have KB:=KW.below bb;have OB:=bN O bb;clear IR bb KW O d0 d1 d2 d3 d4 d5;obtain⟨kw0,kw1⟩:=KB.cell;have kwf:=KB.frozen 1;cases rt
      . have HN:Hid ((true || !bh l (j+1))=true):=lY (by rw[HR.out];simp)
        go_wp2_with fail;go_roundw
        case rel=>exact⟨j+1,by omega,by go_num,by rw[HN.out];exact KB.set1 true,OB.trans (bZ _ g _)⟩
        case measure=>simp[intOf];omega
      . have HN:Hid ((true || !bh l (j+1))=(true || !bh l j)):=lY (by rw[HR.out];simp)
        go_wp2_with fail;go_roundw
        case rel=>exact⟨j+1,by omega,by go_num,by rw[HN.out];exact KB,OB⟩
        case measure=>simp[intOf];omega
    . obtain rfl:j=k:=by omega
      have hlt':¬ (j:Int) < (j:Int):=by omega
      obtain⟨kw0,kw1⟩:=KW.cell;generalize hv:(true || !bh l j)=v at *;go_wp2_with fail;go_ret;exact⟨by rw[HNB.out];rfl,by rw[HNB.out];exact KW,O⟩
 . by_cases h2:8192 < p
   . have HNB:Hid (gT p bad l k=(true || !bh l k)):=lY (by unfold gT;rw[show ge p=true by unfold ge;simp;omega];simp)
     have KW1:Wk 49 (w.setCell ⟨g,1,none⟩ (.bool true)) g p (true || !bh l 0):=hW.set1 true;have O1:=bZ w g (.bool true);go_wp2_with fail;generalize w.setCell ⟨g,1,none⟩ (.bool true)=w1 at *;clear kw0 kw1 kwf
     go_loopw [5] (fun s5 wr=>∃ j:Nat,j<=k/\s5=.int .i64 (j:Int)/\Wk 49 wr g p (true || !bh l j)/\az w wr g) (fun s5 _=>k-(intOf s5).toNat)
     case atStart=>exact⟨0,tz _,rfl,KW1,O1⟩
     case round =>
      clear KW1 O1;obtain⟨j,hj,rfl,KW,O⟩:=hrel
      by_cases hlt:j < k
      . have hlt':(j:Int) < (k:Int):=by omega
        have HS:=h.wk hW O;have hln:=HLEN.out j hlt;obtain⟨ad,rfl,hb,hc⟩:=(HS).2.1 (by omega);obtain⟨⟨d0,d1,d2⟩,⟨d3,d4,d5⟩⟩:=hc j hlt;obtain⟨sl,sh⟩:=(HS).2.2 j hlt;clear hc;have IR:=lY (gD (l.lo.ng j) (l.hi.ng j) (l.lo.A j) (l.hi.A j) (l.lo.n j) (l.lo.c j) (l.hi.n j) (l.hi.c j) (l.lo.x j) (l.hi.x j) (l.lo.e j) (l.hi.e j) wr sl sh hln.1 hln.2);have HR:Hid (bh l (j+1)=(bh l j && dM l j)):=lY rfl;have HR1:Hid (bG (aj (l.lo.ng j) (l.lo.n j) (l.lo.x j) (l.lo.e j) && aj (l.hi.ng j) (l.hi.n j) (l.hi.x j) (l.hi.e j)) (l.lo.ng j) (l.hi.ng j) (vs ai (l.lo.x j) (l.lo.n j)) (vs ai (l.hi.x j) (l.hi.n j)) (l.lo.e j) (l.hi.e j)=dM l j):=lY rfl;rw[HR1.out]at IR;clear HR1 HS sl sh;generalize dM l j=rt at *;go_wp2_with fail;refine IR.out.mono ?_;rintro e' w3 ⟨rfl,bb⟩;have KB:=KW.below bb;have OB:=bN O bb;clear IR bb KW O d0 d1 d2 d3 d4 d5;obtain⟨kw0,kw1⟩:=KB.cell;have kwf:=KB.frozen 1;cases rt
        . have HN:Hid ((true || !bh l (j+1))=true):=lY (by rw[HR.out];simp)
          go_wp2_with fail;go_roundw
          case rel=>exact⟨j+1,by omega,by go_num,by rw[HN.out];exact KB.set1 true,OB.trans (bZ _ g _)⟩
          case measure=>simp[intOf];omega
        . have HN:Hid ((true || !bh l (j+1))=(true || !bh l j)):=lY (by rw[HR.out];simp)
          go_wp2_with fail;go_roundw
          case rel=>exact⟨j+1,by omega,by go_num,by rw[HN.out];exact KB,OB⟩
          case measure=>simp[intOf];omega
      . obtain rfl:j=k:=by omega
        have hlt':¬ (j:Int) < (j:Int):=by omega
        obtain⟨kw0,kw1⟩:=KW.cell;generalize hv:(true || !bh l j)=v at *;go_wp2_with fail;go_ret;exact⟨by rw[HNB.out];rfl,by rw[HNB.out];exact KW,O⟩
   . have HNB:Hid (gT p bad l k=(bad || !bh l k)):=lY (by unfold gT;rw[show ge p=false by unfold ge;simp;omega];simp)
     have KW1:Wk 49 w g p (bad || !bh l 0):=by simpa [bh] using hW
     have O1:=az.refl w g;go_wp2_with fail;clear kw0 kw1 kwf
     go_loopw [5] (fun s5 wr=>∃ j:Nat,j<=k/\s5=.int .i64 (j:Int)/\Wk 49 wr g p (bad || !bh l j)/\az w wr g) (fun s5 _=>k-(intOf s5).toNat)
     case atStart=>exact⟨0,tz _,rfl,KW1,O1⟩
     case round =>
      clear KW1 O1;obtain⟨j,hj,rfl,KW,O⟩:=hrel
      by_cases hlt:j < k
      . have hlt':(j:Int) < (k:Int):=by omega
        have HS:=h.wk hW O;have hln:=HLEN.out j hlt;obtain⟨ad,rfl,hb,hc⟩:=(HS).2.1 (by omega);obtain⟨⟨d0,d1,d2⟩,⟨d3,d4,d5⟩⟩:=hc j hlt;obtain⟨sl,sh⟩:=(HS).2.2 j hlt;clear hc;have IR:=lY (gD (l.lo.ng j) (l.hi.ng j) (l.lo.A j) (l.hi.A j) (l.lo.n j) (l.lo.c j) (l.hi.n j) (l.hi.c j) (l.lo.x j) (l.hi.x j) (l.lo.e j) (l.hi.e j) wr sl sh hln.1 hln.2);have HR:Hid (bh l (j+1)=(bh l j && dM l j)):=lY rfl;have HR1:Hid (bG (aj (l.lo.ng j) (l.lo.n j) (l.lo.x j) (l.lo.e j) && aj (l.hi.ng j) (l.hi.n j) (l.hi.x j) (l.hi.e j)) (l.lo.ng j) (l.hi.ng j) (vs ai (l.lo.x j) (l.lo.n j)) (vs ai (l.hi.x j) (l.hi.n j)) (l.lo.e j) (l.hi.e j)=dM l j):=lY rfl;rw[HR1.out]at IR;clear HR1 HS sl sh;generalize dM l j=rt at *;go_wp2_with fail;refine IR.out.mono ?_;rintro e' w3 ⟨rfl,bb⟩;have KB:=KW.below bb;have OB:=bN O bb;clear IR bb KW O d0 d1 d2 d3 d4 d5;obtain⟨kw0,kw1⟩:=KB.cell;have kwf:=KB.frozen 1;cases rt
        . have HN:Hid ((bad || !bh l (j+1))=true):=lY (by rw[HR.out];simp)
          go_wp2_with fail;go_roundw
          case rel=>exact⟨j+1,by omega,by go_num,by rw[HN.out];exact KB.set1 true,OB.trans (bZ _ g _)⟩
          case measure=>simp[intOf];omega
        . have HN:Hid ((bad || !bh l (j+1))=(bad || !bh l j)):=lY (by rw[HR.out];simp)
          go_wp2_with fail;go_roundw
          case rel=>exact⟨j+1,by omega,by go_num,by rw[HN.out];exact KB,OB⟩
          case measure=>simp[intOf];omega
      . obtain rfl:j=k:=by omega
        have hlt':¬ (j:Int) < (j:Int):=by omega
        obtain⟨kw0,kw1⟩:=KW.cell;generalize hv:(bad || !bh l j)=v at *;go_wp2_with fail;go_ret;exact⟨by rw[HNB.out];rfl,by rw[HNB.out];exact KW,O⟩
end
section
variable {TW:TypeId}
structure SRes where
 bad:Bool
 lo:DR
 hi:DR
def SRes.no:SRes:=⟨true,DR.zero,DR.zero⟩
def cG (bad:Bool)(lo hi:DR)(ok:Bool):SRes:=if ok then⟨bad,lo,hi⟩ else .no
def ap (T:TypeId)(w:World)(g:Nat)(p:Int)(r:SRes)(e:Ending)(w':World):Prop :=
 ∃ A n c B m d,e=.returned (aG r.lo.neg A n c r.lo.e r.hi.neg B m d r.hi.e)/\am w' (.slice A n c) r.lo.m/\am w' (.slice B m d) r.hi.m/\Wk T w' g p r.bad/\az w w' g
theorem fV {w2:World}(h:az w w1 g)(o:az w1 w2 gr)(hg:w.heap.size<=gr):az w w2 g :=
 ⟨o.os.trans h.os,o.tape.trans h.tape,o.output.trans h.output,ou h.size o.size,fun i hi hne=>(o.block i (oM hi h.size) (by simp;omega)).trans (h.block i hi hne)⟩
theorem gG (k:Wk T w g p bad)(o:az w w' g){V:Nat}(h:am w v V):am w' v V:=by
 obtain⟨A,n,c,f,hv,hs,hc,he⟩:=h;exact⟨A,n,c,f,hv,hs.wk k o,hc,he⟩
abbrev put6 (w:World)(g:Nat)(a b c d e f:Value):World:=(((((w.setCell ⟨g,0,none⟩ a).setCell ⟨g,1,none⟩ b).setCell ⟨g,2,none⟩ c).setCell ⟨g,3,none⟩ d).setCell ⟨g,4,none⟩ e).setCell ⟨g,5,none⟩ f
theorem aK (w:World)(g:Nat)(a b c d e f:Value):az w (put6 w g a b c d e f) g:=((((((az.refl w g).set_ 0 a).set_ 1 b).set_ 2 c).set_ 3 d).set_ 4 e).set_ 5 f
theorem Sl.apart6 {c:Nat}{f:Nat->Nat}{x0 x1 x2 x3 x4 x5:Value}(hs:Sl w A n c f)(hb:ej w g x0 x1 x2 x3 x4 x5)(h0:gp x0)(h1:gp x1)(h2:gp x2)(h3:gp x3)(h4:gp x4)(h5:gp x5):0 < n->∀ ad,A=some ad->ad.block≠g:=fun hn ad e he=>by
 obtain⟨ad',e',_,_,hc⟩:=hs.at_ (k:=0) hn;rw[e]at e'
 injection e' with e'
 subst e';unfold ej at hb;rw[show ad.add 0=ad from by simp[Addr.add]]at hc;simp only[Bl,he,hb]at hc
 split at hc
 . cases hc
 . rcases h9:ad.off with _ | _ | _ | _ | _ | _ | k
   . rw[h9]at hc;simp at hc;exact h0 _ hc
   . rw[h9]at hc;simp at hc;exact h1 _ hc
   . rw[h9]at hc;simp at hc;exact h2 _ hc
   . rw[h9]at hc;simp at hc;exact h3 _ hc
   . rw[h9]at hc;simp at hc;exact h4 _ hc
   . rw[h9]at hc;simp at hc;exact h5 _ hc
   . rw[h9]at hc;simp at hc
theorem jd {V:Nat}{na nb':Bool}{B:OA}{c d:Nat}{ea eb:Int}(h:am w v V)(hb:ej w g (.bool na) (.slice A n c) (.int .i64 ea) (.bool nb') (.slice B m d) (.int .i64 eb))(a b c' d' e f:Value):am (put6 w g a b c' d' e f) v V:=by
 obtain⟨A,n,cp,f',hv,hs,hc,he⟩:=h;exact⟨A,n,cp,f',hv,hs.only (aK w g a b c' d' e f) (hs.apart6 hb (aD _) (av _ _ _) (aI _) (aD _) (av _ _ _) (aI _)),hc,he⟩
theorem jm (g:Nat)(p:Int)(bad:Bool)(w:World)(hW:Wk TW w g p bad):Calls mF 87 #[.pointer (some ⟨g,0,none⟩)] w fun e w'=>e=.returned (.tuple #[])/\Wk TW w' g p true/\az w w' g:=by
 obtain⟨kw0,kw1⟩:=hW.cell;have kwf:=hW.frozen 1;go_enter Tryz.func87,Tryz.ntmps87;go_wp2_with fail
 go_end0
 exact⟨rfl,hW.set1 true,bZ _ _ _⟩
abbrev z6:Obj:=ce (.bool false) (.slice none 0 0) (.int .i64 0) (.bool false) (.slice none 0 0) (.int .i64 0)
abbrev Fq (w:World)(g:Nat):Prop:=ej w g (.bool false) (.slice none 0 0) (.int .i64 0) (.bool false) (.slice none 0 0) (.int .i64 0)
theorem rZ (w:World)(a b c d e f:Value):Below w.heap.size w (((w.alloc (bJ a b c)).alloc (bJ d e f)).alloc z6)/\K3 (((w.alloc (bJ a b c)).alloc (bJ d e f)).alloc z6) w.heap.size a b c /\
 K3 (((w.alloc (bJ a b c)).alloc (bJ d e f)).alloc z6) (w.heap.size+1) d e f/\Fq (((w.alloc (bJ a b c)).alloc (bJ d e f)).alloc z6) (w.heap.size+1+1)/\w.heap.size+3<=(((w.alloc (bJ a b c)).alloc (bJ d e f)).alloc z6).heap.size:=by
 obtain⟨b1,k1,k2⟩:=mN w a b c d e f;have b2:=ag ((w.alloc (bJ a b c)).alloc (bJ d e f)) z6;have k3:=ej.made ((w.alloc (bJ a b c)).alloc (bJ d e f)) (.bool false) (.slice none 0 0) (.int .i64 0) (.bool false) (.slice none 0 0) (.int .i64 0);rw[show((w.alloc (bJ a b c)).alloc (bJ d e f)).heap.size=w.heap.size+1+1 by simp]at k3;exact⟨aB b1 b2,k1.adv b2,k2.adv b2,k3,by simp⟩
theorem ej.only (h:ej w gr a b c d e f)(o:az w w' g)(hne:gr≠g)(hs:gr < w.heap.size):ej w' gr a b c d e f:=(o.block gr hs (by simpa using hne)).trans h
theorem dm {lo hi:DR}{B:OA}{c d:Nat}(ha:am w1 (.slice A n c) lo.m)(hb:am w1 (.slice B m d) hi.m)(hW:Wk T w1 g p bad)(o:az w w1 g)(hr:Fq w1 gr)(h1:w.heap.size<=gr)(h2:g < w.heap.size):
 am (put6 w1 gr (.bool lo.neg) (.slice A n c) (.int .i64 lo.e) (.bool hi.neg) (.slice B m d) (.int .i64 hi.e)) (.slice A n c) lo.m/\am (put6 w1 gr (.bool lo.neg) (.slice A n c) (.int .i64 lo.e) (.bool hi.neg) (.slice B m d) (.int .i64 hi.e)) (.slice B m d) hi.m /\
 Wk T (put6 w1 gr (.bool lo.neg) (.slice A n c) (.int .i64 lo.e) (.bool hi.neg) (.slice B m d) (.int .i64 hi.e)) g p bad/\az w (put6 w1 gr (.bool lo.neg) (.slice A n c) (.int .i64 lo.e) (.bool hi.neg) (.slice B m d) (.int .i64 hi.e)) g :=
 ⟨jd ha hr _ _ _ _ _ _,jd hb hr _ _ _ _ _ _,hW.only (aK _ _ _ _ _ _ _ _) (by omega),fV o (aK _ _ _ _ _ _ _ _) h1⟩
theorem gJ (g:Nat)(p:Int)(bad:Bool)(lo hi:DR)(A B:OA)(n c m d:Nat)(ok:Bool)(w:World)(hW:Wk TW w g p bad)(ha:am w (.slice A n c) lo.m)(hb:am w (.slice B m d) hi.m):
 Calls mF 125 #[.pointer (some ⟨g,0,none⟩),aP lo.neg A n c lo.e,aP hi.neg B m d hi.e,.bool ok] w (ap TW w g p (cG bad lo hi ok)):=by
 obtain⟨b1,kA,kB,kR,hsz⟩:=rZ w (.bool lo.neg) (.slice A n c) (.int .i64 lo.e) (.bool hi.neg) (.slice B m d) (.int .i64 hi.e);have hg:=hW.2;have hW1:=hW.below b1;have ha1:=ha.below b1;have hb1:=hb.below b1;have o1:=bU g b1;go_enter Tryz.func125,Tryz.ntmps125;cases ok
 . go_wp2_with fail
   generalize((w.alloc (bJ (.bool lo.neg) (.slice A n c) (.int .i64 lo.e))).alloc (bJ (.bool hi.neg) (.slice B m d) (.int .i64 hi.e))).alloc z6=w1 at *;refine(jm g p bad w1 hW1).mono ?_;rintro e' w2 ⟨rfl,hW2,o2⟩;have kR2:=kR.only o2 (by omega) (by omega);obtain⟨r0,r1,r2,r3,r4,r5⟩:=kR2.cell;have rf:=kR2.frozen;have rf0:=rf 0;have rf1:=rf 1;have rf2:=rf 2;have rf3:=rf 3;have rf4:=rf 4;have rf5:=rf 5;clear kA kB kR b1 ha1 hb1 rf;go_wp2_with fail;obtain⟨q1,q2,q3,q4⟩:=dm (lo:=DR.zero) (hi:=DR.zero) (aq w2) (aq w2) hW2 (o1.trans o2) kR2 (by omega) hg;exact bodyPost_ret (v:=aG false none 0 0 0 false none 0 0 0) (by simp[results,Gq,go_sem,r0,r1,r2,r3,r4,r5]) rfl ⟨none,0,0,none,0,0,rfl,q1,q2,q3,q4⟩
 . obtain⟨ka0,ka1,ka2,ka3⟩:=kA.cell
   obtain⟨kb0,kb1,kb2,kb3⟩:=kB.cell;obtain⟨b0,_,_⟩:=mN w (.bool lo.neg) (.slice A n c) (.int .i64 lo.e) (.bool hi.neg) (.slice B m d) (.int .i64 hi.e);have b2:=aB b0 (ag ((w.alloc (bJ (.bool lo.neg) (.slice A n c) (.int .i64 lo.e))).alloc (bJ (.bool hi.neg) (.slice B m d) (.int .i64 hi.e))) (ce (.bool lo.neg) (.slice A n c) (.int .i64 lo.e) (.bool hi.neg) (.slice B m d) (.int .i64 hi.e)));have kZ:=ej.made ((w.alloc (bJ (.bool lo.neg) (.slice A n c) (.int .i64 lo.e))).alloc (bJ (.bool hi.neg) (.slice B m d) (.int .i64 hi.e))) (.bool lo.neg) (.slice A n c) (.int .i64 lo.e) (.bool hi.neg) (.slice B m d) (.int .i64 hi.e);rw[show((w.alloc (bJ (.bool lo.neg) (.slice A n c) (.int .i64 lo.e))).alloc (bJ (.bool hi.neg) (.slice B m d) (.int .i64 hi.e))).heap.size=w.heap.size+1+1 by simp]at kZ;obtain⟨r0,r1,r2,r3,r4,r5⟩:=kZ.cell;go_wp2_with fail;generalize((w.alloc (bJ (.bool lo.neg) (.slice A n c) (.int .i64 lo.e))).alloc (bJ (.bool hi.neg) (.slice B m d) (.int .i64 hi.e))).alloc (ce (.bool lo.neg) (.slice A n c) (.int .i64 lo.e) (.bool hi.neg) (.slice B m d) (.int .i64 hi.e))=w1 at *;exact bodyPost_ret (v:=aG lo.neg A n c lo.e hi.neg B m d hi.e) (by simp[results,Gq,go_sem,r0,r1,r2,r3,r4,r5]) rfl ⟨A,n,c,B,m,d,rfl,ha.below b2,hb.below b2,hW.below b2,bU g b2⟩
end
theorem lf (g:Nat)(p:Int)(bad:Bool)(lo hi:DR)(A B:OA)(n c m d:Nat)(oa ob:Bool)(w:World)(hW:Wk 49 w g p bad)(ha:am w (.slice A n c) lo.m)(hb:am w (.slice B m d) hi.m):
 Calls mF 99 #[.pointer (some ⟨g,0,none⟩),aP lo.neg A n c lo.e,.bool oa,aP hi.neg B m d hi.e,.bool ob] w (ap 49 w g p (cG bad lo hi (oa && ob))):=by
 obtain⟨b0,kA,kB⟩:=mN w (.bool lo.neg) (.slice A n c) (.int .i64 lo.e) (.bool hi.neg) (.slice B m d) (.int .i64 hi.e);have hg:=hW.2;have hW0:=hW.below b0;obtain⟨kw0,kw1⟩:=hW0.cell;have kwf:=hW0.frozen 1
 have NO:∀ q:Bool×Bool,(q.1 && q.2)=false->Hid (cG bad lo hi (q.1 && q.2)=SRes.no):=fun q h=>lY (by rw[h];rfl)
 obtain⟨b1,kA1,kB1,kR,hsz⟩:=rZ w (.bool lo.neg) (.slice A n c) (.int .i64 lo.e) (.bool hi.neg) (.slice B m d) (.int .i64 hi.e);have hW1:=hW.below b1;obtain⟨kx0,kx1⟩:=hW1.cell;have kxf:=hW1.frozen 1;have o1:=bU g b1;clear b0 kA kB;go_enter Tryz.func99,Tryz.ntmps99
 by_cases hok:(oa && ob)=true
 . obtain⟨rfl,rfl⟩:oa=true/\ob=true:=by simpa using hok
   obtain⟨ka0,ka1,ka2,ka3⟩:=kA1.cell;obtain⟨kb0,kb1,kb2,kb3⟩:=kB1.cell;obtain⟨b0,_,_⟩:=mN w (.bool lo.neg) (.slice A n c) (.int .i64 lo.e) (.bool hi.neg) (.slice B m d) (.int .i64 hi.e);have b2:=aB b0 (ag ((w.alloc (bJ (.bool lo.neg) (.slice A n c) (.int .i64 lo.e))).alloc (bJ (.bool hi.neg) (.slice B m d) (.int .i64 hi.e))) (ce (.bool lo.neg) (.slice A n c) (.int .i64 lo.e) (.bool hi.neg) (.slice B m d) (.int .i64 hi.e)));have kZ:=ej.made ((w.alloc (bJ (.bool lo.neg) (.slice A n c) (.int .i64 lo.e))).alloc (bJ (.bool hi.neg) (.slice B m d) (.int .i64 hi.e))) (.bool lo.neg) (.slice A n c) (.int .i64 lo.e) (.bool hi.neg) (.slice B m d) (.int .i64 hi.e);rw[show((w.alloc (bJ (.bool lo.neg) (.slice A n c) (.int .i64 lo.e))).alloc (bJ (.bool hi.neg) (.slice B m d) (.int .i64 hi.e))).heap.size=w.heap.size+1+1 by simp]at kZ;obtain⟨r0,r1,r2,r3,r4,r5⟩:=kZ.cell;clear NO;go_wp2_with fail;generalize((w.alloc (bJ (.bool lo.neg) (.slice A n c) (.int .i64 lo.e))).alloc (bJ (.bool hi.neg) (.slice B m d) (.int .i64 hi.e))).alloc (ce (.bool lo.neg) (.slice A n c) (.int .i64 lo.e) (.bool hi.neg) (.slice B m d) (.int .i64 hi.e))=w1 at *;exact bodyPost_ret (v:=aG lo.neg A n c lo.e hi.neg B m d hi.e) (by simp[results,EM,go_sem,r0,r1,r2,r3,r4,r5]) rfl ⟨A,n,c,B,m,d,rfl,ha.below b2,hb.below b2,hW.below b2,bU g b2⟩
 . have hok':(oa && ob)=false:=by simpa using hok
   rw[(NO (oa,ob) hok').out];obtain⟨r0,r1,r2,r3,r4,r5⟩:=kR.cell;have rf:=kR.frozen;have rf0:=rf 0;have rf1:=rf 1;have rf2:=rf 2;have rf3:=rf 3;have rf4:=rf 4;have rf5:=rf 5;have o2:=bZ (((w.alloc (bJ (.bool lo.neg) (.slice A n c) (.int .i64 lo.e))).alloc (bJ (.bool hi.neg) (.slice B m d) (.int .i64 hi.e))).alloc z6) g (.bool true);have hW2:=hW1.set1 true;have kR2:=kR.only o2 (by omega) (by omega);obtain⟨s0,s1,s2,s3q,s4,s5⟩:=kR2.cell;clear NO
   have hne:w.heap.size+1+1≠g:=by omega
   have hne':g≠w.heap.size+1+1:=by omega
   cases oa
   . go_wp2_with fail
     have o3:=o1.trans o2;clear o1 o2 hW1 kR kx0 kx1 kxf kA1 kB1 b1 r0 r1 r2 r3 r4 r5 rf rf0 rf1 rf2 rf3 rf4 rf5 hW0 kw0 kw1 kwf;generalize(((w.alloc (bJ (.bool lo.neg) (.slice A n c) (.int .i64 lo.e))).alloc (bJ (.bool hi.neg) (.slice B m d) (.int .i64 hi.e))).alloc z6).setCell ⟨g,1,none⟩ (.bool true)=w2 at *;obtain⟨q1,q2,q3,q4⟩:=dm (lo:=DR.zero) (hi:=DR.zero) (aq w2) (aq w2) hW2 o3 kR2 (by omega) hg;exact bodyPost_ret (v:=aG false none 0 0 0 false none 0 0 0) (by simp[results,EM,go_sem,s0,s1,s2,s3q,s4,s5]) rfl ⟨none,0,0,none,0,0,rfl,q1,q2,q3,q4⟩
   . obtain rfl:ob=false:=by simpa using hok'
     go_wp2_with fail;have o3:=o1.trans o2;clear o1 o2 hW1 kR kx0 kx1 kxf kA1 kB1 b1 r0 r1 r2 r3 r4 r5 rf rf0 rf1 rf2 rf3 rf4 rf5 hW0 kw0 kw1 kwf;generalize(((w.alloc (bJ (.bool lo.neg) (.slice A n c) (.int .i64 lo.e))).alloc (bJ (.bool hi.neg) (.slice B m d) (.int .i64 hi.e))).alloc z6).setCell ⟨g,1,none⟩ (.bool true)=w2 at *;obtain⟨q1,q2,q3,q4⟩:=dm (lo:=DR.zero) (hi:=DR.zero) (aq w2) (aq w2) hW2 o3 kR2 (by omega) hg;exact bodyPost_ret (v:=aG false none 0 0 0 false none 0 0 0) (by simp[results,EM,go_sem,s0,s1,s2,s3q,s4,s5]) rfl ⟨none,0,0,none,0,0,rfl,q1,q2,q3,q4⟩
section
variable {TW:TypeId}
theorem vP (w:World)(a b c d e f:Value):Below w.heap.size w ((w.alloc (ce a b c d e f)).alloc z6)/\ej ((w.alloc (ce a b c d e f)).alloc z6) w.heap.size a b c d e f/\Fq ((w.alloc (ce a b c d e f)).alloc z6) (w.heap.size+1)/\w.heap.size+2<=((w.alloc (ce a b c d e f)).alloc z6).heap.size:=by
 have b1:=ag w (ce a b c d e f);have b2:=ag (w.alloc (ce a b c d e f)) z6;have k1:=(ej.made w a b c d e f).below b2 (by simp);have k2:=ej.made (w.alloc (ce a b c d e f)) (.bool false) (.slice none 0 0) (.int .i64 0) (.bool false) (.slice none 0 0) (.int .i64 0);rw[show(w.alloc (ce a b c d e f)).heap.size=w.heap.size+1 by simp]at k2;exact⟨aB b1 b2,k1,k2,by simp⟩
def one (na nb':Bool)(A B:OA)(n c m d:Nat)(x y:Nat->Nat)(ea eb:Int):AJ:=⟨⟨fun _=>na,fun _=>A,fun _=>n,fun _=>c,fun _=>x,fun _=>ea⟩,⟨fun _=>nb',fun _=>B,fun _=>m,fun _=>d,fun _=>y,fun _=>eb⟩⟩
theorem vS (na nb':Bool)(A B:OA)(n c m d:Nat)(x y:Nat->Nat)(ea eb:Int)(w:World)(ha:Sl w A n c x)(hb:Sl w B m d y):
 AK (w.alloc (ce (.bool na) (.slice A n c) (.int .i64 ea) (.bool nb') (.slice B m d) (.int .i64 eb))) (some ⟨w.heap.size,0,none⟩) 1 1 (one na nb' A B n c m d x y ea eb):=by
 have bB:=ag w (ce (.bool na) (.slice A n c) (.int .i64 ea) (.bool nb') (.slice B m d) (.int .i64 eb))
 have hcell:∀ i v,(#[.bool na,.slice A n c,.int .i64 ea,.bool nb',.slice B m d,.int .i64 eb]:Array Value)[i]?=some v->(w.alloc (ce (.bool na) (.slice A n c) (.int .i64 ea) (.bool nb') (.slice B m d) (.int .i64 eb))).cell? ⟨w.heap.size,i,none⟩=some v:=fun i v h=>by
  rw[World.cell?_alloc_at _ _ _ _ (by simp)];exact h
 refine⟨oY _,fun _=>⟨_,rfl,by simp,fun j hj=>?_⟩,fun j hj=>⟨ha.below bB,hb.below bB⟩⟩
 obtain rfl:j=0:=by omega
 exact⟨⟨hcell 0 _ rfl,hcell 1 _ rfl,hcell 2 _ rfl⟩,⟨hcell 3 _ rfl,hcell 4 _ rfl,hcell 5 _ rfl⟩⟩
def ck (p:Int)(bad:Bool)(na nb':Bool)(n m:Nat)(x y:Nat->Nat)(ea eb:Int):Bool:=bad || ge p || !bG (aj na n x ea && aj nb' m y eb) na nb' (vs ai x n) (vs ai y m) ea eb
theorem sY (p:Int)(bad na nb':Bool)(A B:OA)(n c m d:Nat)(x y:Nat->Nat)(ea eb:Int):gT p bad (one na nb' A B n c m d x y ea eb) 1=ck p bad na nb' n m x y ea eb:=by
 unfold gT ck bh bh dM one DL.v;rw[qK]
theorem lE (na nb':Bool)(A B:OA)(n c m d:Nat)(x y:Nat->Nat)(ea eb:Int)(g:Nat)(p:Int)(bad:Bool)(w:World)(hW:Wk TW w g p bad)(ha:Sl w A n c x)(hb:Sl w B m d y)(hn:n<=400000)(hm:m<=400000):
 Calls mF 42 #[.pointer (some ⟨g,0,none⟩),.slice (some ⟨w.heap.size,0,none⟩) 1 1] (w.alloc (ce (.bool na) (.slice A n c) (.int .i64 ea) (.bool nb') (.slice B m d) (.int .i64 eb))) (fun e w'=>e=.returned (.bool (!ck p bad na nb' n m x y ea eb))/\Wk TW w' g p (ck p bad na nb' n m x y ea eb)/\az w w' g):=by
 have b:=ag w (ce (.bool na) (.slice A n c) (.int .i64 ea) (.bool nb') (.slice B m d) (.int .i64 eb));refine(pp _ 1 1 _ g p bad _ (hW.below b) (vS na nb' A B n c m d x y ea eb w ha hb) (fun j _=>⟨hn,hm⟩) (by omega)).mono ?_;rintro e w' ⟨rfl,h1,h2⟩;rw[sY]at h1 ⊢;exact⟨rfl,h1,(bU g b).trans h2⟩
theorem lM (na nb':Bool)(A B:OA)(n c m d:Nat)(x y:Nat->Nat)(ea eb:Int)(g:Nat)(p:Int)(bad:Bool)(w:World)(hW:Wk 49 w g p bad)(ha:Sl w A n c x)(hb:Sl w B m d y)(hn:n<=400000)(hm:m<=400000):
 Calls mF 96 #[.pointer (some ⟨g,0,none⟩),.slice (some ⟨w.heap.size,0,none⟩) 1 1] (w.alloc (ce (.bool na) (.slice A n c) (.int .i64 ea) (.bool nb') (.slice B m d) (.int .i64 eb))) (fun e w'=>e=.returned (.bool (!ck p bad na nb' n m x y ea eb))/\Wk 49 w' g p (ck p bad na nb' n m x y ea eb)/\az w w' g):=by
 have b:=ag w (ce (.bool na) (.slice A n c) (.int .i64 ea) (.bool nb') (.slice B m d) (.int .i64 eb));refine(pB _ 1 1 _ g p bad _ (hW.below b) (vS na nb' A B n c m d x y ea eb w ha hb) (fun j _=>⟨hn,hm⟩) (by omega)).mono ?_;rintro e w' ⟨rfl,h1,h2⟩;rw[sY]at h1 ⊢;exact⟨rfl,h1,(bU g b).trans h2⟩
end
section
variable {TW:TypeId}
def il (b:Bool)(lo hi:DR):SRes:=if b then SRes.no else cG false lo hi (lo.ok && hi.ok)
theorem bx.wk (h:bx w)(k:Wk T w g p bad)(o:az w w' g):bx w' :=
 ⟨oM h.1 o.size,fun j hj=>qp k o (h.2 j hj) ⟨fun z h=>(by cases h),fun b h=>(by cases h)⟩⟩
theorem yE (na nb':Bool)(A B:OA)(n c m d:Nat)(x y:Nat->Nat)(ea eb:Int)(g:Nat)(p:Int)(bad:Bool)(w:World)(hW:Wk TW w g p bad)(ha:Sl w A n c x)(hb:Sl w B m d y)(hn:n<=400000)(hm:m<=400000)(hT:bx w):
 Calls mF 69 #[.pointer (some ⟨g,0,none⟩),aG na A n c ea nb' B m d eb] w (ap TW w g p (il (ck p bad na nb' n m x y ea eb) (ep (aj nb' m y eb) nb' m (vs ai y m) eb) (ep (aj na n x ea) na n (vs ai x n) ea))):=by
 obtain⟨bel,kA,kR,hsz⟩:=vP w (.bool na) (.slice A n c) (.int .i64 ea) (.bool nb') (.slice B m d) (.int .i64 eb);have hg:=hW.2;have hW1:=hW.below bel;have TK0:=lE na nb' A B n c m d x y ea eb g p bad _ hW1 (ha.below bel) (hb.below bel) hn hm;rw[show((w.alloc (ce (.bool na) (.slice A n c) (.int .i64 ea) (.bool nb') (.slice B m d) (.int .i64 eb))).alloc z6).heap.size=w.heap.size+1+1 by simp]at TK0;have TK:=lY TK0;clear TK0;obtain⟨ka0,ka1,ka2,ka3,ka4,ka5⟩:=kA.cell
 have hgs:w.heap.size < ((w.alloc (ce (.bool na) (.slice A n c) (.int .i64 ea) (.bool nb') (.slice B m d) (.int .i64 eb))).alloc z6).heap.size:=by omega
 go_enter Tryz.func69,Tryz.ntmps69;go_wp2_with fail;refine TK.out.mono ?_;generalize(w.alloc (ce (.bool na) (.slice A n c) (.int .i64 ea) (.bool nb') (.slice B m d) (.int .i64 eb))).alloc z6=w1 at *;rintro e' w2 ⟨rfl,hW2,o2⟩;have kA2:=kA.only o2 (by omega) (by omega);have kR2:=kR.only o2 (by omega) (by omega);have O2:=(bU g bel).trans o2;have hsz2:w.heap.size+2<=w2.heap.size:=ou hsz o2.size;clear ka0 ka1 ka2 ka3 ka4 ka5 hgs TK hW1 kA kR bel o2 hsz;generalize ck p bad na nb' n m x y ea eb=bo at *;cases bo
 rotate_left
 . have kR:=kR2
   obtain⟨s0,s1,s2,s3q,s4,s5⟩:=kR.cell;have rf:=kR.frozen;have rf0:=rf 0;have rf1:=rf 1;have rf2:=rf 2;have rf3:=rf 3;have rf4:=rf 4;have rf5:=rf 5;clear rf;go_wp2_with fail;obtain⟨q1,q2,q3,q4⟩:=dm (lo:=DR.zero) (hi:=DR.zero) (aq w2) (aq w2) hW2 O2 kR (by omega) hg;exact bodyPost_ret (v:=aG false none 0 0 0 false none 0 0 0) (by simp[results,Gk,go_sem,s0,s1,s2,s3q,s4,s5]) rfl ⟨none,0,0,none,0,0,rfl,q1,q2,q3,q4⟩
 . have D1:Hid (∀ w',az w w' g->Calls mF 124 #[aP nb' B m d eb] w' (DP w' (ep (aj nb' m y eb) nb' m (vs ai y m) eb))):=lY (fun w' o=>(qS nb' B m d y eb w' (hb.wk hW o) hm (hT.wk hW o)).mono fun _ _ h=>h.dp)
   have D2:Hid (∀ w',az w w' g->Calls mF 124 #[aP na A n c ea] w' (DP w' (ep (aj na n x ea) na n (vs ai x n) ea))):=lY (fun w' o=>(qS na A n c x ea w' (ha.wk hW o) hn (hT.wk hW o)).mono fun _ _ h=>h.dp);have HT:Hid (il false (ep (aj nb' m y eb) nb' m (vs ai y m) eb) (ep (aj na n x ea) na n (vs ai x n) ea)=cG false (ep (aj nb' m y eb) nb' m (vs ai y m) eb) (ep (aj na n x ea) na n (vs ai x n) ea) ((ep (aj nb' m y eb) nb' m (vs ai y m) eb).ok && (ep (aj na n x ea) na n (vs ai x n) ea).ok)):=lY rfl;generalize ep (aj nb' m y eb) nb' m (vs ai y m) eb=r1 at *;generalize ep (aj na n x ea) na n (vs ai x n) ea=r2 at *;obtain⟨ka0,ka1,ka2,ka3,ka4,ka5⟩:=kA2.cell;go_wp2_with fail;refine(D1.out w2 O2).mono ?_;rintro e' w3 ⟨A1,p1,c1,rfl,n1,b⟩;have O3:=bN O2 b;have hW3:=hW2.below b;have kA3:=kA2.below b (by omega);have kR3:=kR2.below b (by omega);have hsz3:w.heap.size+2<=w3.heap.size:=ou hsz2 b.size;clear b kA2 kR2 hW2 ka0 ka1 ka2 ka3 ka4 ka5;obtain⟨ka0,ka1,ka2,ka3,ka4,ka5⟩:=kA3.cell
   have hgs:w.heap.size < w3.heap.size:=by omega
   go_wp2_with fail;have b:=ag w3 (bJ (.bool r1.neg) (.slice A1 p1 c1) (.int .i64 r1.e));have k1:=K3.made w3 (.bool r1.neg) (.slice A1 p1 c1) (.int .i64 r1.e);have O4:=bN O3 b;have hW4:=hW3.below b;have kR4:=kR3.below b (by omega);have n14:=n1.below b;have hsz4:w.heap.size+2<=(w3.alloc (bJ (.bool r1.neg) (.slice A1 p1 c1) (.int .i64 r1.e))).heap.size:=ou hsz3 b.size;clear b ka0 ka1 ka2 ka3 ka4 ka5 kA3 kR3 hW3 n1 hgs;generalize w3.alloc (bJ (.bool r1.neg) (.slice A1 p1 c1) (.int .i64 r1.e))=w4 at *;refine(D2.out w4 O4).mono ?_;rintro e' w5 ⟨A2,p2,c2,rfl,n2,b⟩;have O5:=bN O4 b;have hW5:=hW4.below b;have kR5:=kR4.below b (by omega);have n15:=n14.below b;have k15:=k1.adv b;have hsz5:w.heap.size+2<=w5.heap.size:=ou hsz4 b.size;clear b kR4 hW4 n14 k1 D1 D2;obtain⟨q10,q11,q12,q13⟩:=k15.cell;have KP:Hid (∀ w',Wk TW w' g p false->am w' (.slice A1 p1 c1) r1.m->am w' (.slice A2 p2 c2) r2.m->Calls mF 125 #[.pointer (some ⟨g,0,none⟩),aP r1.neg A1 p1 c1 r1.e,aP r2.neg A2 p2 c2 r2.e,.bool (r1.ok && r2.ok)] w' (ap TW w' g p (cG false r1 r2 (r1.ok && r2.ok)))):=lY (fun w' h1 h2 h3=>gJ g p false r1 r2 A1 A2 p1 c1 p2 c2 (r1.ok && r2.ok) w' h1 h2 h3);cases hr1:r1.ok
   . skip
     rw[hr1]at KP HT
     first | rw[yb]at KP HT | rw[qK]at KP HT
     go_wp2_with fail;have b:=ag w5 (bJ (.bool r2.neg) (.slice A2 p2 c2) (.int .i64 r2.e));have O6:=bN O5 b;have kR6:=kR5.below b (by omega);have KC:=KP.out _ (hW5.below b) (n15.below b) (n2.below b);have hsz6:w.heap.size+2<=(w5.alloc (bJ (.bool r2.neg) (.slice A2 p2 c2) (.int .i64 r2.e))).heap.size:=ou hsz5 b.size;refine KC.mono ?_;clear KC b KP k15 q10 q11 q12 q13 n15 n2 hW5 kR5;generalize w5.alloc (bJ (.bool r2.neg) (.slice A2 p2 c2) (.int .i64 r2.e))=w6 at *;rintro e' w7 ⟨A9,p9,c9,B9,q9,d9,rfl,m1,m2,hW7,o7⟩;have O7:=O6.trans o7;have kR:=kR6.only o7 (by omega) (by omega);clear o7 O6 kR6 O2 O3 O4 O5;generalize cG false r1 r2 false=r at *;obtain⟨s0,s1,s2,s3q,s4,s5⟩:=kR.cell;have rf:=kR.frozen;have rf0:=rf 0;have rf1:=rf 1;have rf2:=rf 2;have rf3:=rf 3;have rf4:=rf 4;have rf5:=rf 5;clear rf;go_wp2_with fail;rw[HT.out];obtain⟨q1,q2,q3,q4⟩:=dm (lo:=r.lo) (hi:=r.hi) m1 m2 hW7 O7 kR (by omega) hg;exact bodyPost_ret (v:=aG r.lo.neg A9 p9 c9 r.lo.e r.hi.neg B9 q9 d9 r.hi.e) (by simp[results,Gk,go_sem,s0,s1,s2,s3q,s4,s5]) rfl ⟨A9,p9,c9,B9,q9,d9,rfl,q1,q2,q3,q4⟩
   . skip
     rw[hr1]at KP HT
     first | rw[yb]at KP HT | rw[qK]at KP HT
     go_wp2_with fail;have b:=ag w5 (bJ (.bool r2.neg) (.slice A2 p2 c2) (.int .i64 r2.e));have O6:=bN O5 b;have kR6:=kR5.below b (by omega);have KC:=KP.out _ (hW5.below b) (n15.below b) (n2.below b);have hsz6:w.heap.size+2<=(w5.alloc (bJ (.bool r2.neg) (.slice A2 p2 c2) (.int .i64 r2.e))).heap.size:=ou hsz5 b.size;refine KC.mono ?_;clear KC b KP k15 q10 q11 q12 q13 n15 n2 hW5 kR5;generalize w5.alloc (bJ (.bool r2.neg) (.slice A2 p2 c2) (.int .i64 r2.e))=w6 at *;rintro e' w7 ⟨A9,p9,c9,B9,q9,d9,rfl,m1,m2,hW7,o7⟩;have O7:=O6.trans o7;have kR:=kR6.only o7 (by omega) (by omega);clear o7 O6 kR6 O2 O3 O4 O5;generalize cG false r1 r2 r2.ok=r at *;obtain⟨s0,s1,s2,s3q,s4,s5⟩:=kR.cell;have rf:=kR.frozen;have rf0:=rf 0;have rf1:=rf 1;have rf2:=rf 2;have rf3:=rf 3;have rf4:=rf 4;have rf5:=rf 5;clear rf;go_wp2_with fail;rw[HT.out];obtain⟨q1,q2,q3,q4⟩:=dm (lo:=r.lo) (hi:=r.hi) m1 m2 hW7 O7 kR (by omega) hg;exact bodyPost_ret (v:=aG r.lo.neg A9 p9 c9 r.lo.e r.hi.neg B9 q9 d9 r.hi.e) (by simp[results,Gk,go_sem,s0,s1,s2,s3q,s4,s5]) rfl ⟨A9,p9,c9,B9,q9,d9,rfl,q1,q2,q3,q4⟩
theorem xb (na nb':Bool)(A B:OA)(n c m d:Nat)(x y:Nat->Nat)(ea eb:Int)(g:Nat)(p:Int)(bad:Bool)(w:World)(hW:Wk 49 w g p bad)(ha:Sl w A n c x)(hb:Sl w B m d y)(hn:n<=400000)(hm:m<=400000)(hT:bx w):
 Calls mF 106 #[.pointer (some ⟨g,0,none⟩),aG na A n c ea nb' B m d eb] w (ap 49 w g p (il (ck p bad na nb' n m x y ea eb) (ep (aj nb' m y eb) nb' m (vs ai y m) eb) (ep (aj na n x ea) na n (vs ai x n) ea))):=by
 obtain⟨bel,kA,kR,hsz⟩:=vP w (.bool na) (.slice A n c) (.int .i64 ea) (.bool nb') (.slice B m d) (.int .i64 eb);have hg:=hW.2;have hW1:=hW.below bel;have TK0:=lM na nb' A B n c m d x y ea eb g p bad _ hW1 (ha.below bel) (hb.below bel) hn hm;rw[show((w.alloc (ce (.bool na) (.slice A n c) (.int .i64 ea) (.bool nb') (.slice B m d) (.int .i64 eb))).alloc z6).heap.size=w.heap.size+1+1 by simp]at TK0;have TK:=lY TK0;clear TK0;obtain⟨ka0,ka1,ka2,ka3,ka4,ka5⟩:=kA.cell
 have hgs:w.heap.size < ((w.alloc (ce (.bool na) (.slice A n c) (.int .i64 ea) (.bool nb') (.slice B m d) (.int .i64 eb))).alloc z6).heap.size:=by omega
 go_enter Tryz.func106,Tryz.ntmps106;go_wp2_with fail;refine TK.out.mono ?_;generalize(w.alloc (ce (.bool na) (.slice A n c) (.int .i64 ea) (.bool nb') (.slice B m d) (.int .i64 eb))).alloc z6=w1 at *;rintro e' w2 ⟨rfl,hW2,o2⟩;have kA2:=kA.only o2 (by omega) (by omega);have kR2:=kR.only o2 (by omega) (by omega);have O2:=(bU g bel).trans o2;have hsz2:w.heap.size+2<=w2.heap.size:=ou hsz o2.size;clear ka0 ka1 ka2 ka3 ka4 ka5 hgs TK hW1 kA kR bel o2 hsz;generalize ck p bad na nb' n m x y ea eb=bo at *;cases bo
 rotate_left
 . have kR:=kR2
   obtain⟨s0,s1,s2,s3q,s4,s5⟩:=kR.cell;have rf:=kR.frozen;have rf0:=rf 0;have rf1:=rf 1;have rf2:=rf 2;have rf3:=rf 3;have rf4:=rf 4;have rf5:=rf 5;clear rf;go_wp2_with fail;obtain⟨q1,q2,q3,q4⟩:=dm (lo:=DR.zero) (hi:=DR.zero) (aq w2) (aq w2) hW2 O2 kR (by omega) hg;exact bodyPost_ret (v:=aG false none 0 0 0 false none 0 0 0) (by simp[results,DE,go_sem,s0,s1,s2,s3q,s4,s5]) rfl ⟨none,0,0,none,0,0,rfl,q1,q2,q3,q4⟩
 . have D1:Hid (∀ w',az w w' g->Calls mF 82 #[aP nb' B m d eb] w' (DP w' (ep (aj nb' m y eb) nb' m (vs ai y m) eb))):=lY (fun w' o=>(nE nb' B m d y eb w' (hb.wk hW o) hm (hT.wk hW o)).mono fun _ _ h=>h.dp)
   have D2:Hid (∀ w',az w w' g->Calls mF 82 #[aP na A n c ea] w' (DP w' (ep (aj na n x ea) na n (vs ai x n) ea))):=lY (fun w' o=>(nE na A n c x ea w' (ha.wk hW o) hn (hT.wk hW o)).mono fun _ _ h=>h.dp);have HT:Hid (il false (ep (aj nb' m y eb) nb' m (vs ai y m) eb) (ep (aj na n x ea) na n (vs ai x n) ea)=cG false (ep (aj nb' m y eb) nb' m (vs ai y m) eb) (ep (aj na n x ea) na n (vs ai x n) ea) ((ep (aj nb' m y eb) nb' m (vs ai y m) eb).ok && (ep (aj na n x ea) na n (vs ai x n) ea).ok)):=lY rfl;generalize ep (aj nb' m y eb) nb' m (vs ai y m) eb=r1 at *;generalize ep (aj na n x ea) na n (vs ai x n) ea=r2 at *;obtain⟨ka0,ka1,ka2,ka3,ka4,ka5⟩:=kA2.cell;go_wp2_with fail;refine(D1.out w2 O2).mono ?_;rintro e' w3 ⟨A1,p1,c1,rfl,n1,b⟩;have O3:=bN O2 b;have hW3:=hW2.below b;have kA3:=kA2.below b (by omega);have kR3:=kR2.below b (by omega);have hsz3:w.heap.size+2<=w3.heap.size:=ou hsz2 b.size;clear b kA2 kR2 hW2 ka0 ka1 ka2 ka3 ka4 ka5;obtain⟨ka0,ka1,ka2,ka3,ka4,ka5⟩:=kA3.cell
   have hgs:w.heap.size < w3.heap.size:=by omega
   go_wp2_with fail;have b:=ag w3 (bJ (.bool r1.neg) (.slice A1 p1 c1) (.int .i64 r1.e));have k1:=K3.made w3 (.bool r1.neg) (.slice A1 p1 c1) (.int .i64 r1.e);have O4:=bN O3 b;have hW4:=hW3.below b;have kR4:=kR3.below b (by omega);have n14:=n1.below b;have hsz4:w.heap.size+2<=(w3.alloc (bJ (.bool r1.neg) (.slice A1 p1 c1) (.int .i64 r1.e))).heap.size:=ou hsz3 b.size;clear b ka0 ka1 ka2 ka3 ka4 ka5 kA3 kR3 hW3 n1 hgs;generalize w3.alloc (bJ (.bool r1.neg) (.slice A1 p1 c1) (.int .i64 r1.e))=w4 at *;refine(D2.out w4 O4).mono ?_;rintro e' w5 ⟨A2,p2,c2,rfl,n2,b⟩;have O5:=bN O4 b;have hW5:=hW4.below b;have kR5:=kR4.below b (by omega);have n15:=n14.below b;have k15:=k1.adv b;have hsz5:w.heap.size+2<=w5.heap.size:=ou hsz4 b.size;clear b kR4 hW4 n14 k1 D1 D2;obtain⟨q10,q11,q12,q13⟩:=k15.cell;have KP:Hid (∀ w',Wk 49 w' g p false->am w' (.slice A1 p1 c1) r1.m->am w' (.slice A2 p2 c2) r2.m->Calls mF 99 #[.pointer (some ⟨g,0,none⟩),aP r1.neg A1 p1 c1 r1.e,.bool r1.ok,aP r2.neg A2 p2 c2 r2.e,.bool r2.ok] w' (ap 49 w' g p (cG false r1 r2 (r1.ok && r2.ok)))):=lY (fun w' h1 h2 h3=>lf g p false r1 r2 A1 A2 p1 c1 p2 c2 r1.ok r2.ok w' h1 h2 h3);cases hr1:r1.ok
   . skip
     rw[hr1]at KP HT
     first | rw[yb]at KP HT | rw[qK]at KP HT
     go_wp2_with fail;have b:=ag w5 (bJ (.bool r2.neg) (.slice A2 p2 c2) (.int .i64 r2.e));have O6:=bN O5 b;have kR6:=kR5.below b (by omega);have KC:=KP.out _ (hW5.below b) (n15.below b) (n2.below b);have hsz6:w.heap.size+2<=(w5.alloc (bJ (.bool r2.neg) (.slice A2 p2 c2) (.int .i64 r2.e))).heap.size:=ou hsz5 b.size;refine KC.mono ?_;clear KC b KP k15 q10 q11 q12 q13 n15 n2 hW5 kR5;generalize w5.alloc (bJ (.bool r2.neg) (.slice A2 p2 c2) (.int .i64 r2.e))=w6 at *;rintro e' w7 ⟨A9,p9,c9,B9,q9,d9,rfl,m1,m2,hW7,o7⟩;have O7:=O6.trans o7;have kR:=kR6.only o7 (by omega) (by omega);clear o7 O6 kR6 O2 O3 O4 O5;generalize cG false r1 r2 false=r at *;obtain⟨s0,s1,s2,s3q,s4,s5⟩:=kR.cell;have rf:=kR.frozen;have rf0:=rf 0;have rf1:=rf 1;have rf2:=rf 2;have rf3:=rf 3;have rf4:=rf 4;have rf5:=rf 5;clear rf;go_wp2_with fail;rw[HT.out];obtain⟨q1,q2,q3,q4⟩:=dm (lo:=r.lo) (hi:=r.hi) m1 m2 hW7 O7 kR (by omega) hg;exact bodyPost_ret (v:=aG r.lo.neg A9 p9 c9 r.lo.e r.hi.neg B9 q9 d9 r.hi.e) (by simp[results,DE,go_sem,s0,s1,s2,s3q,s4,s5]) rfl ⟨A9,p9,c9,B9,q9,d9,rfl,q1,q2,q3,q4⟩
   . skip
     rw[hr1]at KP HT
     first | rw[yb]at KP HT | rw[qK]at KP HT
     go_wp2_with fail;have b:=ag w5 (bJ (.bool r2.neg) (.slice A2 p2 c2) (.int .i64 r2.e));have O6:=bN O5 b;have kR6:=kR5.below b (by omega);have KC:=KP.out _ (hW5.below b) (n15.below b) (n2.below b);have hsz6:w.heap.size+2<=(w5.alloc (bJ (.bool r2.neg) (.slice A2 p2 c2) (.int .i64 r2.e))).heap.size:=ou hsz5 b.size;refine KC.mono ?_;clear KC b KP k15 q10 q11 q12 q13 n15 n2 hW5 kR5;generalize w5.alloc (bJ (.bool r2.neg) (.slice A2 p2 c2) (.int .i64 r2.e))=w6 at *;rintro e' w7 ⟨A9,p9,c9,B9,q9,d9,rfl,m1,m2,hW7,o7⟩;have O7:=O6.trans o7;have kR:=kR6.only o7 (by omega) (by omega);clear o7 O6 kR6 O2 O3 O4 O5;generalize cG false r1 r2 r2.ok=r at *;obtain⟨s0,s1,s2,s3q,s4,s5⟩:=kR.cell;have rf:=kR.frozen;have rf0:=rf 0;have rf1:=rf 1;have rf2:=rf 2;have rf3:=rf 3;have rf4:=rf 4;have rf5:=rf 5;clear rf;go_wp2_with fail;rw[HT.out];obtain⟨q1,q2,q3,q4⟩:=dm (lo:=r.lo) (hi:=r.hi) m1 m2 hW7 O7 kR (by omega) hg;exact bodyPost_ret (v:=aG r.lo.neg A9 p9 c9 r.lo.e r.hi.neg B9 q9 d9 r.hi.e) (by simp[results,DE,go_sem,s0,s1,s2,s3q,s4,s5]) rfl ⟨A9,p9,c9,B9,q9,d9,rfl,q1,q2,q3,q4⟩
end
section
variable {TW:TypeId}
def Bu (b neg:Bool)(V:Nat)(e:Int):SRes:=if b then SRes.no else⟨false,⟨true,neg,V,e⟩,⟨true,neg,V,e⟩⟩
theorem yA (w:World)(a b c d e f d' e' f':Value):Below w.heap.size w (((w.alloc (bJ a b c)).alloc z6).alloc (ce d e f d' e' f'))/\Fq (((w.alloc (bJ a b c)).alloc z6).alloc (ce d e f d' e' f')) (w.heap.size+1)/\ej (((w.alloc (bJ a b c)).alloc z6).alloc (ce d e f d' e' f')) (w.heap.size+1+1) d e f d' e' f'/\w.heap.size+3<=(((w.alloc (bJ a b c)).alloc z6).alloc (ce d e f d' e' f')).heap.size:=by
 have b1:=ag w (bJ a b c);have b2:=ag (w.alloc (bJ a b c)) z6;have b3:=ag ((w.alloc (bJ a b c)).alloc z6) (ce d e f d' e' f');have k2:=(ej.made (w.alloc (bJ a b c)) (.bool false) (.slice none 0 0) (.int .i64 0) (.bool false) (.slice none 0 0) (.int .i64 0)).below b3 (by simp);have k3:=ej.made ((w.alloc (bJ a b c)).alloc z6) d e f d' e' f';rw[show(w.alloc (bJ a b c)).heap.size=w.heap.size+1 by simp]at k2;rw[show((w.alloc (bJ a b c)).alloc z6).heap.size=w.heap.size+1+1 by simp]at k3;exact⟨aB (aB b1 b2) b3,k2,k3,by simp⟩
theorem xt (na:Bool)(A:OA)(n c:Nat)(x:Nat->Nat)(ea:Int)(g:Nat)(p:Int)(bad:Bool)(w:World)(hW:Wk TW w g p bad)(ha:Sl w A n c x)(hn:n<=400000):
 Calls mF 13 #[.pointer (some ⟨g,0,none⟩),aP na A n c ea] w (ap TW w g p (Bu (ck p bad na na n n x x ea ea) na (vs ai x n) ea)):=by
 obtain⟨bel,kR,kP,hsz⟩:=yA w (.bool na) (.slice A n c) (.int .i64 ea) (.bool na) (.slice A n c) (.int .i64 ea) (.bool na) (.slice A n c) (.int .i64 ea);have hg:=hW.2;have hW1:=hW.below bel;have TK0:=lE na na A A n c n c x x ea ea g p bad _ hW1 (ha.below bel) (ha.below bel) hn hn;rw[show(((w.alloc (bJ (.bool na) (.slice A n c) (.int .i64 ea))).alloc z6).alloc (ce (.bool na) (.slice A n c) (.int .i64 ea) (.bool na) (.slice A n c) (.int .i64 ea))).heap.size=w.heap.size+1+1+1 by simp]at TK0;have TK:=lY TK0;clear TK0;obtain⟨ka0,ka1,ka2,ka3,ka4,ka5⟩:=kP.cell
 have hgs:w.heap.size+1+1 < (((w.alloc (bJ (.bool na) (.slice A n c) (.int .i64 ea))).alloc z6).alloc (ce (.bool na) (.slice A n c) (.int .i64 ea) (.bool na) (.slice A n c) (.int .i64 ea))).heap.size:=by omega
 have PL:Hid (ck p bad na na n n x x ea ea=false->am w (.slice A n c) (vs ai x n)):=lY (fun h=>by
  have h1:bG (aj na n x ea && aj na n x ea) na na (vs ai x n) (vs ai x n) ea ea=true:=by
   unfold ck at h;simp only[Gl]at h
   simpa using h.2
  unfold bG at h1;simp only[Bx]at h1
  exact(aS h1.1.1).num ha)
 go_enter Tryz.func13,Tryz.ntmps13;go_wp2_with fail;refine TK.out.mono ?_;generalize((w.alloc (bJ (.bool na) (.slice A n c) (.int .i64 ea))).alloc z6).alloc (ce (.bool na) (.slice A n c) (.int .i64 ea) (.bool na) (.slice A n c) (.int .i64 ea))=w1 at *;rintro e' w2 ⟨rfl,hW2,o2⟩;have kP2:=kP.only o2 (by omega) (by omega);have kR:=kR.only o2 (by omega) (by omega);have O2:=(bU g bel).trans o2;clear TK hW1 bel o2;obtain⟨bo,hbo⟩:∃ b:Bool,Hid (ck p bad na na n n x x ea ea=b):=⟨_,lY rfl⟩;rw[hbo.out]at hW2;rw[hbo.out];cases bo
 . have HT:Hid (Bu (ck p bad na na n n x x ea ea) na (vs ai x n) ea=⟨false,⟨true,na,vs ai x n,ea⟩,⟨true,na,vs ai x n,ea⟩⟩):=lY (by rw[hbo.out];rfl)
   have NA:=gG hW O2 (PL.out hbo.out);clear PL hbo;obtain⟨kp0,kp1,kp2,kp3,kp4,kp5⟩:=kP2.cell;obtain⟨s0,s1,s2,s3q,s4,s5⟩:=kR.cell;have rf:=kR.frozen;have rf0:=rf 0;have rf1:=rf 1;have rf2:=rf 2;have rf3:=rf 3;have rf4:=rf 4;have rf5:=rf 5;clear rf;go_wp2_with fail;rw[HT.out];obtain⟨q1,q2,q3,q4⟩:=dm (lo:=(⟨true,na,vs ai x n,ea⟩:DR)) (hi:=(⟨true,na,vs ai x n,ea⟩:DR)) NA NA hW2 O2 kR (by omega) hg;exact bodyPost_ret (v:=aG na A n c ea na A n c ea) (by simp[results,Gr,go_sem,s0,s1,s2,s3q,s4,s5]) rfl ⟨A,n,c,A,n,c,rfl,q1,q2,q3,q4⟩
 . have HT:Hid (Bu (ck p bad na na n n x x ea ea) na (vs ai x n) ea=SRes.no):=lY (by rw[hbo.out];rfl)
   clear PL hbo;obtain⟨s0,s1,s2,s3q,s4,s5⟩:=kR.cell;have rf:=kR.frozen;have rf0:=rf 0;have rf1:=rf 1;have rf2:=rf 2;have rf3:=rf 3;have rf4:=rf 4;have rf5:=rf 5;clear rf;go_wp2_with fail;rw[HT.out];obtain⟨q1,q2,q3,q4⟩:=dm (lo:=DR.zero) (hi:=DR.zero) (aq w2) (aq w2) hW2 O2 kR (by omega) hg;exact bodyPost_ret (v:=aG false none 0 0 0 false none 0 0 0) (by simp[results,Gr,go_sem,s0,s1,s2,s3q,s4,s5]) rfl ⟨none,0,0,none,0,0,rfl,q1,q2,q3,q4⟩
theorem AZ (w:World)(a b c:Value):Below w.heap.size w ((w.alloc (bJ a b c)).alloc z6)/\K3 ((w.alloc (bJ a b c)).alloc z6) w.heap.size a b c/\Fq ((w.alloc (bJ a b c)).alloc z6) (w.heap.size+1)/\w.heap.size+2<=((w.alloc (bJ a b c)).alloc z6).heap.size:=by
 have b1:=ag w (bJ a b c);have b2:=ag (w.alloc (bJ a b c)) z6;have k2:=ej.made (w.alloc (bJ a b c)) (.bool false) (.slice none 0 0) (.int .i64 0) (.bool false) (.slice none 0 0) (.int .i64 0);rw[show(w.alloc (bJ a b c)).heap.size=w.heap.size+1 by simp]at k2;exact⟨aB b1 b2,(K3.made w a b c).adv b2,k2,by simp⟩
theorem uA (na:Bool)(A:OA)(n c:Nat)(x:Nat->Nat)(ea:Int)(g:Nat)(p:Int)(bad:Bool)(w:World)(hW:Wk 49 w g p bad)(ha:Sl w A n c x)(hn:n<=400000):
 Calls mF 48 #[.pointer (some ⟨g,0,none⟩),aP na A n c ea] w (ap 49 w g p (Bu (ck p bad na na n n x x ea ea) na (vs ai x n) ea)):=by
 obtain⟨bel,kP,kR,hsz⟩:=AZ w (.bool na) (.slice A n c) (.int .i64 ea);have hg:=hW.2;have hW1:=hW.below bel;have TK0:=lM na na A A n c n c x x ea ea g p bad _ hW1 (ha.below bel) (ha.below bel) hn hn;rw[show((w.alloc (bJ (.bool na) (.slice A n c) (.int .i64 ea))).alloc z6).heap.size=w.heap.size+1+1 by simp]at TK0;have TK:=lY TK0;clear TK0;obtain⟨ka0,ka1,ka2,ka3⟩:=kP.cell
 have hgs:w.heap.size < ((w.alloc (bJ (.bool na) (.slice A n c) (.int .i64 ea))).alloc z6).heap.size:=by omega
 have PL:Hid (ck p bad na na n n x x ea ea=false->am w (.slice A n c) (vs ai x n)):=lY (fun h=>by
  have h1:bG (aj na n x ea && aj na n x ea) na na (vs ai x n) (vs ai x n) ea ea=true:=by
   unfold ck at h;simp only[Gl]at h
   simpa using h.2
  unfold bG at h1;simp only[Bx]at h1
  exact(aS h1.1.1).num ha)
 go_enter Tryz.func48,Tryz.ntmps48;go_wp2_with fail;refine TK.out.mono ?_;generalize(w.alloc (bJ (.bool na) (.slice A n c) (.int .i64 ea))).alloc z6=w1 at *;rintro e' w2 ⟨rfl,hW2,o2⟩;have kP2:=kP.only o2 (by omega);have kR:=kR.only o2 (by omega) (by omega);have O2:=(bU g bel).trans o2;clear TK hW1 bel o2;obtain⟨bo,hbo⟩:∃ b:Bool,Hid (ck p bad na na n n x x ea ea=b):=⟨_,lY rfl⟩;rw[hbo.out]at hW2;rw[hbo.out];cases bo
 . have HT:Hid (Bu (ck p bad na na n n x x ea ea) na (vs ai x n) ea=⟨false,⟨true,na,vs ai x n,ea⟩,⟨true,na,vs ai x n,ea⟩⟩):=lY (by rw[hbo.out];rfl)
   have NA:=gG hW O2 (PL.out hbo.out);clear PL hbo;obtain⟨kp0,kp1,kp2,kp3⟩:=kP2.cell;obtain⟨s0,s1,s2,s3q,s4,s5⟩:=kR.cell;have rf:=kR.frozen;have rf0:=rf 0;have rf1:=rf 1;have rf2:=rf 2;have rf3:=rf 3;have rf4:=rf 4;have rf5:=rf 5;clear rf;go_wp2_with fail;rw[HT.out];obtain⟨q1,q2,q3,q4⟩:=dm (lo:=(⟨true,na,vs ai x n,ea⟩:DR)) (hi:=(⟨true,na,vs ai x n,ea⟩:DR)) NA NA hW2 O2 kR (by omega) hg;exact bodyPost_ret (v:=aG na A n c ea na A n c ea) (by simp[results,Gs,go_sem,s0,s1,s2,s3q,s4,s5]) rfl ⟨A,n,c,A,n,c,rfl,q1,q2,q3,q4⟩
 . have HT:Hid (Bu (ck p bad na na n n x x ea ea) na (vs ai x n) ea=SRes.no):=lY (by rw[hbo.out];rfl)
   clear PL hbo;obtain⟨s0,s1,s2,s3q,s4,s5⟩:=kR.cell;have rf:=kR.frozen;have rf0:=rf 0;have rf1:=rf 1;have rf2:=rf 2;have rf3:=rf 3;have rf4:=rf 4;have rf5:=rf 5;clear rf;go_wp2_with fail;rw[HT.out];obtain⟨q1,q2,q3,q4⟩:=dm (lo:=DR.zero) (hi:=DR.zero) (aq w2) (aq w2) hW2 O2 kR (by omega) hg;exact bodyPost_ret (v:=aG false none 0 0 0 false none 0 0 0) (by simp[results,Gs,go_sem,s0,s1,s2,s3q,s4,s5]) rfl ⟨none,0,0,none,0,0,rfl,q1,q2,q3,q4⟩
end
theorem rY (w:World)(a b c d e f a' b' c' d' e' f':Value):Below w.heap.size w ((w.alloc (ce a b c d e f)).alloc (ce a' b' c' d' e' f'))/\ej ((w.alloc (ce a b c d e f)).alloc (ce a' b' c' d' e' f')) w.heap.size a b c d e f/\ej ((w.alloc (ce a b c d e f)).alloc (ce a' b' c' d' e' f')) (w.heap.size+1) a' b' c' d' e' f'/\w.heap.size+2<=((w.alloc (ce a b c d e f)).alloc (ce a' b' c' d' e' f')).heap.size:=by
 have b1:=(Below.refl w.heap.size w).alloc (oY _) (ce a b c d e f);have b2:=ag (w.alloc (ce a b c d e f)) (ce a' b' c' d' e' f');have k1:=(ej.made w a b c d e f).below b2 (by simp);have k2:=ej.made (w.alloc (ce a b c d e f)) a' b' c' d' e' f';rw[show(w.alloc (ce a b c d e f)).heap.size=w.heap.size+1 by simp]at k2;exact⟨aB b1 b2,k1,k2,by simp⟩
theorem pA (lo hi:DR)(A B A' B':OA)(n c m d n' c' m' d':Nat)(w:World)(h1:am w (.slice A n c) lo.m)(h2:am w (.slice B m d) hi.m)(h1':am w (.slice A' n' c') lo.m)(h2':am w (.slice B' m' d') hi.m)(hl:lo.m < ai^256)(hh:hi.m < ai^256):
 Calls mF 16 #[aG lo.neg A n c lo.e hi.neg B m d hi.e,aG lo.neg A' n' c' lo.e hi.neg B' m' d' hi.e] w (cz w):=by
 obtain⟨bel,kA,kB,hsz⟩:=rY w (.bool lo.neg) (.slice A n c) (.int .i64 lo.e) (.bool hi.neg) (.slice B m d) (.int .i64 hi.e) (.bool lo.neg) (.slice A' n' c') (.int .i64 lo.e) (.bool hi.neg) (.slice B' m' d') (.int .i64 hi.e);have S1:=lY (qf lo.neg lo.e _ (h1.below bel) (h1'.below bel) 256 (by omega) hl);obtain⟨k0,k1,k2,k3,k4,k5⟩:=kA.cell;obtain⟨l0,l1,l2,l3,l4,l5⟩:=kB.cell;go_enter Tryz.func16,Tryz.ntmps16;go_wp2_with fail;refine S1.out.mono ?_;generalize(w.alloc (ce (.bool lo.neg) (.slice A n c) (.int .i64 lo.e) (.bool hi.neg) (.slice B m d) (.int .i64 hi.e))).alloc (ce (.bool lo.neg) (.slice A' n' c') (.int .i64 lo.e) (.bool hi.neg) (.slice B' m' d') (.int .i64 hi.e))=w1 at *;rintro e' w2 ⟨rfl,b⟩;have B2:=aB bel b;have kA2:=kA.below b (by omega);have kB2:=kB.below b (by omega);clear S1 b bel kA kB k0 k1 k2 k3 k4 k5 l0 l1 l2 l3 l4 l5;obtain⟨k0,k1,k2,k3,k4,k5⟩:=kA2.cell;obtain⟨l0,l1,l2,l3,l4,l5⟩:=kB2.cell;have S2:=lY (qf hi.neg hi.e w2 (h2.below B2) (h2'.below B2) 256 (by omega) hh);go_wp2_with fail;refine S2.out.mono ?_;rintro e' w3 ⟨rfl,b⟩;have B3:=aB B2 b;clear S2 b B2 kA2 kB2 k0 k1 k2 k3 k4 k5 l0 l1 l2 l3 l4 l5;go_wp2_with fail;go_ret;exact⟨rfl,B3⟩
def fy (r na nb':Bool)(n:Nat):Int:=if r then(if n≠0/\na=false then 1 else if nb' then -1 else 0) else 0
theorem nO:aj false 0 (fun _=>0) 0=true:=by unfold aj;simp
theorem D3 {na:Bool}{x:Nat->Nat}{ea:Int}(h:aj na n x ea=true):decide (gh (aj false 0 (fun _=>0) 0 && aj na n x ea) false na (vs ai (fun _=>0) 0) (vs ai x n) 0 ea < 0)=decide (n≠0/\na=false):=by
 have P:=aS h;rw[nO,h,aL]
 show decide (fa false na 0 (vs ai x n) 0 ea < 0)=_
 unfold fa dx;rw[fc];cases na
 . simp only[if_true,Gm,if_false]
   rcases Gn n with h0 | h0
   . subst h0
     rw[aL,fc,eA]
     simp
   . have h1:=P.pos.1 h0
     rw[dn (fN h1)]
     have:n≠0:=by omega
     simp[this]
 . simp
theorem D8 {nb':Bool}{y:Nat->Nat}{eb:Int}(h:aj nb' m y eb=true):decide (gh (aj nb' m y eb && aj false 0 (fun _=>0) 0) nb' false (vs ai y m) (vs ai (fun _=>0) 0) eb 0 < 0)=nb':=by
 have P:=aS h;rw[nO,h,aL]
 show decide (fa nb' false (vs ai y m) 0 eb 0 < 0)=_
 unfold fa dx;rw[fc];cases nb'
 . simp only[if_true,Gm,if_false]
   rcases Gn m with h0 | h0
   . subst h0
     rw[aL,fc,eA];rfl
   . have h1:=P.pos.1 h0
     rw[cO (fN h1)];rfl
 . rfl
theorem wU (na nb':Bool)(A B:OA)(n c m d:Nat)(x y:Nat->Nat)(ea eb:Int)(w:World)(ha:Sl w A n c x)(hb:Sl w B m d y)(hn:n<=400000)(hm:m<=400000):
 Calls mF 61 #[aG na A n c ea nb' B m d eb] w
  fun o w'=>o=.returned (.int .i64 (fy (bG (aj na n x ea && aj nb' m y eb) na nb' (vs ai x n) (vs ai y m) ea eb) na nb' n))/\Below w.heap.size w w':=by
 have bA:Below w.heap.size w (w.alloc (ce (.bool na) (.slice A n c) (.int .i64 ea) (.bool nb') (.slice B m d) (.int .i64 eb))):=(Below.refl _ w).alloc (oY _) _;have kA:=ej.made w (.bool na) (.slice A n c) (.int .i64 ea) (.bool nb') (.slice B m d) (.int .i64 eb)
 have hgs:w.heap.size < (w.alloc (ce (.bool na) (.slice A n c) (.int .i64 ea) (.bool nb') (.slice B m d) (.int .i64 eb))).heap.size:=by simp
 obtain⟨k0,k1,k2,k3,k4,k5⟩:=kA.cell;have IR:=lY (hO na nb' A B n c m d x y ea eb _ (ha.below bA) (hb.below bA) hn hm);go_enter Tryz.func61,Tryz.ntmps61;go_wp2_with fail;refine IR.out.mono ?_;generalize w.alloc (ce (.bool na) (.slice A n c) (.int .i64 ea) (.bool nb') (.slice B m d) (.int .i64 eb))=w1 at *;rintro e' w2 ⟨rfl,b⟩;have B2:=bA.trans (b.mono bA.size);have kA2:=kA.below b hgs;have hgs2:w.heap.size < w2.heap.size:=oM hgs b.size;clear IR b bA kA hgs k0 k1 k2 k3 k4 k5;obtain⟨R,hR⟩:∃ R:Bool,Hid (bG (aj na n x ea && aj nb' m y eb) na nb' (vs ai x n) (vs ai y m) ea eb=R):=⟨_,lY rfl⟩;rw[hR.out];cases R
 . have HS:Hid (fy (bG (aj na n x ea && aj nb' m y eb) na nb' (vs ai x n) (vs ai y m) ea eb) na nb' n=0):=lY (by rw[hR.out];rfl)
   clear hR;go_wp2_with fail;go_ret;exact⟨by rw[HS.out];rfl,B2⟩
 . have hpp:aj na n x ea=true/\aj nb' m y eb=true:=by
    have:=hR.out
    unfold bG at this;simp only[Bx]at this;exact this.1
   have IB:=jj false na none A 0 0 n c (fun _=>0) x 0 ea w2 (Sl.none_ _ _ _ _) (ha.below B2) (by omega) hn;rw[D3 hpp.1]at IB;have HIB:=lY IB;clear IB;obtain⟨k0,k1,k2,k3,k4,k5⟩:=kA2.cell;go_wp2_with fail;refine HIB.out.mono ?_;rintro e' w3 ⟨rfl,b⟩;have B3:=B2.trans (b.mono B2.size);have kA3:=kA2.below b hgs2;clear HIB b B2 kA2 hgs2 k0 k1 k2 k3 k4 k5
   by_cases h1:n≠0/\na=false
   . have HS:Hid (fy (bG (aj na n x ea && aj nb' m y eb) na nb' (vs ai x n) (vs ai y m) ea eb) na nb' n=1):=lY (by rw[hR.out];simp[fy,h1])
     rw[show decide (n≠0/\na=false)=true by simp[h1]];clear hR h1;go_wp2_with fail;go_ret;exact⟨by rw[HS.out];rfl,B3⟩
   . have HS:Hid (fy (bG (aj na n x ea && aj nb' m y eb) na nb' (vs ai x n) (vs ai y m) ea eb) na nb' n=if nb' then -1 else 0):=lY (by rw[hR.out];unfold fy;rw[if_pos rfl,if_neg h1])
     rw[show decide (n≠0/\na=false)=false by simpa using h1];have IB:=jj nb' false B none m d 0 0 y (fun _=>0) eb 0 w3 (hb.below B3) (Sl.none_ _ _ _ _) hm (by omega);rw[D8 hpp.2]at IB;have HIB:=lY IB;clear IB hR h1;obtain⟨k0,k1,k2,k3,k4,k5⟩:=kA3.cell;go_wp2_with fail;refine HIB.out.mono ?_;rintro e' w4 ⟨rfl,b⟩;have B4:=B3.trans (b.mono B3.size);clear HIB b B3 kA3 k0 k1 k2 k3 k4 k5;cases nb'
     . go_wp2_with fail
       go_ret;exact⟨by rw[HS.out];rfl,B4⟩
     . go_wp2_with fail
       go_ret;exact⟨by rw[HS.out];rfl,B4⟩
theorem uz (na nb':Bool)(A B:OA)(n c m d:Nat)(x y:Nat->Nat)(ea eb:Int)(w:World)(ha:Sl w A n c x)(hb:Sl w B m d y)(hn:n<=400000)(hm:m<=400000):
 Calls mF 100 #[aG na A n c ea nb' B m d eb] w
  fun o w'=>o=.returned (.int .i64 (fy (bG (aj na n x ea && aj nb' m y eb) na nb' (vs ai x n) (vs ai y m) ea eb) na nb' n))/\Below w.heap.size w w':=by
 have bA:Below w.heap.size w (w.alloc (ce (.bool na) (.slice A n c) (.int .i64 ea) (.bool nb') (.slice B m d) (.int .i64 eb))):=(Below.refl _ w).alloc (oY _) _;have kA:=ej.made w (.bool na) (.slice A n c) (.int .i64 ea) (.bool nb') (.slice B m d) (.int .i64 eb)
 have hgs:w.heap.size < (w.alloc (ce (.bool na) (.slice A n c) (.int .i64 ea) (.bool nb') (.slice B m d) (.int .i64 eb))).heap.size:=by simp
 obtain⟨k0,k1,k2,k3,k4,k5⟩:=kA.cell;have IR:=lY (gD na nb' A B n c m d x y ea eb _ (ha.below bA) (hb.below bA) hn hm);go_enter Tryz.func100,Tryz.ntmps100;go_wp2_with fail;refine IR.out.mono ?_;generalize w.alloc (ce (.bool na) (.slice A n c) (.int .i64 ea) (.bool nb') (.slice B m d) (.int .i64 eb))=w1 at *;rintro e' w2 ⟨rfl,b⟩;have B2:=bA.trans (b.mono bA.size);have kA2:=kA.below b hgs;clear IR b bA kA hgs k0 k1 k2 k3 k4 k5;obtain⟨R,hR⟩:∃ R:Bool,Hid (bG (aj na n x ea && aj nb' m y eb) na nb' (vs ai x n) (vs ai y m) ea eb=R):=⟨_,lY rfl⟩;rw[hR.out];obtain⟨k0,k1,k2,k3,k4,k5⟩:=kA2.cell;cases R
 . have HS:Hid (fy (bG (aj na n x ea && aj nb' m y eb) na nb' (vs ai x n) (vs ai y m) ea eb) na nb' n=0):=lY (by rw[hR.out];rfl)
   clear hR;go_wp2_with fail;go_ret;exact⟨by rw[HS.out];rfl,B2⟩
 . have HS:Hid (fy (bG (aj na n x ea && aj nb' m y eb) na nb' (vs ai x n) (vs ai y m) ea eb) na nb' n=if n≠0/\na=false then 1 else if nb' then -1 else 0):=lY (by rw[hR.out];unfold fy;rw[if_pos rfl])
   clear hR
   by_cases h0:n=0
   . have hn0:¬ (0:Int) < (n:Int):=by omega
     have HS2:=lY (HS.out.trans (if_neg (fun h=>h.1 h0)));cases nb'
     all_goals (
      go_wp2_with fail;go_ret
      exact⟨by rw[HS2.out];rfl,B2⟩)
   . have hn0:(0:Int) < (n:Int):=by omega
     cases na
     . have HS2:=lY (HS.out.trans (if_pos ⟨h0,rfl⟩))
       go_wp2_with fail;go_ret;exact⟨by rw[HS2.out];rfl,B2⟩
     . have HS2:=lY (HS.out.trans (if_neg (fun h=>by cases h.2)))
       cases nb'
       all_goals (
        go_wp2_with fail;go_ret
        exact⟨by rw[HS2.out];rfl,B2⟩)
end Go.Proofs.YtmbmohibpkepdaaGreatDoor
