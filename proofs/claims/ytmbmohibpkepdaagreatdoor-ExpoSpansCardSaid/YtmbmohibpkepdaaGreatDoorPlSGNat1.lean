import Derived.Deep.QuietTactic
import Derived.BigQuiet
import Derived.OpenShut
import Derived.JoinedCond
import Derived.SizedLaws
import Derived.Carry
import Derived.Shelf.Spec.TrailingZeros
import Derived.RegionTactic
import Derived.BigRegion
import Derived.Test.YtmbmohibpkepdaaGreatDoorShelf
import Derived.Shelf.Spec.BitsCarry
import Derived.Test.YtmbmohibpkepdaaGreatDoorPlSGNumbers
set_option maxHeartbeats 1000000
open Nat renaming le_refl->lY, lt_of_le_of_lt->oY, eq_zero_or_pos->qK, zero_add->tz, lt_or_ge->yb, zero_le->Bl, add_assoc->Bx, add_mul->DF, div_div_eq_div_mul->EM, div_le_self->Gk, mul_le_mul_right->Gl, add_sub_cancel->Gq, lt_trichotomy->Gr, zero_mul->GH, mod_lt->GM
open Go.Lib renaming hid->mF, bitLen->DE
open Go.Proofs.Tryz renaming prog->ou, underlying22->oM, ntmps167->Gm, ntmps115->Gn, ntmps158->Gp, ntmps67->Gs, func167->Gt, func115->Gu, func158->Gv, func67->Gw, ntmps148->Gx, ntmps122->Gy, ntmps168->Gz, ntmps171->GC, ntmps117->GD, func148->GE, func122->GF, func168->GG, func171->GI, func117->GJ, ntmps74->GK, func74->GL
namespace Go.Proofs.YtmbmohibpkepdaaGreatDoor
open Go.RowKit
variable {F x y:Nat->Nat} {N V b g i n r:Nat} {t:TypeId} {w w':World}
def cU (w:World)(V:Nat)(e:Ending)(w':World):Prop:=∃ v,e=.returned v/\am w' v V/\Below w.heap.size w w'
theorem nj (A B:OA)(n m c d:Nat)(x y:Nat->Nat)(w:World)(ha:Sl w A n c x)(hb:Sl w B m d y)(hn:n<=900000)(hm:m<=900000):
 Calls ou 148 #[.slice A n c,.slice B m d] w (cU w (vs ai x n+vs ai y m)):=by
 obtain⟨A1,c1,e1,s1⟩:=cm ha;obtain⟨B1,d1,e2,s2⟩:=cm hb;have l1:=cJ x n;have l2:=cJ y m;have va:=dK ai x n;have vb:=dK ai y m;have V1:=bn A n c x w ha (by omega);have V2:=bn B m d y w hb (by omega);rw[e1]at V1;rw[e2]at V2;rw[← va,← vb];clear va vb e1 e2;generalize tl x n=p at *;generalize tl y m=q at *;have H1:=mF V1;have H2:=mF V2;clear V1 V2
 by_cases hlt:p < q
 . have hmk:∀ u:World,(Instr.makeSlice 22 (.int .i64 ((q:Int)+1)) (.int .i64 ((q:Int)+1))).run ou u =
    .ok (.slice (some ⟨u.heap.size,0,none⟩) (q+1) (q+1)) (u.alloc (.cells (madeCells #[.int .u64 0] (q+1)) 51)):=fun u=>ec (q+1) (by omega) u
   have hrow:=dG.made 51 w (q+1);go_enter GE,Gx;go_wp2_with fail;refine H1.out.mono ?_;rintro e w' ⟨rfl,rfl⟩;go_wp2_with fail;refine H2.out.mono ?_;rintro e w' ⟨rfl,rfl⟩
   go_wp2_with (with_reducible refine eG rfl (.tmp 21) (.tmp 22) 22 rfl 51 oM qA 51 w.heap.size (q+1) (q+1) (q+1) _ B1 q d1 y rfl rfl hrow (lY _) (s2.alloc _) (by omega) ?_;intro w2 hrow2 hon2)
   have hb2:Below w.heap.size w w2:=az.below ((Below.refl _ w).alloc (lY _) _) hon2 (by simp) (lY _);have s1':=s1.below hb2;refine(js w.heap.size 0 q (q+1) (q+1) _ A1 p c1 x w2 hrow2 (by omega) (by omega) s1' (by omega) (s1.far (lY _))).mono ?_;rintro e w3 ⟨F',cy,rfl,hinv⟩;have hrc:=hinv.2.1.cell (i:=q) (by omega);have hrf:=hinv.2.1.frozen q;have hcy:cy < ai:=oY hinv.1 (by unfold ai;omega);have hrow4:=hinv.2.1.set_ q cy hcy;have hb3:Below w.heap.size w w3:=az.below hb2 hinv.2.2.1 hb2.size (lY _);have hb4:Below w.heap.size w (w3.setCell ⟨w.heap.size,q,none⟩ (.int .u64 (cy:Int))):=hb3.setCell (lY _) _;have hsum:=mF hinv.2.2.2.2;go_wp2_with fail;generalize w3.setCell ⟨w.heap.size,q,none⟩ (.int .u64 (cy:Int))=w4 at *;refine(bn _ (q+1) (q+1) _ w4 (hrow4.sl0 (q+1) (q+1) (lY _) (lY _)) (by omega)).mono ?_;rintro e w5 ⟨rfl,rfl⟩;go_wp2_with fail;go_ret;refine⟨_,rfl,?_,hb4⟩;have hv:=eE (hrow4.sl0 (q+1) (q+1) (lY _) (lY _));rw[aA,bO,dU _ _ _ _ _ (lY _)]at hv;have hs:=hsum.out;simp only[tz]at hs;rw[hs,fl _ _ _ _ (lY _),fl _ _ _ _ (by omega)]at hv
   rw[Nat.add_comm (vs ai y q)]at hv;exact hv
 . have hmk:∀ u:World,(Instr.makeSlice 22 (.int .i64 ((p:Int)+1)) (.int .i64 ((p:Int)+1))).run ou u =
    .ok (.slice (some ⟨u.heap.size,0,none⟩) (p+1) (p+1)) (u.alloc (.cells (madeCells #[.int .u64 0] (p+1)) 51)):=fun u=>ec (p+1) (by omega) u
   have hrow:=dG.made 51 w (p+1);go_enter GE,Gx;go_wp2_with fail;refine H1.out.mono ?_;rintro e w' ⟨rfl,rfl⟩;go_wp2_with fail;refine H2.out.mono ?_;rintro e w' ⟨rfl,rfl⟩
   go_wp2_with (with_reducible refine eG rfl (.tmp 21) (.tmp 22) 22 rfl 51 oM qA 51 w.heap.size (p+1) (p+1) (p+1) _ A1 p c1 x rfl rfl hrow (lY _) (s1.alloc _) (by omega) ?_;intro w2 hrow2 hon2)
   have hb2:Below w.heap.size w w2:=az.below ((Below.refl _ w).alloc (lY _) _) hon2 (by simp) (lY _);have s1':=s2.below hb2;refine(js w.heap.size 0 p (p+1) (p+1) _ B1 q d1 y w2 hrow2 (by omega) (by omega) s1' (by omega) (s2.far (lY _))).mono ?_;rintro e w3 ⟨F',cy,rfl,hinv⟩;have hrc:=hinv.2.1.cell (i:=p) (by omega);have hrf:=hinv.2.1.frozen p;have hcy:cy < ai:=oY hinv.1 (by unfold ai;omega);have hrow4:=hinv.2.1.set_ p cy hcy;have hb3:Below w.heap.size w w3:=az.below hb2 hinv.2.2.1 hb2.size (lY _);have hb4:Below w.heap.size w (w3.setCell ⟨w.heap.size,p,none⟩ (.int .u64 (cy:Int))):=hb3.setCell (lY _) _;have hsum:=mF hinv.2.2.2.2;go_wp2_with fail;generalize w3.setCell ⟨w.heap.size,p,none⟩ (.int .u64 (cy:Int))=w4 at *;refine(bn _ (p+1) (p+1) _ w4 (hrow4.sl0 (p+1) (p+1) (lY _) (lY _)) (by omega)).mono ?_;rintro e w5 ⟨rfl,rfl⟩;go_wp2_with fail;go_ret;refine⟨_,rfl,?_,hb4⟩;have hv:=eE (hrow4.sl0 (p+1) (p+1) (lY _) (lY _));rw[aA,bO,dU _ _ _ _ _ (lY _)]at hv;have hs:=hsum.out;simp only[tz]at hs;rw[hs,fl _ _ _ _ (lY _),fl _ _ _ _ (by omega)]at hv;exact hv
def cQ (a b:Nat):Int:=if a < b then -1 else if b < a then 1 else 0
theorem dn {a:Nat}(h:a < b):cQ a b=-1:=by simp[cQ,h]
theorem cO {a:Nat}(h:b < a):cQ a b=1:=by simp[cQ,h,Nat.lt_asymm h]
theorem eA (a:Nat):cQ a a=0:=by simp[cQ]
theorem xZ (a b:Nat)(w:World):Calls ou 67 #[.int .i64 (a:Int),.int .i64 (b:Int)] w fun e w'=>e=.returned (.int .i64 (cQ a b))/\w'=w:=by
 rcases Gr a b with h | rfl | h
 . rw[dn h]
   go_enter Gw,Gs
   go_wp2
   go_ret;exact⟨rfl,rfl⟩
 . rw[eA]
   go_enter Gw,Gs
   go_wp2
   go_ret;exact⟨rfl,rfl⟩
 . rw[cO h]
   have h2:¬ a < b:=by omega
   go_enter Gw,Gs
   go_wp2
   go_ret;exact⟨rfl,rfl⟩
theorem xY (a b:Nat)(w:World):Calls ou 167 #[.int .u64 (a:Int),.int .u64 (b:Int)] w fun e w'=>e=.returned (.int .i64 (cQ a b))/\w'=w:=by
 rcases Gr a b with h | rfl | h
 . rw[dn h]
   go_enter Gt,Gm
   go_wp2
   go_ret;exact⟨rfl,rfl⟩
 . rw[eA]
   go_enter Gt,Gm
   go_wp2
   go_ret;exact⟨rfl,rfl⟩
 . rw[cO h]
   have h2:¬ a < b:=by omega
   go_enter Gt,Gm
   go_wp2
   go_ret;exact⟨rfl,rfl⟩
theorem jx {k:Nat}(hx:∀ j,j < n->x j < b)(hk:k < n)(he:∀ j,k < j->j < n->x j=y j)(h:x k < y k):vs b x n < vs b y n:=by
 obtain⟨i,rfl⟩:∃ i,n=k+1+i:=⟨n-(k+1),by omega⟩;rw[cW,cW b y]
 have e:vs b (fun j=>x (k+1+j)) i=vs b (fun j=>y (k+1+j)) i:=bg fun j hj=>he _ (by omega) (by omega)
 rw[e]
 apply Nat.add_lt_add_right
 rw[aA,aA];have h1:=bL (fun j hj=>hx j (by omega):∀ j,j < k->x j < b);have h2:(x k+1)*b^k<=y k*b^k:=Gl _ h;rw[DF,Nat.one_mul]at h2;omega
theorem lq {m:Nat}(hb:1 < b)(hx:∀ j,j < n->x j < b)(cy:Cn m y)(h:n < m):vs b x n < vs b y m:=by
 have h1:=bL hx;have h2:=pj (b:=b) cy (by omega);have h3:b^n<=b^(m-1):=Nat.pow_le_pow_right (by omega) (by omega);omega
theorem fq:1 < ai:=by unfold ai;omega
def uh (x y:Nat->Nat)(k n:Nat):Prop:=∀ j,k<=j->j < n->x j=y j
theorem uh.down {k:Nat}(h:uh x y (k+1) n)(e:x k=y k):uh x y k n:=fun j h1 h2=>by
 rcases yb k j with h3 | h3
 . exact h j h3 h2
 . have h4:j=k:=by omega
   rw[h4];exact e
def rL (w:World)(r:Int)(e:Ending)(w':World):Prop:=e=.returned (.int .i64 r)/\Below w.heap.size w w'
theorem cu {B:Nat}{a:World}(h:Below B a w)(n:Nat):Below B a (w.drewN n):=⟨h.os,h.tape,h.output,h.size,h.block⟩
theorem ic (A B:OA)(n m c d:Nat)(x y:Nat->Nat)(w:World)(ha:Sl w A n c x)(hb:Sl w B m d y)(hn:n<=1000000)(hm:m<=1000000):
 Calls ou 122 #[.slice A n c,.slice B m d] w (rL w (cQ (vs ai x n) (vs ai y m))):=by
 obtain⟨A1,c1,e1,s1⟩:=cm ha;obtain⟨B1,d1,e2,s2⟩:=cm hb;have l1:=cJ x n;have l2:=cJ y m;have va:=dK ai x n;have vb:=dK ai y m;have ca:=fT x n;have cb:=fT y m;have V1:=bn A n c x w ha (by omega);have V2:=bn B m d y w hb (by omega);rw[e1]at V1;rw[e2]at V2;rw[← va,← vb];clear va vb e1 e2;generalize tl x n=p at *;generalize tl y m=q at *;have H1:=mF V1;have H2:=mF V2;clear V1 V2
 by_cases hpq:p=q
 . subst hpq
   go_enter GF,Gy;go_wp2_with fail;refine H1.out.mono ?_;rintro e w' ⟨rfl,rfl⟩;go_wp2_with fail;refine H2.out.mono ?_;rintro e w' ⟨rfl,rfl⟩;go_wp2_with fail
   go_loopw [5] (fun i wr=>∃ k:Nat,k<=p/\i=.int .i64 ((k:Int)-1)/\uh x y k p/\Below w.heap.size w wr) (fun i _=>(intOf i+1).toNat)
   case atStart=>exact⟨p,lY _,rfl,fun j h1 h2=>by omega,Below.refl _ _⟩
   case round =>
    obtain⟨k,hk,rfl,hag,hbw⟩:=hrel
    rcases k with _ | k
    . go_wp2
      go_ret;refine⟨?_,hbw⟩;rw[bg (g:=y) fun j hj=>hag j (by omega) hj,eA]
      rfl
    . obtain⟨ad,rfl,hb1,hx64,hc1⟩:=(s1.below hbw).at_ (k:=k) (by omega)
      obtain⟨bd,rfl,hb2,hy64,hc2⟩:=(s2.below hbw).at_ (k:=k) (by omega)
      by_cases hxy:x k=y k
      . have hne:((x k:Int) != (y k:Int))=false:=by simp[hxy]
        have HX:=mF hxy;clear hxy
        go_wp2
        go_quiet (fail)
        go_wp2
        go_roundw
        case rel=>exact⟨k,by omega,by go_num,hag.down HX.out,cu hbw _⟩
        case measure=>simp[intOf]
      . have hne:((x k:Int) != (y k:Int))=true:=by simp;omega
        have hval:Hid (cQ (x k) (y k)=cQ (vs ai x p) (vs ai y p)):=by
         rcases yb (x k) (y k) with h | h
         . exact mF (by rw[dn h,dn (jx s1.small (by omega:k < p) (fun j h1 h2=>hag j (by omega) h2) h)])
         . have h:y k < x k:=by omega
           exact mF (by rw[cO h,cO (jx s2.small (by omega:k < p) (fun j h1 h2=>(hag j (by omega) h2).symm) h)])
        go_wp2
        go_quiet (fail)
        have hc1':(wr.drewN nq).cell? (ad.add k)=some (.int .u64 ((x k:Nat):Int)):=hc1;have hc2':(wr.drewN nq).cell? (bd.add k)=some (.int .u64 ((y k:Nat):Int)):=hc2;have hbw':=cu hbw nq;clear hc1 hc2 hbw hb1 hb2;generalize wr.drewN nq=w1 at *
        go_wp2
        go_quiet ((go_at_call 167;exact Calls.quiet_of_same (xY _ _ _)))
        go_wp2
        go_ret;exact⟨by rw[← hval.out];rfl,cu hbw' _⟩
 . have hne:((p:Int) != (q:Int))=true:=by simp;omega
   have hval:Hid (cQ p q=cQ (vs ai x p) (vs ai y q)):=by
    rcases yb p q with h | h
    . exact mF (by rw[dn h,dn (lq fq s1.small cb h)])
    . have h:q < p:=by omega
      exact mF (by rw[cO h,cO (lq fq s2.small ca h)])
   go_enter GF,Gy;go_wp2_with fail;refine H1.out.mono ?_;rintro e w' ⟨rfl,rfl⟩;go_wp2_with fail;refine H2.out.mono ?_;rintro e w' ⟨rfl,rfl⟩;go_wp2_with fail;refine(xZ p q _).mono ?_;rintro e w' ⟨rfl,rfl⟩;go_wp2_with fail;go_ret;exact⟨by rw[← hval.out];rfl,Below.refl _ _⟩
def lenOf:Value->Nat | .slice _ n _=>n | _=>0
theorem lk (A:OA)(n c:Nat)(f:Nat->Nat)(w:World)(h:Sl w A n c f)(hn:n<=1000000):
 Calls ou 165 #[.slice A n c] w fun e w'=>e=.returned (.slice A (tl f n) c)/\w=w':=by
 have hcap:=h.cap;go_enter Tryz.func165,Tryz.ntmps165
 go_wp2
 go_loop [0] (fun s0=>∃ k:Nat,k<=n/\s0=.slice A k c/\Hid (tl f k=tl f n)) (fun s0=>lenOf s0)
 case atStart=>exact⟨n,lY _,rfl,rfl⟩
 case round =>
  obtain⟨k,hk,rfl,ht⟩:=hrel
  rcases k with _ | m
  . go_wp2
    go_ret;exact⟨by rw[← ht.out];rfl,rfl⟩
  . obtain⟨ad,rfl,hb,hx64,hcell⟩:=h.at_ (k:=m) (by omega)
    have hxd:Hid (tl f (m+1)=if f m=0 then tl f m else m+1):=rfl;generalize f m=x at *
    by_cases h0:x=0
    . subst h0
      go_wp2
      go_round
      case rel=>exact⟨m,by omega,rfl,mF (by rw[← ht.out,hxd.out,if_pos rfl])⟩
      case measure=>simp[lenOf]
    . have hne:((x:Int) == 0)=false:=by simp;omega
      go_wp2
      go_ret;refine⟨?_,rfl⟩;rw[← ht.out,hxd.out,if_neg h0]
      rfl
theorem jo (A B:OA)(p q c1 d1:Nat)(x y:Nat->Nat)(w:World)(s1:Sl w A p c1 x)(s2:Sl w B q d1 y)(ca:Cn p x)(cb:Cn q y)(hx:∀ j,j < p->x j < 65536)(hy:∀ j,j < q->y j < 65536)
 (hn:p<=1000000) (hm:q<=1000000) :
 Calls ou 115 #[.slice A p c1,.slice B q d1] w (rL w (cQ (vs 65536 x p) (vs 65536 y q))):=by
 have HX:=mF hx;have HY:=mF hy;clear hx hy
 by_cases hpq:p=q
 . subst hpq
   go_enter Gu,Gn;go_wp2_with fail
   go_loopw [5] (fun i wr=>∃ k:Nat,k<=p/\i=.int .i64 ((k:Int)-1)/\uh x y k p/\Below w.heap.size w wr) (fun i _=>(intOf i+1).toNat)
   case atStart=>exact⟨p,lY _,rfl,fun j h1 h2=>by omega,Below.refl _ _⟩
   case round =>
    obtain⟨k,hk,rfl,hag,hbw⟩:=hrel
    rcases k with _ | k
    . go_wp2
      go_ret;refine⟨?_,hbw⟩;rw[bg (g:=y) fun j hj=>hag j (by omega) hj,eA]
      rfl
    . obtain⟨ad,rfl,hb1,hx64,hc1⟩:=(s1.below hbw).at_ (k:=k) (by omega)
      obtain⟨bd,rfl,hb2,hy64,hc2⟩:=(s2.below hbw).at_ (k:=k) (by omega)
      have K1:Hid (x k < y k->cQ (vs 65536 x p) (vs 65536 y p)=-1):=mF fun h=>dn (jx HX.out (by omega:k < p) (fun j h1 h2=>hag j (by omega) h2) h)
      have K2:Hid (y k < x k->cQ (vs 65536 x p) (vs 65536 y p)=1):=mF fun h=>cO (jx HY.out (by omega:k < p) (fun j h1 h2=>(hag j (by omega) h2).symm) h)
      by_cases hxy:x k < y k
      . go_wp2
        go_quiet (fail)
        go_wp2
        go_ret;exact⟨by rw[K1.out hxy];rfl,cu hbw _⟩
      . have hnlt:decide ((x k:Int) < (y k:Int))=false:=by simp;omega
        go_wp2
        go_quiet (fail)
        have hc1':(wr.drewN nq).cell? (ad.add k)=some (.int .u64 ((x k:Nat):Int)):=hc1;have hc2':(wr.drewN nq).cell? (bd.add k)=some (.int .u64 ((y k:Nat):Int)):=hc2;have hbw':=cu hbw nq;clear hc1 hc2 hbw hb1 hb2;generalize wr.drewN nq=w1 at *
        by_cases hyx:y k < x k
        . go_wp2
          go_quiet (fail)
          go_wp2
          go_ret;exact⟨by rw[K2.out hyx];rfl,cu hbw' _⟩
        . have hngt:decide ((y k:Int) < (x k:Int))=false:=by simp;omega
          have E:Hid (x k=y k):=mF (by omega)
          go_wp2
          go_quiet (fail)
          go_wp2
          go_roundw
          case rel=>exact⟨k,by omega,by go_num,hag.down E.out,cu hbw' _⟩
          case measure=>simp[intOf]
 . have hne:((p:Int) != (q:Int))=true:=by simp;omega
   rcases yb p q with h | h
   . rw[dn (lq (by omega) HX.out cb h)]
     go_enter Gu,Gn;go_wp2_with fail;go_ret;exact⟨rfl,Below.refl _ _⟩
   . have h:q < p:=by omega
     have h':¬ p < q:=by omega
     rw[cO (lq (by omega) HY.out ca h)];go_enter Gu,Gn;go_wp2_with fail;go_ret;exact⟨rfl,Below.refl _ _⟩
def cz (w:World)(e:Ending)(w':World):Prop:=e=.returned (.bool true)/\Below w.heap.size w w'
theorem yJ (A B:OA)(n c d:Nat)(x y:Nat->Nat)(w:World)(ha:Sl w A n c x)(hb:Sl w B n d y)(hn:n<=1000000)(he:∀ j,j < n->x j=y j):
 Calls ou 95 #[.slice A n c,.slice B n d] w (cz w):=by
 have HE:=mF he;clear he;go_enter Tryz.func95,Tryz.ntmps95;go_wp2_with fail
 go_loopw [5] (fun i wr=>∃ k:Nat,k<=n/\i=.int .i64 (k:Int)/\Below w.heap.size w wr) (fun i _=>n-(intOf i).toNat)
 case atStart=>exact⟨0,Bl _,rfl,Below.refl _ _⟩
 case round =>
  obtain⟨k,hk,rfl,hbw⟩:=hrel
  by_cases hlt:k < n
  . obtain⟨ad,rfl,hb1,hx64,hc1⟩:=(ha.below hbw).at_ hlt
    obtain⟨bd,rfl,hb2,hy64,hc2⟩:=(hb.below hbw).at_ hlt;rw[← HE.out k hlt]at hc2
    have hne:((x k:Int) != (x k:Int))=false:=by simp
    go_wp2
    go_quiet (fail)
    go_wp2
    go_roundw
    case rel=>exact⟨k+1,by omega,by go_num,cu hbw _⟩
    case measure=>simp[intOf];omega
  . go_wp2
    go_ret;exact⟨rfl,hbw⟩
theorem yI {v u:Value}(w:World)(h1:am w v V)(h2:am w u V)(K:Nat)(hK:K<=1000000)(hV:V < ai^K):Calls ou 95 #[v,u] w (cz w):=by
 obtain⟨A,n,c,f,rfl,s1,c1,e1⟩:=h1;obtain⟨B,m,d,g,rfl,s2,c2,e2⟩:=h2;obtain⟨rfl,he⟩:=Ao fq s1.small s2.small c1 c2 (e1.trans e2.symm);exact yJ A B n c d f g w s1 s2 (Nat.le_trans (ib fq c1 (by rw[e1];exact hV)) hK) he
theorem eO (A:OA)(n c:Nat)(f:Nat->Nat)(w:World)(h:Sl w A n c f)(hn:n<=1000000):
 Calls ou 149 #[.slice A n c] w (cU w (vs ai f n)):=by
 have hcap:=h.cap;go_enter Tryz.func149,Tryz.ntmps149
 go_wp2
 go_loop [3] (fun i=>∃ k:Nat,k<=n/\i=.int .i64 k/\Hid (tl f k=tl f n)) (fun i=>(intOf i).toNat)
 case atStart=>exact⟨n,lY _,rfl,rfl⟩
 case round =>
  obtain⟨k,hk,rfl,ht⟩:=hrel
  by_cases hstop:k=0\/∃ m,k=m+1/\f m≠0
  . have htk:tl f k=k:=by
     rcases hstop with rfl | ⟨m,rfl,h0⟩
     . rfl
     . show(if _ then _ else _)=_;rw[if_neg h0]
    have hown:=ig.empty 51 w w.heap.size f (lY _);have s1:=(h.take hk).alloc (.cells #[] 51)
    have fin:∀ (v1:Value) (w1:World),ig 51 w1 w.heap.size v1 (0+k) (kx f 0 f)->(∀ B w0,B<=w.heap.size->Below B w0 (w.alloc (.cells #[] 51))->Below B w0 w1)->am w1 v1 (vs ai f n)/\Below w.heap.size w w1:=by
     intro v1 w1 hown1 hbel;obtain⟨A2,c2,rfl,s2,_⟩:=hown1.sl
     have e0:∀ j,kx f 0 f j=f j:=fun j=>by simp[kx]
     refine⟨⟨A2,0+k,c2,f,rfl,s2.congr fun j _=>e0 j,?_,?_⟩,hbel _ _ (lY _) ((Below.refl _ _).alloc (lY _) _)⟩
     . rw[tz,← htk,ht.out];exact fT f n
     . rw[tz,← htk,ht.out];exact dK _ f n
    have FIN:=mF fin;clear fin htk
    rcases hstop with rfl | ⟨m,rfl,h0⟩
    . go_wp2_with (at_builtin;refine bD rfl (.tmp 18) (.tmp 21) 22 rfl w.heap.size 51 oM a6 _ 0 f rfl hown A 0 c f rfl s1 (by omega) (by simp) ?_;intro v1 w1 hown1 hbel)
      go_ret;exact⟨v1,rfl,FIN.out v1 w1 hown1 hbel⟩
    . obtain⟨ad,rfl,hb,hx64,hcell⟩:=h.at_ (k:=m) (by omega)
      have hne:((f m:Int) == 0)=false:=by simp;omega
      go_wp2_with (at_builtin;refine bD rfl (.tmp 18) (.tmp 21) 22 rfl w.heap.size 51 oM a6 _ 0 f rfl hown (some ad) (m+1) c f rfl s1 (by omega) (by simp) ?_;intro v1 w1 hown1 hbel)
      go_ret;exact⟨v1,rfl,FIN.out v1 w1 hown1 hbel⟩
  . obtain⟨m,rfl⟩:∃ m,k=m+1:=⟨k-1,by omega⟩
    have h0:f m=0:=by
     rcases qK (f m) with h | h
     . exact h
     . exact absurd (.inr ⟨m,rfl,by omega⟩) hstop
    clear hstop;obtain⟨ad,rfl,hb,hx64,hcell⟩:=h.at_ (k:=m) (by omega);have hxd:Hid (tl f (m+1)=tl f m):=mF (by show(if _ then _ else _)=_;rw[if_pos h0]);rw[h0]at hcell;clear h0 hx64
    go_wp2
    go_round
    case rel=>exact⟨m,by omega,by go_num,mF (by rw[← ht.out,hxd.out])⟩
    case measure=>simp[intOf]
open Go.ChangeShapes Go.WideShapes Go.ChangeAt Go.RowKit
theorem own:ownKnob Tryz.prog.godebug=none:=by kernel_rfl
theorem BR:laidOutB ou=true:=by kernel_rfl
theorem Ch:Tryz.prog.cellsOf 51=1:=by kernel_rfl
def bx (w:World):Prop:=0 < w.heap.size/\TabAt 0 Lib.deBruijn64tab w
theorem bx.below (h:bx w)(hb:Below w.heap.size w w'):bx w' :=
 ⟨Nat.lt_of_lt_of_le h.1 hb.size,fun j hj=>(hb.cell h.1).trans (h.2 j hj)⟩
theorem AN (x k idx:Nat)(w:World)(hx0:((x:Int) == 0)=false)
 (key:IntKind.u64.wrap (bits BinOp.and IntKind.u64 (x:Int) (IntKind.u64.wrap (-(x:Int)))*285870213051353865)/288230376151711744=(idx:Int))
 (hi:idx < 64) (hk:k < 64) (hcell:w.cell? ⟨0,idx,none⟩=some (.int .u8 k)) :
 Calls ou 135 #[.int .u64 x] w fun e w'=>e=.returned (.int .i64 k)/\w=w':=by
 go_enter Tryz.func135,Tryz.ntmps135
 go_wp2_with (simp only[key])
 go_ret;exact⟨rfl,rfl⟩
def D9 (w:World)(x:Nat)(e:Ending)(w':World):Prop:=∃ z T:Nat,e=.returned (.int .i64 (z:Int))/\z < 64/\Hid (x=T*2^z/\T%2=1)/\w=w'
theorem Dm (x:Nat)(hx:x < ai)(hx0:x≠0)(w:World)(hT:bx w):Calls ou 135 #[.int .u64 (x:Int)] w (D9 w x):=by
 obtain⟨hlow,hk⟩:=Lib.lowest_bit 64 x hx0 (by rw[← bv];exact hx);obtain⟨hi,htab⟩:=Lib.deBruijn64_at _ hk;have hcell:=hT.2 _ hi;rw[htab]at hcell;have hx':x < 18446744073709551616:=hx;refine(AN x _ _ w (by simp;omega) (tz64_key x _ hx' hx0 hlow) hi hk hcell).mono ?_;rintro e w' ⟨rfl,rfl⟩;obtain⟨m,hm,_⟩:=Lib.ctzFrom_spec 64 x (by omega) (by rw[← bv];exact hx)
 have e1:Lib.ctz 64 x=Lib.ctzFrom 64 x:=by unfold Lib.ctz;rw[if_neg hx0]
 rw[e1]at hk ⊢;exact⟨_,2*m+1,rfl,hk,mF ⟨by rw[Nat.mul_comm];exact hm,by omega⟩,rfl⟩
def jt (t:TypeId)(w wr:World)(g N W r:Nat)(x:Nat->Nat)(i:Nat):Prop :=
 ∃ F,dG t wr g N F/\Below g w wr/\F (W+i) < 2^r/\(∀ j,W+i < j->j < N->F j=0)/\vs ai F (W+i)+F (W+i)*ai^(W+i)=vs ai x i*ai^W*2^r
theorem jt.step {wr:World}{W xi:Nat}(hr:r<=63)(hx:x i=xi)(hxB:xi < ai)(hrow:dG t wr g N F)(hb:Below g w wr)(hlt:F (W+i) < 2^r)
 (hz:∀ j,W+i < j->j < N->F j=0) (hv:vs ai F (W+i)+F (W+i)*ai^(W+i)=vs ai x i*ai^W*2^r) :
 jt t w ((wr.setCell ⟨g,W+i,none⟩ (.int .u64 ((F (W+i)+xi*2^r%ai:Nat):Int))).setCell ⟨g,W+i+1,none⟩ (.int .u64 ((xi/2^(64-r):Nat):Int))) g N W r x (i+1):=by
 have h1:=iP (F (W+i)) xi r (by omega) hlt;have h2:=qB xi r (by omega) hxB;have h3:xi/2^(64-r) < ai:=oY (Gk _ _) hxB;refine⟨_,(hrow.set_ (W+i) _ h1).set_ (W+i+1) _ h3,(hb.setCell (lY _) _).setCell (lY _) _,?_,fun j hj hjN=>?_,?_⟩
 . rw[← Bx,bO];exact h2
 . rw[aU _ _ _ _ (by omega),aU _ _ _ _ (by omega)];exact hz j (by omega) hjN
 . rw[← Bx,bO,dU _ _ _ _ _ (lY _),aA,bO,dU _ _ _ _ _ (lY _),rX (by omega) hv,aA,hx]
   congr 1
   rw[DF,Nat.pow_add]
   congr 1
   ac_rfl
def FH (w:World)(v:Value):Prop:=∀ ad n c,v=.slice (some ad) n c->w.heap.size<=ad.block
def oQ (w:World)(V:Nat)(e:Ending)(w':World):Prop:=∃ v,e=.returned v/\am w' v V/\Below w.heap.size w w'/\FH w v
theorem oQ.post {e:Ending}(h:oQ w V e w'):cU w V e w':=by
 obtain⟨v,h1,h2,h3,_⟩:=h;exact⟨v,h1,h2,h3⟩
theorem xA (w:World)(off c k:Nat):FH w (nl (some ⟨w.heap.size,off,none⟩) c k):=fun ad n c' h=>by
 unfold nl at h
 split at h
 . cases h
 . cases h;exact lY _
theorem uH (A:OA)(n c:Nat)(x:Nat->Nat)(s W r:Nat)(w:World)(ha:Sl w A n c x)(hn:n<=400000)(hn0:0 < n)(hW:W<=400000)(hr:r<=63)(eW:(s:Int)/64=(W:Int))(er:(s:Int)%64=(r:Int))(hs:s<=30000000):
 Calls ou 168 #[.slice A n c,.int .i64 (s:Int)] w (oQ w (vs ai x n*ai^W*2^r)):=by
 have hmk:∀ u:World,(Instr.makeSlice 22 (.int .i64 ((W:Int)+(n:Int)+1)) (.int .i64 ((W:Int)+(n:Int)+1))).run ou u =
  .ok (.slice (some ⟨u.heap.size,0,none⟩) (W+n+1) (W+n+1)) (u.alloc (.cells (madeCells #[.int .u64 0] (W+n+1)) 51)):=fun u=>by
  have h:=ec (W+n+1) (by omega) u;rw[Int.natCast_add,Int.natCast_add]at h;exact h
 have zeros:∀ k,vs ai (fun _=>0) k=0:=fun k=>by induction k with | zero=>rfl | succ k ih=>rw[aA,ih];simp
 have h00:jt 51 w (w.alloc (.cells (madeCells #[.int .u64 0] (W+n+1)) 51)) w.heap.size (W+n+1) W r x 0 :=
  ⟨_,dG.made 51 w (W+n+1),(Below.refl _ w).alloc (lY _) _,Nat.two_pow_pos _,fun _ _ _=>rfl,by simp[zeros,aL]⟩
 clear zeros;generalize hN:W+n+1=N at *;have HN:=mF hN
 have hN1:W+n+1<=N:=by omega
 have hN2:N<=W+n+1:=by omega
 clear hN
 have hn':((n:Int) == 0)=false:=by simp;omega
 go_enter GG,Gz;go_wp2_with fail;clear eW er hmk
 go_loopw [26] (fun s26 wr=>∃ i:Nat,i<=n/\s26=.int .i64 (i:Int)/\jt 51 w wr w.heap.size N W r x i) (fun s26 _=>n-(intOf s26).toNat)
 case atStart=>exact⟨0,Bl _,rfl,h00⟩
 case round =>
  clear h00;obtain⟨i,hi,rfl,F,hrow,hb,hlt,hz,hv⟩:=hrel;have HZ:=mF hz;have HV:=mF hv;clear hz hv
  by_cases hin:i < n
  . obtain⟨ad,rfl,hb1,hx64,hcell⟩:=(ha.below hb).at_ hin
    have hst:=mF (jt.step hr rfl hx64 hrow hb hlt HZ.out HV.out);have hrc:=hrow.cell (i:=W+i) (by omega);have hrf:=hrow.frozen (W+i);have hFB:=hrow.2 (W+i) (by omega)
    have eo:bits .or .u64 (F (W+i):Int) (IntKind.u64.wrap ((x i:Int)*2^r))=((F (W+i)+x i*2^r%ai:Nat):Int):=by rw[gC];exact uO _ _ _ (by omega) hlt hFB
    have es:(x i:Int)/2^(64-r)=((x i/2^(64-r):Nat):Int):=fU _ _;have hrow2:=hrow.set_ (W+i) _ (iP (F (W+i)) (x i) r (by omega) hlt);have hrc2:=hrow2.cell (i:=W+i+1) (by omega);have hrf2:=hrow2.frozen (W+i+1);clear hrow2;generalize F (W+i)+x i*2^r%ai=v1 at *;generalize x i/2^(64-r)=v2 at *;go_wp2_with fail;go_roundw
    case rel=>exact⟨i+1,by omega,by go_num,hst.out⟩
    case measure=>simp[intOf];omega
  . obtain rfl:i=n:=by omega
    go_wp2_with fail;have hsl:=hrow.sl0 N N (lY _) (lY _);refine(bn _ N N _ wr hsl (by omega)).mono ?_;rintro e w5 ⟨rfl,rfl⟩;go_wp2_with fail;go_ret;have hnum:=eE hsl
    have e1:vs ai F N=vs ai x i*ai^W*2^r:=by rw[← HN.out,aA,HV.out]
    rw[e1]at hnum;exact⟨_,rfl,hnum,hb,xA w 0 N _⟩
theorem pG (A:OA)(n c:Nat)(x:Nat->Nat)(s:Nat)(w:World)(ha:Sl w A n c x)(hn:n<=400000)(hs:s<=20000000):
 Calls ou 168 #[.slice A n c,.int .i64 (s:Int)] w (oQ w (vs ai x n*2^s)):=by
 rcases qK n with h0 | h0
 . subst h0
   rw[aL,GH];go_enter GG,Gz;go_wp2_with fail;go_ret;exact⟨_,rfl,⟨none,0,0,x,rfl,Sl.none_ _ _ _ _,.inl rfl,rfl⟩,Below.refl _ _,fun ad n c h=>by cases h⟩
 . rw[gu s,← Nat.mul_assoc]
   exact uH A n c x s (s/64) (s%64) w ha hn h0 (by omega) (by omega) (by omega) (by omega) (by omega)
theorem pH (A:OA)(n c:Nat)(x:Nat->Nat)(s:Nat)(w:World)(ha:Sl w A n c x)(hn:n<=400000)(hs:s<=20000000):
 Calls ou 168 #[.slice A n c,.int .i64 (s:Int)] w (cU w (vs ai x n*2^s)) :=
 (pG A n c x s w ha hn hs).mono fun _ _ h=>h.post
def dF (x:Nat->Nat)(n W:Nat):Nat->Nat:=fun j=>if W+j < n then x (W+j) else 0
def iE (t:TypeId)(w wr:World)(g N:Nat)(y:Nat->Nat)(r i:Nat):Prop:=∃ F,dG t wr g N F/\Below g w wr/\∀ j,j < i->F j=lw y r j
theorem iE.step {v:Nat}(hF:∀ j,j < i->F j=lw y r j)(hv:v=lw y r i)(hrow:dG t w' g N (fF F i v))(hb:Below g w w'):iE t w w' g N y r (i+1):=by
 refine⟨_,hrow,hb,fun j hj=>?_⟩
 unfold fF;split
 . rename_i e;rw[e,hv]
 . exact hF j (by omega)
theorem uN (A:OA)(n c:Nat)(x:Nat->Nat)(s W r L:Nat)(w:World)(ha:Sl w A n c x)(hn:n<=400000)(hW:W < n)(hL1:W+L<=n)(hL2:n<=W+L)(hr:r<=63)(eW:(s:Int)/64=(W:Int))(er:(s:Int)%64=(r:Int))(hs:s<=30000000):
 Calls ou 171 #[.slice A n c,.int .i64 (s:Int)] w (cU w (vs ai (lw (dF x n W) r) L)):=by
 have hmk:∀ u:World,(Instr.makeSlice 22 (.int .i64 ((n:Int)-(W:Int))) (.int .i64 ((n:Int)-(W:Int)))).run ou u =
  .ok (.slice (some ⟨u.heap.size,0,none⟩) L L) (u.alloc (.cells (madeCells #[.int .u64 0] L) 51)):=fun u=>by
  have h:=ec L (by omega) u;rw[show(L:Int)=(n:Int)-(W:Int) by omega]at h;exact h
 have h00:iE 51 w (w.alloc (.cells (madeCells #[.int .u64 0] L) 51)) w.heap.size L (dF x n W) r 0 :=
  ⟨_,dG.made 51 w L,(Below.refl _ w).alloc (lY _) _,fun j h=>absurd h (by omega)⟩
 have h63:(2:Nat)^r<=ai:=nN r (by omega);go_enter GI,GC;go_wp2_with fail;clear eW er hmk
 go_loopw [25] (fun s25 wr=>∃ i:Nat,i<=L/\s25=.int .i64 (i:Int)/\iE 51 w wr w.heap.size L (dF x n W) r i) (fun s25 _=>L-(intOf s25).toNat)
 case atStart=>exact⟨0,Bl _,rfl,h00⟩
 case round =>
  clear h00;obtain⟨i,hi,rfl,F,hrow,hb,hF⟩:=hrel;have HF:=mF hF;clear hF
  by_cases hin:i < L
  . obtain⟨ad,rfl,hb1,hx64,hcell⟩:=(ha.below hb).at_ (k:=W+i) (by omega)
    have es:(x (W+i):Int)/2^r=((x (W+i)/2^r:Nat):Int):=fU _ _;have hv1B:x (W+i)/2^r < ai:=oY (Gk _ _) hx64;have hyi:Hid (dF x n W i=x (W+i)):=mF (by unfold dF;rw[if_pos (by omega)]);have hrc:=hrow.cell (i:=i) (by omega);have hrf:=hrow.frozen i
    by_cases hnext:W+i+1 < n
    . obtain⟨_,e,_,hz64,hcell2⟩:=(ha.below hb).at_ (k:=W+i+1) hnext
      injection e with e
      subst e;have hyn:Hid (dF x n W (i+1)=x (W+i+1)):=mF (by unfold dF;rw[if_pos (by omega),Bx])
      have eo:bits .or .u64 ((x (W+i)/2^r:Nat):Int) (IntKind.u64.wrap ((x (W+i+1):Int)*2^(64-r)))=((x (W+i)/2^r+x (W+i+1)*2^(64-r)%ai:Nat):Int):=by
       rw[gC,ER _ _ hv1B (GM _ bm),C7 _ _ _ (by omega) hx64]
      have hlw:Hid (x (W+i)/2^r+x (W+i+1)*2^(64-r)%ai=lw (dF x n W) r i):=mF (by unfold lw;rw[hyi.out,hyn.out]);have hlwB:=C8 (x (W+i)) (x (W+i+1)) r (by omega) hx64;have hrow1:=hrow.set_ i _ hv1B;have hrc1:=hrow1.cell (i:=i) (by omega);rw[bO]at hrc1;have hrf1:=hrow1.frozen i;have hbn:Below w.heap.size w (wr.setCell ⟨w.heap.size,i,none⟩ (.int .u64 ((x (W+i)/2^r:Nat):Int))):=hb.setCell (lY _) _;obtain⟨_,e,_,_,hcell3⟩:=(ha.below hbn).at_ (k:=W+i+1) hnext
      injection e with e
      subst e;rw[show ad.add (W+i+1)=⟨ad.block,ad.off+(W+i+1),none⟩ from by simp[Addr.add]]at hcell3;generalize x (W+i)/2^r+x (W+i+1)*2^(64-r)%ai=v2 at *;generalize x (W+i)/2^r=v1 at *;generalize x (W+i+1)=z at *;have q1:IntKind.i64.wrap ((W:Int)+(i:Int))=(W:Int)+(i:Int):=IntWalk.i64_in _ (by omega);have q2:IntKind.i64.wrap ((W:Int)+(i:Int)+1)=(W:Int)+(i:Int)+1:=IntWalk.i64_in _ (by omega)
      have q3:0<=(W:Int)+(i:Int)+1:=by omega
      have q4:((W:Int)+(i:Int)+1).toNat=W+i+1:=by omega
      have q5:(W:Int)+(i:Int)+1 < (n:Int):=by omega
      have q6:IntKind.u64.wrap (64-(r:Int))=64-(r:Int):=IntWalk.u64_in _ (by omega)
      have q7:(64-(r:Int)).toNat=64-r:=by omega
      go_wp2_with fail;clear hrc hrf hcell hcell2;generalize wr.setCell ⟨w.heap.size,i,none⟩ (.int .u64 (v1:Int))=w1 at *
      go_region
      go_wp2_with fail;go_roundw
      case rel=>exact⟨i+1,by omega,by go_num,iE.step (fun j hj=>by rw[aU _ _ _ _ (by omega)];exact HF.out j hj) hlw.out (hrow1.set_ i v2 hlwB).drew (hbn.setCell (lY _) _).drew⟩
      case measure=>simp[intOf];omega
    . have hlw:Hid (x (W+i)/2^r=lw (dF x n W) r i):=mF (by
       unfold lw;rw[hyi.out,show dF x n W (i+1)=0 from by unfold dF;rw[if_neg (by omega)]]
       simp)
      generalize x (W+i)/2^r=v1 at *;go_wp2_with fail;go_roundw
      case rel=>exact⟨i+1,by omega,by go_num,iE.step HF.out hlw.out (hrow.set_ i v1 hv1B) (hb.setCell (lY _) _)⟩
      case measure=>simp[intOf];omega
  . obtain rfl:i=L:=by omega
    go_wp2_with fail;have hsl:=hrow.sl0 i i (lY _) (lY _);refine(bn _ i i _ wr hsl (by omega)).mono ?_;rintro e w5 ⟨rfl,rfl⟩;go_wp2_with fail;go_ret;have hnum:=eE hsl;rw[bg HF.out]at hnum;exact⟨_,rfl,hnum,hb⟩
theorem pR (A:OA)(n c:Nat)(x:Nat->Nat)(s:Nat)(w:World)(ha:Sl w A n c x)(hn:n<=400000)(hs:s<=20000000):
 Calls ou 171 #[.slice A n c,.int .i64 (s:Int)] w (cU w (vs ai x n/2^s)):=by
 rw[gu s]
 rcases yb (s/64) n with h0 | h0
 . have h:=uN A n c x s (s/64) (s%64) (n-s/64) w ha hn h0 (by omega) (by omega) (by omega) (by omega) (by omega) (by omega)
   rw[pg _ _ _ (by omega) (by unfold dF;rw[if_neg (by omega)])]at h
   have e:vs ai (dF x n (s/64)) (n-s/64)=vs ai (fun j=>x (s/64+j)) (n-s/64):=bg fun j hj=>by unfold dF;rw[if_pos (by omega)]
   rw[e,qt x n (s/64) ha.small (by omega),EM]at h;exact h
 . rw[pz x n (s/64) ha.small h0]
   have hW:(n:Int)<=(s:Int)/64:=by omega
   go_enter GI,GC;go_wp2_with fail;go_ret;exact⟨_,rfl,⟨none,0,0,x,rfl,Sl.none_ _ _ _ _,.inl rfl,rfl⟩,Below.refl _ _⟩
def oS (w:World)(V:Nat)(e:Ending)(w':World):Prop:=∃ B:Nat,e=.returned (.int .i64 (B:Int))/\fE V B/\Below w.heap.size w w'
def ug (w:World)(V:Nat)(e:Ending)(w':World):Prop:=∃ B:Nat,e=.returned (.int .i64 (B:Int))/\fE V B/\w=w'
theorem jq (A:OA)(n c:Nat)(x:Nat->Nat)(w:World)(ha:Sl w A n c x)(hn:n<=70368744177664):
 Calls ou 117 #[.slice A n c] w (ug w (vs ai x n)):=by
 obtain⟨A1,c1,e1,s1⟩:=cm ha;have l1:=cJ x n;have cn:=fT x n;have V1:=pm A n c x w ha (by omega);rw[e1]at V1;rw[← dK ai x n];have H1:=mF V1;clear V1 e1;generalize tl x n=p at *
 rcases p with _ | p
 . go_enter GJ,GD
   go_wp2_with fail;refine H1.out.mono ?_;rintro e w' ⟨rfl,rfl⟩;go_wp2_with fail;go_ret;exact⟨0,rfl,fE.zero,rfl⟩
 . obtain⟨ad,rfl,hb,hx64,hcell⟩:=s1.at_ (k:=p) (by omega)
   have h0:0 < x p:=by
    rcases cn with h | h
    . omega
    . simp only[Gq]at h;omega
   obtain⟨b1,b2,b3,b4⟩:=iQ (x p) h0 hx64;have hfin:=mF (tT s1.small b1 b3 b4);have L64:=Tryz.bits_Len64 (x p:Int) w (by omega) (by unfold ai at hx64;omega);rw[Int.toNat_natCast]at L64;have HL:=mF L64;clear L64 b3 b4;generalize DE (x p)=L at *;go_enter GJ,GD;go_wp2_with fail;refine H1.out.mono ?_;rintro e w' ⟨rfl,rfl⟩;go_wp2_with fail;refine HL.out.mono ?_;rintro e w' ⟨rfl,rfl⟩;go_wp2_with fail;go_ret;exact⟨64*p+L,by go_num,hfin.out,rfl⟩
theorem fs (A:OA)(n c:Nat)(x:Nat->Nat)(w:World)(ha:Sl w A n c x)(hn:n<=400000):
 Calls ou 117 #[.slice A n c] w (ug w (vs ai x n)):=jq A n c x w ha (by omega)
theorem qk (A:OA)(n c:Nat)(x:Nat->Nat)(w:World)(ha:Sl w A n c x)(hn:n<=70368744177664):
 Calls ou 117 #[.slice A n c] w (oS w (vs ai x n)):=by
 refine(jq A n c x w ha hn).mono ?_;rintro e w' ⟨B,rfl,hB,rfl⟩;exact⟨B,rfl,hB,Below.refl _ _⟩
theorem tU (A:OA)(n c:Nat)(x:Nat->Nat)(w:World)(ha:Sl w A n c x)(hn:n<=400000):
 Calls ou 117 #[.slice A n c] w (oS w (vs ai x n)):=qk A n c x w ha (by omega)
theorem pF (A:OA)(n c:Nat)(x:Nat->Nat)(w:World)(ha:Sl w A n c x)(hn:n<=400000):
 Calls ou 84 #[.slice A n c] w (oS w (vs ai x n)):=by
 have hVb:Hid (vs ai x n < ai^n):=mF (bL ha.small);have T:=mF (eO A n c x w ha (by omega));generalize vs ai x n=V at *;go_enter Tryz.func84,Tryz.ntmps84;go_wp2_with fail;refine T.out.mono ?_;rintro e w1 ⟨v,rfl,⟨A1,p,c1,f,rfl,s1,cn,hv⟩,b1⟩;have hp:p<=n:=ib fq cn (by rw[hv];exact hVb.out);have HV:=mF hv;clear hv hVb T
 rcases p with _ | p
 . go_wp2_with fail
   go_ret;refine⟨0,rfl,?_,b1⟩
   rw[← HV.out];exact fE.zero
 . obtain⟨ad,rfl,hb,hx64,hcell⟩:=s1.at_ (k:=p) (by omega)
   have h0:0 < f p:=by
    rcases cn with h | h
    . omega
    . simp only[Gq]at h;omega
   obtain⟨l1,l2,l3,l4⟩:=iQ (f p) h0 hx64;have hfin:=mF (tT s1.small l1 l3 l4);clear l3 l4;have hL:Hid (DE (f p)=DE (f p)):=mF rfl;generalize hLL:DE (f p)=L at *;have HL:=mF hLL;clear hLL hL
   have hf6:f p<=18446744073709551615:=by unfold ai at hx64;omega
   generalize f p=top at *;go_wp2_with fail
   go_loop [4,5] (fun s4 s5=>∃ k z:Nat,k<=64/\z<=18446744073709551615/\s4=.int .i64 (64*(p:Int)+(k:Int))/\s5=.int .u64 (z:Int)/\Hid (k+DE z=L)) (fun _ s5=>(intOf s5).toNat)
   case atStart=>exact⟨0,top,by omega,hf6,by go_num,rfl,mF (by rw[HL.out];omega)⟩
   case round =>
    obtain⟨k,z,hk,hz,rfl,rfl,hkl⟩:=hrel
    rcases qK z with hz0 | hz0
    . subst hz0
      go_wp2_with fail;go_ret
      have e:k=L:=by have:=hkl.out;rw[show DE 0=0 from rfl]at this;omega
      refine⟨64*p+L,by rw[← e];go_num,?_,b1⟩
      rw[← HV.out];exact hfin.out
    . have hhalf:=mF (Lib.bitLen_half z (by omega) (by omega))
      have hk':k+1<=L:=by have h1:=hkl.out;have h2:=hhalf.out;omega
      go_wp2_with fail
      go_round
      case rel=>exact⟨k+1,z/2,by omega,by omega,by go_num,by go_num,mF (by have h1:=hkl.out;have h2:=hhalf.out;omega)⟩
      case measure=>simp[intOf];omega
theorem vT (A:OA)(n c:Nat)(x:Nat->Nat)(s:Nat)(w:World)(ha:Sl w A n c x)(hn:n<=400000)(hs:s<=1048576):
 Calls ou 123 #[.slice A n c,.int .i64 (s:Int)] w (oQ w (vs ai x n*2^s)):=by
 obtain⟨A1,c1,e1,s1⟩:=cm ha;have l1:=cJ x n;have V1:=bn A n c x w ha (by omega);rw[e1]at V1;rw[← dK ai x n];have H1:=mF V1;clear V1 e1;generalize tl x n=p at *
 have h0:¬ (s:Int) < 0:=by omega
 have h1:¬ (1048576:Int) < (s:Int):=by omega
 go_enter Tryz.func123,Tryz.ntmps123;go_wp2_with fail;refine H1.out.mono ?_;rintro e w' ⟨rfl,rfl⟩;go_wp2_with fail;refine(pG A1 p c1 x s w s1 (by omega) (by omega)).mono ?_;rintro e w2 ⟨v,rfl,hnum,b,hnew⟩;go_wp2_with fail;go_ret;exact⟨v,rfl,hnum,b,hnew⟩
theorem mQ (A:OA)(n c:Nat)(x:Nat->Nat)(s:Nat)(w:World)(ha:Sl w A n c x)(hn:n<=400000)(hs:s<=1048576):
 Calls ou 123 #[.slice A n c,.int .i64 (s:Int)] w (cU w (vs ai x n*2^s)) :=
 (vT A n c x s w ha hn hs).mono fun _ _ h=>h.post
theorem mP (A:OA)(n c:Nat)(x:Nat->Nat)(s:Nat)(w:World)(ha:Sl w A n c x)(hn:n<=400000)(hs:s<=1048576):
 Calls ou 136 #[.slice A n c,.int .i64 (s:Int)] w (cU w (vs ai x n/2^s)):=by
 obtain⟨A1,c1,e1,s1⟩:=cm ha;have l1:=cJ x n;have V1:=bn A n c x w ha (by omega);rw[e1]at V1;rw[← dK ai x n];have H1:=mF V1;clear V1 e1;generalize tl x n=p at *
 have h0:¬ (s:Int) < 0:=by omega
 have h1:¬ (1048576:Int) < (s:Int):=by omega
 go_enter Tryz.func136,Tryz.ntmps136;go_wp2_with fail;refine H1.out.mono ?_;rintro e w' ⟨rfl,rfl⟩;go_wp2_with fail;refine(pR A1 p c1 x s w s1 (by omega) (by omega)).mono ?_;rintro e w2 ⟨v,rfl,hnum,b⟩;go_wp2_with fail;go_ret;exact⟨v,rfl,hnum,b⟩
theorem Sl.drop {ad:Addr}{c:Nat}(h:Sl w (some ad) n c x)(W:Nat)(hW:W<=n):Sl w (some (ad.add W)) (n-W) (c-W) (fun j=>x (W+j)):=by
 obtain⟨h1,h2,h3⟩:=h;refine⟨by omega,fun j hj=>h2 _ (by omega),fun hn=>?_⟩;obtain⟨ad',e,hb,hc⟩:=h3 (by omega)
 injection e with e
 subst e;exact⟨_,rfl,by rw[ao];exact hb,fun j hj=>by rw[oO];exact hc _ (by omega)⟩
def jM (t:TypeId)(w wr:World)(g B N:Nat)(y:Nat->Nat)(r i:Nat):Prop:=∃ F,dG t wr g N F/\Below B w wr/\(∀ j,j < i->F j=lw y r j)/\∀ j,i<=j->F j=y j
theorem jM.step {B v:Nat}(hF:∀ j,j < i->F j=lw y r j)(hG:∀ j,i < j->F j=y j)(hv:v=lw y r i)(hrow:dG t w' g N (fF F i v))(hb:Below B w w'):jM t w w' g B N y r (i+1):=by
 refine⟨_,hrow,hb,fun j hj=>?_,fun j hj=>?_⟩
 . unfold fF;split
   . rename_i e;rw[e,hv]
   . exact hF j (by omega)
 . rw[aU _ _ _ _ (by omega)];exact hG j (by omega)
theorem xe (A:OA)(n c:Nat)(x:Nat->Nat)(s W L:Nat)(w:World)(ha:Sl w A n c x)(hn:n<=400000)(hW:W < n)(hL1:W+L<=n)(hL2:n<=W+L)(eW:(s:Int)/64=(W:Int))(er:(s:Int)%64=0)(hs:s<=1048576):
 Calls ou 158 #[.slice A n c,.int .i64 (s:Int)] w (cU w (vs ai (fun j=>x (W+j)) L)):=by
 have hcap:=ha.cap;obtain⟨ad,rfl,_,_,_⟩:=ha.at_ hW;have hdrop:=ha.drop W (by omega)
 have h0:¬ (s:Int) < 0:=by omega
 have h1:¬ (1048576:Int) < (s:Int):=by omega
 have hcW:¬ c=W:=by omega
 go_enter Gv,Gp
 go_wp2_with (at_builtin;refine bD rfl (.tmp 18) (.tmp 22) 22 rfl w.heap.size 51 oM a6 _ 0 x rfl (ig.empty _ w _ _ (lY _)) _ (n-W) (c-W) (fun j=>x (W+j)) rfl (hdrop.alloc _) (by omega) (by simp) ?_;intro v1 w1 hown1 hbel1;rw[show 0+(n-W)=L by omega]at hown1;obtain⟨A2,c2,rfl,s2,_⟩:=hown1.sl)
 have b1:Below w.heap.size w w1:=hbel1 _ _ (lY _) ((Below.refl _ _).alloc (lY _) _);refine(eO A2 L c2 _ w1 s2 (by omega)).mono ?_;rintro e w2 ⟨v2,rfl,hnum,b2⟩;go_wp2_with fail;go_ret;rw[bg (g:=fun j=>x (W+j)) fun j _=>by simp[kx]]at hnum;exact⟨v2,rfl,hnum,b1.trans (b2.mono b1.size)⟩
theorem xf (A:OA)(n c:Nat)(x:Nat->Nat)(s W r L:Nat)(w:World)(ha:Sl w A n c x)(hn:n<=400000)(hW:W < n)(hL1:W+L<=n)(hL2:n<=W+L)(hr:r<=63)(hr0:0 < r)(eW:(s:Int)/64=(W:Int))(er:(s:Int)%64=(r:Int))(hs:s<=1048576):
 Calls ou 158 #[.slice A n c,.int .i64 (s:Int)] w (cU w (vs ai (lw (dF x n W) r) L)):=by
 have hcap:=ha.cap;obtain⟨ad,rfl,_,_,_⟩:=ha.at_ hW;have hdrop:=ha.drop W (by omega)
 have h0:¬ (s:Int) < 0:=by omega
 have h1:¬ (1048576:Int) < (s:Int):=by omega
 have hcW:¬ c=W:=by omega
 go_enter Gv,Gp
 go_wp2_with (at_builtin;refine bD rfl (.tmp 18) (.tmp 22) 22 rfl w.heap.size 51 oM a6 _ 0 x rfl (ig.empty _ w _ _ (lY _)) _ (n-W) (c-W) (fun j=>x (W+j)) rfl (hdrop.alloc _) (by omega) (by simp) ?_;intro v1 w1 hown1 hbel1;rw[show 0+(n-W)=L by omega]at hown1;obtain⟨g,c2,rfl,hg,hc2,hrow0⟩:=hown1.row (by omega))
 have b1:Below w.heap.size w w1:=hbel1 _ _ (lY _) ((Below.refl _ _).alloc (lY _) _);clear hbel1 hown1 hdrop
 have h00:jM 51 w w1 g w.heap.size L (dF x n W) r 0:=by
  refine⟨dF x n W,hrow0.congr fun j hj=>?_,b1,fun j h=>absurd h (by omega),fun _ _=>rfl⟩
  unfold dF;rw[if_pos (by omega)];simp[kx]
 clear hrow0
 go_loopw [6] (fun s6q wr=>∃ i:Nat,i<=L/\s6q=.int .i64 (i:Int)/\jM 51 w wr g w.heap.size L (dF x n W) r i) (fun s6q _=>L-(intOf s6q).toNat)
 case atStart=>exact⟨0,Bl _,rfl,h00⟩
 case round =>
  clear h00;obtain⟨i,hi,rfl,F,hrow,hb,hF,hG⟩:=hrel
  by_cases hin:i < L
  . have hyi:F i=x (W+i):=by rw[hG i (by omega)];unfold dF;rw[if_pos (by omega)]
    have hyi':Hid (dF x n W i=x (W+i)):=mF (by unfold dF;rw[if_pos (by omega)]);have hx64:=ha.small (W+i) (by omega);have hrc:=hrow.cell (i:=i) (by omega);rw[hyi]at hrc;have HF:=mF hF;have HG:=mF hG;clear hF hG hyi;have hrf:=hrow.frozen i;have es:(x (W+i):Int)/2^r=((x (W+i)/2^r:Nat):Int):=fU _ _;have hv1B:x (W+i)/2^r < ai:=oY (Gk _ _) hx64
    by_cases hnext:W+i+1 < n
    . have hyn:Hid (dF x n W (i+1)=x (W+i+1)):=mF (by unfold dF;rw[if_pos (by omega),Bx])
      have eo:bits .or .u64 ((x (W+i)/2^r:Nat):Int) (IntKind.u64.wrap ((x (W+i+1):Int)*2^(64-r)))=((x (W+i)/2^r+x (W+i+1)*2^(64-r)%ai:Nat):Int):=by
       rw[gC,ER _ _ hv1B (GM _ bm),C7 _ _ _ (by omega) hx64]
      have hlw:Hid (x (W+i)/2^r+x (W+i+1)*2^(64-r)%ai=lw (dF x n W) r i):=mF (by unfold lw;rw[hyi'.out,hyn.out]);have hlwB:=C8 (x (W+i)) (x (W+i+1)) r (by omega) hx64;have hrow1:=hrow.set_ i _ hv1B;have hrc1:=hrow1.cell (i:=i) (by omega);rw[bO]at hrc1;have hrf1:=hrow1.frozen i;have hbn:Below w.heap.size w (wr.setCell ⟨g,i,none⟩ (.int .u64 ((x (W+i)/2^r:Nat):Int))):=hb.setCell hg _;obtain⟨_,e,_,_,hcell3⟩:=(ha.below hbn).at_ (k:=W+i+1) hnext
      injection e with e
      subst e;rw[show ad.add (W+i+1)=⟨ad.block,ad.off+(W+i+1),none⟩ from by simp[Addr.add]]at hcell3;generalize x (W+i)/2^r+x (W+i+1)*2^(64-r)%ai=v2 at *;generalize x (W+i)/2^r=v1 at *;generalize x (W+i+1)=z at *;have q1:IntKind.i64.wrap ((W:Int)+(i:Int))=(W:Int)+(i:Int):=IntWalk.i64_in _ (by omega);have q2:IntKind.i64.wrap ((W:Int)+(i:Int)+1)=(W:Int)+(i:Int)+1:=IntWalk.i64_in _ (by omega)
      have q3:0<=(W:Int)+(i:Int)+1:=by omega
      have q4:((W:Int)+(i:Int)+1).toNat=W+i+1:=by omega
      have q5:(W:Int)+(i:Int)+1 < (n:Int):=by omega
      have q6:IntKind.i64.wrap (64-(r:Int))=64-(r:Int):=IntWalk.i64_in _ (by omega)
      have q7:(64-(r:Int)).toNat=64-r:=by omega
      have q8:0<=64-(r:Int):=by omega
      go_wp2_with fail;clear hrc hrf;generalize wr.setCell ⟨g,i,none⟩ (.int .u64 (v1:Int))=w1 at *
      go_region
      go_wp2_with fail;go_roundw
      case rel=>exact⟨i+1,by omega,by go_num,jM.step (fun j hj=>by rw[aU _ _ _ _ (by omega)];exact HF.out j hj) (fun j hj=>by rw[aU _ _ _ _ (by omega)];exact HG.out j (by omega)) hlw.out (hrow1.set_ i v2 hlwB).drew (hbn.setCell hg _).drew⟩
      case measure=>simp[intOf];omega
    . have hlw:Hid (x (W+i)/2^r=lw (dF x n W) r i):=mF (by
       unfold lw;rw[hyi'.out,show dF x n W (i+1)=0 from by unfold dF;rw[if_neg (by omega)]]
       simp)
      generalize x (W+i)/2^r=v1 at *;go_wp2_with fail;go_roundw
      case rel=>exact⟨i+1,by omega,by go_num,jM.step HF.out (fun j hj=>HG.out j (by omega)) hlw.out (hrow.set_ i v1 hv1B) (hb.setCell hg _)⟩
      case measure=>simp[intOf];omega
  . obtain rfl:i=L:=by omega
    have HF:=mF hF;clear hF hG;go_wp2_with fail;have hsl:=hrow.sl0 i c2 (lY _) hc2;refine(eO _ i c2 _ wr hsl (by omega)).mono ?_;rintro e w5 ⟨v5,rfl,hnum,b5⟩;go_wp2_with fail;go_ret;rw[bg HF.out]at hnum;exact⟨v5,rfl,hnum,hb.trans (b5.mono hb.size)⟩
theorem sC (A:OA)(n c:Nat)(x:Nat->Nat)(s:Nat)(w:World)(ha:Sl w A n c x)(hn:n<=400000)(hs:s<=1048576):
 Calls ou 158 #[.slice A n c,.int .i64 (s:Int)] w (cU w (vs ai x n/2^s)):=by
 rw[gu s]
 rcases yb (s/64) n with h0 | h0
 . rcases qK (s%64) with hr | hr
   . have h:=xe A n c x s (s/64) (n-s/64) w ha hn h0 (by omega) (by omega) (by omega) (by omega) hs
     rw[qt x n (s/64) ha.small (by omega)]at h;rw[hr,Nat.pow_zero,Nat.mul_one];exact h
   . have h:=xf A n c x s (s/64) (s%64) (n-s/64) w ha hn h0 (by omega) (by omega) (by omega) hr (by omega) (by omega) hs
     rw[pg _ _ _ (by omega) (by unfold dF;rw[if_neg (by omega)])]at h
     have e:vs ai (dF x n (s/64)) (n-s/64)=vs ai (fun j=>x (s/64+j)) (n-s/64):=bg fun j hj=>by unfold dF;rw[if_pos (by omega)]
     rw[e,qt x n (s/64) ha.small (by omega),EM]at h;exact h
 . rw[pz x n (s/64) ha.small h0]
   have hW:(n:Int)<=(s:Int)/64:=by omega
   have h1:¬ (s:Int) < 0:=by omega
   have h2:¬ (1048576:Int) < (s:Int):=by omega
   go_enter Gv,Gp;go_wp2_with fail;go_ret;exact⟨_,rfl,⟨none,0,0,x,rfl,Sl.none_ _ _ _ _,.inl rfl,rfl⟩,Below.refl _ _⟩
theorem lF (x y b:Nat)(hx:x < ai)(hy:y < ai)(hb:b<=1)(w:World):
 ∃ r d:Nat,r+(y+b)=x+d*ai/\r < ai/\d<=1 /\
  (callFunc 170 #[.int .u64 x,.int .u64 y,.int .u64 b]).run ou w=.ok (.value (.tuple #[.int .u64 (r:Int),.int .u64 (d:Int)])) w:=by
 refine⟨(x+18446744073709551616-y-b)%18446744073709551616,if x < y+b then 1 else 0,?_,?_,?_,?_⟩
 . unfold ai at *;split <;> omega
 . unfold ai;omega
 . split <;> omega
 . rw[run_callFunc_extern Tryz.func170 (by kernel_rfl) (by kernel_rfl) (by kernel_rfl) (e:=sub64Entry) (by kernel_rfl),run_sub64 x y b hb]
   rfl
def fp (t:TypeId)(D:Nat)(w wr:World)(g N off:Nat)(F F' y:Nat->Nat)(m k d:Nat):Prop :=
 d<=D/\dG t wr g N F'/\az w wr g/\(∀ j,j < off\/off+k<=j->F' j=F j) /\
  vs ai (fun j=>F' (off+j)) k+vs ai (fun j=>if j < m then y j else 0) k=vs ai (fun j=>F (off+j)) k+d*ai^k
theorem rW {S Y c s y d:Nat}(h:V+Y=S+c*b^n)(hr:r+(y+c)=s+d*b):V+r*b^n+(Y+y*b^n)=S+s*b^n+d*b^(n+1):=by
 have h1:(r+(y+c))*b^n=(s+d*b)*b^n:=by rw[hr]
 rw[DF,DF,DF]at h1
 have h2:d*b^(n+1)=d*b*b^n:=by rw[Nat.pow_succ];ac_rfl
 omega
section
variable {t:TypeId} {w wr:World} {g N off:Nat} {F F' y:Nat->Nat} {m k d D:Nat}
theorem fp.start (h:dG t w g N F):fp t D w w g N off F F y m 0 0:=⟨Bl _,h,az.refl _ _,fun _ _=>rfl,by simp[aL]⟩
theorem fp.step (h:fp t D w wr g N off F F' y m k d){d':Nat}(hr:r+((if k < m then y k else 0)+d)=F (off+k)+d'*ai)(h1:r < ai)(h2:d'<=D):
 fp t D w (wr.setCell ⟨g,off+k,none⟩ (.int .u64 ((r:Nat):Int))) g N off F (fF F' (off+k) r) y m (k+1) d':=by
 obtain⟨_,hrow,hon,hag,hv⟩:=h;refine⟨h2,hrow.set_ _ _ h1,hon.set_ _ _,fun j hj=>?_,?_⟩
 . rw[aU _ _ _ _ (by omega)];exact hag j (by omega)
 . rw[aA,aA,aA,bO]
   have e:vs ai (fun j=>fF F' (off+k) r (off+j)) k=vs ai (fun j=>F' (off+j)) k:=bg fun j hj=>aU _ _ _ _ (by omega)
   rw[e];exact rW hv hr
theorem fp.rest (h:fp t D w wr g N off F F' y m k 0)(hm:m<=k)(i:Nat):fp t D w wr g N off F F' y m (k+i) 0:=by
 induction i with
 | zero=>exact h
 | succ i ih =>
  obtain⟨_,hrow,hon,hag,hv⟩:=ih;refine⟨Bl _,hrow,hon,fun j hj=>h.2.2.2.1 j (by omega),?_⟩;rw[← Bx,aA,aA,aA,if_neg (by omega),h.2.2.2.1 (off+(k+i)) (by omega)];simp only[GH,Nat.add_zero]at hv ⊢;omega
end
def Cq (t:TypeId)(w:World)(g N off n:Nat)(F y:Nat->Nat)(m:Nat)(e:Ending)(w':World):Prop :=
 e=.returned (.tuple #[])/\∃ F' d,fp t 1 w w' g N off F F' y m n d
theorem rV (g off n c N:Nat)(F:Nat->Nat)(A:OA)(m cb:Nat)(y:Nat->Nat)(w:World)(hr:dG 51 w g N F)(hoff:off+n<=N)(hN:N<=1000000)
 (hy:Sl w A m cb y) (hmn:m<=n) (hne:0 < m->∀ ad,A=some ad->ad.block≠g) :
 Calls ou 133 #[.slice (some ⟨g,off,none⟩) n c,.slice A m cb] w (Cq 51 w g N off n F y m):=by
 go_enter Tryz.func133,Tryz.ntmps133
 go_wp2
 go_loopw [4,10] (fun cy i wr=>∃ k d F',k<=m/\i=.int .i64 ((k:Nat):Int)/\cy=.int .u64 ((d:Nat):Int)/\fp 51 1 w wr g N off F F' y m k d) (fun _ i _=>m-(intOf i).toNat)
 case atStart=>exact⟨0,0,F,Bl _,rfl,rfl,fp.start hr⟩
 case round =>
  obtain⟨k,d,F',hk,rfl,rfl,hinv⟩:=hrel
  by_cases hlt:k < m
  . obtain⟨ad,rfl,hb,hx64,hcell⟩:=(hy.only hinv.2.2.1 hne).at_ hlt
    have hrc:=hinv.2.1.cell (i:=off+k) (by omega);have hrf:=hinv.2.1.frozen (off+k);have hF:Hid (F' (off+k)=F (off+k)):=hinv.2.2.2.1 _ (by omega);have hFs:=hinv.2.1.2 (off+k) (by omega);obtain⟨r,d',h1,h2,h3,h4⟩:=lF (F' (off+k)) (y k) d hFs hx64 hinv.1 wr;have H1:=mF h1;clear h1
    go_wp2
    go_roundw
    case rel=>exact⟨k+1,d',fF F' (off+k) r,by omega,by go_num,rfl,hinv.step (by rw[← hF.out,if_pos hlt];exact H1.out) h2 h3⟩
    case measure=>simp[intOf];omega
  . obtain rfl:k=m:=by omega
    clear hlt hk
    go_wp2
    go_loopw [4,7] (fun cy i wr=>∃ q d F',k<=q/\q<=n/\i=.int .i64 ((q:Nat):Int)/\cy=.int .u64 ((d:Nat):Int)/\fp 51 1 w wr g N off F F' y k q d) (fun _ i _=>n-(intOf i).toNat)
    case atStart=>exact⟨k,d,F',lY _,hmn,rfl,rfl,hinv⟩
    case round =>
     clear hinv;obtain⟨q,d,F',hq,hqn,rfl,rfl,hinv⟩:=hrel
     by_cases hlt:q < n
     . by_cases hd:d=0
       . subst hd
         go_wp2
         go_end0
         exact⟨rfl,F',0,by have:=hinv.rest hq (n-q);rwa [Nat.add_sub_cancel' hqn]at this⟩
       . have hdn:((d:Int) != 0)=true:=by simp;omega
         have hrc:=hinv.2.1.cell (i:=off+q) (by omega);have hrf:=hinv.2.1.frozen (off+q);have hF:Hid (F' (off+q)=F (off+q)):=hinv.2.2.2.1 _ (by omega);have hFs:=hinv.2.1.2 (off+q) (by omega);obtain⟨r,d',h1,h2,h3,h4⟩:=lF (F' (off+q)) 0 d hFs bm hinv.1 wr;rw[show((0:Nat):Int)=0 from rfl]at h4;have H1:=mF h1;clear h1
         go_wp2
         go_roundw
         case rel=>exact⟨q+1,d',fF F' (off+q) r,by omega,by omega,by go_num,rfl,hinv.step (by rw[← hF.out,if_neg (by omega)];exact H1.out) h2 h3⟩
         case measure=>simp[intOf];omega
     . obtain rfl:q=n:=by omega
       go_wp2
       go_end0
       exact⟨rfl,F',d,hinv⟩
theorem AX {m d:Nat}{F':Nat->Nat}(h:vs ai F' n+vs ai y m=vs ai F n+d*ai^n)(hF:∀ j,j < n->F' j < ai)(hle:vs ai y m<=vs ai F n):vs ai F' n=vs ai F n-vs ai y m:=by
 have h1:=bL hF
 rcases qK d with h0 | h0
 . subst h0;omega
 . have h2:1*ai^n<=d*ai^n:=Gl _ h0
   omega
def qn (w:World)(V:Nat)(e:Ending)(w':World):Prop:=∃ v,e=.returned (.tuple #[v,.bool true])/\am w' v V/\Below w.heap.size w w'
def AA (w:World)(e:Ending)(w':World):Prop:=e=.returned (.tuple #[.slice none 0 0,.bool false])/\Below w.heap.size w w'
theorem us (A B:OA)(n m c d:Nat)(x y:Nat->Nat)(w:World)(ha:Sl w A n c x)(hb:Sl w B m d y)(hn:n<=1000000)(hm:m<=1000000)(hlt:vs ai x n < vs ai y m):
 Calls ou 74 #[.slice A n c,.slice B m d] w (AA w):=by
 obtain⟨A1,c1,e1,s1⟩:=cm ha;obtain⟨B1,d1,e2,s2⟩:=cm hb;have l1:=cJ x n;have l2:=cJ y m;have V1:=bn A n c x w ha (by omega);have V2:=bn B m d y w hb (by omega);rw[e1]at V1;rw[e2]at V2;rw[← dK ai x n,← dK ai y m]at hlt;clear e1 e2;generalize tl x n=p at *;generalize tl y m=q at *;have V3:=ic A1 B1 p q c1 d1 x y w s1 s2 (by omega) (by omega);rw[dn hlt]at V3;have H1:=mF V1;have H2:=mF V2;have H3:=mF V3;clear V1 V2 V3;go_enter GL,GK;go_wp2_with fail;refine H1.out.mono ?_;rintro e w' ⟨rfl,rfl⟩;go_wp2_with fail;refine H2.out.mono ?_;rintro e w' ⟨rfl,rfl⟩;go_wp2_with fail;refine H3.out.mono ?_;rintro e w1 ⟨rfl,hb1⟩;go_wp2_with fail
 go_ret2
 exact⟨rfl,hb1⟩
theorem kH (A B:OA)(n m c d:Nat)(x y:Nat->Nat)(w:World)(ha:Sl w A n c x)(hb:Sl w B m d y)(hn:n<=1000000)(hm:m<=1000000)(hle:vs ai y m<=vs ai x n):
 Calls ou 74 #[.slice A n c,.slice B m d] w (qn w (vs ai x n-vs ai y m)):=by
 obtain⟨A1,c1,e1,s1⟩:=cm ha;obtain⟨B1,d1,e2,s2⟩:=cm hb;have l1:=cJ x n;have l2:=cJ y m;have V1:=bn A n c x w ha (by omega);have V2:=bn B m d y w hb (by omega);have cy:=fT y m;rw[e1]at V1;rw[e2]at V2;rw[← dK ai x n,← dK ai y m]at hle ⊢;clear e1 e2;generalize tl x n=p at *;generalize tl y m=q at *;have hqp:q<=p:=ib fq cy (oY hle (bL s1.small));have V3:=ic A1 B1 p q c1 d1 x y w s1 s2 (by omega) (by omega)
 obtain⟨r,hr0,hr1⟩:∃ r:Nat,cQ (vs ai x p) (vs ai y q)=(r:Int)/\r<=1:=by
  rcases yb (vs ai y q) (vs ai x p) with h | h
  . exact⟨1,by rw[cO h];rfl,by omega⟩
  . exact⟨0,by rw[Nat.le_antisymm h hle,eA];rfl,by omega⟩
 rw[hr0]at V3;clear hr0;have H1:=mF V1;have H2:=mF V2;have H3:=mF V3;clear V1 V2 V3
 have hmk:∀ u:World,(Instr.makeSlice 22 (.int .i64 (p:Int)) (.int .i64 (p:Int))).run ou u =
  .ok (.slice (some ⟨u.heap.size,0,none⟩) p p) (u.alloc (.cells (madeCells #[.int .u64 0] p) 51)):=fun u=>ec p (by omega) u
 go_enter GL,GK;go_wp2_with fail;refine H1.out.mono ?_;rintro e w' ⟨rfl,rfl⟩;go_wp2_with fail;refine H2.out.mono ?_;rintro e w' ⟨rfl,rfl⟩;go_wp2_with fail;refine H3.out.mono ?_;rintro e w1 ⟨rfl,hb1⟩;have hrow:=dG.made 51 w1 p;have s1':=s1.below hb1;have s2':=s2.below hb1
 go_wp2_with (with_reducible refine eG rfl (.tmp 18) (.tmp 19) 22 rfl 51 oM qA 51 w1.heap.size p p p _ A1 p c1 x rfl rfl hrow (lY _) (s1'.alloc _) (lY _) ?_;intro w2 hrow2 hon2)
 have hb2:Below w1.heap.size w1 w2:=az.below ((Below.refl _ w1).alloc (lY _) _) hon2 (by simp) (lY _);refine(rV w1.heap.size 0 p p p _ B1 q d1 y w2 hrow2 (by omega) (by omega) (s2'.below hb2) hqp (s2'.far (lY _))).mono ?_;rintro e w3 ⟨rfl,F',dd,hinv⟩;have hb3:Below w1.heap.size w1 w3:=az.below hb2 hinv.2.2.1 hb2.size (lY _);go_wp2_with fail;refine(bn _ p p _ w3 (hinv.2.1.sl0 p p (lY _) (lY _)) (by omega)).mono ?_;rintro e w5 ⟨rfl,rfl⟩;go_wp2_with fail
 go_ret2
 refine⟨_,rfl,?_,hb1.trans (hb3.mono hb1.size)⟩;have hv:=eE (hinv.2.1.sl0 p p (lY _) (lY _));have hs:=hinv.2.2.2.2;simp only[tz]at hs;rw[fl _ _ _ _ hqp]at hs;have e0:vs ai (fun j=>if j < p then x j else 0) p=vs ai x p:=fl _ _ _ _ (lY _);rw[AX hs hinv.2.1.2 (by rw[e0];exact hle),e0]at hv;exact hv
theorem yq (A:OA)(n c:Nat)(x:Nat->Nat)(w:World)(ha:Sl w A n c x)(hn:n<=1000000):
 Calls ou 194 #[.slice A n c] w (cU w (vs ai x n)):=by
 obtain⟨A1,c1,e1,s1⟩:=cm ha;have l1:=cJ x n;have cx:=fT x n;have V1:=bn A n c x w ha (by omega);rw[e1]at V1;rw[← dK ai x n];clear e1;generalize tl x n=p at *;have H1:=mF V1;clear V1;go_enter Tryz.func194,Tryz.ntmps194;go_wp2_with fail;refine H1.out.mono ?_;rintro e w' ⟨rfl,rfl⟩
 go_wp2_with (at_builtin;refine bD rfl (.const (.slice none 0 0)) (.tmp 4) 22 rfl w.heap.size 51 oM a6 _ 0 x rfl (ig.nil _ _ _ _) A1 p c1 x rfl s1 (by omega) (lY _) ?_;intro v1 w1 hown hbel)
 obtain⟨A2,c2,rfl,s2,_⟩:=hown.sl;go_wp2_with fail;go_ret
 have e0:∀ j,kx x 0 x j=x j:=fun j=>by simp[kx]
 refine⟨_,rfl,⟨A2,0+p,c2,x,rfl,s2.congr fun j _=>e0 j,?_,by rw[tz]⟩,hbel _ _ (lY _) (Below.refl _ _)⟩
 rw[tz];exact cx
end Go.Proofs.YtmbmohibpkepdaaGreatDoor
