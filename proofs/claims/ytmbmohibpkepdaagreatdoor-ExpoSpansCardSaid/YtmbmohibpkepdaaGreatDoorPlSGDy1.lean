import Derived.Deep.RegionHeld3
import Derived.Deep.QuietTactic
import Derived.BigQuiet
import Derived.Test.YtmbmohibpkepdaaGreatDoorPlSGNat3
set_option maxHeartbeats 2000000
set_option maxRecDepth 8000
open Go.Lib renaming hid->lY
open Nat renaming le_refl->mF, div_le_self->qK, add_sub_cancel->yb, add_mul_mod_self_left->EM, div_mul_le_self->Gk, mul_assoc->Gm, lt_of_le_of_lt->Gp, eq_zero_or_pos->Gq, add_zero->Gu, pow_mul->Gv, two_pow_pos->Gx, lt_or_ge->GC, zero_mul->GD, le_trans->GF, pow_add->GG, mod_lt->GH
open Go.Proofs.Tryz renaming prog->ou, results75->oM, ntmps41->oY, results184->tz, func41->Bl, ntmps65->Bx, func65->DE, ntmps118->Gl, ntmps182->Gn, func118->Gr, ntmps66->Gs, func182->Gt, func66->Gw, ntmps119->Gz, func119->GE
open Bool renaming false_eq_true->DF, and_false->Gy
namespace Go.Proofs.YtmbmohibpkepdaaGreatDoor
open Go.RowKit
variable {L V g n:Nat} {a b c:Value} {w:World} {x:Nat->Nat}
abbrev aP (neg:Bool)(A:OA)(n c:Nat)(e:Int):Value:=.agg #[.bool neg,.slice A n c,.int .i64 e]
def aj (neg:Bool)(n:Nat)(x:Nat->Nat)(e:Int):Bool :=
 if n=0 then decide (e=0) && !neg else decide (x 0%2=1) && decide (x (n-1)≠0) && decide (nb (vs ai x n)<=MB) && decide (cR e)
def di (w:World)(b:Bool)(e:Ending)(w':World):Prop:=e=.returned (.bool b)/\Below w.heap.size w w'
theorem tv (e:Int)(w:World):Calls ou 118 #[.int .i64 e] w fun r w'=>r=.returned (.bool (decide (cR e)))/\w=w':=by
 by_cases h1:-262144<=e
 . by_cases h2:e<=262144
   . have hd:decide (cR e)=true:=by simp[cR,h1,h2]
     rw[hd];go_enter Gr,Gl;go_wp2_with fail;go_ret;exact⟨rfl,rfl⟩
   . have hd:decide (cR e)=false:=decide_eq_false fun h=>by unfold cR at h;omega
     rw[hd];go_enter Gr,Gl;go_wp2_with fail;go_ret;exact⟨rfl,rfl⟩
 . have hd:decide (cR e)=false:=decide_eq_false fun h=>by unfold cR at h;omega
   rw[hd];go_enter Gr,Gl;go_wp2_with fail;go_ret;exact⟨rfl,rfl⟩
theorem Cm (x:Nat)(h:x < ai):Go.bits .and .u64 (x:Int) 1=((x%2:Nat):Int):=by
 have e:=u64_and_nat x 1 (by unfold ai at h;omega) (by omega);rw[show((1:Nat):Int)=1 from rfl]at e;rw[e,Nat.and_one_is_mod]
theorem uJ (neg:Bool)(A:OA)(c:Nat)(x:Nat->Nat)(e:Int)(w:World):
 Calls ou 65 #[aP neg A 0 c e] w (di w (aj neg 0 x e)):=by
 have b1:Below w.heap.size w (w.alloc (.cells #[.bool neg,.slice A 0 c,.int .i64 e] 24)):=(Below.refl _ w).alloc (mF _) _
 by_cases h:e=0
 . subst h
   cases neg
   . go_enter DE,Bx
     go_wp2_with fail;go_ret;exact⟨rfl,b1⟩
   . go_enter DE,Bx
     go_wp2_with fail;go_ret;exact⟨rfl,b1⟩
 . have hd:aj neg 0 x e=false:=by simp[aj,h]
   have he:(e == 0)=false:=by simp[h]
   rw[hd];go_enter DE,Bx;go_wp2_with fail;go_ret;exact⟨rfl,b1⟩
theorem kf (neg:Bool)(A:OA)(n c:Nat)(x:Nat->Nat)(e:Int)(w:World)(ha:Sl w A n c x)(hn:n<=70368744177664):
 Calls ou 65 #[aP neg A n c e] w (di w (aj neg n x e)):=by
 rcases n with _ | n
 . exact uJ neg A c x e w
 . obtain⟨ad,rfl,hab,hx0,hc0⟩:=ha.at_ (k:=0) (by omega)
   obtain⟨ad',e1,_,hx1,hc1⟩:=ha.at_ (k:=n) (by omega)
   obtain rfl:ad=ad':=by injection e1
   clear e1;rw[show ad.add 0=ad from by simp[Addr.add]]at hc0
   have hab1:(ad.add n).block < w.heap.size:=by rw[ao];exact hab
   have b1:Below w.heap.size w (w.alloc (.cells #[.bool neg,.slice (some ad) (n+1) c,.int .i64 e] 24)):=(Below.refl _ w).alloc (mF _) _;have hB:=qk (some ad) (n+1) c x _ (ha.below b1) (by omega);have hand:=Cm (x 0) hx0
   have hn1:((n:Int)+1 == 0)=false:=by simp;omega
   have HB:=lY hB
   have hspec:aj neg (n+1) x e=(decide (x 0%2=1) && decide (x n≠0) && decide (nb (vs ai x (n+1))<=MB) && decide (cR e)):=by
    unfold aj;rw[if_neg (by omega),yb]
   rw[hspec];clear hspec hB;have hb2:x 0%2 < 2:=GH _ (by omega);generalize x 0%2=r at *
   by_cases h1:r=1
   . subst h1
     by_cases h2:x n=0
     . have hd:(decide (1=1) && decide (x n≠0) && decide (nb (vs ai x (n+1))<=MB) && decide (cR e))=false:=by simp[h2]
       rw[hd];rw[h2]at hc1;go_enter DE,Bx;go_wp2_with fail;go_ret;exact⟨rfl,b1⟩
     . have hd:(decide (1=1) && decide (x n≠0) && decide (nb (vs ai x (n+1))<=MB) && decide (cR e))=(decide (nb (vs ai x (n+1))<=MB) && decide (cR e)):=by simp[h2]
       rw[hd];clear hd
       have hne:((x n:Int) != 0)=true:=by simp;omega
       generalize x n=y at *;generalize vs ai x (n+1)=V at *;go_enter DE,Bx;go_wp2_with fail;refine HB.out.mono ?_;rintro e' w2 ⟨B,rfl,hB,b⟩;have b2:=b1.trans (b.mono b1.size);obtain rfl:=hJ hB
       have hrd:∀ p:Addr,p.block=w.heap.size->w2.cell? p=(w.alloc (.cells #[.bool neg,.slice (some ad) (n+1) c,.int .i64 e] 24)).cell? p:=fun p hp=>b.cell (by rw[hp];simp)
       have hE:w2.cell? ⟨w.heap.size,2,none⟩=some (.int .i64 e):=by rw[hrd _ rfl,World.cell?_alloc_at _ _ _ _ rfl];rfl
       clear hrd b hB HB;generalize nb V=L at *
       by_cases h3:L<=MB
       . have h4:=lY (show(decide (L<=MB) && decide (cR e))=decide (cR e) by simp[h3])
         rw[iD]at h3;go_wp2_with fail;refine(tv e w2).mono ?_;rintro e' w3 ⟨rfl,rfl⟩;go_wp2_with fail;go_ret;exact⟨by rw[h4.out];rfl,b2⟩
       . have h4:=lY (show(decide (L<=MB) && decide (cR e))=false by simp[h3])
         rw[iD]at h3;go_wp2_with fail;go_ret;exact⟨by rw[h4.out];rfl,b2⟩
   . obtain rfl:r=0:=by omega
     rw[show(decide (0=1) && decide (x n≠0) && decide (nb (vs ai x (n+1))<=MB) && decide (cR e))=false by simp];go_enter DE,Bx;go_wp2_with fail;go_ret;exact⟨rfl,b1⟩
theorem jE (neg:Bool)(A:OA)(n c:Nat)(x:Nat->Nat)(e:Int)(w:World)(ha:Sl w A n c x)(hn:n<=400000):
 Calls ou 65 #[aP neg A n c e] w (di w (aj neg n x e)):=kf neg A n c x e w ha (by omega)
def cA (w:World)(g:Nat)(a b c:Value):Prop:=w.heap[g]?=some (.cells #[a,b,c] 24 (0,0))
theorem cA.below {w':World}{B:Nat}(h:cA w g a b c)(hb:Below B w w')(hg:g < B):cA w' g a b c:=(hb.block g hg).trans h
theorem cA.made (w:World)(a b c:Value):cA (w.alloc (.cells #[a,b,c] 24)) w.heap.size a b c:=heap_alloc_new w _
theorem cA.cell (h:cA w g a b c):w.cell? ⟨g,0,none⟩=some a/\w.cell? ⟨g,1,none⟩=some b/\w.cell? ⟨g,2,none⟩=some c:=by
 unfold cA at h
 simp[World.cell?,h]
theorem cA.frozen (h:cA w g a b c):w.frozen? ⟨g,0,none⟩=false/\w.frozen? ⟨g,1,none⟩=false/\w.frozen? ⟨g,2,none⟩=false:=by
 unfold cA at h
 simp[World.frozen?,h]
def gp (v:Value):Prop:=∀ k,v≠.int .u64 k
theorem aD (b:Bool):gp (.bool b):=fun _ h=>by cases h
theorem av (A:OA)(n c:Nat):gp (.slice A n c):=fun _ h=>by cases h
theorem aI (e:Int):gp (.int .i64 e):=fun _ h=>by cases h
theorem Sl.apart {A:OA}{c:Nat}{f:Nat->Nat}{x y z:Value}(hs:Sl w A n c f)(hb:cA w g x y z)(hx:gp x)(hy:gp y)(hz:gp z):0 < n->∀ ad,A=some ad->ad.block≠g:=fun hn ad e he=>by
 obtain⟨ad',e',_,_,hc⟩:=hs.at_ (k:=0) hn;rw[e]at e'
 injection e' with e'
 subst e';unfold cA at hb;rw[show ad.add 0=ad from by simp[Addr.add]]at hc;simp only[World.cell?,he,hb]at hc
 split at hc
 . cases hc
 . rcases h3:ad.off with _ | _ | _ | k
   . rw[h3]at hc;simp at hc;exact hx _ hc
   . rw[h3]at hc;simp at hc;exact hy _ hc
   . rw[h3]at hc;simp at hc;exact hz _ hc
   . rw[h3]at hc;simp at hc
abbrev put3 (w:World)(g:Nat)(a b c:Value):World:=((w.setCell ⟨g,0,none⟩ a).setCell ⟨g,1,none⟩ b).setCell ⟨g,2,none⟩ c
theorem aZ (w:World)(g:Nat)(a b c:Value):az w (put3 w g a b c) g:=(((az.refl w g).set_ 0 a).set_ 1 b).set_ 2 c
theorem am.put3 {v:Value}{x y z:Value}(h:am w v V)(hb:cA w g x y z)(hx:gp x)(hy:gp y)(hz:gp z)(a b c:Value):am (put3 w g a b c) v V:=by
 obtain⟨A,n,cp,f,hv,hs,hc,he⟩:=h;exact⟨A,n,cp,f,hv,hs.only (aZ w g a b c) (hs.apart hb hx hy hz),hc,he⟩
theorem ak {B:Nat}{w0:World}(h:Below B w0 w)(hB:B<=g)(hs:B<=w.heap.size)(a b c:Value):Below B w0 (put3 w g a b c):=az.below h (aZ w g a b c) hs hB
theorem aq (w:World):am w (.slice none 0 0) 0:=⟨none,0,0,fun _=>0,rfl,Sl.none_ _ _ _ _,.inl rfl,rfl⟩
def Aw (x:Nat->Nat)(n W:Nat):Prop:=W<=n/\(∀ j,j < W->x j=0)/\(W < n->x W≠0)
def Ax (w:World)(x:Nat->Nat)(n:Nat)(e:Ending)(w':World):Prop:=∃ W:Nat,e=.returned (.int .i64 (W:Int))/\W<=n/\Hid (Aw x n W)/\w=w'
theorem oT (A:OA)(n c:Nat)(x:Nat->Nat)(w:World)(ha:Sl w A n c x)(hn:n<=1000000):
 Calls ou 134 #[.slice A n c] w (Ax w x n):=by
 go_enter Tryz.func134,Tryz.ntmps134;go_wp2_with fail
 go_loop [7] (fun i=>∃ k:Nat,k<=n/\i=.int .i64 (k:Int)/\Hid (∀ j,j < k->x j=0)) (fun i=>n-(intOf i).toNat)
 case atStart=>exact⟨0,Nat.zero_le _,rfl,lY fun j hj=>absurd hj (by omega)⟩
 case round =>
  obtain⟨k,hk,rfl,hz⟩:=hrel
  by_cases hlt:k < n
  . obtain⟨ad,rfl,hb,hx64,hcell⟩:=ha.at_ hlt
    obtain⟨y,hy⟩:∃ y,Hid (x k=y):=⟨_,lY rfl⟩;rw[hy.out]at hcell hx64
    by_cases h0:y=0
    . subst h0
      go_wp2_with fail
      go_round
      case rel=>exact⟨k+1,by omega,by go_num,lY fun j hj=>by
       rcases GC j k with h | h
       . exact hz.out j h
       . obtain rfl:j=k:=by omega
         exact hy.out⟩
      case measure=>simp[intOf];omega
    . have hne:((y:Int) != 0)=true:=by simp;omega
      go_wp2_with fail;go_ret;exact⟨k,rfl,hk,lY ⟨hk,hz.out,fun _=>by rw[hy.out];exact h0⟩,rfl⟩
  . obtain rfl:k=n:=by omega
    go_wp2_with fail;go_ret;exact⟨k,rfl,hk,lY ⟨hk,hz.out,fun h=>absurd h (by omega)⟩,rfl⟩
theorem zG {W:Nat}(hz:Aw x n W)(hL:n=W+(L+1)):vs ai x n=vs ai (fun j=>x (W+j)) (L+1)*2^(64*W):=by
 have:∀ k,k<=W->vs ai x k=0:=fun k=>by
  induction k with
  | zero=>intro _;rfl
  | succ k ih=>intro hk;rw[aA,ih (by omega),hz.2.1 k (by omega),GD]
 rw[hL,cW,this W (mF _),Nat.zero_add,Nat.mul_comm,bv,← Gv]
theorem DI {y:Nat->Nat}{z T:Nat}(h:y 0=T*2^z)(hT:T%2=1)(hz:z < 64):∃ U,vs ai y (L+1)=U*2^z/\U%2=1:=by
 rw[fv,h];refine⟨T+2^(64-z)*vs ai (fun j=>y (j+1)) L,?_,?_⟩
 . rw[Nat.add_mul,bv,show(2:Nat)^64=2^(64-z)*2^z by rw[← GG];congr 1;omega]
   have:2^(64-z)*2^z*vs (2^(64-z)*2^z) (fun j=>y (j+1)) L=2^(64-z)*vs (2^(64-z)*2^z) (fun j=>y (j+1)) L*2^z:=by ac_rfl
   omega
 . have e:(2:Nat)^(64-z)=2*2^(63-z):=by rw[← Nat.pow_succ'];congr 1;omega
   rw[e,Gm,EM];exact hT
theorem xC {W z T:Nat}(neg:Bool)(e:Int)(hz:Aw x n W)(hL:n=W+(L+1))(h:x W=T*2^z)(hT:T%2=1)(hz64:z < 64):
 bH neg (vs ai x n) e=if nb (vs ai (fun j=>x (W+j)) (L+1))-z<=MB/\cR (e+((W:Int)*64+(z:Int))) then⟨true,neg,vs ai (fun j=>x (W+j)) (L+1)/2^z,e+((W:Int)*64+(z:Int))⟩ else DR.no:=by
 obtain⟨U,hU,hU1⟩:=DI (y:=fun j=>x (W+j)) (L:=L) (by simpa using h) hT hz64;have hV:=zG hz hL
 have hV2:vs ai x n=U*2^(z+64*W):=by rw[hV,hU,Gm,← GG]
 obtain⟨h1,h2⟩:=pM hV2 hU1
 have h0:¬ vs ai x n=0:=by
  rw[hV2];have:=Nat.mul_pos (show 0 < U by omega) (Gx (z+64*W));omega
 have h3:vs ai (fun j=>x (W+j)) (L+1)/2^z=U:=by rw[hU];exact Nat.mul_div_cancel _ (Gx z)
 have h4:nb (vs ai (fun j=>x (W+j)) (L+1))-z=nb U:=by rw[hU,ch (by omega),yb]
 unfold bH;rw[if_neg h0,h1,h2,h3,h4];rw[show((z+64*W:Nat):Int)=(W:Int)*64+(z:Int) by omega]
def fI (w:World)(r:DR)(e:Ending)(w':World):Prop:=∃ s,e=.returned (.tuple #[.agg #[.bool r.neg,s,.int .i64 r.e],.bool r.ok])/\am w' s r.m/\Below w.heap.size w w'
theorem de (neg:Bool)(A:OA)(n c:Nat)(x:Nat->Nat)(e:Int)(w:World)(ha:Sl w A n c x)(hn:n<=400000)(hT:bx w)(he1:-9223372036854775808<=e)(he2:e<=9223372036854775807):
 Calls ou 75 #[.bool neg,.slice A n c,.int .i64 e] w (fI w (bH neg (vs ai x n) e)):=by
 have b0:Below w.heap.size w (w.alloc (.cells #[.bool false,.slice none 0 0,.int .i64 0] 24)):=(Below.refl _ w).alloc (mF _) _;have hnil:am (w.alloc (.cells #[.bool false,.slice none 0 0,.int .i64 0] 24)) (.slice none 0 0) 0:=⟨none,0,0,x,rfl,Sl.none_ _ _ _ _,.inl rfl,rfl⟩;have Z:=lY (oT A n c x _ (ha.below b0) (by omega));go_enter Tryz.func75,Tryz.ntmps75;go_wp2_with fail;refine Z.out.mono ?_;rintro e' w1 ⟨W,rfl,hW,hz,rfl⟩
 rcases GC W n with hlt | hge
 . have hcap:=ha.cap
   obtain⟨L,rfl⟩:∃ L,n=W+(L+1):=⟨n-W-1,by omega⟩;obtain⟨C,rfl⟩:∃ C,c=W+(C+1):=⟨c-W-1,by omega⟩;obtain⟨ad,rfl,hab,hxW,hcW⟩:=ha.at_ hlt
   have hab1:(ad.add W).block < w.heap.size:=by rw[ao];exact hab
   have e1:W+(L+1)-W=L+1:=by omega
   have e2:W+(C+1)-W=C+1:=by omega
   have hl0:((L:Int)+1 == 0)=false:=by simp;omega
   have hsy:Sl w (some (ad.add W)) (L+1) (C+1) (fun j=>x (W+j)):=by
    have h:=ha.drop W (by omega)
    rw[e1,e2]at h;exact h
   have hx0:x W≠0:=hz.out.2.2 hlt;have hB0:=cA.made w (.bool false) (.slice none 0 0) (.int .i64 0);have hT0:=hT.below b0
   have hgs:w.heap.size < (w.alloc (.cells #[.bool false,.slice none 0 0,.int .i64 0] 24)).heap.size:=by simp
   have TZ:=lY (Dm (x W) hxW hx0 _ hT0);have BT:=lY (tU _ _ _ _ _ (hsy.below b0) (by omega));have bI:Below (w.heap.size+1) (w.alloc (.cells #[.bool false,.slice none 0 0,.int .i64 0] 24)) (w.alloc (.cells #[.bool false,.slice none 0 0,.int .i64 0] 24)):=Below.refl _ _;go_wp2_with fail;refine TZ.out.mono ?_;rintro e' w1 ⟨z,T,rfl,hz64,hzT,rfl⟩;have SP:=lY (xC neg e hz.out rfl hzT.out.1 hzT.out.2 hz64);clear hab hab1 hcW TZ
   by_cases hE:e<=262144
   . go_wp2_with fail
     refine BT.out.mono ?_;rintro e' w2 ⟨B,rfl,hB,b⟩;obtain rfl:=hJ hB;have b2:=b0.trans (b.mono b0.size);have k2:=hB0.below b hgs;have s2:=(hsy.below b0).below b;have hB1:=Cj hB (bL hsy.small);have hw2:=b.size;clear b hB BT hB0;have hc2:=k2.cell;have hf2:=k2.frozen;obtain⟨hc20,hc21,hc22⟩:=hc2;obtain⟨hf20,hf21,hf22⟩:=hf2;generalize nb (vs ai (fun j=>x (W+j)) (L+1))=Q at *
     by_cases hQ:Q-z<=MB
     . have hQ':¬ 16384 < (Q:Int)-(z:Int):=by rw[iD]at hQ;omega
       go_wp2_with fail;refine(tv _ w2).mono ?_;rintro e' w3 ⟨rfl,rfl⟩
       by_cases hF:cR (e+((W:Int)*64+(z:Int)))
       . have hd:=lY (SP.out.trans (if_pos ⟨hQ,hF⟩))
         have hFb:decide (cR (e+((W:Int)*64+(z:Int))))=true:=decide_eq_true hF;have SH:=lY (mP _ _ _ _ z w2 s2 (by omega) (by omega));go_wp2_with fail;refine SH.out.mono ?_;rintro e' w4 ⟨v4,rfl,n4,b⟩;have b4:=b2.trans (b.mono b2.size);have k4:=k2.below b (Nat.lt_of_lt_of_le hgs hw2);obtain⟨hc40,hc41,hc42⟩:=k4.cell;obtain⟨hf40,hf41,hf42⟩:=k4.frozen;clear hc20 hc21 hc22 hf20 hf21 hf22 k2 b;obtain⟨A4,p4,c4,f4,rfl,m4⟩:=n4;go_wp2_with fail;rw[hd.out]
         refine bodyPost_ret (v:=.tuple #[.agg #[.bool neg,.slice A4 p4 c4,.int .i64 (e+((W:Int)*64+(z:Int)))],.bool true]) (by simp[results,oM,go_sem,hc40,hc41,hc42]) rfl
          ⟨_,rfl,am.put3 ⟨A4,p4,c4,f4,rfl,m4⟩ k4 (aD _) (av _ _ _) (aI _) _ _ _,ak b4 (mF _) b4.size _ _ _⟩
       . have hd:=lY (SP.out.trans (if_neg (fun h=>hF h.2)))
         have hFb:decide (cR (e+((W:Int)*64+(z:Int))))=false:=decide_eq_false hF;go_wp2_with fail;rw[hd.out];refine bodyPost_ret (v:=.tuple #[.agg #[.bool false,.slice none 0 0,.int .i64 0],.bool false]) (by simp[results,oM,go_sem,hc20,hc21,hc22]) rfl ⟨_,rfl,aq _,ak b2 (mF _) b2.size _ _ _⟩
     . have hd:=lY (SP.out.trans (if_neg (fun h=>hQ h.1)))
       have hQ':16384 < (Q:Int)-(z:Int):=by rw[iD]at hQ;omega
       go_wp2_with fail;rw[hd.out];refine bodyPost_ret (v:=.tuple #[.agg #[.bool false,.slice none 0 0,.int .i64 0],.bool false]) (by simp[results,oM,go_sem,hc20,hc21,hc22]) rfl ⟨_,rfl,aq _,ak b2 (mF _) b2.size _ _ _⟩
   . have hd:=lY (SP.out.trans (if_neg (fun h=>by have:=h.2.2;omega)))
     go_wp2_with fail;rw[hd.out];refine bodyPost_ret (v:=.tuple #[.agg #[.bool false,.slice none 0 0,.int .i64 0],.bool false]) (by simp[results,oM,go_sem]) rfl ⟨_,rfl,hnil,b0⟩
 . obtain rfl:W=n:=by omega
   have hv0:=lY (show vs ai x W=0 by
    have:∀ k,k<=W->vs ai x k=0:=fun k=>by
     induction k with
     | zero=>intro _;rfl
     | succ k ih=>intro hk;rw[aA,ih (by omega),hz.out.2.1 k (by omega),GD]
    exact this W (mF _))
   have hd:=lY (show bH neg (vs ai x W) e=DR.zero by rw[hv0.out];rfl)
   by_cases hcW:c=W
   . subst hcW
     go_wp2_with fail;rw[hd.out];refine bodyPost_ret (v:=.tuple #[.agg #[.bool false,.slice none 0 0,.int .i64 0],.bool true]) (by simp[results,oM,go_sem]) rfl ⟨_,rfl,hnil,b0⟩
   . go_wp2_with fail
     rw[hd.out];refine bodyPost_ret (v:=.tuple #[.agg #[.bool false,.slice none 0 0,.int .i64 0],.bool true]) (by simp[results,oM,go_sem]) rfl ⟨_,rfl,hnil,b0⟩
theorem kY (h:V < ai^n):nb V<=64*n:=(bi _ _).2 (by rw[Gv,← bv];exact h)
theorem aE {z:Int}(h1:-9223372036854775808<=z)(h2:z<=9223372036854775807):IntKind.i64.wrap z=z:=by
 rw[IntKind.wrap_i64];omega
theorem ms (neg:Bool)(A:OA)(n c:Nat)(e:Int)(w:World)(hn:n<=70368744177664):
 Calls ou 119 #[aP neg A n c e] w (di w (decide (n=0))):=by
 have b1:Below w.heap.size w (w.alloc (.cells #[.bool neg,.slice A n c,.int .i64 e] 24)):=(Below.refl _ w).alloc (mF _) _
 rcases n with _ | n
 . go_enter GE,Gz
   go_wp2_with fail;go_ret;exact⟨rfl,b1⟩
 . have h0:((n:Int)+1 == 0)=false:=by simp;omega
   go_enter GE,Gz;go_wp2_with fail;go_ret;exact⟨by simp,b1⟩
theorem kj (neg:Bool)(A:OA)(n c:Nat)(e:Int)(w:World)(hn:n<=1000000):
 Calls ou 119 #[aP neg A n c e] w (di w (decide (n=0))):=ms neg A n c e w (by omega)
def mj (n:Nat)(neg:Bool):Int:=if n=0 then 0 else if neg then -1 else 1
def gt (w:World)(r:Int)(e:Ending)(w':World):Prop:=e=.returned (.int .i64 r)/\Below w.heap.size w w'
theorem lH (neg:Bool)(A:OA)(n c:Nat)(e:Int)(w:World)(hn:n<=70368744177664):
 Calls ou 66 #[aP neg A n c e] w (gt w (mj n neg)):=by
 have b1:Below w.heap.size w (w.alloc (.cells #[.bool neg,.slice A n c,.int .i64 e] 24)):=(Below.refl _ w).alloc (mF _) _;have k1:=cA.made w (.bool neg) (.slice A n c) (.int .i64 e)
 have hgs:w.heap.size < (w.alloc (.cells #[.bool neg,.slice A n c,.int .i64 e] 24)).heap.size:=by simp
 have Z:=lY (ms neg A n c e (w.alloc (.cells #[.bool neg,.slice A n c,.int .i64 e] 24)) hn)
 rcases n with _ | n
 . go_enter Gw,Gs
   go_wp2_with fail;refine Z.out.mono ?_;rintro e' w2 ⟨rfl,b⟩;have b2:=b1.trans (b.mono b1.size);go_wp2_with fail;go_ret;exact⟨rfl,b2⟩
 . rw[show decide (n+1=0)=false by simp]at Z
   cases neg
   . go_enter Gw,Gs
     go_wp2_with fail;refine Z.out.mono ?_;rintro e' w2 ⟨rfl,b⟩;have b2:=b1.trans (b.mono b1.size);obtain⟨c0,c1,c2⟩:=(k1.below b hgs).cell;clear b k1;go_wp2_with fail;go_ret;exact⟨rfl,b2⟩
   . go_enter Gw,Gs
     go_wp2_with fail;refine Z.out.mono ?_;rintro e' w2 ⟨rfl,b⟩;have b2:=b1.trans (b.mono b1.size);obtain⟨c0,c1,c2⟩:=(k1.below b hgs).cell;clear b k1;go_wp2_with fail;go_ret;exact⟨rfl,b2⟩
theorem sm (neg:Bool)(A:OA)(n c:Nat)(e:Int)(w:World)(hn:n<=1000000):
 Calls ou 66 #[aP neg A n c e] w (gt w (mj n neg)):=lH neg A n c e w (by omega)
def aJ (p:Int):Bool:=decide (1<=p) && decide (p<=8192)
theorem tV (p:Int)(w:World):Calls ou 182 #[.int .i64 p] w fun r w'=>r=.returned (.bool (aJ p))/\w=w':=by
 by_cases h1:1<=p
 . by_cases h2:p<=8192
   . rw[show aJ p=true by simp[aJ,h1,h2]]
     go_enter Gt,Gn;go_wp2_with fail;go_ret;exact⟨rfl,rfl⟩
   . rw[show aJ p=false by simp[aJ,h2]]
     go_enter Gt,Gn;go_wp2_with fail;go_ret;exact⟨rfl,rfl⟩
 . rw[show aJ p=false by simp[aJ,h1]]
   go_enter Gt,Gn;go_wp2_with fail;go_ret;exact⟨rfl,rfl⟩
theorem vF (neg:Bool)(A:OA)(n c:Nat)(x:Nat->Nat)(e:Int)(w:World)(ha:Sl w A n c x)(hn:n<=400000)(he1:-1000000000<=e)(he2:e<=1000000000):
 Calls ou 121 #[aP neg A n c e] w (gt w (e+(nb (vs ai x n):Int))):=by
 have b1:Below w.heap.size w (w.alloc (.cells #[.bool neg,.slice A n c,.int .i64 e] 24)):=(Below.refl _ w).alloc (mF _) _;have hnb:=kY (bL ha.small);have s1:=ha.below b1;obtain⟨c0,c1,c2⟩:=(cA.made w (.bool neg) (.slice A n c) (.int .i64 e)).cell;go_enter Tryz.func121,Tryz.ntmps121;go_wp2_with fail;generalize w.alloc (.cells #[.bool neg,.slice A n c,.int .i64 e] 24)=w1 at *
 go_region_held3 (fun w'=>w'.cell? ⟨w.heap.size,1,none⟩=some (.slice A n c)/\w'.cell? ⟨w.heap.size,2,none⟩=some (.int .i64 e)) (go_keep)
  (first | (go_at_call 117;refine(fs A n c x _ (by first | exact s1 | exact s1.drew) (by omega)).mono ?_;rintro e' w2 ⟨B,rfl,hB,rfl⟩))
 obtain rfl:=hJ hB;rw[aE (by omega) (by omega)];go_wp2_with fail;go_ret;exact⟨rfl,b1.drew⟩
theorem fX {p:Nat}(hL:L=nb V)(e:Int)(neg more up b:Bool)(hb:b=((more || decide (V/2^(L-p)*2^(L-p)≠V)) && (up != neg))):
 cj neg V e more p up=bH neg (V/2^(L-p)+(if b then 1 else 0)) (e+((L-p:Nat):Int)):=by
 subst hL;subst hb;rfl
theorem uy (neg:Bool)(A:OA)(n c:Nat)(x:Nat->Nat)(e:Int)(more:Bool)(p:Nat)(up:Bool)(w:World)(ha:Sl w A n c x)(hn:n<=16000)(hp:p<=8192)(hT:bx w)(he1:-1000000000<=e)(he2:e<=1000000000):
 Calls ou 184 #[aP neg A n c e,.bool more,.int .i64 (p:Int),.bool up] w (fI w (cj neg (vs ai x n) e more p up)):=by
 have bA:Below w.heap.size w (w.alloc (.cells #[.bool neg,.slice A n c,.int .i64 e] 24)):=(Below.refl _ w).alloc (mF _) _;have bB:=bA.alloc bA.size (.cells #[.bool false,.slice none 0 0,.int .i64 0] 24);have kd:=(cA.made w (.bool neg) (.slice A n c) (.int .i64 e)).below ((Below.refl (w.heap.size+1) _).alloc (by simp) (.cells #[.bool false,.slice none 0 0,.int .i64 0] 24)) (by simp);have kr:=cA.made (w.alloc (.cells #[.bool neg,.slice A n c,.int .i64 e] 24)) (.bool false) (.slice none 0 0) (.int .i64 0);rw[show(w.alloc (.cells #[.bool neg,.slice A n c,.int .i64 e] 24)).heap.size=w.heap.size+1 by simp]at kr
 have hsz:((w.alloc (.cells #[.bool neg,.slice A n c,.int .i64 e] 24)).alloc (.cells #[.bool false,.slice none 0 0,.int .i64 0] 24)).heap.size=w.heap.size+2:=by simp
 have hnb:=kY (bL ha.small);have KX:=lY (bL ha.small);obtain⟨L,hL⟩:∃ L,Hid (L=nb (vs ai x n)):=⟨_,lY rfl⟩;rw[← hL.out]at hnb;obtain⟨D,hD⟩:∃ D,Hid (D=L-p):=⟨_,lY rfl⟩
 have hmax:max ((L:Int)-(p:Int)) 0=(D:Int):=by have:=hD.out;omega
 have hDn:D<=64*n:=by have:=hD.out;omega
 go_enter Tryz.func184,Tryz.ntmps184;go_wp2_with fail;generalize(w.alloc (.cells #[.bool neg,.slice A n c,.int .i64 e] 24)).alloc (.cells #[.bool false,.slice none 0 0,.int .i64 0] 24)=w1 at *;have s1:=ha.below bB;have t1:=hT.below bB;refine(fs A n c x _ s1 (by omega)).mono ?_;rintro e' w2 ⟨B,rfl,hB,rfl⟩;obtain rfl:B=L:=(hJ hB).trans hL.out.symm;clear hB;obtain⟨cd0,cd1,cd2⟩:=kd.cell;obtain⟨cr0,cr1,cr2⟩:=kr.cell;obtain⟨fr0,fr1,fr2⟩:=kr.frozen;go_wp2_with fail;refine(mP A n c x D w1 s1 (by omega) (by omega)).mono ?_;rintro e' w2 ⟨v2,rfl,n2,b⟩;have b2:=bB.trans (b.mono bB.size);have kd2:=kd.below b (by omega);have kr2:=kr.below b (by omega);have s2:=s1.below b;have t2:=t1.below b
 have hsz2:w.heap.size+2<=w2.heap.size:=by have:=b.size;omega
 clear b s1 t1 kd kr cd0 cd1 cd2 cr0 cr1 cr2 fr0 fr1 fr2 hsz hT;obtain⟨A2,p2,c2,f2,rfl,q2,lp2,cn2,e2⟩:=n2.sl' (Gp (qK _ _) KX.out);have E2:=lY e2;clear n2 e2
 have QL:Hid (vs ai x n/2^D < 2^p\/D=0):=lY (by
  rcases Gq D with h | h
  . exact .inr h
  . refine .inl ((bi _ _).1 ?_)
    rw[gH,← hL.out]
    have:=hD.out;omega)
 obtain⟨cd0,cd1,cd2⟩:=kd2.cell;obtain⟨cr0,cr1,cr2⟩:=kr2.cell;have KM:Hid (vs ai x n/2^D*2^D < ai^n):=lY (Gp (Gk _ _) KX.out)
 have SHL:Hid (∀ w',Sl w' A2 p2 c2 f2->Calls ou 123 #[.slice A2 p2 c2,.int .i64 (D:Int)] w' fun e w''=>∃ A4 p4 c4 f4,e=.returned (.slice A4 p4 c4)/\Sl w'' A4 p4 c4 f4/\p4<=n/\Hid (vs ai f4 p4=vs ai x n/2^D*2^D)/\Below w'.heap.size w' w''):=lY (fun w' h=>by
  refine(mQ A2 p2 c2 f2 D w' h (by omega) (by omega)).mono ?_;rintro e' w4 ⟨v4,rfl,n4,b⟩;rw[E2.out]at n4;obtain⟨A4,p4,c4,f4,rfl,q4,lp4,_,e4⟩:=n4.sl' KM.out
  exact⟨A4,p4,c4,f4,rfl,q4,lp4,lY e4,b⟩)
 have hg1:w.heap.size < w2.heap.size:=by omega
 have KQ1:Hid (vs ai x n/2^D+1 < ai^(n+1)):=lY (by have:=jl 1 (by omega) KX.out;have:=qK (vs ai x n) (2^D);omega);have KQ1:Hid (vs ai x n/2^D+1 < ai^(n+1)):=lY (by have:=jl 1 (by omega) KX.out;have:=qK (vs ai x n) (2^D);omega);have KQ1:Hid (vs ai x n/2^D+1 < ai^(n+1)):=lY (by have:=jl 1 (by omega) KX.out;have:=qK (vs ai x n) (2^D);omega);have KQ1:Hid (vs ai x n/2^D+1 < ai^(n+1)):=lY (by have:=jl 1 (by omega) KX.out;have:=qK (vs ai x n) (2^D);omega);cases more
 . go_wp2_with fail
   go_region_held3 (fun w'=>w'.cell? ⟨w.heap.size,1,none⟩=some (.slice A n c)) (first | go_keep | exact(b4.cell (by first | exact hg1 | (simp;omega))).trans cd1 | exact(b5.cell (by have:=b4.size;simp at this ⊢;omega)).trans ((b4.cell (by first | exact hg1 | (simp;omega))).trans cd1))
    (first
     | (go_at_call 123;refine(SHL.out _ (by first | exact q2 | exact q2.drew)).mono ?_;rintro e' w4 ⟨A4,p4,c4,f4,rfl,q4,lp4,E4,b4⟩)
     | (go_at_call 122;refine(ic A4 A p4 n c4 c f4 x _ (by exact q4) (by exact s2.drew.below b4) (by omega) (by omega)).mono ?_;rintro e' w5 ⟨rfl,b5⟩))
   have b25:Below w2.heap.size w2 w5:=Below.trans (show Below w2.heap.size w2 w4 from⟨b4.os,b4.tape,b4.output,b4.size,b4.block⟩) (b5.mono b4.size);have bC:=b2.trans (b25.mono b2.size);have qC:=q2.below b25;have tC:=t2.below b25;have kdC:=kd2.below b25 (by omega);have krC:=kr2.below b25 (by omega)
   have hC:w.heap.size+2<=w5.heap.size:=by have:=b25.size;omega
   clear b25 b4 b5 q4 kd2 kr2 s2 t2 q2 cd0 cd1 cd2 cr0 cr1 cr2 SHL;obtain⟨cd0,cd1,cd2⟩:=kdC.cell;rw[E4.out];generalize w5=wC at *
   by_cases hK:vs ai x n/2^D*2^D=vs ai x n
   . have HR:=lY (fX (p:=p) hL.out e neg false up false (by rw[← hD.out];simp[hK]))
     rw[← hD.out]at HR;simp only[DF,if_false,Gu]at HR;rw[hK,eA];clear hK KM E4;go_wp2_with fail;have MK:=de neg A2 p2 c2 f2 (e+(D:Int)) wC qC (by omega) tC (by omega) (by omega);rw[E2.out]at MK;have HMK:=lY MK;clear MK;refine HMK.out.mono ?_;rintro e' w9 ⟨v9,rfl,n9,b9⟩;have bF:=bC.trans (b9.mono bC.size);have kF:=krC.below b9 (by omega);obtain⟨cF0,cF1,cF2⟩:=kF.cell;obtain⟨fF0,fF1,fF2⟩:=kF.frozen;clear HMK b9;generalize bH neg (vs ai x n/2^D) (e+(D:Int))=r at *;obtain⟨A9,p9,c9,f9,rfl,m9⟩:=n9;go_wp2_with fail;rw[HR.out]
     refine bodyPost_ret (v:=.tuple #[.agg #[.bool r.neg,.slice A9 p9 c9,.int .i64 r.e],.bool r.ok]) (by simp[results,tz,go_sem,cF0,cF1,cF2]) rfl
      ⟨_,rfl,am.put3 ⟨A9,p9,c9,f9,rfl,m9⟩ kF (aD _) (av _ _ _) (aI _) _ _ _,ak bF (by omega) bF.size _ _ _⟩
   . obtain⟨r0,hr0,hr1⟩:∃ r0:Int,cQ (vs ai x n/2^D*2^D) (vs ai x n)=r0/\(r0 != 0)=true:=by
      refine⟨_,rfl,?_⟩;have h1:=Gk (vs ai x n) (2^D)
      rw[dn (by omega)];rfl
     rw[hr0];have HNE:=lY hK;clear hr0 hK KM E4
     by_cases hun:up=neg
     . subst hun
       have HR:=lY (fX (p:=p) hL.out e up false up false (by simp));rw[← hD.out]at HR;simp only[DF,if_false,Gu]at HR;go_wp2_with fail;have MK:=de up A2 p2 c2 f2 (e+(D:Int)) wC qC (by omega) tC (by omega) (by omega);rw[E2.out]at MK;have HMK:=lY MK;clear MK;refine HMK.out.mono ?_;rintro e' w9 ⟨v9,rfl,n9,b9⟩;have bF:=bC.trans (b9.mono bC.size);have kF:=krC.below b9 (by omega);obtain⟨cF0,cF1,cF2⟩:=kF.cell;obtain⟨fF0,fF1,fF2⟩:=kF.frozen;clear HMK b9;generalize bH up (vs ai x n/2^D) (e+(D:Int))=r at *;obtain⟨A9,p9,c9,f9,rfl,m9⟩:=n9;go_wp2_with fail;rw[HR.out]
       refine bodyPost_ret (v:=.tuple #[.agg #[.bool r.neg,.slice A9 p9 c9,.int .i64 r.e],.bool r.ok]) (by simp[results,tz,go_sem,cF0,cF1,cF2]) rfl
        ⟨_,rfl,am.put3 ⟨A9,p9,c9,f9,rfl,m9⟩ kF (aD _) (av _ _ _) (aI _) _ _ _,ak bF (by omega) bF.size _ _ _⟩
     . have hun1:(up == neg)=false:=by simpa using hun
       have HR:=lY (fX (p:=p) hL.out e neg false up true (by rw[← hD.out,bne,hun1];simpa using HNE.out));rw[← hD.out]at HR;simp only[if_true]at HR;go_wp2_with fail;have bA3:Below wC.heap.size wC (wC.alloc (.cells #[.int .u64 ((1:Nat):Int)] 51)):=(Below.refl _ wC).alloc (mF _) _;have o3:=gf 51 wC 1 (by unfold ai;omega);have AD:=nj A2 _ p2 1 c2 1 f2 (fun _=>1) _ (qC.below bA3) o3 (by omega) (by omega);rw[E2.out,f5]at AD;have HAD:=lY AD;clear AD;refine HAD.out.mono ?_;rintro e' w7 ⟨v7,rfl,n7,b⟩;have b37:=bA3.trans (b.mono bA3.size);have b7:=bC.trans (b37.mono bC.size);have t7:=tC.below b37;have kr7:=krC.below b37 (by omega);obtain⟨c70,c71,c72⟩:=(kdC.below b37 (by omega)).cell
       have h7:w.heap.size+2<=w7.heap.size:=by have:=b37.size;omega
       obtain⟨A7,p7,c7,f7,rfl,q7,lp7,_,e7⟩:=n7.sl' KQ1.out;have E7:=lY e7;clear b b37 n7 e7 HAD o3 bA3 tC krC kdC cd0 cd1 cd2 qC;go_wp2_with fail;have MK:=de neg A7 p7 c7 f7 (e+(D:Int)) w7 q7 (by omega) t7 (by omega) (by omega);rw[E7.out]at MK;have HMK:=lY MK;clear MK;refine HMK.out.mono ?_;rintro e' w9 ⟨v9,rfl,n9,b9⟩;have bF:=b7.trans (b9.mono b7.size);have kF:=kr7.below b9 (by omega);obtain⟨cF0,cF1,cF2⟩:=kF.cell;obtain⟨fF0,fF1,fF2⟩:=kF.frozen;clear HMK b9;generalize bH neg (vs ai x n/2^D+1) (e+(D:Int))=r at *;obtain⟨A9,p9,c9,f9,rfl,m9⟩:=n9;go_wp2_with fail;rw[HR.out]
       refine bodyPost_ret (v:=.tuple #[.agg #[.bool r.neg,.slice A9 p9 c9,.int .i64 r.e],.bool r.ok]) (by simp[results,tz,go_sem,cF0,cF1,cF2]) rfl
        ⟨_,rfl,am.put3 ⟨A9,p9,c9,f9,rfl,m9⟩ kF (aD _) (av _ _ _) (aI _) _ _ _,ak bF (by omega) bF.size _ _ _⟩
 . go_wp2_with fail
   go_quiet (fail)
   have bC:Below w.heap.size w (w2.drewN nq):=cu b2 nq;have qC:=q2.drewN nq;have tC:bx (w2.drewN nq):=t2;have kdC:cA (w2.drewN nq) w.heap.size (.bool neg) (.slice A n c) (.int .i64 e):=kd2;have krC:cA (w2.drewN nq) (w.heap.size+1) (.bool false) (.slice none 0 0) (.int .i64 0):=kr2;have hC:w.heap.size+2<=(w2.drewN nq).heap.size:=hsz2;clear kd2 kr2 s2 t2 q2 cd0 cd1 cd2 cr0 cr1 cr2 SHL KM;obtain⟨cd0,cd1,cd2⟩:=kdC.cell;generalize w2.drewN nq=wC at *
   by_cases hun:up=neg
   . subst hun
     have HR:=lY (fX (p:=p) hL.out e up true up false (by simp));rw[← hD.out]at HR;simp only[DF,if_false,Gu]at HR;go_wp2_with fail;have MK:=de up A2 p2 c2 f2 (e+(D:Int)) wC qC (by omega) tC (by omega) (by omega);rw[E2.out]at MK;have HMK:=lY MK;clear MK;refine HMK.out.mono ?_;rintro e' w9 ⟨v9,rfl,n9,b9⟩;have bF:=bC.trans (b9.mono bC.size);have kF:=krC.below b9 (by omega);obtain⟨cF0,cF1,cF2⟩:=kF.cell;obtain⟨fF0,fF1,fF2⟩:=kF.frozen;clear HMK b9;generalize bH up (vs ai x n/2^D) (e+(D:Int))=r at *;obtain⟨A9,p9,c9,f9,rfl,m9⟩:=n9;go_wp2_with fail;rw[HR.out]
     refine bodyPost_ret (v:=.tuple #[.agg #[.bool r.neg,.slice A9 p9 c9,.int .i64 r.e],.bool r.ok]) (by simp[results,tz,go_sem,cF0,cF1,cF2]) rfl
      ⟨_,rfl,am.put3 ⟨A9,p9,c9,f9,rfl,m9⟩ kF (aD _) (av _ _ _) (aI _) _ _ _,ak bF (by omega) bF.size _ _ _⟩
   . have hun1:(up == neg)=false:=by simpa using hun
     have HR:=lY (fX (p:=p) hL.out e neg true up true (by rw[bne,hun1];simp));rw[← hD.out]at HR;simp only[if_true]at HR;go_wp2_with fail;have bA3:Below wC.heap.size wC (wC.alloc (.cells #[.int .u64 ((1:Nat):Int)] 51)):=(Below.refl _ wC).alloc (mF _) _;have o3:=gf 51 wC 1 (by unfold ai;omega);have AD:=nj A2 _ p2 1 c2 1 f2 (fun _=>1) _ (qC.below bA3) o3 (by omega) (by omega);rw[E2.out,f5]at AD;have HAD:=lY AD;clear AD;refine HAD.out.mono ?_;rintro e' w7 ⟨v7,rfl,n7,b⟩;have b37:=bA3.trans (b.mono bA3.size);have b7:=bC.trans (b37.mono bC.size);have t7:=tC.below b37;have kr7:=krC.below b37 (by omega);obtain⟨c70,c71,c72⟩:=(kdC.below b37 (by omega)).cell
     have h7:w.heap.size+2<=w7.heap.size:=by have:=b37.size;omega
     obtain⟨A7,p7,c7,f7,rfl,q7,lp7,_,e7⟩:=n7.sl' KQ1.out;have E7:=lY e7;clear b b37 n7 e7 HAD o3 bA3 tC krC kdC cd0 cd1 cd2 qC;go_wp2_with fail;have MK:=de neg A7 p7 c7 f7 (e+(D:Int)) w7 q7 (by omega) t7 (by omega) (by omega);rw[E7.out]at MK;have HMK:=lY MK;clear MK;refine HMK.out.mono ?_;rintro e' w9 ⟨v9,rfl,n9,b9⟩;have bF:=b7.trans (b9.mono b7.size);have kF:=kr7.below b9 (by omega);obtain⟨cF0,cF1,cF2⟩:=kF.cell;obtain⟨fF0,fF1,fF2⟩:=kF.frozen;clear HMK b9;generalize bH neg (vs ai x n/2^D+1) (e+(D:Int))=r at *;obtain⟨A9,p9,c9,f9,rfl,m9⟩:=n9;go_wp2_with fail;rw[HR.out]
     refine bodyPost_ret (v:=.tuple #[.agg #[.bool r.neg,.slice A9 p9 c9,.int .i64 r.e],.bool r.ok]) (by simp[results,tz,go_sem,cF0,cF1,cF2]) rfl
      ⟨_,rfl,am.put3 ⟨A9,p9,c9,f9,rfl,m9⟩ kF (aD _) (av _ _ _) (aI _) _ _ _,ak bF (by omega) bF.size _ _ _⟩
structure F3 (w w1:World)(na:Bool)(A:OA)(n c:Nat)(ea:Int)(nb':Bool)(B:OA)(m d:Nat)(eb:Int):Prop where
 bel:Below w.heap.size w w1
 ka:cA w1 w.heap.size (.bool na) (.slice A n c) (.int .i64 ea)
 kb:cA w1 (w.heap.size+1) (.bool nb') (.slice B m d) (.int .i64 eb)
 kr:cA w1 (w.heap.size+1+1) (.bool false) (.slice none 0 0) (.int .i64 0)
 sz:w.heap.size+3<=w1.heap.size
 tab:bx w1
structure F2 (w w1:World)(na:Bool)(A:OA)(n c:Nat)(ea:Int):Prop where
 bel:Below w.heap.size w w1
 ka:cA w1 w.heap.size (.bool na) (.slice A n c) (.int .i64 ea)
 kr:cA w1 (w.heap.size+1) (.bool false) (.slice none 0 0) (.int .i64 0)
 sz:w.heap.size+2<=w1.heap.size
 tab:bx w1
section
variable {w w1 w2:World} {na nb':Bool} {A B:OA} {n c m d:Nat} {ea eb:Int}
theorem F3.adv (h:F3 w w1 na A n c ea nb' B m d eb)(b:Below w1.heap.size w1 w2):F3 w w2 na A n c ea nb' B m d eb:=by
 have:=h.sz
 exact⟨h.bel.trans (b.mono h.bel.size),h.ka.below b (by omega),h.kb.below b (by omega),h.kr.below b (by omega),GF h.sz b.size,h.tab.below b⟩
theorem F2.adv (h:F2 w w1 na A n c ea)(b:Below w1.heap.size w1 w2):F2 w w2 na A n c ea:=by
 have:=h.sz
 exact⟨h.bel.trans (b.mono h.bel.size),h.ka.below b (by omega),h.kr.below b (by omega),GF h.sz b.size,h.tab.below b⟩
theorem F3.drew (h:F3 w w1 na A n c ea nb' B m d eb):F3 w w1.drew na A n c ea nb' B m d eb:=⟨h.bel.drew,h.ka,h.kb,h.kr,h.sz,h.tab⟩
end
theorem F2.start (w:World)(na:Bool)(A:OA)(n c:Nat)(ea:Int)(hT:bx w):
 F2 w ((w.alloc (.cells #[.bool na,.slice A n c,.int .i64 ea] 24)).alloc (.cells #[.bool false,.slice none 0 0,.int .i64 0] 24)) na A n c ea:=by
 have bA:Below w.heap.size w (w.alloc (.cells #[.bool na,.slice A n c,.int .i64 ea] 24)):=(Below.refl _ w).alloc (mF _) _;have bB:=bA.alloc bA.size (.cells #[.bool false,.slice none 0 0,.int .i64 0] 24);have kd:=(cA.made w (.bool na) (.slice A n c) (.int .i64 ea)).below ((Below.refl (w.heap.size+1) _).alloc (by simp) (.cells #[.bool false,.slice none 0 0,.int .i64 0] 24)) (by simp);have kr:=cA.made (w.alloc (.cells #[.bool na,.slice A n c,.int .i64 ea] 24)) (.bool false) (.slice none 0 0) (.int .i64 0);rw[show(w.alloc (.cells #[.bool na,.slice A n c,.int .i64 ea] 24)).heap.size=w.heap.size+1 by simp]at kr;exact⟨bB,kd,kr,by simp,hT.below bB⟩
theorem F3.start (w:World)(na:Bool)(A:OA)(n c:Nat)(ea:Int)(nb':Bool)(B:OA)(m d:Nat)(eb:Int)(hT:bx w):
 F3 w (((w.alloc (.cells #[.bool na,.slice A n c,.int .i64 ea] 24)).alloc (.cells #[.bool nb',.slice B m d,.int .i64 eb] 24)).alloc (.cells #[.bool false,.slice none 0 0,.int .i64 0] 24)) na A n c ea nb' B m d eb:=by
 have bA:Below w.heap.size w (w.alloc (.cells #[.bool na,.slice A n c,.int .i64 ea] 24)):=(Below.refl _ w).alloc (mF _) _;have bB:=bA.alloc bA.size (.cells #[.bool nb',.slice B m d,.int .i64 eb] 24);have bC:=bB.alloc bB.size (.cells #[.bool false,.slice none 0 0,.int .i64 0] 24)
 have ka:=((cA.made w (.bool na) (.slice A n c) (.int .i64 ea)).below ((Below.refl (w.heap.size+1) _).alloc (by simp) (.cells #[.bool nb',.slice B m d,.int .i64 eb] 24)) (by simp)).below
  ((Below.refl (w.heap.size+1) _).alloc (by simp) (.cells #[.bool false,.slice none 0 0,.int .i64 0] 24)) (by simp)
 have kb:=(cA.made (w.alloc (.cells #[.bool na,.slice A n c,.int .i64 ea] 24)) (.bool nb') (.slice B m d) (.int .i64 eb)).below ((Below.refl (w.heap.size+2) _).alloc (by simp) (.cells #[.bool false,.slice none 0 0,.int .i64 0] 24)) (by simp);have kr:=cA.made ((w.alloc (.cells #[.bool na,.slice A n c,.int .i64 ea] 24)).alloc (.cells #[.bool nb',.slice B m d,.int .i64 eb] 24)) (.bool false) (.slice none 0 0) (.int .i64 0);rw[show(w.alloc (.cells #[.bool na,.slice A n c,.int .i64 ea] 24)).heap.size=w.heap.size+1 by simp]at kb;rw[show((w.alloc (.cells #[.bool na,.slice A n c,.int .i64 ea] 24)).alloc (.cells #[.bool nb',.slice B m d,.int .i64 eb] 24)).heap.size=w.heap.size+1+1 by simp]at kr;exact⟨bC,ka,kb,kr,by simp,hT.below bC⟩
structure gR (neg:Bool)(n:Nat)(x:Nat->Nat)(e:Int):Prop where
 len:n<=256
 cn:Cn n x
 bits:nb (vs ai x n)<=16384
 e1:-262144<=e
 e2:e<=262144
 zero:n=0->e=0/\neg=false
 odd:0 < n->vs ai x n%2=1
theorem fW (h:nb V<=64*n):V < ai^n:=by rw[bv,← Gv];exact(bi _ _).1 h
theorem Dl (h:x 0%2=1):vs ai x (n+1)%2=1:=by
 rw[fv,bv,show(2:Nat)^64=2*2^63 by decide,Gm,EM];exact h
theorem aS {neg:Bool}{e:Int}(h:aj neg n x e=true):gR neg n x e:=by
 unfold aj at h
 rcases n with _ | n
 . simp only[if_true]at h
   simp at h
   obtain⟨rfl,rfl⟩:=h;exact⟨by omega,.inl rfl,by rw[aL,aX];omega,by omega,by omega,fun _=>⟨rfl,rfl⟩,fun h=>absurd h (by omega)⟩
 . rw[if_neg (by omega)]at h
   simp only[yb,Bool.and_eq_true,decide_eq_true_eq]at h;obtain⟨⟨⟨h1,h2⟩,h3⟩,h4⟩:=h;have hc:Cn (n+1) x:=.inr (by simpa using h2);rw[iD]at h3;refine⟨?_,hc,h3,h4.1,h4.2,fun h=>absurd h (by omega),fun _=>Dl h1⟩;exact ib fq hc (fW (n:=256) (by omega))
theorem gR.pos {neg:Bool}{e:Int}(h:gR neg n x e):0 < n ↔ 0 < vs ai x n:=by
 constructor
 . intro hn;have:=h.odd hn;omega
 . intro hv
   rcases Gq n with h0 | h0
   . subst h0;rw[aL]at hv;omega
   . exact h0
theorem Bn (x:Nat):(x:Int)%2=((x%2:Nat):Int):=by omega
theorem BP (h:x n≠0)(hn:256 < n+1):¬ nb (vs ai x (n+1))<=MB:=fun hb=>by
 rw[iD]at hb;have h1:=pj (b:=ai) (n:=n+1) (f:=x) (.inr (by simpa using h)) (by omega);have h2:vs ai x (n+1) < ai^256:=fW (by omega)
 have h3:ai^(n+1-1) < ai^256:=by omega
 have:=(Nat.pow_lt_pow_iff_right fq).1 h3
 omega
theorem sD (neg:Bool)(A:OA)(c:Nat)(x:Nat->Nat)(e:Int)(w:World):
 Calls ou 41 #[aP neg A 0 c e] w (di w (aj neg 0 x e)):=by
 have b1:Below w.heap.size w (w.alloc (.cells #[.bool neg,.slice A 0 c,.int .i64 e] 24)):=(Below.refl _ w).alloc (mF _) _
 by_cases h:e=0
 . subst h
   cases neg
   . go_enter Bl,oY
     go_wp2_with fail;go_ret;exact⟨rfl,b1⟩
   . go_enter Bl,oY
     go_wp2_with fail;go_ret;exact⟨rfl,b1⟩
 . have hd:aj neg 0 x e=false:=by simp[aj,h]
   have he:(e == 0)=false:=by simp[h]
   rw[hd];go_enter Bl,oY;go_wp2_with fail;go_ret;exact⟨rfl,b1⟩
theorem dr (neg:Bool)(A:OA)(n c:Nat)(x:Nat->Nat)(e:Int)(w:World)(ha:Sl w A n c x)(hn:n<=400000):
 Calls ou 41 #[aP neg A n c e] w (di w (aj neg n x e)):=by
 rcases n with _ | n
 . exact sD neg A c x e w
 . obtain⟨ad,rfl,hab,hx0,hc0⟩:=ha.at_ (k:=0) (by omega)
   obtain⟨ad',e1,_,hx1,hc1⟩:=ha.at_ (k:=n) (by omega)
   obtain rfl:ad=ad':=by injection e1
   clear e1;rw[show ad.add 0=ad from by simp[Addr.add]]at hc0
   have hab1:(ad.add n).block < w.heap.size:=by rw[ao];exact hab
   have b1:Below w.heap.size w (w.alloc (.cells #[.bool neg,.slice (some ad) (n+1) c,.int .i64 e] 24)):=(Below.refl _ w).alloc (mF _) _;have k1:=cA.made w (.bool neg) (.slice (some ad) (n+1) c) (.int .i64 e)
   have hgs:w.heap.size < (w.alloc (.cells #[.bool neg,.slice (some ad) (n+1) c,.int .i64 e] 24)).heap.size:=by simp
   have hB:=pF (some ad) (n+1) c x _ (ha.below b1) (by omega)
   have hn1:((n:Int)+1 == 0)=false:=by simp;omega
   have hrem:=Bn (x 0);have HB:=lY hB
   have hspec:aj neg (n+1) x e=(decide (x 0%2=1) && decide (x n≠0) && decide (nb (vs ai x (n+1))<=MB) && decide (cR e)):=by
    unfold aj;rw[if_neg (by omega),yb]
   clear hB;have hb2:x 0%2 < 2:=GH _ (by omega)
   by_cases h2:x n=0
   . rw[hspec,show(decide (x 0%2=1) && decide (x n≠0) && decide (nb (vs ai x (n+1))<=MB) && decide (cR e))=false by simp[h2]]
     rw[h2]at hc1;clear hspec;go_enter Bl,oY;go_wp2_with fail;go_ret;exact⟨rfl,b1⟩
   . have hne:((x n:Int) != 0)=true:=by simp;omega
     have hlong:=lY (fun h=>BP (x:=x) h2 (h:256 < n+1))
     by_cases h1:x 0%2=1
     . rw[hspec,show(decide (x 0%2=1) && decide (x n≠0) && decide (nb (vs ai x (n+1))<=MB) && decide (cR e))=(decide (nb (vs ai x (n+1))<=MB) && decide (cR e)) by simp[h1,h2]]
       have hr1:(((x 0%2:Nat):Int) == 1)=true:=by rw[h1];rfl
       clear hspec hb2 h1;generalize x 0%2=rm at *;generalize x n=yn at *;generalize x 0=y0 at *;generalize vs ai x (n+1)=V at *
       by_cases h256:n+1<=256
       . go_enter Bl,oY
         go_wp2_with fail;refine HB.out.mono ?_;rintro e' w2 ⟨L,rfl,hL,b⟩;obtain rfl:=hJ hL;have b2:=b1.trans (b.mono b1.size);obtain⟨c0,c1,c2⟩:=(k1.below b hgs).cell;clear b hL k1 HB;generalize nb V=L at *
         by_cases h3:L<=MB
         . have h3':=h3
           rw[iD]at h3'
           by_cases h4:-262144<=e
           . by_cases h5:e<=262144
             . have hd:=lY (show(decide (L<=MB) && decide (cR e))=true by simp[h3,cR,h4,h5])
               go_wp2_with fail;go_ret;exact⟨by rw[hd.out];rfl,b2⟩
             . have hd:=lY (show(decide (L<=MB) && decide (cR e))=false by rw[decide_eq_false (fun h:cR e=>h5 h.2),Gy])
               have h5b:decide (e<=262144)=false:=decide_eq_false h5;go_wp2_with fail;go_ret;exact⟨by rw[hd.out];rfl,b2⟩
           . have hd:=lY (show(decide (L<=MB) && decide (cR e))=false by rw[decide_eq_false (fun h:cR e=>h4 h.1),Gy])
             have hd2:=lY (decide_eq_false (fun h:cR e=>h4 h.1));go_wp2_with fail;go_ret;exact⟨by first | (rw[hd.out];rfl) | (rw[hd2.out];rfl),b2⟩
         . have hd:=lY (show(decide (L<=MB) && decide (cR e))=false by simp[h3])
           rw[iD]at h3;go_wp2_with fail;go_ret;exact⟨by rw[hd.out];rfl,b2⟩
       . have hd:=lY (show(decide (nb V<=MB) && decide (cR e))=false by simp[hlong.out (by omega)])
         rw[hd.out];go_enter Bl,oY;go_wp2_with fail;go_ret;exact⟨rfl,b1⟩
     . rw[hspec,show(decide (x 0%2=1) && decide (x n≠0) && decide (nb (vs ai x (n+1))<=MB) && decide (cR e))=false by simp[h1]]
       obtain h0:x 0%2=0:=by omega
       rw[h0]at hrem;clear hspec;go_enter Bl,oY;go_wp2_with fail;go_ret;exact⟨rfl,b1⟩
theorem qf {v u:Value}{M:Nat}(neg:Bool)(e:Int)(w:World)(h1:am w v M)(h2:am w u M)(K:Nat)(hK:K<=1000000)(hM:M < ai^K):
 Calls ou 47 #[.agg #[.bool neg,v,.int .i64 e],.agg #[.bool neg,u,.int .i64 e]] w (cz w):=by
 obtain⟨A,n,c,x,rfl,sx⟩:=h1;obtain⟨B,m,d,y,rfl,sy⟩:=h2;have bA:Below w.heap.size w (w.alloc (.cells #[.bool neg,.slice A n c,.int .i64 e] 24)):=(Below.refl _ w).alloc (mF _) _;have bB:=bA.alloc bA.size (.cells #[.bool neg,.slice B m d,.int .i64 e] 24);have SM:=lY (yI _ (am.below ⟨A,n,c,x,rfl,sx⟩ bB) (am.below ⟨B,m,d,y,rfl,sy⟩ bB) K hK hM);go_enter Tryz.func47,Tryz.ntmps47;go_wp2_with fail;refine SM.out.mono ?_;rintro e' w2 ⟨rfl,b⟩;have b2:=bB.trans (b.mono bB.size);go_wp2_with fail;go_ret;exact⟨rfl,b2⟩
end Go.Proofs.YtmbmohibpkepdaaGreatDoor
