import Derived.Test.YtmbmohibpkepdaaGreatDoorPlSGEx1
import Derived.Test.YtmbmohibpkepdaaGreatDoorPlSGSp3
set_option maxRecDepth 8000
set_option maxHeartbeats 4000000
open Go.Lib renaming hid->lY
open Go.IntKind renaming wrap_u64->mF
open Nat renaming mul_le_mul_left->ou, mul_le_mul->oY, le_trans->qK, lt_or_ge->tz, div_le_self->yb, zero_div->DF, le_refl->Gk, pow_add->Gl, one_mul->Gm
open Go.Proofs.Tryz renaming prog->oM, ntmps155->Bl, ntmps154->Bx, func155->DE, func154->EM
namespace Go.Proofs.YtmbmohibpkepdaaGreatDoor
open Go.RowKit
variable {D:Nat->Nat} {Z b:Nat} {v:Value}
theorem Bf (w:World)(r g:Nat)(hr:r < ai)(hg:g=w.heap.size):Sl (w.alloc (cw r)) (some ⟨g,0,none⟩) 1 1 (fun _=>r):=by
 subst hg;exact gf _ w r hr
theorem mi {V:Nat}(n:Int)(w:World)(h:am w v V)(hV:nb V<=1000000)(h1:-1000000<=n)(h2:n<=1000000):
 Calls oM 155 #[v,.int .i64 n] w (NP w (Bj V n)):=by
 by_cases hn:n < 0
 . have hd:decide (n < 0)=true:=decide_eq_true hn
   have SR:=lY (Bh (s:=(-n).toNat) w h (by omega) (by omega));rw[show((-n).toNat:Int)=-n by omega]at SR;have hs:Hid (Bj V n=V/2^(-n).toNat):=lY (by unfold Bj;rw[if_pos hn]);rw[hs.out];go_enter DE,Bl;go_wp2_with fail;refine SR.out.mono ?_;rintro e' w2 ⟨A,p,c,rfl,n2,b⟩;go_wp2_with fail;go_ret;exact⟨A,p,c,rfl,n2,b⟩
 . have hd:decide (n < 0)=false:=decide_eq_false hn
   have SR:=lY (oV (s:=n.toNat) w h (by omega) (by omega));rw[show(n.toNat:Int)=n by omega]at SR;have hs:Hid (Bj V n=V*2^n.toNat):=lY (by unfold Bj;rw[if_neg hn]);rw[hs.out];go_enter DE,Bl;go_wp2_with fail;refine SR.out.mono ?_;rintro e' w2 ⟨A,p,c,rfl,n2,b⟩;go_wp2_with fail;go_ret;exact⟨A,p,c,rfl,n2,b⟩
theorem tu {k:Nat}(h:dQ D Z b k=0)(j:Nat):dQ D Z b (k+j)=0/\fi D Z b (k+j)=fi D Z b k:=by
 induction j with
 | zero=>exact⟨h,rfl⟩
 | succ j ih =>
  have h1:dQ D Z b (k+(j+1))=0:=by
   show dQ D Z b (k+j)*Z/2^b/D (k+j+1)=0
   rw[ih.1,Nat.zero_mul,DF,DF]
  refine⟨h1,?_⟩
  show fi D Z b (k+j)+dQ D Z b (k+(j+1))=fi D Z b k
  rw[h1,ih.2,Nat.add_zero]
theorem ot (hZ:2*Z<=2^b)(k:Nat):dQ D Z b k<=2^b:=by
 have h1:=uU (D:=D) hZ k;have h2:dQ D Z b k*1<=dQ D Z b k*2^k:=ou _ (Nat.two_pow_pos k);omega
theorem zR (hZ:2*Z<=2^b)(k:Nat):fi D Z b k<=(k+1)*2^b:=by
 induction k with
 | zero=>have:=ot (D:=D) hZ 0;show dQ D Z b 0<=_;omega
 | succ k ih =>
  have h1:=ot (D:=D) hZ (k+1)
  show fi D Z b k+dQ D Z b (k+1)<=(k+1+1)*2^b
  rw[Nat.add_mul (k+1) 1];omega
theorem lb (k:Nat):nb (2^k)=k+1:=jU (Nat.pow_lt_pow_right (by omega) (Nat.lt_succ_self k)) (Gk _)
theorem CW (hZ:2*Z<=2^b)(k:Nat):nb (dQ D Z b k)<=b+1:=by
 have:=bQ (ot (D:=D) hZ k)
 rw[lb]at this;exact this
theorem CX {k:Nat}(hZ:2*Z<=2^b)(hk:k < 2^20):nb (fi D Z b k)<=b+21:=by
 have h1:fi D Z b k<=2^(20+b):=by
  rw[Gl];exact qK (zR (D:=D) hZ k) (Nat.mul_le_mul_right _ hk)
 have:=bQ h1
 rw[lb]at this;omega
theorem qU (a b:Nat):nb (a*b)<=nb a+nb b:=by
 refine(bi _ _).2 ?_;rw[Gl];have h1:=dZ a;have h2:=dZ b;exact Nat.mul_lt_mul'' h1 h2
theorem iu {w:World}{A:OA}{n c V:Nat}(h:am w (.slice A n c) V):n=0 ↔ V=0:=by
 obtain⟨_,_,_,f,hh,_,hc,rfl⟩:=h;cases hh
 constructor
 . intro h;subst h;exact aL _ _
 . intro h;exact rr hc h
theorem zk (n:Nat)(w:World):Calls oM 156 #[.int .u64 (n:Int)] w fun r w'=>r=.returned (.int .u64 (n:Int))/\w=w':=by
 go_enter Tryz.func156,Tryz.ntmps156;go_wp2_with fail;go_ret;exact⟨rfl,rfl⟩
theorem rR {B:Nat}(w:World)(h:am w v Z)(hZ:2*Z<=2^B)(hB:B<=200000):
 Calls oM 154 #[v,.int .i64 (B:Int),.func (.func 156) #[] #[]] w (NP w (fi (fun n=>n) Z B (B+1))):=by
 have hZ2:nb Z<=B+1:=by
  have h1:Z<=2^B:=by omega
  have:=bQ h1
  rw[lb]at this;exact this
 have bA:=ag w (cw 1);have nA:=iN (Bf w 1 _ (by unfold ai;omega) rfl) (by omega);have SL:=lY (oV (s:=B) _ nA (by rw[sX];omega) (by omega));rw[Gm]at SL;have HF:=lY (fun k=>CW (D:=fun n=>n) hZ k);have HS:=lY (fun k (hk:k < 2^20)=>CX (D:=fun n=>n) (k:=k) hZ hk);have HE:=lY (fun k (hk:B < k)=>iy (D:=fun n=>n) (b:=B) (n:=k) hZ hk);have HST:=lY (fun k j (hk:dQ (fun n=>n) Z B k=0)=>tu hk j);clear nA;go_enter EM,Bx;go_wp2_with fail;refine SL.out.mono ?_;rintro e' w1 ⟨A1,p1,c1,rfl,n1,b⟩;have b1:=aB bA b;clear SL bA b;go_wp2_with fail
 go_loopw [7,8,9] (fun s7 s8 s9 wr=>∃ (k:Nat) (A:OA) (p c:Nat) (A':OA) (p' c':Nat),k<=B+1/\s7=.slice A p c/\s8=.slice A' p' c'/\s9=.int .u64 ((k+1:Nat):Int)/\am wr (.slice A p c) (dQ (fun n=>n) Z B k)/\am wr (.slice A' p' c') (fi (fun n=>n) Z B k)/\Below w.heap.size w wr) (fun _ _ s9 _=>B+3-(intOf s9).toNat)
 case atStart=>exact⟨0,A1,p1,c1,A1,p1,c1,by omega,rfl,rfl,rfl,n1,n1,b1⟩
 case round =>
  obtain⟨k,A,p,c,A',p',c',hk,rfl,rfl,rfl,nT,nS,bw⟩:=hrel
  by_cases h0:dQ (fun n=>n) Z B k=0
  . obtain rfl:p=0:=(iu nT).2 h0
    have hst:=(HST.out k (B+1-k) h0).2;rw[show k+(B+1-k)=B+1 by omega]at hst;go_wp2_with fail;go_ret;exact⟨A',p',c',rfl,by rw[hst];exact nS,bw⟩
  . have hp:p≠0:=fun h=>h0 ((iu nT).1 h)
    have hd:decide ((0:Int) < (p:Int))=true:=decide_eq_true (by omega)
    have hk2:k<=B:=by
     rcases tz B k with h1 | h1
     . exact absurd (HE.out k h1) h0
     . exact h1
    have hf:=HF.out k;have hf2:=HF.out (k+1);have hs:=HS.out k (by omega);have MU:=lY (zC wr nT (h.below bw) (by omega) (by omega));have hpr:=qU (dQ (fun n=>n) Z B k) Z;have hnx:Hid (dQ (fun n=>n) Z B (k+1)=dQ (fun n=>n) Z B k*Z/2^B/(k+1)):=lY rfl;have hns:Hid (fi (fun n=>n) Z B (k+1)=fi (fun n=>n) Z B k+dQ (fun n=>n) Z B (k+1)):=lY rfl;go_wp2_with fail;refine MU.out.mono ?_;rintro e' w2 ⟨A2,p2,c2,rfl,n2,b⟩;have b2:=aB bw b;replace nS:=nS.below b;clear MU b nT;have SR:=lY (Bh (s:=B) w2 n2 (by omega) (by omega));go_wp2_with fail;refine SR.out.mono ?_;rintro e' w3 ⟨A3,p3,c3,rfl,n3,b⟩;have b3:=aB b2 b;replace nS:=nS.below b;clear SR b n2 b2;have PW:=lY (zk (k+1) w3);rw[show((k+1:Nat):Int)=(k:Int)+1 from rfl]at PW;go_wp2_with fail;refine PW.out.mono ?_;rintro e' w4 ⟨rfl,rfl⟩;have bb:=ag w3 (cw (k+1));have n4:=iN (Bf w3 (k+1) _ (by unfold ai;omega) rfl) (by omega);replace n3:=n3.below bb;replace nS:=nS.below bb;have b4:=aB b3 bb
    have hk1:nb (k+1)<=64:=(bi _ 64).2 (by
     have:(2:Nat)^64=18446744073709551616:=by decide
     omega)
    have hd3:nb (dQ (fun n=>n) Z B k*Z/2^B)<=1000000:=qK (bQ (yb _ _)) (by omega);have DV:=lY (Ff _ n3 n4 (by omega) (by omega) (by omega));clear bb b3 n3 n4 PW;go_wp2_with fail;refine DV.out.mono ?_;rintro e' w6 ⟨A6,p6,c6,A7,p7,c7,rfl,n6,_,b⟩;have b6:=aB b4 b;replace nS:=nS.below b;clear DV b b4;rw[← hnx.out]at n6;have AD:=lY (Co w6 nS n6 (by omega) (by omega));rw[← hns.out]at AD;go_wp2_with fail;refine AD.out.mono ?_;rintro e' w7 ⟨A8,p8,c8,rfl,n8,b⟩;have b7:=aB b6 b;replace n6:=n6.below b;go_wp2_with fail;go_roundw
    case rel=>exact⟨k+1,A6,p6,c6,A8,p8,c8,by omega,rfl,rfl,by go_num,n6,n8,b7⟩
    case measure=>simp[intOf];omega
theorem jn (neg:Bool)(A:OA)(n c:Nat)(x:Nat->Nat)(e:Int)(w:World)(ha:Sl w A n c x)(hn:n<=400000)(he1:-1000000000<=e)(he2:e<=1000000000):
 Calls oM 108 #[aP neg A n c e] w (gt w (e+(nb (vs ai x n):Int))):=by
 have b1:Below w.heap.size w (w.alloc (.cells #[.bool neg,.slice A n c,.int .i64 e] 24)):=(Below.refl _ w).alloc (Gk _) _;have hnb:=kY (bL ha.small);have s1:=ha.below b1;obtain⟨c0,c1,c2⟩:=(cA.made w (.bool neg) (.slice A n c) (.int .i64 e)).cell;go_enter Tryz.func108,Tryz.ntmps108;go_wp2_with fail;generalize w.alloc (.cells #[.bool neg,.slice A n c,.int .i64 e] 24)=w1 at *
 go_region_held3 (fun w'=>w'.cell? ⟨w.heap.size,1,none⟩=some (.slice A n c)/\w'.cell? ⟨w.heap.size,2,none⟩=some (.int .i64 e)) (go_keep)
  (first | (go_at_call 117;refine(fs A n c x _ (by first | exact s1 | exact s1.drew) (by omega)).mono ?_;rintro e' w2 ⟨B,rfl,hB,rfl⟩))
 obtain rfl:=hJ hB;rw[aE (by omega) (by omega)];go_wp2_with fail;go_ret;exact⟨rfl,b1.drew⟩
theorem xU (T:TypeId)(g:Nat)(P:Int)(bad:Bool)(w:World)(hW:Wk T w g P bad)(hP:P<=8192):
 Calls oM 153 #[.pointer (some ⟨g,0,none⟩)] w (fun r w'=>∃ k:Nat,r=.returned (.int .i64 (k:Int))/\1<=k/\k<=65/\w=w'):=by
 obtain⟨c0,c1⟩:=hW.cell;have hg:=hW.2;go_enter Tryz.func153,Tryz.ntmps153;go_wp2_with fail
 go_loop [3] (fun i=>∃ k:Nat,1<=k/\k<=65/\i=.int .i64 (k:Int)) (fun i=>100-(intOf i).toNat)
 case atStart=>exact⟨1,by omega,by omega,rfl⟩
 case round =>
  obtain⟨k,hk1,hk2,rfl⟩:=hrel
  have hmul:(2:Int)*(k:Int)*(k:Int)=((2*k*k:Nat):Int):=by simp
  have hsq:2*k*k<=2*65*65:=oY (ou 2 hk2) hk2;obtain⟨q,hq⟩:=du (2*k*k);rw[← hq]at hmul hsq
  by_cases hlt:(q:Int) < P
  . have hk64:k<=64:=by
     rcases tz 64 k with h | h
     . have:2*65*65<=2*k*k:=oY (ou 2 h) h
       omega
     . exact h
    have hd:decide ((q:Int) < P)=true:=decide_eq_true hlt;clear hq;go_wp2_with fail
    go_round
    case rel=>exact⟨k+1,by omega,by omega,by go_num⟩
    case measure=>simp[intOf];omega
  . have hd:decide ((q:Int) < P)=false:=decide_eq_false hlt
    clear hq;go_wp2_with fail;go_ret;exact⟨k,rfl,hk1,hk2,rfl⟩
theorem qe {odd n:Nat}(ho:odd<=1)(hn:n<=200001):ev odd n<=200000000000:=by
 unfold ev
 have:=oY (show 2*n+odd<=400003 by omega) (show 2*n+odd-1<=400003 by omega)
 omega
theorem Be (odd n a:Nat)(w:World)(hk:KC 51 w a #[.int .u64 ((odd:Nat):Int)])(ho:odd<=1)(hn1:1<=n)(hn:n<=200001):
 Calls oM 164 #[.int .u64 (n:Int),.pointer (some ⟨a,0,none⟩)] w fun r w'=>r=.returned (.int .u64 (ev odd n:Int))/\w=w':=by
 have k0:=hk.at_ 0 _ rfl;have kl:=hk.2;have hD:Hid (ev odd n=(2*n+odd)*(2*n+odd-1)):=lY rfl;have hDs:=qe ho hn;obtain⟨q,hq⟩:=du (2*n+odd)
 have w1:IntKind.u64.wrap (2*(n:Int))=2*(n:Int):=by rw[mF];omega
 have w2:IntKind.u64.wrap (2*(n:Int)+(odd:Int))=(q:Int):=by rw[mF];omega
 obtain⟨q',hq'⟩:=du (q-1)
 have w3:IntKind.u64.wrap ((q:Int)-1)=(q':Int):=by rw[mF];omega
 obtain⟨D,hD2⟩:=du (ev odd n)
 have w4:IntKind.u64.wrap ((q:Int)*(q':Int))=(D:Int):=by
  have e:(q:Int)*(q':Int)=(D:Int):=by
   rw[hD2,hD.out,← hq,← hq'];exact(Int.natCast_mul q q').symm
  rw[e,mF];omega
 rw[← hD2];clear hD hDs hq hq' hD2;go_enter Tryz.func164,Tryz.ntmps164;go_wp2_with fail;go_ret;exact⟨rfl,rfl⟩
theorem qw {B odd a:Nat}(w:World)(hkc:KC 51 w a #[.int .u64 ((odd:Nat):Int)])(ho:odd<=1)(h:am w v Z)(hZ:2*Z<=2^B)(hB:B<=100000):
 Calls oM 154 #[v,.int .i64 (B:Int),.func (.func 164) #[] #[.pointer (some ⟨a,0,none⟩)]] w (NP w (fi (ev odd) Z B (B+1))):=by
 have hZ2:nb Z<=B+1:=by
  have h1:Z<=2^B:=by omega
  have:=bQ h1
  rw[lb]at this;exact this
 have bA:=ag w (cw 1);have nA:=iN (Bf w 1 _ (by unfold ai;omega) rfl) (by omega);have SL:=lY (oV (s:=B) _ nA (by rw[sX];omega) (by omega));rw[Gm]at SL;have HF:=lY (fun k=>CW (D:=ev odd) hZ k);have HS:=lY (fun k (hk:k < 2^20)=>CX (D:=ev odd) (k:=k) hZ hk);have HE:=lY (fun k (hk:B < k)=>iy (D:=ev odd) (b:=B) (n:=k) hZ hk);have HST:=lY (fun k j (hk:dQ (ev odd) Z B k=0)=>tu hk j);clear nA;go_enter EM,Bx;go_wp2_with fail;refine SL.out.mono ?_;rintro e' w1 ⟨A1,p1,c1,rfl,n1,b⟩;have b1:=aB bA b;clear SL bA b;go_wp2_with fail
 go_loopw [7,8,9] (fun s7 s8 s9 wr=>∃ (k:Nat) (A:OA) (p c:Nat) (A':OA) (p' c':Nat),k<=B+1/\s7=.slice A p c/\s8=.slice A' p' c'/\s9=.int .u64 ((k+1:Nat):Int)/\am wr (.slice A p c) (dQ (ev odd) Z B k)/\am wr (.slice A' p' c') (fi (ev odd) Z B k)/\Below w.heap.size w wr) (fun _ _ s9 _=>B+3-(intOf s9).toNat)
 case atStart=>exact⟨0,A1,p1,c1,A1,p1,c1,by omega,rfl,rfl,rfl,n1,n1,b1⟩
 case round =>
  obtain⟨k,A,p,c,A',p',c',hk,rfl,rfl,rfl,nT,nS,bw⟩:=hrel
  by_cases h0:dQ (ev odd) Z B k=0
  . obtain rfl:p=0:=(iu nT).2 h0
    have hst:=(HST.out k (B+1-k) h0).2;rw[show k+(B+1-k)=B+1 by omega]at hst;go_wp2_with fail;go_ret;exact⟨A',p',c',rfl,by rw[hst];exact nS,bw⟩
  . have hp:p≠0:=fun h=>h0 ((iu nT).1 h)
    have hd:decide ((0:Int) < (p:Int))=true:=decide_eq_true (by omega)
    have hk2:k<=B:=by
     rcases tz B k with h1 | h1
     . exact absurd (HE.out k h1) h0
     . exact h1
    have hf:=HF.out k;have hf2:=HF.out (k+1);have hs:=HS.out k (by omega);obtain⟨D,hDq⟩:=du (ev odd (k+1));have hDs:=qe (n:=k+1) ho (by omega);have hD0:=(oA (odd:=odd)).pos k;have MU:=lY (zC wr nT (h.below bw) (by omega) (by omega));have hpr:=qU (dQ (ev odd) Z B k) Z;have hnx:Hid (dQ (ev odd) Z B (k+1)=dQ (ev odd) Z B k*Z/2^B/D):=lY (by rw[hDq];rfl);have hns:Hid (fi (ev odd) Z B (k+1)=fi (ev odd) Z B k+dQ (ev odd) Z B (k+1)):=lY rfl;go_wp2_with fail;refine MU.out.mono ?_;rintro e' w2 ⟨A2,p2,c2,rfl,n2,b⟩;have b2:=aB bw b;replace nS:=nS.below b;clear MU b nT;have SR:=lY (Bh (s:=B) w2 n2 (by omega) (by omega));go_wp2_with fail;refine SR.out.mono ?_;rintro e' w3 ⟨A3,p3,c3,rfl,n3,b⟩;have b3:=aB b2 b;replace nS:=nS.below b;clear SR b n2 b2;have PW:=lY (Be odd (k+1) a w3 (hkc.adv b3) ho (by omega) (by omega));rw[show((k+1:Nat):Int)=(k:Int)+1 from rfl,← hDq]at PW;rw[← hDq]at hDs hD0;clear hDq;go_wp2_with fail;refine PW.out.mono ?_;rintro e' w4 ⟨rfl,rfl⟩;have bb:=ag w3 (cw D);have n4:=iN (Bf w3 D _ (by unfold ai;omega) rfl) (by omega);replace n3:=n3.below bb;replace nS:=nS.below bb;have b4:=aB b3 bb;have hk1:nb D<=64:=(bi _ 64).2 (by have h64:(2:Nat)^64=18446744073709551616:=(by decide);omega);have hd3:nb (dQ (ev odd) Z B k*Z/2^B)<=1000000:=qK (bQ (yb _ _)) (by omega);have DV:=lY (Ff _ n3 n4 (by omega) (by omega) (by omega));clear bb b3 n3 n4 PW;go_wp2_with fail;refine DV.out.mono ?_;rintro e' w6 ⟨A6,p6,c6,A7,p7,c7,rfl,n6,_,b⟩;have b6:=aB b4 b;replace nS:=nS.below b;clear DV b b4;rw[← hnx.out]at n6;have AD:=lY (Co w6 nS n6 (by omega) (by omega));rw[← hns.out]at AD;go_wp2_with fail;refine AD.out.mono ?_;rintro e' w7 ⟨A8,p8,c8,rfl,n8,b⟩;have b7:=aB b6 b;replace n6:=n6.below b;go_wp2_with fail;go_roundw
    case rel=>exact⟨k+1,A6,p6,c6,A8,p8,c8,by omega,rfl,rfl,by go_num,n6,n8,b7⟩
    case measure=>simp[intOf];omega
end Go.Proofs.YtmbmohibpkepdaaGreatDoor
