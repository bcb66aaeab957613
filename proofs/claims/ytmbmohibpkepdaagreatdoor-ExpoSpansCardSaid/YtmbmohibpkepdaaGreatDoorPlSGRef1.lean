import Derived.Test.YtmbmohibpkepdaaGreatDoorPlSGNat3
set_option maxHeartbeats 1000000
open Go.Lib renaming hid->lY
open Nat renaming le_refl->mF, mul_comm->oY, add_zero->qK, eq_zero_or_pos->tz, mul_le_mul_right->yb, zero_add->Bl, zero_mul->DE, zero_le->DF, mul_le_mul_left->EM, lt_of_mul_lt_mul_right->Gk, add_sub_cancel->Gl, add_mul->Gm, mul_assoc->Gn, mul_le_mul->Gp, mul_add->Gq, div_mul_le_self->Gr, lt_of_le_of_lt->Gs, pow_zero->Gt, add_comm->Gu, lt_or_ge->Gv, le_trans->Gw, le_add_right->Gx, min_le_right->Gy, pow_one->Gz, mul_one->GC, div_le_self->GD, min_le_left->GF, mul_succ->GH, one_mul->GJ, mod_lt->GK
open Go.Proofs.Tryz renaming underlying22->ou, prog->oM, ntmps186->GG, func186->GI
open Int renaming eq_ofNat_of_zero_le->Bx, natCast_mul->GE
namespace Go.Proofs.YtmbmohibpkepdaaGreatDoor
open Go.RowKit
variable {D L N a b cy g k low p rem:Nat} {F X Y d f y:Nat->Nat} {t:TypeId} {w wr:World}
def dg (x:Nat->Nat)(j:Nat):Nat:=x (j/4)/65536^(j%4)%65536
theorem iz (x:Nat->Nat)(j:Nat):dg x j < 65536:=GK _ (by omega)
theorem tO (x:Nat->Nat)(i k:Nat)(h:k < 4):dg x (4*i+k)=x i/65536^k%65536:=by
 unfold dg;rw[show(4*i+k)/4=i by omega,show(4*i+k)%4=k by omega]
theorem EQ (n:Nat):65536^(4*n)=ai^n:=by
 rw[Nat.pow_mul];congr 1
theorem Ep (x:Nat->Nat)(n:Nat)(h:∀ j,j < n->x j < ai):vs 65536 (dg x) (4*n)=vs ai x n:=by
 induction n with
 | zero=>rfl
 | succ n ih =>
  have h1:=h n (by omega);rw[GH,cW,ih (fun j hj=>h j (by omega)),EQ,aA ai x n]
  have e:vs 65536 (fun j=>dg x (4*n+j)) 4=x n:=by
   simp only[vs,Bl];rw[tO x n 0 (by omega),tO x n 1 (by omega),tO x n 2 (by omega),tO x n 3 (by omega)];unfold ai at h1;simp only[Gt,Nat.div_one,Gz,GC];omega
  rw[e,oY]
def fm (w:World)(x:Nat->Nat)(n:Nat)(e:Ending)(w':World):Prop:=∃ A c,e=.returned (.slice A (tl (dg x) (4*n)) c)/\Sl w' A (tl (dg x) (4*n)) c (dg x)/\Below w.heap.size w w'
theorem dR (A:OA)(n c:Nat)(x:Nat->Nat)(w:World)(h:Sl w A n c x)(hn:n<=200000):
 Calls oM 116 #[.slice A n c] w (fm w x n):=by
 go_enter Tryz.func116,Tryz.ntmps116
 go_wp2
 go_loopw [3,4] (fun v i wr=>∃ k:Nat,k<=n/\i=.int .i64 (k:Int)/\ig 51 wr w.heap.size v (4*k) (dg x)/\Below w.heap.size w wr) (fun _ i _=>n-(intOf i).toNat)
 case atStart=>exact⟨0,DF _,rfl,ig.nil _ _ _ _,Below.refl _ _⟩
 case round =>
  obtain⟨k,hk,rfl,hown,hbw⟩:=hrel
  by_cases hlt:k < n
  . obtain⟨ad,rfl,hb,hx64,hcell⟩:=(h.below hbw).at_ hlt
    obtain⟨wo,rfl⟩:∃ wo:World,wo=wr:=⟨_,rfl⟩
    go_wp2
    go_loopw [3,5,6] (fun v z i wr=>∃ m:Nat,m<=4/\i=.int .i64 (m:Int)/\z=.int .u64 ((x k/65536^m:Nat):Int)/\ig 51 wr w.heap.size v (4*k+m) (dg x)/\Below w.heap.size w wr) (fun _ _ i _=>4-(intOf i).toNat)
    case atStart=>exact⟨0,by omega,rfl,by simp,hown,hbw⟩
    case round =>
     clear hown hbw hcell hb;obtain⟨m,hm,rfl,rfl,hown,hbw⟩:=hrel
     by_cases hm4:m < 4
     . have hz:x k/65536^m<=18446744073709551615:=by
        have:=GD (x k) (65536^m)
        unfold ai at hx64;omega
       have hdg:Hid (dg x (4*k+m)=x k/65536^m%65536):=lY (tO x k m hm4);have hnext:Hid (x k/65536^(m+1)=x k/65536^m/65536):=lY (by rw[Nat.pow_succ,Nat.div_div_eq_div_mul]);generalize x k/65536^m=z at *
       go_wp2_with (at_builtin;refine br rfl (.tmp 21) (.tmp 24) 22 rfl w.heap.size 51 ou a6 _ (4*k+m) (dg x) rfl hown (z%65536) _ (by simp) rfl (by unfold ai;omega) (by omega) hbw.size ?_;intro v1 w1 hown1 hbel)
       go_roundw
       case rel=>exact⟨m+1,by omega,by go_num,by rw[hnext.out];rfl,hown1.congr (fun j hj=>by unfold fF;split;(rename_i e;rw[e,hdg.out]);rfl),hbel _ _ (mF _) hbw⟩
       case measure=>simp[intOf];omega
     . obtain rfl:m=4:=by omega
       go_wp2
       go_roundw
       case rel=>exact⟨k+1,by omega,by go_num,by rw[GH];exact hown,hbw⟩
       case measure=>simp[intOf];omega
  . obtain rfl:k=n:=by omega
    obtain⟨A2,c2,rfl,s2,_⟩:=hown.sl;go_wp2_with fail;refine(lk A2 (4*k) c2 (dg x) wr s2 (by omega)).mono ?_;rintro e w5 ⟨rfl,rfl⟩;go_wp2_with fail;go_ret;exact⟨A2,c2,rfl,s2.take (cJ _ _),hbw⟩
def eU (f:Nat->Nat)(m:Nat):Nat->Nat:=fun j=>if j < m then f j else 0
theorem BE {m:Nat}(h:∀ j,j < m->f j < 65536)(j:Nat):eU f m j < 65536:=by
 unfold eU;split
 . exact h j (by assumption)
 . omega
def wd (d:Nat->Nat)(t:Nat):Nat:=vs 65536 (fun j=>d (4*t+j)) 4
theorem Ej (h:∀ j,d j < 65536)(t:Nat):wd d t < ai:=by
 have:=bL (b:=65536) (f:=fun j=>d (4*t+j)) (n:=4) (fun j _=>h _)
 exact this
theorem Ei {t j:Nat}(hj:j < 4)(h:d (4*t+j)≠0):wd d t≠0:=by
 unfold wd;simp only[vs,Bl]
 have:j=0\/j=1\/j=2\/j=3:=by omega
 rcases this with rfl | rfl | rfl | rfl <;> omega
theorem Ek (d:Nat->Nat)(t:Nat):vs 65536 (fun j=>d (4*t+j)) 4=wd d t:=by unfold wd;rfl
theorem El (d:Nat->Nat)(T:Nat):vs ai (wd d) T=vs 65536 d (4*T):=by
 induction T with
 | zero=>rw[Nat.mul_zero,aL,aL]
 | succ T ih =>
  have h1:=cW 65536 d (4*T) 4;rw[Ek,EQ,← ih]at h1;have h2:=aA ai (wd d) T
  have h3:4*(T+1)=4*T+4:=by omega
  rw[h3,h1,h2,oY]
theorem Bz (h:∀ j,d j < 65536)(s K:Nat)(hK:1<=K):vs 65536 (fun j=>d (s+K+j)) (4-K)<=281474976710655:=by
 have h1:=bL (b:=65536) (f:=fun j=>d (s+K+j)) (n:=4-K) (fun j _=>h _);have h2:65536^(4-K)<=65536^3:=Nat.pow_le_pow_right (by omega) (by omega);omega
theorem xw (d:Nat->Nat)(s K:Nat)(hK:K < 4):vs 65536 (fun j=>d (s+K+j)) (4-K)=vs 65536 (fun j=>d (s+(K+1)+j)) (4-(K+1))*65536+d (s+K):=by
 obtain⟨r,hr⟩:∃ r,4-K=r+1:=⟨3-K,by omega⟩;rw[hr,fv,show 4-(K+1)=r by omega,oY,Gu]
 congr 2
 exact bg fun j _=>by congr 1;omega
theorem ik (A:OA)(n c:Nat)(f:Nat->Nat)(w:World)(h:Sl w A n c f)(hd:∀ j,j < n->f j < 65536)(hn:n<=1000000):
 Calls oM 189 #[.slice A n c] w (cU w (vs 65536 f n)):=by
 have hl:=cJ f n;have hs:=h.take hl;have hcn:=fT f n;rw[← dK 65536 f n];have C:=lY (lk A n c f w h hn);have hp:Hid (∀ j,eU f (tl f n) j < 65536):=lY (BE fun j hj=>hd j (by omega));clear hd h;generalize tl f n=m at *;go_enter Tryz.func189,Tryz.ntmps189;go_wp2_with fail;refine C.out.mono ?_;rintro e w' ⟨rfl,rfl⟩;go_wp2_with fail
 go_loopw [3,4] (fun v s4 wr=>∃ t i:Nat,i<=m+3/\s4=.int .i64 (i:Int)/\Hid (i=4*t)/\ig 51 wr w.heap.size v t (wd (eU f m))/\Below w.heap.size w wr) (fun _ i _=>m+4-(intOf i).toNat)
 case atStart=>exact⟨0,0,by omega,rfl,lY rfl,ig.nil _ _ _ _,Below.refl _ _⟩
 case round =>
  obtain⟨t,i,hi,rfl,hit,hown,hbw⟩:=hrel
  by_cases hlt:i < m
  . obtain⟨wo,rfl⟩:∃ wo:World,wo=wr:=⟨_,rfl⟩
    have hsw:=hs.below hbw
    go_wp2
    go_loop [5,6] (fun s5 s6q=>∃ K z:Nat,K<=4/\s6q=.int .i64 ((K:Int)-1)/\s5=.int .u64 (z:Int)/\Hid (z=vs 65536 (fun j=>eU f m (i+K+j)) (4-K))) (fun _ i=>(intOf i+1).toNat)
    case atStart=>exact⟨4,0,by omega,rfl,rfl,lY rfl⟩
    case round =>
     obtain⟨K,z,hK,rfl,rfl,hz⟩:=hrel
     rcases K with _ | K
     . have hz':Hid (z=wd (eU f m) t):=lY (by rw[hz.out,hit.out];rfl)
       have hzB:z < ai:=by rw[hz'.out];exact Ej hp.out t
       clear hz
       go_wp2_with (at_builtin;refine br rfl (.tmp 35) (.tmp 37) 22 rfl w.heap.size 51 ou a6 _ t (wd (eU f m)) rfl hown z _ rfl rfl hzB (by have:=hit.out;omega) hbw.size ?_;intro v1 w1 hown1 hbel)
       go_roundw
       case rel=>exact⟨t+1,i+4,by omega,by go_num,lY (by rw[hit.out];omega),hown1.congr (fun j hj=>by unfold fF;split;(rename_i e;rw[e,hz'.out]);rfl),hbel _ _ (mF _) hbw⟩
       case measure=>simp[intOf];omega
     . rw[show(((K+1:Nat):Int)-1)=(K:Int) from by omega]
       have hzb:z<=281474976710655:=by rw[hz.out];exact Bz hp.out i (K+1) (by omega)
       have hst:=lY (xw (eU f m) i K (by omega))
       by_cases hik:i+K < m
       . obtain⟨ad,rfl,hb,hx64,hcell⟩:=hsw.at_ hik
         have hfd:f (i+K)<=65535:=by have:=hp.out (i+K);unfold eU at this;rw[if_pos hik]at this;omega
         have hpd:Hid (eU f m (i+K)=f (i+K)):=lY (by unfold eU;rw[if_pos hik]);generalize f (i+K)=y at *
         go_wp2
         go_round
         case rel=>exact⟨K,z*65536+y,by omega,by go_num,by go_num,lY (by rw[hst.out,← hz.out,hpd.out])⟩
         case measure=>simp[intOf]
       . have hpd:Hid (eU f m (i+K)=0):=lY (by unfold eU;rw[if_neg hik])
         go_wp2
         go_round
         case rel=>exact⟨K,z*65536,by omega,by go_num,by go_num,lY (by rw[hst.out,← hz.out,hpd.out,qK])⟩
         case measure=>simp[intOf]
  . obtain⟨A2,c2,rfl,s2,_⟩:=hown.sl
    go_wp2_with fail;go_ret;refine⟨_,rfl,⟨A2,t,c2,_,rfl,s2,?_,?_⟩,hbw⟩
    . rcases tz t with h0 | h0
      . exact .inl h0
      . have hit':=hit.out
        rcases hcn with hm | hm
        . omega
        . refine .inr (Ei (j:=m-1-4*(t-1)) (by omega) ?_)
          rw[show 4*(t-1)+(m-1-4*(t-1))=m-1 by omega]
          unfold eU;rw[if_pos (by omega)];exact hm
    . rw[El]
      have hit':=hit.out;exact fl 65536 f m (4*t) (by omega)
theorem gL {A:OA}{n c:Nat}{x:Nat->Nat}(h:Sl w A n c x):vs 65536 (dg x) (tl (dg x) (4*n))=vs ai x n:=by rw[dK,Ep x n h.small]
theorem yW (A B:OA)(n m c d:Nat)(x y:Nat->Nat)(w:World)(ha:Sl w A n c x)(hb:Sl w B m d y)(hn:n<=200000)(hm:m<=200000):
 Calls oM 64 #[.slice A n c,.slice B m d] w (rL w (cQ (vs ai x n) (vs ai y m))):=by
 rw[← gL ha,← gL hb];have D1:=lY (dR A n c x w ha hn);have l1:=cJ (dg x) (4*n);have l2:=cJ (dg y) (4*m);have c1:=fT (dg x) (4*n);have c2:=fT (dg y) (4*m);go_enter Tryz.func64,Tryz.ntmps64;go_wp2_with fail;refine D1.out.mono ?_;rintro e w1 ⟨A1,c3,rfl,s1,b1⟩;go_wp2_with fail;refine(dR B m d y w1 (hb.below b1) hm).mono ?_;rintro e w2 ⟨A2,c4,rfl,s2,b2⟩;go_wp2_with fail;refine(jo A1 A2 _ _ c3 c4 (dg x) (dg y) w2 (s1.below b2) s2 c1 c2 (fun j _=>iz x j) (fun j _=>iz y j) (by omega) (by omega)).mono ?_;rintro e w3 ⟨rfl,b3⟩;go_wp2_with fail;go_ret;exact⟨rfl,b1.trans ((b2.trans (b3.mono b2.size)).mono b1.size)⟩
def Carry (F X Y:Nat->Nat)(k cy:Nat):Prop:=cy<=1/\(∀ j,j < k->F j < 65536)/\vs 65536 F k+cy*65536^k=vs 65536 X k+vs 65536 Y k
theorem Carry.step (h:Carry F X Y k cy)(ha:X k=a)(hb:Y k=b)(ha':a < 65536)(hb':b < 65536):Carry (fF F k ((cy+a+b)%65536)) X Y (k+1) ((cy+a+b)/65536):=by
 obtain⟨h1,h2,h3⟩:=h;refine⟨by omega,fun j hj=>?_,?_⟩
 . unfold fF;split
   . omega
   . exact h2 j (by omega)
 . rw[aA,aA,aA,bO,dU _ _ _ _ _ (mF _),ha,hb]
   exact kI h3 (by omega)
theorem qs (f:Nat->Nat)(m n:Nat)(h:m<=n):vs 65536 (eU f m) n=vs 65536 f m:=fl 65536 f m n h
theorem yY (A B:OA)(n m c d:Nat)(x y:Nat->Nat)(w:World)(ha:Sl w A n c x)(hb:Sl w B m d y)(hn:n<=100000)(hm:m<=100000):
 Calls oM 163 #[.slice A n c,.slice B m d] w (cU w (vs ai x n+vs ai y m)):=by
 rw[← gL ha,← gL hb];have D1:=lY (dR A n c x w ha (by omega))
 have D2:Hid (∀ w1,Below w.heap.size w w1->Calls oM 116 #[.slice B m d] w1 (fm w1 y m)):=lY fun w1 b1=>dR B m d y w1 (hb.below b1) (by omega)
 have l1:=cJ (dg x) (4*n);have l2:=cJ (dg y) (4*m);unfold fm at D1 D2;have G1:Hid (∀ j,dg x j < 65536):=lY (iz x);have G2:Hid (∀ j,dg y j < 65536):=lY (iz y);generalize dg x=X at *;generalize dg y=Y at *;generalize tl X (4*n)=p at *;generalize tl Y (4*m)=q at *;go_enter Tryz.func163,Tryz.ntmps163;go_wp2_with fail;refine D1.out.mono ?_;rintro e w1 ⟨A1,c3,rfl,s1,b1⟩;go_wp2_with fail;refine(D2.out w1 b1).mono ?_;rintro e w2 ⟨A2,c4,rfl,s2,b2⟩;have s1':=s1.below b2;have b12:Below w.heap.size w w2:=b1.trans (b2.mono b1.size);clear s1 b1 b2;go_wp2_with fail
 go_loopw [7,8,9] (fun v s8 s9 wr=>∃ k cy F,k<=max p q/\s9=.int .i64 ((k:Nat):Int)/\s8=.int .u64 ((cy:Nat):Int)/\ig 51 wr w2.heap.size v k F/\Carry F (eU X p) (eU Y q) k cy/\Below w2.heap.size w2 wr) (fun _ _ i _=>max p q-(intOf i).toNat)
 case atStart=>exact⟨0,0,X,DF _,rfl,rfl,ig.nil _ _ _ _,⟨by omega,fun j h=>absurd h (by omega),by simp[aL]⟩,Below.refl _ _⟩
 case round =>
  obtain⟨k,cy,F,hk,rfl,rfl,hown,hcar,hbw⟩:=hrel;have hcy:=hcar.1
  by_cases hkp:k < p
  . obtain⟨ad,rfl,hb1,hx64,hc1⟩:=(s1'.below hbw).at_ hkp
    have g1:=G1.out k;have hX:Hid (eU X p k=X k):=lY (by unfold eU;rw[if_pos hkp])
    by_cases hkq:k < q
    . obtain⟨bd,rfl,hb2,hy64,hc2⟩:=(s2.below hbw).at_ hkq
      have g2:=G2.out k;have hY:Hid (eU Y q k=Y k):=lY (by unfold eU;rw[if_pos hkq]);have hst:=lY (hcar.step hX.out hY.out g1 g2);generalize X k=a at *;generalize Y k=b at *
      go_wp2_with (at_builtin;refine br rfl (.tmp 48) (.tmp 51) 22 rfl w2.heap.size 51 ou a6 _ k F rfl hown ((cy+a+b)%65536) _ (by omega) rfl (by unfold ai;omega) (by omega) hbw.size ?_;intro v1 w3 hown1 hbel)
      go_roundw
      case rel=>exact⟨k+1,(cy+a+b)/65536,_,by omega,by go_num,by go_num,hown1,hst.out,hbel _ _ (mF _) hbw⟩
      case measure=>simp[intOf];omega
    . have hY:Hid (eU Y q k=0):=lY (by unfold eU;rw[if_neg hkq])
      have hst:=lY (hcar.step hX.out hY.out g1 (by omega));generalize X k=a at *
      go_wp2_with (at_builtin;refine br rfl (.tmp 48) (.tmp 51) 22 rfl w2.heap.size 51 ou a6 _ k F rfl hown ((cy+a+0)%65536) _ (by omega) rfl (by unfold ai;omega) (by omega) hbw.size ?_;intro v1 w3 hown1 hbel)
      go_roundw
      case rel=>exact⟨k+1,(cy+a+0)/65536,_,by omega,by go_num,by go_num,hown1,hst.out,hbel _ _ (mF _) hbw⟩
      case measure=>simp[intOf];omega
  . have hX:Hid (eU X p k=0):=lY (by unfold eU;rw[if_neg hkp])
    by_cases hkq:k < q
    . obtain⟨bd,rfl,hb2,hy64,hc2⟩:=(s2.below hbw).at_ hkq
      have g2:=G2.out k;have hY:Hid (eU Y q k=Y k):=lY (by unfold eU;rw[if_pos hkq]);have hst:=lY (hcar.step hX.out hY.out (by omega) g2);generalize Y k=b at *
      go_wp2_with (at_builtin;refine br rfl (.tmp 48) (.tmp 51) 22 rfl w2.heap.size 51 ou a6 _ k F rfl hown ((cy+0+b)%65536) _ (by omega) rfl (by unfold ai;omega) (by omega) hbw.size ?_;intro v1 w3 hown1 hbel)
      go_roundw
      case rel=>exact⟨k+1,(cy+0+b)/65536,_,by omega,by go_num,by go_num,hown1,hst.out,hbel _ _ (mF _) hbw⟩
      case measure=>simp[intOf];omega
    . have hkpq:k=max p q:=by omega
      have hfin:Hid (vs 65536 (fF F k cy) (k+1)=vs 65536 X p+vs 65536 Y q):=lY (by
       rw[aA,bO,dU _ _ _ _ _ (mF _),hcar.2.2,qs _ _ _ (by omega),qs _ _ _ (by omega)])
      have hdig:Hid (∀ j,j < k+1->fF F k cy j < 65536):=lY (fun j hj=>by
       unfold fF;split
       . omega
       . exact hcar.2.1 j (by omega))
      clear hkpq
      go_wp2_with (at_builtin;refine br rfl (.tmp 55) (.tmp 57) 22 rfl w2.heap.size 51 ou a6 _ k F rfl hown cy _ rfl rfl (by unfold ai;omega) (by omega) hbw.size ?_;intro v1 w3 hown1 hbel)
      obtain⟨A3,c5,rfl,s3q,_⟩:=hown1.sl;refine(ik A3 (k+1) c5 _ w3 s3q hdig.out (by omega)).mono ?_;rintro e w4 ⟨v4,rfl,hnum,b4⟩;rw[hfin.out]at hnum;go_wp2_with fail;go_ret;have hb3:=hbel _ _ (mF _) hbw;exact⟨v4,rfl,hnum,b12.trans ((hb3.trans (b4.mono hb3.size)).mono b12.size)⟩
def ii (t:TypeId)(w wr:World)(g N off a:Nat)(F y:Nat->Nat)(k cy:Nat):Prop :=
 ∃ F',cy < 65536/\dG t wr g N F'/\az w wr g/\(∀ j,j < N->F' j < 65536)/\(∀ j,j < off\/off+k<=j->F' j=F j) /\
  vs 65536 (fun j=>F' (off+j)) k+cy*65536^k=vs 65536 (fun j=>F (off+j)) k+vs 65536 (fun j=>a*y j) k
theorem ii.step {off:Nat}{F':Nat->Nat}{s:Nat}(hcy:cy < 65536)(hrow:dG t wr g N F')(hon:az w wr g)(hd:∀ j,j < N->F' j < 65536)
 (hag:∀ j,j < off\/off+k<=j->F' j=F j) (hv:vs 65536 (fun j=>F' (off+j)) k+cy*65536^k=vs 65536 (fun j=>F (off+j)) k+vs 65536 (fun j=>a*y j) k)
 (hs:F' (off+k)=s) (hb:y k=b) (ha':a < 65536) (hb':b < 65536) (hs':s < 65536) :
 ii t w (wr.setCell ⟨g,off+k,none⟩ (.int .u64 (((s+a*b+cy)%65536:Nat):Int))) g N off a F y (k+1) ((s+a*b+cy)/65536):=by
 have hm:a*b<=65535*65535:=Gp (by omega) (by omega)
 have hr:(s+a*b+cy)%65536 < ai:=by unfold ai;omega
 refine⟨fF F' (off+k) ((s+a*b+cy)%65536),by omega,hrow.set_ _ _ hr,hon.set_ _ _,fun j hj=>?_,fun j hj=>?_,?_⟩
 . unfold fF;split
   . omega
   . exact hd j hj
 . rw[aU _ _ _ _ (by omega)];exact hag j (by omega)
 . rw[aA,aA,aA,bO]
   have e:vs 65536 (fun j=>fF F' (off+k) ((s+a*b+cy)%65536) (off+j)) k=vs 65536 (fun j=>F' (off+j)) k:=bg fun j hj=>aU _ _ _ _ (by omega)
   rw[e,← hag (off+k) (by omega),hs,hb];exact kI hv (by omega)
theorem ii.drewN {off:Nat}(h:ii t w wr g N off a F y k cy)(n:Nat):ii t w (wr.drewN n) g N off a F y k cy:=by
 obtain⟨F',h1,h2,h3,h4⟩:=h;exact⟨F',h1,h2,⟨h3.os,h3.tape,h3.output,h3.size,h3.block⟩,h4⟩
def rI (t:TypeId)(w wr:World)(g N q:Nat)(x y:Nat->Nat)(i:Nat):Prop :=
 ∃ F,dG t wr g N F/\Below g w wr/\(∀ j,j < N->F j < 65536)/\vs 65536 F (i+q)=vs 65536 x i*vs 65536 y q/\∀ j,i+q<=j->j < N->F j=0
theorem uB {w3:World}{q i:Nat}{x:Nat->Nat}(hxi:x i=a)(hb:Below g w wr)(hg:g < wr.heap.size)
 (hv:vs 65536 F (i+q)=vs 65536 x i*vs 65536 y q) (hz:∀ j,i+q<=j->j < N->F j=0) (h:ii t wr w3 g N i a F y q cy) :
 rI t w (w3.setCell ⟨g,i+q,none⟩ (.int .u64 ((cy:Nat):Int))) g N q x y (i+1):=by
 obtain⟨F',h1,h2,h3,hd,h4,h5⟩:=h
 have hcy:cy < ai:=by unfold ai;omega
 refine⟨fF F' (i+q) cy,h2.set_ _ _ hcy,(az.below hb h3 (by omega) (mF _)).setCell (mF _) _,fun j hj=>?_,?_,fun j hj hjN=>?_⟩
 . unfold fF;split
   . exact h1
   . exact hd j hj
 . have e1:i+1+q=i+q+1:=by omega
   rw[e1,aA,bO,dU _ _ _ _ _ (mF _),cW,aA,hxi,Gm,← hv,cW 65536 F]
   have e2:vs 65536 F' i=vs 65536 F i:=bg fun j hj=>h4 j (by omega)
   rw[ul]at h5
   have e3:65536^i*(vs 65536 (fun j=>F' (i+j)) q+cy*65536^q)=65536^i*(vs 65536 (fun j=>F (i+j)) q+a*vs 65536 y q):=by rw[h5]
   rw[Gq,Gq]at e3
   have e4:cy*65536^(i+q)=65536^i*(cy*65536^q):=by rw[Nat.pow_add];ac_rfl
   have e5:a*65536^i*vs 65536 y q=65536^i*(a*vs 65536 y q):=by ac_rfl
   omega
 . rw[aU _ _ _ _ (by omega),h4 j (by omega)];exact hz j (by omega) hjN
theorem yQ (A B:OA)(n m c d:Nat)(x y:Nat->Nat)(w:World)(ha:Sl w A n c x)(hb:Sl w B m d y)(hn:n<=100000)(hm:m<=100000):
 Calls oM 161 #[.slice A n c,.slice B m d] w (cU w (vs ai x n*vs ai y m)):=by
 rw[← gL ha,← gL hb];have D1:=lY (dR A n c x w ha (by omega))
 have D2:Hid (∀ w1,Below w.heap.size w w1->Calls oM 116 #[.slice B m d] w1 (fm w1 y m)):=lY fun w1 b1=>dR B m d y w1 (hb.below b1) (by omega)
 have l1:=cJ (dg x) (4*n);have l2:=cJ (dg y) (4*m);unfold fm at D1 D2;have G1:Hid (∀ j,dg x j < 65536):=lY (iz x);have G2:Hid (∀ j,dg y j < 65536):=lY (iz y);generalize dg x=X at *;generalize dg y=Y at *;generalize tl X (4*n)=p at *;generalize tl Y (4*m)=q at *
 have hmk:∀ u:World,(Instr.makeSlice 22 (.int .i64 ((p:Int)+(q:Int))) (.int .i64 ((p:Int)+(q:Int)))).run oM u =
  .ok (.slice (some ⟨u.heap.size,0,none⟩) (p+q) (p+q)) (u.alloc (.cells (madeCells #[.int .u64 0] (p+q)) 51)):=fun u=>by
  have h:=ec (p+q) (by omega) u;rw[Int.natCast_add]at h;exact h
 go_enter Tryz.func161,Tryz.ntmps161;go_wp2_with fail;refine D1.out.mono ?_;rintro e w1 ⟨A1,c3,rfl,s1,b1⟩;go_wp2_with fail;refine(D2.out w1 b1).mono ?_;rintro e w2 ⟨A2,c4,rfl,s2,b2⟩;have s1':=s1.below b2;have b12:Below w.heap.size w w2:=b1.trans (b2.mono b1.size);clear s1 b1 b2
 have h00:rI 51 w2 (w2.alloc (.cells (madeCells #[.int .u64 0] (p+q)) 51)) w2.heap.size (p+q) q X Y 0 :=
  ⟨_,dG.made 51 w2 (p+q),(Below.refl _ w2).alloc (mF _) _,fun _ _=>by omega,by
   rw[aL,DE,Bl]
   have:∀ k,vs 65536 (fun _=>0) k=0:=fun k=>by induction k with | zero=>rfl | succ k ih=>rw[aA,ih];simp
   exact this q,fun _ _ _=>rfl⟩
 generalize hN:p+q=N at *;have HN:=lY hN
 have hN1:p+q<=N:=by omega
 have hN2:N<=p+q:=by omega
 clear hN;go_wp2_with fail
 go_loopw [8] (fun s8 wr=>∃ i:Nat,i<=p/\s8=.int .i64 (i:Int)/\rI 51 w2 wr w2.heap.size N q X Y i) (fun s8 _=>p-(intOf s8).toNat)
 case atStart=>exact⟨0,DF _,rfl,h00⟩
 case round =>
  clear h00 hmk;obtain⟨i,hi,rfl,F,hrow,hbw,hd,hv,hz⟩:=hrel;have hv':=lY hv;have hz':=lY hz;have hd':=lY hd;clear hv hz hd
  by_cases hlt:i < p
  . obtain⟨wo,rfl⟩:∃ wo:World,wo=wr:=⟨_,rfl⟩
    have g1:=G1.out i;have xs:=s1'.below hbw;have ys:=s2.below hbw;obtain⟨adx,hA1,hbx,_,hcx⟩:=xs.at_ hlt;clear hbx;generalize hXi:X i=a at *;have HXi:=lY hXi;clear hXi;subst hA1;go_wp2_with fail
    go_loopw [9,10] (fun s9 s10 wr=>∃ k cy:Nat,k<=q/\s10=.int .i64 (k:Int)/\s9=.int .u64 (cy:Int)/\ii 51 wo wr w2.heap.size N i a F Y k cy) (fun _ s10 _=>q-(intOf s10).toNat)
    case atStart=>exact⟨0,0,DF _,rfl,rfl,F,by omega,hrow,az.refl _ _,hd'.out,fun _ _=>rfl,by simp[aL]⟩
    case round =>
     obtain⟨k,cy,hk,rfl,rfl,F',hcy,hrow',hon,hdd,hag,hvv⟩:=hrel
     by_cases hkq:k < q
     . have hne:adx.block≠w2.heap.size:=s1'.far (mF _) (by omega) adx rfl
       have hc1:wr.cell? (adx.add i)=some (.int .u64 (a:Int)):=(World.cell?_of_block (hon.block _ (World.block_lt_of_cell? _ _ hcx) (by rw[ao];simpa using hne))).trans hcx;obtain⟨bd,rfl,hb2,_,hc2⟩:=(ys.only hon (s2.far (mF _))).at_ hkq;have g2:=G2.out k;have hrc:=hrow'.cell (i:=i+k) (by omega);have hrf:=hrow'.frozen (i+k);have hs':=hdd (i+k) (by omega);have hst:=lY (ii.step hcy hrow' hon hdd hag hvv rfl rfl g1 g2 hs');clear hag hvv hdd hcx hne;generalize F' (i+k)=s at *;generalize Y k=b at *
       have hpr:a*b<=4294836225:=by have:a*b<=65535*65535:=Gp (by omega) (by omega);omega
       have q5:IntKind.u64.wrap ((a:Int)*(b:Int))=((a*b:Nat):Int):=by rw[← GE];exact iH _ (by omega)
       generalize a*b=pr at *;have q6:IntKind.u64.wrap ((s:Int)+(pr:Int))=(s:Int)+(pr:Int):=IntWalk.u64_in _ (by omega);have q7:IntKind.u64.wrap ((s:Int)+(pr:Int)+(cy:Int))=(s:Int)+(pr:Int)+(cy:Int):=IntWalk.u64_in _ (by omega);have q1:IntKind.i64.wrap ((i:Int)+(k:Int))=(i:Int)+(k:Int):=IntWalk.i64_in _ (by omega)
       have q2:0<=(i:Int)+(k:Int):=by omega
       have q3:((i:Int)+(k:Int)).toNat=i+k:=by omega
       have q4:(i:Int)+(k:Int) < (N:Int):=by omega
       go_wp2_with fail
       go_quiet (fail)
       clear q1 q2 q3 q4 q5 q6 q7;have hrc':(wr.drewN nq).cell? ⟨w2.heap.size,i+k,none⟩=some (.int .u64 (s:Int)):=hrc;have hrf':(wr.drewN nq).frozen? ⟨w2.heap.size,i+k,none⟩=false:=hrf;go_wp2_with fail;go_roundw
       case rel=>exact⟨k+1,(s+pr+cy)/65536,by omega,by go_num,by go_num,hst.out.drewN nq⟩
       case measure=>simp[intOf];omega
     . obtain rfl:k=q:=by omega
       have hrc:=hrow'.cell (i:=i+k) (by omega);have hrf:=hrow'.frozen (i+k);have hfin:=lY (uB HXi.out hbw hrow.lt hv'.out hz'.out ⟨F',hcy,hrow',hon,hdd,hag,hvv⟩);clear hag hvv hdd;go_wp2_with fail;go_roundw
       case rel=>exact⟨i+1,by omega,by go_num,hfin.out⟩
       case measure=>simp[intOf];omega
  . obtain rfl:i=p:=by omega
    go_wp2_with fail;refine(ik _ N N F wr (hrow.sl0 N N (mF _) (mF _)) hd'.out (by omega)).mono ?_;rintro e w5 ⟨v5,rfl,hnum,b5⟩;rw[← HN.out,hv'.out]at hnum;go_wp2_with fail;go_ret;exact⟨v5,rfl,hnum,b12.trans ((hbw.trans (b5.mono hbw.size)).mono b12.size)⟩
def me (F X Y:Nat->Nat)(k bw:Nat):Prop:=bw<=1/\(∀ j,j < k->F j < 65536)/\vs 65536 F k+vs 65536 Y k=vs 65536 X k+bw*65536^k
theorem me.step {bw:Nat}(h:me F X Y k bw)(ha:X k=a)(hb:Y k=b)(ha':a < 65536)(hb':b < 65536):me (fF F k ((a+65536-bw-b)%65536)) X Y (k+1) (1-(a+65536-bw-b)/65536):=by
 obtain⟨h1,h2,h3⟩:=h;refine⟨by omega,fun j hj=>?_,?_⟩
 . unfold fF;split
   . omega
   . exact h2 j (by omega)
 . rw[aA,aA,aA,bO,dU _ _ _ _ _ (mF _),ha,hb]
   exact rW h3 (by omega)
theorem me.end_ {q bw:Nat}(h:me F X (eU Y q) p bw)(hq:q<=p)(hle:vs 65536 Y q<=vs 65536 X p):vs 65536 F p=vs 65536 X p-vs 65536 Y q:=by
 obtain⟨_,h2,h3⟩:=h;rw[qs _ _ _ hq]at h3;have h4:=bL h2
 rcases tz bw with h0 | h0
 . subst h0;omega
 . have h5:1*65536^p<=bw*65536^p:=yb _ h0
   omega
def wM (w:World)(n V:Nat)(e:Ending)(w':World):Prop :=
 ∃ A k c F,e=.returned (.slice A k c)/\Sl w' A k c F/\k<=n/\(∀ j,j < k->F j < 65536)/\Cn k F/\vs 65536 F k=V/\Below w.heap.size w w'
theorem pQ (A B:OA)(p q c d:Nat)(X Y:Nat->Nat)(w:World)(s1:Sl w A p c X)(s2:Sl w B q d Y)(g1:∀ j,j < p->X j < 65536)(g2:∀ j,j < q->Y j < 65536)(hq:q<=p)(hp:p<=900000)
 (hle:vs 65536 Y q<=vs 65536 X p):Calls oM 188 #[.slice A p c,.slice B q d] w (wM w p (vs 65536 X p-vs 65536 Y q)):=by
 have G1:=lY g1;have G2:=lY g2;have HLE:=lY hle;clear g1 g2 hle;go_enter Tryz.func188,Tryz.ntmps188;go_wp2_with fail
 go_loopw [5,6,7] (fun v s6q s7 wr=>∃ k bw F,k<=p/\s7=.int .i64 ((k:Nat):Int)/\s6q=.int .u64 ((bw:Nat):Int)/\ig 51 wr w.heap.size v k F/\me F X (eU Y q) k bw/\Below w.heap.size w wr) (fun _ _ i _=>p-(intOf i).toNat)
 case atStart=>exact⟨0,0,X,DF _,rfl,rfl,ig.nil _ _ _ _,⟨by omega,fun j h=>absurd h (by omega),by simp[aL]⟩,Below.refl _ _⟩
 case round =>
  obtain⟨k,bw,F,hk,rfl,rfl,hown,hbor,hbw⟩:=hrel;have hcy:=hbor.1
  by_cases hkp:k < p
  . obtain⟨ad,rfl,hb1,hx64,hc1⟩:=(s1.below hbw).at_ hkp
    have g1:=G1.out k hkp
    by_cases hkq:k < q
    . obtain⟨bd,rfl,hb2,hy64,hc2⟩:=(s2.below hbw).at_ hkq
      have g2:=G2.out k hkq;have hY:Hid (eU Y q k=Y k):=lY (by unfold eU;rw[if_pos hkq]);have hst:=lY (hbor.step rfl hY.out g1 g2);generalize X k=a at *;generalize Y k=b at *
      go_wp2_with (at_builtin;refine br rfl (.tmp 32) (.tmp 35) 22 rfl w.heap.size 51 ou a6 _ k F rfl hown ((a+65536-bw-b)%65536) _ (by omega) rfl (by unfold ai;omega) (by omega) hbw.size ?_;intro v1 w3 hown1 hbel)
      go_roundw
      case rel=>exact⟨k+1,1-(a+65536-bw-b)/65536,_,by omega,by go_num,by go_num,hown1,hst.out,hbel _ _ (mF _) hbw⟩
      case measure=>simp[intOf];omega
    . have hY:Hid (eU Y q k=0):=lY (by unfold eU;rw[if_neg hkq])
      have hst:=lY (hbor.step rfl hY.out g1 (by omega));generalize X k=a at *
      go_wp2_with (at_builtin;refine br rfl (.tmp 32) (.tmp 35) 22 rfl w.heap.size 51 ou a6 _ k F rfl hown ((a+65536-bw-0)%65536) _ (by omega) rfl (by unfold ai;omega) (by omega) hbw.size ?_;intro v1 w3 hown1 hbel)
      go_roundw
      case rel=>exact⟨k+1,1-(a+65536-bw-0)/65536,_,by omega,by go_num,by go_num,hown1,hst.out,hbel _ _ (mF _) hbw⟩
      case measure=>simp[intOf];omega
  . obtain rfl:k=p:=by omega
    obtain⟨A2,c2,rfl,s3q,_⟩:=hown.sl;go_wp2_with fail;refine(lk A2 k c2 F wr s3q (by omega)).mono ?_;rintro e w5 ⟨rfl,rfl⟩;go_wp2_with fail;go_ret;have l:=cJ F k;exact⟨A2,_,c2,F,rfl,s3q.take l,l,fun j hj=>hbor.2.1 j (by omega),fT F k,by rw[dK,hbor.end_ hq HLE.out],hbw⟩
theorem yM (A B:OA)(n m c d:Nat)(x y:Nat->Nat)(w:World)(ha:Sl w A n c x)(hb:Sl w B m d y)(hn:n<=200000)(hm:m<=200000)(hle:vs ai y m<=vs ai x n):
 Calls oM 180 #[.slice A n c,.slice B m d] w (qn w (vs ai x n-vs ai y m)):=by
 rw[← gL ha,← gL hb]at hle ⊢;have D1:=lY (dR A n c x w ha hn);have l1:=cJ (dg x) (4*n);have l2:=cJ (dg y) (4*m);have c1:=fT (dg x) (4*n);have c2:=fT (dg y) (4*m);have hqp:tl (dg y) (4*m)<=tl (dg x) (4*n):=ib (by omega) c2 (Gs hle (bL (fun j _=>iz x j)));go_enter Tryz.func180,Tryz.ntmps180;go_wp2_with fail;refine D1.out.mono ?_;rintro e w1 ⟨A1,c3,rfl,s1,b1⟩;go_wp2_with fail;refine(dR B m d y w1 (hb.below b1) hm).mono ?_;rintro e w2 ⟨A2,c4,rfl,s2,b2⟩;have s1':=s1.below b2;have C:=jo A1 A2 _ _ c3 c4 (dg x) (dg y) w2 s1' s2 c1 c2 (fun j _=>iz x j) (fun j _=>iz y j) (by omega) (by omega)
 obtain⟨r,hr0,hr1⟩:∃ r:Nat,cQ (vs 65536 (dg x) (tl (dg x) (4*n))) (vs 65536 (dg y) (tl (dg y) (4*m)))=(r:Int)/\r<=1:=by
  rcases Gv (vs 65536 (dg y) (tl (dg y) (4*m))) (vs 65536 (dg x) (tl (dg x) (4*n))) with h | h
  . exact⟨1,by rw[cO h];rfl,by omega⟩
  . exact⟨0,by rw[Nat.le_antisymm h hle,eA];rfl,by omega⟩
 rw[hr0]at C;have HC:=lY C;clear C hr0;go_wp2_with fail;refine HC.out.mono ?_;rintro e w3 ⟨rfl,b3⟩;go_wp2_with fail;refine(pQ A1 A2 _ _ c3 c4 (dg x) (dg y) w3 (s1'.below b3) (s2.below b3) (fun j _=>iz x j) (fun j _=>iz y j) hqp (by omega) hle).mono ?_;rintro e w4 ⟨A5,k,c5,F,rfl,s5,hkn,hF,hcF,hvF,b4⟩;have HV:=lY hvF;clear hvF;go_wp2_with fail;refine(ik A5 k c5 F w4 s5 hF (by omega)).mono ?_;rintro e w5 ⟨v5,rfl,hnum,b5⟩;rw[HV.out]at hnum;go_wp2_with fail
 go_ret2
 refine⟨v5,rfl,hnum,?_⟩;have b34:=b3.trans (b4.mono b3.size);have b345:=b34.trans (b5.mono b34.size);exact b1.trans ((b2.trans (b345.mono b2.size)).mono b1.size)
def FM (V S k:Nat):Prop:=S*S<=V/\V < (S+2^k)*(S+2^k)
def iC (F y:Nat->Nat)(d k cy:Nat):Prop:=(∀ j,j < k->F j < 65536)/\vs 65536 F k+cy*65536^k=vs 65536 y k*d
theorem tS {V Y d:Nat}(hD:0 < D)(h:V+cy*D^k=Y*d)(hY:Y < D^k)(hd:d<=D):cy < D:=by
 have hp:0 < D^k:=Nat.pow_pos hD;have h1:Y*d<=Y*D:=EM _ hd;have h2:Y*D < D^k*D:=Nat.mul_lt_mul_of_pos_right hY hD
 have h3:cy*D^k < D*D^k:=by rw[oY D];omega
 exact Gk h3
theorem iC.carry {d:Nat}(h:iC F y d k cy)(hy:∀ j,j < k->y j < 65536)(hd:d<=65536):cy < 65536 :=
 tS (D:=65536) (by omega) h.2 (bL hy) hd
theorem iC.step {d:Nat}(h:iC F y d k cy)(hb:y k=b)(hp:p=b*d):iC (fF F k ((p+cy)%65536)) y d (k+1) ((p+cy)/65536):=by
 obtain⟨h2,h3⟩:=h;refine⟨fun j hj=>?_,?_⟩
 . unfold fF;split
   . omega
   . exact h2 j (by omega)
 . rw[aA,aA,bO,dU _ _ _ _ _ (mF _),hb,Gm]
   have h4:=kI (V:=vs 65536 F k) (S:=vs 65536 y k*d) (Y:=0) (s:=p) (y:=0) (c:=cy) (b:=65536) (n:=k) (r:=(p+cy)%65536) (d:=(p+cy)/65536) (by omega) (by omega);rw[DE]at h4
   have e:b*65536^k*d=p*65536^k:=by rw[hp];ac_rfl
   rw[e];omega
theorem po (A:OA)(n c:Nat)(y:Nat->Nat)(d:Nat)(w:World)(hs:Sl w A n c y)(hy:∀ j,j < n->y j < 65536)(hn:n<=500000)(hd:d<=65536):
 Calls oM 187 #[.slice A n c,.int .u64 (d:Int)] w (wM w (n+1) (vs 65536 y n*d)):=by
 have G:=lY hy;clear hy;go_enter Tryz.func187,Tryz.ntmps187;go_wp2_with fail
 go_loopw [5,6,7] (fun v s6q s7 wr=>∃ k cy F,k<=n/\s7=.int .i64 ((k:Nat):Int)/\s6q=.int .u64 ((cy:Nat):Int)/\ig 51 wr w.heap.size v k F/\iC F y d k cy/\Below w.heap.size w wr) (fun _ _ i _=>n-(intOf i).toNat)
 case atStart=>exact⟨0,0,y,DF _,rfl,rfl,ig.nil _ _ _ _,⟨fun j h=>absurd h (by omega),by rw[aL,DE,DE]⟩,Below.refl _ _⟩
 case round =>
  obtain⟨k,cy,F,hk,rfl,rfl,hown,hinv,hbw⟩:=hrel;have hcy:=hinv.carry (fun j hj=>G.out j (by omega)) hd
  by_cases hlt:k < n
  . obtain⟨ad,rfl,hb1,_,hc1⟩:=(hs.below hbw).at_ hlt
    have g1:=G.out k hlt
    have hpb:y k*d<=4294901760:=by have:y k*d<=65535*65536:=Gp (by omega) (by omega);omega
    have em:IntKind.u64.wrap ((y k:Int)*(d:Int))=((y k*d:Nat):Int):=by rw[← GE];exact iH _ (by omega)
    have hst:=lY (hinv.step rfl rfl);generalize y k*d=p at *;generalize y k=b at *
    go_wp2_with (at_builtin;refine br rfl (.tmp 23) (.tmp 26) 22 rfl w.heap.size 51 ou a6 _ k F rfl hown ((p+cy)%65536) _ (by omega) rfl (by unfold ai;omega) (by omega) hbw.size ?_;intro v1 w3 hown1 hbel)
    go_roundw
    case rel=>exact⟨k+1,(p+cy)/65536,_,by omega,by go_num,by go_num,hown1,hst.out,hbel _ _ (mF _) hbw⟩
    case measure=>simp[intOf];omega
  . obtain rfl:k=n:=by omega
    have hfin:Hid (vs 65536 (fF F k cy) (k+1)=vs 65536 y k*d):=lY (by rw[aA,bO,dU _ _ _ _ _ (mF _),hinv.2])
    have hdig:Hid (∀ j,j < k+1->fF F k cy j < 65536):=lY (fun j hj=>by
     unfold fF;split
     . omega
     . exact hinv.1 j (by omega))
    go_wp2_with (at_builtin;refine br rfl (.tmp 30) (.tmp 32) 22 rfl w.heap.size 51 ou a6 _ k F rfl hown cy _ rfl rfl (by unfold ai;omega) (by omega) hbw.size ?_;intro v1 w3 hown1 hbel)
    have hb3:=hbel _ _ (mF _) hbw;obtain⟨A3,c5,rfl,s3q,_⟩:=hown1.sl;refine(lk A3 (k+1) c5 _ w3 s3q (by omega)).mono ?_;rintro e w4 ⟨rfl,rfl⟩;go_wp2_with fail;go_ret;have l:=cJ (fF F k cy) (k+1);exact⟨A3,_,c5,_,rfl,s3q.take l,l,fun j hj=>hdig.out j (by omega),fT _ _,by rw[dK,hfin.out],hb3⟩
def jR (f:Nat->Nat)(n j:Nat):Nat:=if j < n then f j else 0
def vv (w:World)(L Y:Nat)(e:Ending)(w':World):Prop:=∃ g:Nat,e=.returned (.int .u64 (g:Int))/\g<=65535/\g*Y<=L/\w=w'
theorem uD {o y0 l1 l0:Nat}(hg:g<=o/(y0*65536+1))(ho:o=(l1*65536+l0)*65536)(hL:l1*65536+l0<=L):g*y0<=L:=by
 have h1:g*(y0*65536+1)<=o:=Gw (yb _ hg) (Gr _ _);rw[Gq,← Gn]at h1;omega
theorem uC {o top P Y:Nat}(hg:g<=o/(top+1))(hY:Y<=(top+1)*P)(hL:o*P<=L):g*Y<=L:=by
 have h1:g*(top+1)<=o:=Gw (yb _ hg) (Gr _ _);have h2:g*Y<=g*((top+1)*P):=EM _ hY;have h3:g*(top+1)*P<=o*P:=yb _ h1;rw[Gn]at h3;omega
theorem vA (f:Nat->Nat):vs 65536 f 2=f 1*65536+f 0:=by
 simp only[vs,Gt,GC,Bl,Gz];omega
def gw (f:Nat->Nat)(p n:Nat):Nat->Nat
 | 0=>0
 | t+1=>gw f p n t*65536+(if t<=n then jR f p (n-t) else 0)
theorem D7 (h:∀ j,j < p->f j < 65536)(j:Nat):jR f p j < 65536:=by
 unfold jR;split
 . exact h j (by assumption)
 . omega
theorem DA {n:Nat}(h:∀ j,j < p->f j < 65536):gw f p n 0=0/\gw f p n 1<=65535/\gw f p n 2<=4294967295/\gw f p n 3<=281474976710655:=by
 have d:∀ t,(if t<=n then jR f p (n-t) else 0) < 65536:=fun t=>by
  split
  . exact D7 h _
  . omega
 have d0:=d 0;have d1:=d 1;have d2:=d 2;have e1:gw f p n 1=gw f p n 0*65536+(if 0<=n then jR f p (n-0) else 0):=rfl;have e2:gw f p n 2=gw f p n 1*65536+(if 1<=n then jR f p (n-1) else 0):=rfl;have e3:gw f p n 3=gw f p n 2*65536+(if 2<=n then jR f p (n-2) else 0):=rfl;have e0:gw f p n 0=0:=rfl;refine⟨e0,by omega,by omega,by omega⟩
theorem mm (A B:OA)(p n c d:Nat)(f y:Nat->Nat)(top:Nat)(w:World)(s1:Sl w A p c f)(s2:Sl w B n d y)(hf:∀ j,j < p->f j < 65536)(hy:∀ j,j < n->y j < 65536)(hn:1<=n)(hn':n<=900000)(hp':p<=900000)
 (htop:(n=1/\top=y 0*65536)\/(2<=n/\top=y (n-1)*65536+y (n-2))) :
 Calls oM 186 #[.slice A p c,.slice B n d] w fun e w'=>e=.returned (.int .u64 ((min (gw f p n 3/(top+1)) 65535:Nat):Int))/\w=w':=by
 obtain⟨o0,o1,o2,o3⟩:=DA (n:=n) hf
 have HS:Hid (∀ t,gw f p n (t+1)=gw f p n t*65536+(if t<=n then jR f p (n-t) else 0)):=lY fun _=>rfl
 have G:=lY hf;clear hf
 have ho:Hid (∀ t,t<=3->gw f p n t<=281474976710655):=lY fun t ht=>by
  have:t=0\/t=1\/t=2\/t=3:=by omega
  rcases this with rfl | rfl | rfl | rfl <;> omega
 have ho2:Hid (∀ t,t<=2->gw f p n t<=4294967295):=lY fun t ht=>by
  have:t=0\/t=1\/t=2:=by omega
  rcases this with rfl | rfl | rfl <;> omega
 have h00:Hid (gw f p n 0=0):=lY rfl;clear o0 o1 o2
 have ht1:top<=4294967295:=by
  rcases htop with⟨_,h⟩ | ⟨h1,h⟩
  . have:=hy 0 (by omega);omega
  . have:=hy (n-1) (by omega);have:=hy (n-2) (by omega);omega
 have hle:gw f p n 3/(top+1)<=gw f p n 3:=GD _ _
 have eq1:IntKind.u64.wrap ((gw f p n 3:Int)/((top:Int)+1))=((gw f p n 3/(top+1):Nat):Int):=by
  rw[show((gw f p n 3:Int)/((top:Int)+1))=((gw f p n 3/(top+1):Nat):Int) from rfl];exact iH _ (by omega)
 generalize gw f p n 3/(top+1)=Q at *;obtain⟨bd,rfl,hb1,y1B,c1⟩:=s2.at_ (k:=n-1) (by omega);have y1:=hy (n-1) (by omega)
 rcases htop with⟨rfl,htop⟩ | ⟨h2,htop⟩
 . have HT:=lY htop
   have et:((y 0:Int))*65536=(top:Int):=by omega
   rw[show bd.add (1-1)=bd from by simp[Addr.add]]at c1;clear htop;go_enter GI,GG;go_wp2_with fail
   go_loop [7,8] (fun s7 s8=>∃ (t o:Nat) (i:Int),t<=3/\i<=(1:Int)-(t:Int)/\(1:Int)-(t:Int)<=i/\s8=.int .i64 i/\s7=.int .u64 (o:Int)/\Hid (o=gw f p 1 t)) (fun _ s8=>(intOf s8-((1:Int)-3)).toNat)
   case atStart=>exact⟨0,0,(1:Int),by omega,by omega,by omega,rfl,rfl,h00⟩
   case round =>
    obtain⟨t,o,i,ht,hi1,hi2,rfl,rfl,ho'⟩:=hrel
    by_cases ht3:t < 3
    . have hob:o<=4294967295:=by rw[ho'.out];exact ho2.out t (by omega)
      have hnx:=lY (HS.out t)
      by_cases hi0:0<=i
      . obtain⟨j,rfl⟩:=Bx hi0
        have hjt:j=1-t:=by omega
        have htn:t<=1:=by omega
        by_cases hjp:j < p
        . obtain⟨ad,rfl,_,_,hcell⟩:=s1.at_ hjp
          have hfj:=G.out j hjp;have hval:Hid (gw f p 1 (t+1)=o*65536+f j):=lY (by rw[hnx.out,if_pos htn,← hjt,← ho'.out];unfold jR;rw[if_pos hjp]);generalize f j=z at *;clear hjt;go_wp2_with fail
          go_round
          case rel=>exact⟨t+1,o*65536+z,(j:Int)-1,by omega,by omega,by omega,rfl,by go_num,lY hval.out.symm⟩
          case measure=>simp[intOf];omega
        . have hval:Hid (gw f p 1 (t+1)=o*65536):=lY (by rw[hnx.out,if_pos htn,← hjt,← ho'.out];unfold jR;rw[if_neg hjp,qK])
          clear hjt;go_wp2_with fail
          go_round
          case rel=>exact⟨t+1,o*65536,(j:Int)-1,by omega,by omega,by omega,rfl,by go_num,lY hval.out.symm⟩
          case measure=>simp[intOf];omega
      . have hval:Hid (gw f p 1 (t+1)=o*65536):=lY (by rw[hnx.out,if_neg (by omega),← ho'.out,qK])
        have hgB:decide ((0:Int)<=i)=false:=by simp;omega
        go_wp2_with fail
        go_round
        case rel=>exact⟨t+1,o*65536,i-1,by omega,by omega,by omega,rfl,by go_num,lY hval.out.symm⟩
        case measure=>simp[intOf];omega
    . obtain rfl:t=3:=by omega
      have hoe:=ho'.out;rw[← hoe]at eq1
      have ho3:o<=281474976710655:=by rw[hoe];exact ho.out 3 (by omega)
      clear hoe ho';go_wp2_with fail;go_ret;refine⟨?_,rfl⟩
      first | (simp;done) | (simp;omega)
 . obtain⟨k,rfl⟩:∃ k,n=k+2:=⟨n-2,by omega⟩
   obtain⟨_,e0,_,_,c0⟩:=s2.at_ (k:=k) (by omega)
   injection e0 with e0
   subst e0;have y0:=hy k (by omega);simp only[show k+2-1=k+1 by omega,show k+2-2=k by omega]at c1 y1 htop;rw[show bd.add (k+1)=⟨bd.block,bd.off+(k+1),none⟩ from by simp[Addr.add]]at c1
   have et:((y (k+1):Int))*65536+(y k:Int)=(top:Int):=by omega
   clear htop hy;generalize y (k+1)=z1 at *;generalize y k=z0 at *;go_enter GI,GG;go_wp2_with fail
   go_loop [7,8] (fun s7 s8=>∃ (t o:Nat) (i:Int),t<=3/\i<=((k:Int)+2)-(t:Int)/\((k:Int)+2)-(t:Int)<=i/\s8=.int .i64 i/\s7=.int .u64 (o:Int)/\Hid (o=gw f p (k+2) t)) (fun _ s8=>(intOf s8-(((k:Int)+2)-3)).toNat)
   case atStart=>exact⟨0,0,((k:Int)+2),by omega,by omega,by omega,rfl,rfl,h00⟩
   case round =>
    obtain⟨t,o,i,ht,hi1,hi2,rfl,rfl,ho'⟩:=hrel
    by_cases ht3:t < 3
    . have hob:o<=4294967295:=by rw[ho'.out];exact ho2.out t (by omega)
      have hnx:=lY (HS.out t)
      by_cases hi0:0<=i
      . obtain⟨j,rfl⟩:=Bx hi0
        have hjt:j=(k+2)-t:=by omega
        have htn:t<=(k+2):=by omega
        by_cases hjp:j < p
        . obtain⟨ad,rfl,_,_,hcell⟩:=s1.at_ hjp
          have hfj:=G.out j hjp;have hval:Hid (gw f p (k+2) (t+1)=o*65536+f j):=lY (by rw[hnx.out,if_pos htn,← hjt,← ho'.out];unfold jR;rw[if_pos hjp]);generalize f j=z at *;clear hjt;go_wp2_with fail
          go_round
          case rel=>exact⟨t+1,o*65536+z,(j:Int)-1,by omega,by omega,by omega,rfl,by go_num,lY hval.out.symm⟩
          case measure=>simp[intOf];omega
        . have hval:Hid (gw f p (k+2) (t+1)=o*65536):=lY (by rw[hnx.out,if_pos htn,← hjt,← ho'.out];unfold jR;rw[if_neg hjp,qK])
          clear hjt;go_wp2_with fail
          go_round
          case rel=>exact⟨t+1,o*65536,(j:Int)-1,by omega,by omega,by omega,rfl,by go_num,lY hval.out.symm⟩
          case measure=>simp[intOf];omega
      . exfalso;omega
    . obtain rfl:t=3:=by omega
      have hoe:=ho'.out;rw[← hoe]at eq1
      have ho3:o<=281474976710655:=by rw[hoe];exact ho.out 3 (by omega)
      clear hoe ho';go_wp2_with fail;go_ret;refine⟨?_,rfl⟩
      first | (simp;done) | (simp;omega)
theorem BH (hL:vs 65536 f p=L):((jR f p (k+2)*65536+jR f p (k+1))*65536+jR f p k)*65536^k<=L:=by
 have h1:vs 65536 (jR f p) (p+(k+3))=vs 65536 f p:=fl 65536 f p _ (by omega);rw[← hL,← h1,show p+(k+3)=k+(3+p) by omega,cW,cW]
 have e:vs 65536 (fun j=>jR f p (k+j)) 3=(jR f p (k+2)*65536+jR f p (k+1))*65536+jR f p k:=by
  simp only[vs,Gt,GC,Bl,Gz,qK];omega
 rw[e,oY];exact Gw (EM _ (Gx _ _)) (Nat.le_add_left _ _)
theorem xx :gw f p (k+2) 3=(jR f p (k+2)*65536+jR f p (k+1))*65536+jR f p k:=by
 have e1:gw f p (k+2) 1=gw f p (k+2) 0*65536+(if 0<=k+2 then jR f p (k+2-0) else 0):=rfl;have e2:gw f p (k+2) 2=gw f p (k+2) 1*65536+(if 1<=k+2 then jR f p (k+2-1) else 0):=rfl;have e3:gw f p (k+2) 3=gw f p (k+2) 2*65536+(if 2<=k+2 then jR f p (k+2-2) else 0):=rfl;have e0:gw f p (k+2) 0=0:=rfl;rw[e3,e2,e1,e0,if_pos (by omega),if_pos (by omega),if_pos (by omega),show k+2-0=k+2 by omega,show k+2-1=k+1 by omega,show k+2-2=k by omega];omega
theorem BG :gw f p 1 3=(jR f p 1*65536+jR f p 0)*65536:=by
 have e1:gw f p 1 1=gw f p 1 0*65536+(if 0<=1 then jR f p (1-0) else 0):=rfl;have e2:gw f p 1 2=gw f p 1 1*65536+(if 1<=1 then jR f p (1-1) else 0):=rfl;have e3:gw f p 1 3=gw f p 1 2*65536+(if 2<=1 then jR f p (1-2) else 0):=rfl;have e0:gw f p 1 0=0:=rfl;rw[e3,e2,e1,e0,if_pos (by omega),if_pos (by omega),if_neg (by omega),show 1-0=1 by omega,show 1-1=0 by omega];omega
theorem uE (A B:OA)(p n c d:Nat)(f y:Nat->Nat)(w:World)(s1:Sl w A p c f)(s2:Sl w B n d y)(hf:∀ j,j < p->f j < 65536)(hy:∀ j,j < n->y j < 65536)(hn:1<=n)(hn':n<=900000)(hp':p<=900000):
 Calls oM 186 #[.slice A p c,.slice B n d] w (vv w (vs 65536 f p) (vs 65536 y n)):=by
 rcases Gv n 2 with h | h
 . obtain rfl:n=1:=by omega
   refine(mm A B p 1 c d f y (y 0*65536) w s1 s2 hf hy hn hn' hp' (.inl ⟨rfl,rfl⟩)).mono fun e w' ⟨he,hw⟩=>⟨_,he,Gy _ _,?_,hw⟩
   have hv:vs 65536 y 1=y 0:=by rw[aA,aL];simp
   rw[hv];refine uD (GF _ _) BG ?_;have h2:vs 65536 (jR f p) (p+2)=vs 65536 f p:=fl 65536 f p _ (by omega);have h3:=cW 65536 (jR f p) 2 p;rw[show 2+p=p+2 by omega,h2,vA]at h3
   rw[h3];exact Gx _ _
 . obtain⟨k,rfl⟩:∃ k,n=k+2:=⟨n-2,by omega⟩
   refine(mm A B p (k+2) c d f y (y (k+1)*65536+y k) w s1 s2 hf hy hn hn' hp' (.inr ⟨h,rfl⟩)).mono fun e w' ⟨he,hw⟩=>⟨_,he,Gy _ _,?_,hw⟩
   have h1:=BH (k:=k) (f:=f) (p:=p) rfl;rw[← xx]at h1;refine uC (P:=65536^k) (GF _ _) ?_ h1;have h2:=bL (fun j hj=>hy j (by omega):∀ j,j < k->y j < 65536)
   have e:vs 65536 y (k+2)=vs 65536 y k+65536^k*(y (k+1)*65536+y k):=by rw[cW,vA];simp only[qK]
   rw[e,Gm,GJ,oY (65536^k)];omega
theorem ig.one (t:TypeId)(w:World)(a:Nat)(ha:a < ai):ig t (w.alloc (.cells #[.int .u64 ((a:Nat):Int)] t)) w.heap.size (.slice (some ⟨w.heap.size,0,none⟩) 1 1) 1 (fun _=>a) :=
 ⟨⟨by rw[bs],.inr ⟨w.heap.size,1,_,rfl,mF _,heap_alloc_new w _,mF _,by simp only[maxLen];omega,by simp,by rfl⟩⟩,fun _ _=>ha⟩
theorem um (b a:Nat)(R:Nat->Nat)(l:Nat):vs b (kx (fun _=>a) 1 R) (1+l)=a+b*vs b R l:=by
 rw[cW,aA,aL]
 have e:vs b (fun j=>kx (fun _=>a) 1 R (1+j)) l=vs b R l:=bg fun j _=>by
  unfold kx;rw[if_neg (by omega),show 1+j-1=j by omega]
 rw[e];simp[kx]
def jN (X F:Nat->Nat)(p k D rem:Nat):Prop :=
 rem < D/\(∀ j,F j < 65536)/\vs 65536 (fun j=>X (k+j)) (p-k)=vs 65536 (fun j=>F (k+j)) (p-k)*D+rem
theorem Bq {X1 Q r:Nat}(h:X1=Q*D+rem)(hL:a+65536*rem=L)(hr:L=low*D+r):a+65536*X1=(low+65536*Q)*D+r:=by
 rw[h,Gq,Gm]
 have:65536*(Q*D)=65536*Q*D:=by rw[Gn]
 omega
theorem jN.step {i:Nat}(h:jN X F p (i+1) D rem)(hi:i < p)(ha:X i=a)(hL:a+65536*rem=L)(hlow:low < 65536)(h1:low*D<=L)(h2:L < (low+1)*D):
 jN X (fF F i low) p i D (L-low*D):=by
 obtain⟨hr,hF,hv⟩:=h;refine⟨?_,fun j=>?_,?_⟩
 . rw[Gm,GJ]at h2;omega
 . unfold fF;split
   . exact hlow
   . exact hF j
 . obtain⟨m,hm⟩:∃ m,p-i=m+1:=⟨p-i-1,by omega⟩
   have hm':p-(i+1)=m:=by omega
   rw[hm,fv,fv];rw[hm']at hv
   have e1:vs 65536 (fun j=>X (i+(j+1))) m=vs 65536 (fun j=>X (i+1+j)) m:=bg fun j _=>by rw[show i+(j+1)=i+1+j by omega]
   have e2:vs 65536 (fun j=>fF F i low (i+(j+1))) m=vs 65536 (fun j=>F (i+1+j)) m:=bg fun j _=>by rw[aU _ _ _ _ (by omega),show i+(j+1)=i+1+j by omega]
   rw[e1,e2];simp only[qK];rw[bO,ha];exact Bq hv hL (by omega)
theorem zI (h1:low*D<=L)(hL:a+65536*rem=L)(ha:a < 65536)(hr:rem < D):low < 65536:=by
 have h:low*D < 65536*D:=by omega
 exact Gk h
theorem jN.fin (h:jN X F p 0 D rem):vs 65536 F p=vs 65536 X p/D/\rem=vs 65536 X p%D:=by
 obtain⟨hr,_,hv⟩:=h;simp only[Bl,Nat.sub_zero]at hv;rw[hv];refine⟨?_,?_⟩
 . rw[oY,Nat.mul_add_div (by omega),Nat.div_eq_of_lt hr,qK]
 . rw[oY,Nat.mul_add_mod,Nat.mod_eq_of_lt hr]
theorem yU (A B:OA)(n m c d:Nat)(x y:Nat->Nat)(w:World)(ha:Sl w A n c x)(hb:Sl w B m d y)(hn:n<=100000)(hm:m<=100000)(h0:0 < vs ai y m):
 Calls oM 159 #[.slice A n c,.slice B m d] w (lB w (vs ai x n/vs ai y m) (vs ai x n%vs ai y m)):=by
 have hq0:0 < tl (dg y) (4*m):=by
  rcases tz (tl (dg y) (4*m)) with h | h
  . exfalso
    have:=gL hb
    rw[h,aL]at this;omega
  . exact h
 rw[← gL ha,← gL hb]at *;have D1:=lY (dR A n c x w ha (by omega))
 have D2:Hid (∀ w1,Below w.heap.size w w1->Calls oM 116 #[.slice B m d] w1 (fm w1 y m)):=lY fun w1 b1=>dR B m d y w1 (hb.below b1) (by omega)
 have l1:=cJ (dg x) (4*n);have l2:=cJ (dg y) (4*m);unfold fm at D1 D2;have G1:Hid (∀ j,dg x j < 65536):=lY (iz x);have G2:Hid (∀ j,dg y j < 65536):=lY (iz y);generalize dg x=X at *;generalize dg y=Y at *;generalize tl X (4*n)=p at *;generalize tl Y (4*m)=q at *;have HYq:=lY (bL (b:=65536) (f:=Y) (n:=q) fun j _=>G2.out j)
 have hqb:((q:Int) == 0)=false:=by simp;omega
 have hmk:∀ u:World,(Instr.makeSlice 22 (.int .i64 (p:Int)) (.int .i64 (p:Int))).run oM u =
  .ok (.slice (some ⟨u.heap.size,0,none⟩) p p) (u.alloc (.cells (madeCells #[.int .u64 0] p) 51)):=fun u=>ec p (by omega) u
 go_enter Tryz.func159,Tryz.ntmps159;go_wp2_with fail;refine D1.out.mono ?_;rintro e w1 ⟨A1,c3,rfl,s1,b1⟩;go_wp2_with fail;refine(D2.out w1 b1).mono ?_;rintro e w2 ⟨A2,c4,rfl,s2,b2⟩;have s1':=s1.below b2;have b12:Below w.heap.size w w2:=b1.trans (b2.mono b1.size);clear s1 b1 b2 D1 D2;have row0:=dG.made 51 w2 p;have bel0:Below w2.heap.size w2 (w2.alloc (.cells (madeCells #[.int .u64 0] p) 51)):=(Below.refl _ w2).alloc (mF _) _;go_wp2_with fail
 go_loopw [9,11] (fun s9 s11 wr=>∃ (k:Nat) (i:Int) (L:OA) (l cl:Nat) (R F:Nat->Nat),k<=p/\i<=(k:Int)-1/\(k:Int)-1<=i/\s11=.int .i64 i/\s9=.slice L l cl/\Sl wr L l cl R/\Cn l R/\Hid (∀ j,j < l->R j < 65536) /\
  dG 51 wr w2.heap.size p F/\Below w2.heap.size w2 wr/\Hid (jN X F p k (vs 65536 Y q) (vs 65536 R l))) (fun _ s11 _=>(intOf s11+1).toNat)
 case atStart =>
  refine⟨p,(p:Int)-1,none,0,0,X,fun _=>0,mF _,by omega,by omega,rfl,rfl,Sl.none_ _ _ _ _,.inl rfl,lY fun j hj=>absurd hj (by omega),row0,bel0,lY ⟨?_,fun _=>(by omega:(0:Nat) < 65536),?_⟩⟩
  . rw[aL];exact h0
  . rw[Nat.sub_self,aL,aL,aL,DE]
 case round =>
  clear row0 bel0 hmk;obtain⟨k,i,L,l,cl,R,F,hk,hi1,hi2,rfl,rfl,sL,cL,hR,hrow,hbw,hinv⟩:=hrel;have hl:l<=q:=ib (b:=65536) (by omega) cL (Nat.lt_trans hinv.out.1 HYq.out)
  by_cases hi0:0<=i
  . obtain⟨j,rfl⟩:=Bx hi0
    obtain rfl:k=j+1:=by omega
    have hjp:j < p:=by omega
    have xs:=s1'.below hbw;have ys:=s2.below hbw;obtain⟨adx,rfl,_,_,hcx⟩:=xs.at_ hjp;have ga:=G1.out j;obtain⟨a,hXa⟩:∃ a,Hid (X j=a):=⟨_,lY rfl⟩;rw[hXa.out]at hcx ga;have hown0:=ig.one 51 wr a (by unfold ai;omega);have sA:=sL.alloc (.cells #[.int .u64 ((a:Nat):Int)] 51);have bA:=hbw.alloc hbw.size (.cells #[.int .u64 ((a:Nat):Int)] 51);have rA:=hrow.alloc (.cells #[.int .u64 ((a:Nat):Int)] 51);have hlt:=hrow.lt
    go_wp2_with (at_builtin;refine bD rfl (.tmp 34) (.tmp 35) 22 rfl wr.heap.size 51 ou a6 _ 1 _ rfl hown0 L l cl R rfl sA (by omega) (by simp) ?_;intro v3 w3 hown3 hbel3;obtain⟨A3,c5,rfl,s3q,hA3⟩:=hown3.sl)
    have b3:=hbel3 _ _ hbw.size bA;have r3:dG 51 w3 w2.heap.size p F:=hrow.below (hbel3 _ _ (mF _) ((Below.refl _ wr).alloc (mF _) _)) hlt
    have hfd:Hid (∀ j,j < 1+l->kx (fun _=>a) 1 R j < 65536):=lY fun j hj=>by
     unfold kx;split
     . exact ga
     . exact hR.out _ (by omega)
    have hfv:Hid (vs 65536 (kx (fun _=>a) 1 R) (tl (kx (fun _=>a) 1 R) (1+l))=a+65536*vs 65536 R l):=lY (by rw[dK,um]);have C3q:=lY (lk A3 (1+l) c5 _ w3 s3q (by omega));have hs3:=s3q.take (cJ (kx (fun _=>a) 1 R) (1+l));have hcn3:=fT (kx (fun _=>a) 1 R) (1+l);have hl3:=cJ (kx (fun _=>a) 1 R) (1+l);clear hbel3 hown3 hown0 sA bA rA s3q;generalize kx (fun _=>a) 1 R=f at *;generalize tl f (1+l)=z at *;refine C3q.out.mono ?_;rintro e w4 ⟨rfl,rfl⟩;have ys3:=s2.below b3;go_wp2_with fail;refine(uE A3 A2 z q c5 c4 f Y w3 hs3 ys3 (fun j hj=>hfd.out j (by omega)) (fun j _=>G2.out j) (by omega) (by omega) (by omega)).mono ?_;rintro e w5 ⟨g0,rfl,hg0,hg1,rfl⟩;have HG1:=lY hg1;clear hg1;go_wp2_with fail
    go_loopw [12] (fun s12 wr=>∃ low:Nat,s12=.int .u64 (low:Int)/\low<=65535/\Hid (low*vs 65536 Y q<=vs 65536 f z)/\Below w3.heap.size w3 wr) (fun s12 _=>65536-(intOf s12).toNat)
    case atStart=>exact⟨g0,rfl,hg0,HG1,Below.refl _ _⟩
    case round =>
     obtain⟨low,rfl,hlow,hlo,bw⟩:=hrel;have yw:Sl wr A2 q c4 Y:=ys3.below bw;have fw:Sl wr A3 z c5 f:=hs3.below bw;have hlow2:=zI hlo.out hfv.out.symm ga hinv.out.1;have T:=po A2 q c4 Y (low+1) wr yw (fun j _=>G2.out j) (by omega) (by omega);rw[show((low+1:Nat):Int)=(low:Int)+1 from by omega]at T;have HT:=lY T;clear T;go_wp2_with fail;refine HT.out.mono ?_;rintro e w6 ⟨A6,k6,c6,F6,rfl,s6q,hk6,hF6,cn6,hv6,b6⟩;have HF6:=lY hF6;have C6q:=jo A6 A3 k6 z c6 c5 F6 f w6 s6q (fw.below b6) cn6 hcn3 hF6 (fun j hj=>hfd.out j (by omega)) (by omega) (by omega);rw[hv6]at C6q;have HC6:=lY C6q;clear C6q hv6 hF6;go_wp2_with fail;refine HC6.out.mono ?_;rintro e w7 ⟨rfl,b7⟩;have b37:Below w3.heap.size w3 w7:=bw.trans ((b6.trans (b7.mono b6.size)).mono bw.size)
     by_cases hgo:vs 65536 Y q*(low+1)<=vs 65536 f z
     . have hr:cQ (vs 65536 Y q*(low+1)) (vs 65536 f z)<=0:=by unfold cQ;split <;> (try split) <;> omega
       have hlo2:Hid ((low+1)*vs 65536 Y q<=vs 65536 f z):=lY (by rw[oY];exact hgo);have hlow3:=zI hlo2.out hfv.out.symm ga hinv.out.1;generalize cQ (vs 65536 Y q*(low+1)) (vs 65536 f z)=r at *;clear hgo
       have hB:decide (r<=0)=true:=by simp;omega
       go_wp2_with fail;go_roundw
       case rel=>exact⟨low+1,by go_num,by omega,hlo2,b37⟩
       case measure=>simp[intOf];omega
     . have hr:cQ (vs 65536 Y q*(low+1)) (vs 65536 f z)=1:=cO (by omega)
       have hst:=lY (hinv.out.step hjp hXa.out hfv.out.symm hlow2 hlo.out (by rw[oY];omega));rw[hr];clear hgo hr;have r7:dG 51 w7 w2.heap.size p F:=r3.below b37 r3.lt;have hrc:=r7.cell hjp;have hrf:=r7.frozen j;have r8:=r7.set_ j low (by unfold ai;omega);have b27:Below w2.heap.size w2 w7:=b3.trans (b37.mono b3.size);go_wp2_with fail;have b28:Below w2.heap.size w2 (w7.setCell ⟨w2.heap.size,j,none⟩ (.int .u64 (low:Int))):=b27.setCell (mF _) _;have f8:Sl (w7.setCell ⟨w2.heap.size,j,none⟩ (.int .u64 (low:Int))) A3 z c5 f:=(hs3.below b37).only ((az.refl _ _).set_ j _) (fun _ ad e=>by have:=hA3 ad e;omega);have y8:=s2.below b28;generalize w7.setCell ⟨w2.heap.size,j,none⟩ (.int .u64 (low:Int))=w8 at *;refine(po A2 q c4 Y low w8 y8 (fun j _=>G2.out j) (by omega) (by omega)).mono ?_;rintro e w9 ⟨A9,k9,c9,F9,rfl,s9,hk9,hF9,cn9,hv9,b9⟩
       have hle9:vs 65536 F9 k9<=vs 65536 f z:=by rw[hv9,oY];exact hlo.out
       have hkz:k9<=z:=ib (b:=65536) (by omega) cn9 (Gs hle9 (bL fun j hj=>hfd.out j (by omega)));have M9:=pQ A3 A9 z k9 c5 c9 f F9 w9 (f8.below b9) s9 (fun j hj=>hfd.out j (by omega)) hF9 hkz (by omega) hle9;rw[hv9,oY]at M9;have HM9:=lY M9;clear M9 hv9 hle9;have HF9:=lY hF9;clear hF9;go_wp2_with fail;refine HM9.out.mono ?_;rintro e w10 ⟨A10,k10,c10,F10,rfl,s10,hk10,hF10,cn10,hv10,b10⟩;have HF10:=lY hF10;have hst2:=lY hst.out;rw[← hv10]at hst2;clear hF10 hv10 hst;have b8a:Below w8.heap.size w8 w10:=b9.trans (b10.mono b9.size);have r10:=r8.below b8a r8.lt;have b210:=b28.trans (b8a.mono b28.size);go_wp2_with fail;go_roundw
       case rel=>exact⟨j,(j:Int)-1,A10,k10,c10,F10,_,by omega,by omega,by omega,by go_num,rfl,s10,cn10,HF10,r10,b210,hst2⟩
       case measure=>first | (simp[intOf];done) | (simp[intOf];omega)
  . obtain rfl:k=0:=by omega
    have hib:decide ((0:Int)<=i)=false:=by simp;omega
    have hfin:=lY hinv.out.fin;go_wp2_with fail;refine(ik _ p p F wr (hrow.sl0 p p (mF _) (mF _)) (fun j _=>hinv.out.2.1 j) (by omega)).mono ?_;rintro e w5 ⟨v5,rfl,hnum5,b5⟩;rw[hfin.out.1]at hnum5;go_wp2_with fail;refine(ik L l cl R w5 (sL.below b5) hR.out (by omega)).mono ?_;rintro e w6 ⟨v6,rfl,hnum6,b6⟩;rw[hfin.out.2]at hnum6;go_wp2_with fail
    go_ret3
    exact⟨v5,v6,rfl,hnum5.below b6,hnum6,b12.trans ((hbw.trans ((b5.trans (b6.mono b5.size)).mono hbw.size)).mono b12.size)⟩
def ov (o:Nat->Nat)(r j:Nat):Nat:=if j=0 then 0 else o (j-1)/2^(64-r)
def sh (o:Nat->Nat)(r j:Nat):Nat:=o j*2^r%ai+ov o r j
theorem Em (o:Nat->Nat)(r:Nat)(hr:r<=64)(k:Nat):vs ai (sh o r) k+ov o r k*ai^k=vs ai o k*2^r:=by
 induction k with
 | zero=>simp[aL,ov]
 | succ k ih =>
  have h:=rX (x:=o k) hr ih
  have e1:sh o r k=ov o r k+o k*2^r%ai:=by unfold sh;rw[Gu]
  have e2:ov o r (k+1)=o k/2^(64-r):=by unfold ov;rw[if_neg (by omega),Gl]
  rw[aA,aA,e1,e2];exact h
theorem EI (o:Nat->Nat)(r j:Nat)(hr:r<=64)(ho:∀ i,o i < ai):sh o r j < ai:=by
 have h:ov o r j < 2^r:=by
  unfold ov;split
  . exact Nat.two_pow_pos _
  . exact qB _ _ hr (ho _)
 unfold sh;rw[Gu];exact iP _ _ r hr h
def gE (f:Nat->Nat)(W p:Nat):Nat->Nat:=fun j=>if j < W then 0 else if j < W+p then f (j-W) else 0
theorem Br {W:Nat}(h:∀ j,j < p->f j < ai)(j:Nat):gE f W p j < ai:=by
 unfold gE;split
 . exact bm
 . split
   . exact h _ (by omega)
   . exact bm
theorem An (f:Nat->Nat){W j:Nat}(hj:j < W+p):kx (fun _=>0) W f j=gE f W p j:=by
 unfold kx gE
 by_cases h:j < W <;> simp[h,hj]
theorem vB (f:Nat->Nat)(W p:Nat):vs ai (gE f W p) (W+p)=vs ai f p*ai^W:=by
 rw[cW,oY]
 have e1:vs ai (gE f W p) W=0:=by
  have h:∀ k,k<=W->vs ai (gE f W p) k=0:=fun k=>by
   induction k with
   | zero=>intro _;rfl
   | succ k ih=>intro hk;rw[aA,ih (by omega)];unfold gE;rw[if_pos (by omega)];simp
  exact h W (mF _)
 rw[e1,Bl]
 congr 1
 exact bg fun j hj=>by unfold gE;rw[if_neg (by omega),if_pos (by omega),Nat.add_sub_cancel_left]
theorem Ga (f:Nat->Nat)(W p:Nat):vs ai (gE f W p) (W+p+1)=vs ai f p*ai^W:=by
 rw[aA,vB];unfold gE;rw[if_neg (by omega),if_neg (by omega)];simp
def mc (t:TypeId)(w wr:World)(g B N:Nat)(o:Nat->Nat)(r k:Nat):Prop:=∃ F,dG t wr g N F/\Below B w wr/\(∀ j,k<=j->j < N->F j=sh o r j)/\∀ j,j < k->F j=o j
theorem mc.step {w':World}{B r v:Nat}{o:Nat->Nat}(hF:∀ j,k < j->j < N->F j=sh o r j)(hG:∀ j,j < k->F j=o j)(hv:v=sh o r k)(hrow:dG t w' g N (fF F k v))(hb:Below B w w'):mc t w w' g B N o r k:=by
 refine⟨_,hrow,hb,fun j hj hjN=>?_,fun j hj=>?_⟩
 . unfold fF;split
   . rename_i e;rw[e,hv]
   . exact hF j (by omega) hjN
 . rw[aU _ _ _ _ (by omega)];exact hG j (by omega)
theorem xg (A:OA)(n c:Nat)(x:Nat->Nat)(s W r:Nat)(w:World)(ha:Sl w A n c x)(hn:n<=400000)(hW:W<=400000)(hr:r<=63)(eW:(s:Int)/64=(W:Int))(er:(s:Int)%64=(r:Int))(hs:s<=1048576):
 Calls oM 114 #[.slice A n c,.int .i64 (s:Int)] w (cU w (vs ai x n*ai^W*2^r)):=by
 have hVb:Hid (vs ai x n < ai^n):=lY (bL ha.small);have T:=lY (eO A n c x w ha (by omega));generalize vs ai x n=V at *
 have h0:¬ (s:Int) < 0:=by omega
 have h1:¬ (1048576:Int) < (s:Int):=by omega
 have hmk:∀ u:World,(Instr.makeSlice 22 (.int .i64 (W:Int)) (.int .i64 (W:Int))).run oM u =
  .ok (.slice (some ⟨u.heap.size,0,none⟩) W W) (u.alloc (.cells (madeCells #[.int .u64 0] W) 51)):=fun u=>ec W (by omega) u
 go_enter Tryz.func114,Tryz.ntmps114;go_wp2_with fail;refine T.out.mono ?_;rintro e w1 ⟨v,rfl,⟨A1,p,c1,f,rfl,s1,cn,hv⟩,b1⟩;have hp:p<=n:=ib fq cn (by rw[hv];exact hVb.out);have HV:=lY hv;clear hv hVb T
 rcases tz p with hp0 | hp0
 . subst hp0
   go_wp2_with fail;go_ret;refine⟨_,rfl,⟨A1,0,c1,f,rfl,s1,.inl rfl,?_⟩,b1⟩
   rw[← HV.out,aL];simp
 . have hpb:((p:Int) == 0)=false:=by simp;omega
   have hown0:=ig.made 51 w1 w1.heap.size W (mF _) (by omega);have sA:=s1.alloc (.cells (madeCells #[.int .u64 0] W) 51)
   have HC:Hid (∀ j,j < W+p->kx (fun _=>0) W f j=gE f W p j):=lY fun j hj=>An f hj
   have hfs:=lY s1.small
   rcases tz r with hr0 | hr0
   . subst hr0
     go_wp2_with (at_builtin;refine bD rfl (.tmp 23) (.tmp 24) 22 rfl w1.heap.size 51 ou a6 _ W _ rfl hown0 A1 p c1 f rfl sA (by omega) (by simp) ?_;intro v2 w2 hown2 hbel2)
     go_ret;have b2:=hbel2 _ _ (mF _) ((Below.refl _ w1).alloc (mF _) _);obtain⟨A2,c2,rfl,s2,_⟩:=hown2.sl;refine⟨_,rfl,⟨A2,W+p,c2,gE f W p,rfl,s2.congr HC.out,?_,?_⟩,b1.trans (b2.mono b1.size)⟩
     . refine .inr ?_
       rcases cn with h | h
       . omega
       . unfold gE;rw[if_neg (by omega),if_pos (by omega),show W+p-1-W=p-1 by omega];exact h
     . rw[vB,HV.out];simp
   . have hrb:((r:Int) == 0)=false:=by simp;omega
     go_wp2_with (first
      | (at_builtin;refine bD rfl (.tmp 23) (.tmp 24) 22 rfl w1.heap.size 51 ou a6 _ W _ rfl hown0 A1 p c1 f rfl sA (by omega) (by simp) ?_;intro v2 w2 hown2 hbel2;have b2:=hbel2 _ _ (mF _) ((Below.refl _ w1).alloc (mF _) _);clear hbel2)
      | (at_builtin;refine br rfl (.tmp 30) (.tmp 31) 22 rfl w1.heap.size 51 ou a6 _ (W+p) _ rfl hown2 0 _ rfl rfl bm (by omega) b2.size ?_;intro v3 w3 hown3 hbel3;obtain⟨g,c3,rfl,hg,hc3,hrow0⟩:=hown3.row (by omega)))
     have b3:=hbel3 _ _ (mF _) b2;clear hbel3 hown3 hown2 hown0 sA b2
     have h00:mc 51 w1 w3 g w1.heap.size (W+p+1) (gE f W p) r (W+p+1):=by
      refine⟨gE f W p,hrow0.congr fun j hj=>?_,b3,fun j h1 h2=>by omega,fun _ _=>rfl⟩
      rcases Gv j (W+p) with h | h
      . rw[aU _ _ _ _ (by omega)];exact HC.out j h
      . obtain rfl:j=W+p:=by omega
        rw[bO];unfold gE;rw[if_neg (by omega),if_neg (by omega)]
     clear hrow0 b3
     have hfinv:Hid (vs ai (sh (gE f W p) r) (W+p+1)=V*ai^W*2^r):=lY (by
      have h:=Em (gE f W p) r (by omega) (W+p+1);rw[Ga,HV.out]at h
      have e:ov (gE f W p) r (W+p+1)=0:=by
       unfold ov;rw[if_neg (by omega),Gl];unfold gE;rw[if_neg (by omega),if_neg (by omega)];simp
      rw[e,DE,qK]at h
      exact h)
     have hoB:Hid (∀ j,gE f W p j < ai):=lY (Br hfs.out);generalize gE f W p=o at *;generalize hD:W+p+1=D at *
     have hD1:D<=900000:=by omega
     have hD2:W+p+1<=D:=by omega
     have hD3:D<=W+p+1:=by omega
     clear hD
     go_loopw [7] (fun s7 wr=>∃ k:Nat,k<=D/\s7=.int .i64 ((k:Int)-1)/\mc 51 w1 wr g w1.heap.size D o r k) (fun s7 _=>(intOf s7+1).toNat)
     case atStart=>exact⟨D,mF _,by go_num,h00⟩
     case round =>
      clear h00;obtain⟨k,hk,rfl,F,hrow,hb,hF,hG⟩:=hrel;have HF:=lY hF;have HG:=lY hG;clear hF hG
      rcases k with _ | k
      . go_wp2_with fail
        have hsl:=hrow.sl0 D c3 (mF _) hc3;refine(eO _ D c3 _ wr hsl (by omega)).mono ?_;rintro e w5 ⟨v5,rfl,hnum,b5⟩;go_wp2_with fail;go_ret;rw[bg (fun j hj=>HF.out j (by omega) hj),hfinv.out]at hnum;exact⟨v5,rfl,hnum,b1.trans ((hb.trans (b5.mono hb.size)).mono b1.size)⟩
      . rw[show(((k+1:Nat):Int)-1)=(k:Int) from by omega]
        have hok:=HG.out k (by omega);have hrc:=hrow.cell (i:=k) (by omega);rw[hok]at hrc;clear hok;have hrf:=hrow.frozen k;have es:IntKind.u64.wrap ((o k:Int)*2^r)=((o k*2^r%ai:Nat):Int):=gC _ _;have hv1B:o k*2^r%ai < ai:=GK _ bm
        rcases tz k with hk0 | hk0
        . have hlw:Hid (o k*2^r%ai=sh o r k):=lY (by unfold sh ov;rw[if_pos hk0,qK])
          generalize o k*2^r%ai=v1 at *;generalize o k=ok at *;subst hk0;go_wp2_with fail;go_roundw
          case rel=>exact⟨0,by omega,by go_num,mc.step (fun j h1 h2=>HF.out j (by omega) h2) (fun j hj=>HG.out j (by omega)) hlw.out (hrow.set_ 0 v1 hv1B) (hb.setCell hg _)⟩
          case measure=>simp[intOf]
        . have hprev:=HG.out (k-1) (by omega)
          have hrow1:=hrow.set_ k _ hv1B;have hrc1:=hrow1.cell (i:=k) (by omega);rw[bO]at hrc1;have hrf1:=hrow1.frozen k;have hrc2:=hrow1.cell (i:=k-1) (by omega);rw[aU _ _ _ _ (by omega),hprev]at hrc2;clear hprev;have hzB:=hoB.out (k-1)
          have eo:bits .or .u64 ((o k*2^r%ai:Nat):Int) (((o (k-1):Nat):Int)/2^(64-r))=((o k*2^r%ai+o (k-1)/2^(64-r):Nat):Int):=by
           rw[fU];exact mr _ _ _ hzB (by omega)
          have hlw:Hid (o k*2^r%ai+o (k-1)/2^(64-r)=sh o r k):=lY (by unfold sh ov;rw[if_neg (by omega)])
          have hlwB:o k*2^r%ai+o (k-1)/2^(64-r) < ai:=by rw[hlw.out];exact EI o r k (by omega) hoB.out
          generalize o k*2^r%ai+o (k-1)/2^(64-r)=v2 at *;generalize o k*2^r%ai=v1 at *;generalize o k=ok at *;generalize o (k-1)=z at *;obtain⟨m,rfl⟩:∃ m,k=m+1:=⟨k-1,by omega⟩;simp only[Gl]at hrc2
          have q1:IntKind.i64.wrap (((m+1:Nat):Int)-1)=(m:Int):=by rw[IntWalk.i64_in _ (by omega)];omega
          have q2:IntKind.i64.wrap ((m:Int)+1-1)=(m:Int):=by rw[IntWalk.i64_in _ (by omega)];omega
          have q6:IntKind.i64.wrap (64-(r:Int))=64-(r:Int):=IntWalk.i64_in _ (by omega)
          have q7:(64-(r:Int)).toNat=64-r:=by omega
          have q8:0<=64-(r:Int):=by omega
          go_wp2_with fail;clear hrc hrf;have hb1:Below w1.heap.size w1 (wr.setCell ⟨g,m+1,none⟩ (.int .u64 (v1:Int))):=hb.setCell hg _;generalize wr.setCell ⟨g,m+1,none⟩ (.int .u64 (v1:Int))=w4 at *
          go_region
          go_wp2_with fail;go_roundw
          case rel=>exact⟨m+1,by omega,by go_num,mc.step (fun j h1 h2=>by rw[aU _ _ _ _ (by omega)];exact HF.out j (by omega) h2) (fun j hj=>by rw[aU _ _ _ _ (by omega)];exact HG.out j (by omega)) hlw.out (hrow1.set_ (m+1) v2 hlwB).drew ((hb1.setCell hg _).drew)⟩
          case measure=>simp[intOf];omega
theorem yO (A:OA)(n c:Nat)(x:Nat->Nat)(s:Nat)(w:World)(ha:Sl w A n c x)(hn:n<=400000)(hs:s<=1048576):
 Calls oM 114 #[.slice A n c,.int .i64 (s:Int)] w (cU w (vs ai x n*2^s)):=by
 rw[gu s,← Gn];exact xg A n c x s (s/64) (s%64) w ha hn (by omega) (by omega) (by omega) (by omega) hs
end Go.Proofs.YtmbmohibpkepdaaGreatDoor
