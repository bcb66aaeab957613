import Derived.RegionTactic
import Derived.Test.YtmbmohibpkepdaaGreatDoorPlSGDy1
set_option maxHeartbeats 4000000
set_option maxRecDepth 8000
open Go.Lib renaming hid->lY
open Nat renaming le_refl->mF, le_trans->ou, mul_le_mul_right->oM, zero_le->oY, lt_or_ge->tz, zero_mul->yb, add_zero->Bx, pow_add->DE, eq_zero_or_pos->EM, lt_of_lt_of_le->Gk, mul_comm->Gl, mul_add->Gm
open Go.Proofs.Tryz renaming results30->qK, prog->Bl
open Int renaming le_refl->DF
namespace Go.Proofs.YtmbmohibpkepdaaGreatDoor
open Go.RowKit
variable {fd:Bool} {hi lo:Int} {j k:Nat} {w:World}
def qo (w:World)(g N:Nat)(T:Nat)(e:Ending)(w':World):Prop :=
 e=.returned (.tuple #[])/\∃ F',dG 51 w' g N F'/\az w w' g/\Hid (vs ai F' N=T)
theorem sV {F F' y:Nat->Nat}{N W q d m:Nat}{T:Nat}(hWq:W+q=N)(hF':∀ j,j < W->F' j=F j)(hv:vs ai (fun j=>F' (W+j)) q+d*ai^q=vs ai (fun j=>F (W+j)) q+vs ai (fun j=>if j < m then y j else 0) q)
 (hmq:m<=q) (hT:vs ai F N+vs ai y m*ai^W=T) (hlt:T < ai^N):d=0/\vs ai F' N=T:=by
 subst hWq;rw[fl _ _ _ _ hmq]at hv;have e1:vs ai F' W=vs ai F W:=bg hF'
 have e2:vs ai F' (W+q)+d*ai^(W+q)=T:=by
  rw[cW,e1,← hT,cW]
  have h1:ai^W*(vs ai (fun j=>F' (W+j)) q+d*ai^q)=ai^W*(vs ai (fun j=>F (W+j)) q+vs ai y m):=by rw[hv]
  rw[Gm,Gm]at h1
  have h2:d*ai^(W+q)=ai^W*(d*ai^q):=by rw[DE];ac_rfl
  have h3:vs ai y m*ai^W=ai^W*vs ai y m:=Gl _ _;omega
 rcases EM d with h | h
 . subst h;exact⟨rfl,by omega⟩
 . exfalso
   have:1*ai^(W+q)<=d*ai^(W+q):=oM _ h
   omega
theorem vt (g N:Nat)(F:Nat->Nat)(A:OA)(m c:Nat)(x:Nat->Nat)(s W r T:Nat)(w:World)(hr:dG 51 w g N F)(hN:N<=100000)(ha:Sl w A m c x)(hm:m<=400000)
 (eW:(s:Int)/64=(W:Int)) (er:(s:Int)%64=(r:Int)) (hs:s<=5000000) (hr64:r<=1048576) (hT:Hid (vs ai F N+vs ai x m*2^r*ai^W=T)) (hlt:Hid (T < ai^N)) (hx0:0 < vs ai x m) :
 Calls Bl 73 #[.slice (some ⟨g,0,none⟩) N N,.slice A m c,.int .i64 (s:Int)] w (qo w g N T):=by
 have SH:=lY (vT A m c x r w ha hm hr64);go_enter Tryz.func73,Tryz.ntmps73;go_wp2_with fail;refine SH.out.mono ?_;rintro e w1 ⟨v1,rfl,n1,b1,hnew⟩;obtain⟨B,p,cb,y,rfl,sy,cy,ey⟩:=n1;have hglt:=hr.lt;have r1:=hr.below b1 hglt
 have hne:0 < p->∀ ad,B=some ad->ad.block≠g:=fun _ ad e=>by
  subst e
  have:=hnew ad p cb rfl
  omega
 have o1:az w w1 g:=⟨b1.os,b1.tape,b1.output,b1.size,fun k hk _=>b1.block k hk⟩;rw[← ey]at hT
 have hWN:Hid (W+p<=N):=lY (by
  have h0:0 < p:=by
   rcases EM p with h | h
   . subst h;rw[aL]at ey;have:=Nat.mul_pos hx0 (Nat.two_pow_pos r);omega
   . exact h
  have h1:=pj (b:=ai) cy h0;have h2:ai^(p-1)*ai^W<=vs ai y p*ai^W:=oM _ h1;rw[← DE]at h2
  have h3:ai^(p-1+W) < ai^N:=by have:=hT.out;have:=hlt.out;omega
  have:=(Nat.pow_lt_pow_iff_right fq).1 h3
  omega)
 have hWp:=hWN.out;clear SH hnew hWN ey hx0 er;go_wp2_with fail
 go_loopw [6,7,17] (fun s6q s7 s17 wr=>∃ (k d:Nat) (F':Nat->Nat),k<=p/\s17=.int .i64 (k:Int)/\s7=.int .i64 ((W:Int)+(k:Int))/\s6q=.int .u64 ((d:Nat):Int)/\eC 51 1 w1 wr g N W F F' y p k d) (fun _ _ s17 _=>p-(intOf s17).toNat)
 case atStart=>exact⟨0,0,F,oY _,rfl,by go_num,rfl,eC.start r1⟩
 case round =>
  obtain⟨k,d,F',hk,rfl,rfl,rfl,hinv⟩:=hrel
  by_cases hlt':k < p
  . obtain⟨ad,rfl,hb,hx64,hcell⟩:=(sy.only hinv.2.2.1 hne).at_ hlt'
    have hrc:=hinv.2.1.cell (i:=W+k) (by omega);have hrf:=hinv.2.1.frozen (W+k);have hF:Hid (F' (W+k)=F (W+k)):=hinv.2.2.2.1 _ (by omega);have hFs:=hinv.2.1.2 (W+k) (by omega);obtain⟨r',d',h1,h2,h3,h4⟩:=ee (F' (W+k)) (y k) d hinv.1 wr;have H1:=lY h1;clear h1 eW
    go_wp2
    go_roundw
    case rel=>exact⟨k+1,d',fF F' (W+k) r',by omega,by go_num,by go_num,rfl,hinv.step (by rw[← hF.out,if_pos hlt'];exact H1.out) h2 (h3 hFs hx64)⟩
    case measure=>simp[intOf];omega
  . obtain rfl:k=p:=by omega
    clear hlt' hk eW
    go_wp2
    go_loopw [6,7] (fun s6q s7 wr=>∃ (q d:Nat) (F':Nat->Nat),k<=q/\W+q<=N/\s7=.int .i64 ((W:Int)+(q:Int))/\s6q=.int .u64 ((d:Nat):Int)/\eC 51 1 w1 wr g N W F F' y k q d) (fun _ s7 _=>N-(intOf s7).toNat)
    case atStart=>exact⟨k,d,F',mF _,hWp,rfl,rfl,hinv⟩
    case round =>
     clear hinv;obtain⟨q,d,F',hq,hqn,rfl,rfl,hinv⟩:=hrel
     by_cases hd:d=0
     . subst hd
       go_wp2
       go_end0
       have h2:=hinv.rest hq (N-W-q);obtain⟨_,hrow,hon,hag,hv⟩:=h2;exact⟨rfl,F',hrow,o1.trans hon,lY (sV (by omega) (fun j hj=>hag j (by omega)) hv (by omega) hT.out hlt.out).2⟩
     . have hqN:W+q < N:=by
        rcases tz (W+q) N with h | h
        . exact h
        . exact absurd (sV (by omega) (fun j hj=>hinv.2.2.2.1 j (by omega)) hinv.2.2.2.2 hq hT.out hlt.out).1 hd
       have hdn:((d:Int) != 0)=true:=by simp;omega
       have hrc:=hinv.2.1.cell (i:=W+q) (by omega);have hrf:=hinv.2.1.frozen (W+q);have hF:Hid (F' (W+q)=F (W+q)):=hinv.2.2.2.1 _ (by omega);have hFs:=hinv.2.1.2 (W+q) (by omega);obtain⟨r',d',h1,h2,h3,h4⟩:=ee (F' (W+q)) 0 d hinv.1 wr;rw[show((0:Nat):Int)=0 from rfl]at h4;have H1:=lY h1;clear h1
       go_wp2
       go_roundw
       case rel=>exact⟨q+1,d',fF F' (W+q) r',by omega,by omega,by go_num,rfl,hinv.step (by rw[← hF.out,if_neg (by omega)];exact H1.out) h2 (h3 hFs bm)⟩
       case measure=>simp[intOf];omega
theorem jL (g N:Nat)(F:Nat->Nat)(A:OA)(m c:Nat)(x:Nat->Nat)(s:Nat)(w:World)(hr:dG 51 w g N F)(hN:N<=100000)(ha:Sl w A m c x)(hm:m<=400000)(hs:s<=5000000)
 (hlt:vs ai F N+vs ai x m*2^s < ai^N) (hx0:0 < vs ai x m) :
 Calls Bl 73 #[.slice (some ⟨g,0,none⟩) N N,.slice A m c,.int .i64 (s:Int)] w (qo w g N (vs ai F N+vs ai x m*2^s)):=by
 have e:vs ai x m*2^s=vs ai x m*2^(s%64)*ai^(s/64):=by
  have h:=gu s;rw[h,Nat.mul_assoc,Gl (2^(s%64))]
 exact vt g N F A m c x s (s/64) (s%64) _ w hr hN ha hm (by omega) (by omega) hs (by omega) (lY (by rw[e])) (lY hlt) hx0
structure DL where
 ng:Nat->Bool
 A:Nat->OA
 n:Nat->Nat
 c:Nat->Nat
 x:Nat->Nat->Nat
 e:Nat->Int
def DL.v (l:DL)(j:Nat):Nat:=vs ai (l.x j) (l.n j)
def Ls (w:World)(L:OA)(k cp:Nat)(l:DL):Prop :=
 k<=cp/\(0 < k->∃ ad,L=some ad/\ad.block < w.heap.size/\∀ j,j < k->w.cell? (ad.add (j*3))=some (.bool (l.ng j))/\w.cell? ⟨(ad.add (j*3)).block,(ad.add (j*3)).off+1,none⟩=some (.slice (l.A j) (l.n j) (l.c j))/\w.cell? ⟨(ad.add (j*3)).block,(ad.add (j*3)).off+2,none⟩=some (.int .i64 (l.e j))) /\
  ∀ j,j < k->Sl w (l.A j) (l.n j) (l.c j) (l.x j)
theorem Ls.below {w':World}{L:OA}{cp:Nat}{l:DL}(h:Ls w L k cp l)(b:Below w.heap.size w w'):Ls w' L k cp l:=by
 obtain⟨h1,h2,h3⟩:=h;refine⟨h1,fun hk=>?_,fun j hj=>(h3 j hj).below b⟩;obtain⟨ad,e,hb,hc⟩:=h2 hk;refine⟨ad,e,Gk hb b.size,fun j hj=>?_⟩;obtain⟨c0,c1,c2⟩:=hc j hj;exact⟨(b.cell (by rw[ao];exact hb)).trans c0,(b.cell (by simp only[ao];exact hb)).trans c1,(b.cell (by simp only[ao];exact hb)).trans c2⟩
def kt (l:DL):Nat->Option (Int×Int)
 | 0=>none
 | k+1=>if l.n k=0 then kt l k else match kt l k with
  | none=>some (l.e k,l.e k)
  | some (a,b)=>some (min a (l.e k),max b (l.e k))
def eF (l:DL)(j:Nat)(lo hi en:Int)(fd:Bool):Prop:=match kt l j with
 | none=>fd=false/\lo=0/\hi=0/\en=0
 | some (a,b)=>fd=true/\lo=a/\hi=b/\en<=b+16384/\∀ i,i < j->l.n i≠0->a<=l.e i/\l.e i<=b/\l.e i+(nb (l.v i):Int)<=en
theorem tx {l:DL}(h:kt l j=none):∀ i,i < j->l.n i=0:=by
 induction j with
 | zero=>intro i hi;omega
 | succ j ih =>
  intro i hi;unfold kt at h
  by_cases h0:l.n j=0
  . rw[if_pos h0]at h
    rcases tz i j with h1 | h1
    . exact ih h i h1
    . obtain rfl:i=j:=by omega
      exact h0
  . rw[if_neg h0]at h
    cases h2:kt l j with
    | none=>rw[h2]at h;cases h
    | some p=>rw[h2]at h;cases h
theorem eF.start (l:DL):eF l 0 0 0 0 false:=⟨rfl,rfl,rfl,rfl⟩
theorem eF.zero {l:DL}{en:Int}(h:eF l j lo hi en fd)(h0:l.n j=0):eF l (j+1) lo hi en fd:=by
 unfold eF at *;rw[kt,if_pos h0]
 cases he:kt l j with
 | none=>rw[he]at h;exact h
 | some p =>
  rw[he]at h;obtain⟨a,b⟩:=p;obtain⟨h1,h2,h3,h4,h5⟩:=h;refine⟨h1,h2,h3,h4,fun i hi hn=>?_⟩
  rcases tz i j with h' | h'
  . exact h5 i h' hn
  . obtain rfl:i=j:=by omega
    exact absurd h0 hn
theorem eF.first {l:DL}{en:Int}(h:eF l j lo hi en false)(h0:l.n j≠0)(hb:nb (l.v j)<=16384):eF l (j+1) (l.e j) (l.e j) (l.e j+(nb (l.v j):Int)) true:=by
 unfold eF at *;rw[kt,if_neg h0]
 cases he:kt l j with
 | none =>
  refine⟨rfl,rfl,rfl,by omega,fun i hi hn=>?_⟩
  rcases tz i j with h' | h'
  . exact absurd (tx he i h') hn
  . obtain rfl:i=j:=by omega
    exact⟨DF _,DF _,DF _⟩
 | some p=>rw[he]at h;obtain⟨a,b⟩:=p;exact absurd h.1 (by decide)
theorem eF.more {l:DL}{en:Int}(h:eF l j lo hi en true)(h0:l.n j≠0)(hb:nb (l.v j)<=16384):eF l (j+1) (min lo (l.e j)) (max hi (l.e j)) (max en (l.e j+(nb (l.v j):Int))) true:=by
 unfold eF at *;rw[kt,if_neg h0]
 cases he:kt l j with
 | none=>rw[he]at h;exact absurd h.1 (by decide)
 | some p =>
  rw[he]at h;obtain⟨a,b⟩:=p;obtain⟨_,rfl,rfl,h4,h5⟩:=h;refine⟨rfl,rfl,rfl,by omega,fun i hi' hn=>?_⟩
  rcases tz i j with h' | h'
  . obtain⟨g1,g2,g3⟩:=h5 i h' hn
    exact⟨by omega,by omega,by omega⟩
  . obtain rfl:i=j:=by omega
    exact⟨by omega,by omega,by omega⟩
def Ct (w:World)(l:DL)(k:Nat)(e:Ending)(w':World):Prop:=∃ (lo hi en:Int) (fd:Bool),e=.returned (.tuple #[.int .i64 lo,.int .i64 hi,.int .i64 en])/\Hid (eF l k lo hi en fd)/\Below w.heap.size w w'
theorem uW (L:OA)(k cp:Nat)(l:DL)(w:World)(h:Ls w L k cp l)(hk:k<=1000)(hP:∀ j,j < k->gR (l.ng j) (l.n j) (l.x j) (l.e j)):
 Calls Bl 72 #[.slice L k cp] w (Ct w l k):=by
 have HP:=lY hP;clear hP;go_enter Tryz.func72,Tryz.ntmps72;go_wp2_with fail
 go_loopw [2,3,4,5,10] (fun s2 s3q s4 s5 s10 wr=>∃ (j:Nat) (lo hi en:Int) (fd:Bool),j<=k/\s10=.int .i64 (j:Int)/\s2=.int .i64 lo/\s3q=.int .i64 hi/\s4=.int .i64 en/\s5=.bool fd/\Hid (eF l j lo hi en fd)/\Below w.heap.size w wr) (fun _ _ _ _ s10 _=>k-(intOf s10).toNat)
 case atStart=>exact⟨0,0,0,0,false,oY _,rfl,rfl,rfl,rfl,rfl,lY (eF.start l),Below.refl _ _⟩
 case round =>
  obtain⟨j,lo,hi,en,fd,hj,rfl,rfl,rfl,rfl,rfl,hinv,bw⟩:=hrel
  by_cases hlt:j < k
  . obtain⟨ad,rfl,hb,hc⟩:=h.2.1 (by omega)
    obtain⟨c0,c1,c2⟩:=hc j hlt;have d0:=(bw.cell (p:=ad.add (j*3)) (by rw[ao];exact hb)).trans c0;have d1:=(bw.cell (p:=⟨(ad.add (j*3)).block,(ad.add (j*3)).off+1,none⟩) (by simp only[ao];exact hb)).trans c1;have d2:=(bw.cell (p:=⟨(ad.add (j*3)).block,(ad.add (j*3)).off+2,none⟩) (by simp only[ao];exact hb)).trans c2;have P:=HP.out j hlt;have pl:=P.len;have pb:nb (l.v j)<=16384:=P.bits;have pe1:=P.e1;have pe2:=P.e2;have sj:=(h.2.2 j hlt).below bw;have hZ:=lY (fun h0=>hinv.out.zero (h0:l.n j=0));have hF:=lY (fun(h1:fd=false) h0=>eF.first (h1 ▸ hinv.out) (h0:l.n j≠0) pb);have hM:=lY (fun(h1:fd=true) h0=>eF.more (h1 ▸ hinv.out) (h0:l.n j≠0) pb);have hv:Hid (l.v j=vs ai (l.x j) (l.n j)):=lY rfl;clear c0 c1 c2 hc P hinv;generalize l.v j=V at *;generalize l.ng j=ng at *;generalize l.A j=A at *;generalize l.n j=n at *;generalize l.c j=c at *;generalize l.x j=x at *;generalize l.e j=e at *;have bA:Below wr.heap.size wr (wr.alloc (.cells #[.bool ng,.slice A n c,.int .i64 e] 24)):=(Below.refl _ wr).alloc (mF _) _;have kA:=cA.made wr (.bool ng) (.slice A n c) (.int .i64 e)
    have hgs:wr.heap.size < (wr.alloc (.cells #[.bool ng,.slice A n c,.int .i64 e] 24)).heap.size:=by simp
    have IZ:=lY (kj ng A n c e (wr.alloc (.cells #[.bool ng,.slice A n c,.int .i64 e] 24)) (by omega));go_wp2_with fail;refine IZ.out.mono ?_;rintro e' w2 ⟨rfl,b⟩;have b12:=bA.trans (b.mono bA.size);have b2:=bw.trans (b12.mono bw.size);have s2:=sj.below b12;have k2:=kA.below b hgs;have hg2:wr.heap.size < w2.heap.size:=Gk hgs b.size;clear b IZ kA bA b12 sj d0 d1 d2 hgs;obtain⟨q0,q1,q2⟩:=k2.cell
    by_cases hn0:n=0
    . rw[show decide (n=0)=true by simp[hn0]]
      have HN:=lY (hZ.out hn0);clear hZ hF hM;go_wp2_with fail;go_roundw
      case rel=>exact⟨j+1,lo,hi,en,fd,by omega,by go_num,rfl,rfl,rfl,rfl,HN,b2⟩
      case measure=>simp[intOf];omega
    . rw[show decide (n=0)=false by simp[hn0]]
      obtain⟨tp,htp⟩:∃ tp:Int,Hid (tp=e+(nb V:Int)):=⟨_,lY rfl⟩;rw[← htp.out]at hF hM
      have TP:Hid (∀ w',Below w2.heap.size w2 w'->Calls Bl 121 #[.agg #[.bool ng,.slice A n c,.int .i64 e]] w' fun r w''=>r=.returned (.int .i64 tp)/\Below w2.heap.size w2 w''):=lY (fun w' h'=>by
       refine(vF ng A n c x e w' (s2.below h') (by omega) (by omega) (by omega)).mono ?_;rintro r w'' ⟨rfl,b⟩;rw[← hv.out,← htp.out]
       exact⟨rfl,h'.trans (b.mono h'.size)⟩)
      cases fd
      . have HN:=lY (hF.out rfl hn0)
        clear hZ hF hM;go_wp2_with fail
        go_region_held3 (fun w'=>w'.cell? ⟨wr.heap.size,0,none⟩=some (.bool ng)/\w'.cell? ⟨wr.heap.size,1,none⟩=some (.slice A n c)/\w'.cell? ⟨wr.heap.size,2,none⟩=some (.int .i64 e))
         (first | exact⟨q0,q1,q2⟩ | exact⟨(b3.cell hg2).trans q0,(b3.cell hg2).trans q1,(b3.cell hg2).trans q2⟩)
         (first | (go_at_call 121;refine(TP.out _ (by first | exact Below.refl _ _ | exact(Below.refl _ w2).drew)).mono ?_;rintro e' w3 ⟨rfl,b3⟩))
        all_goals (go_wp2_with fail)
        all_goals go_roundw
        case rel=>exact⟨j+1,e,e,tp,true,by omega,by go_num,rfl,rfl,rfl,rfl,HN,b2.trans (b3.mono b2.size)⟩
        case measure=>simp[intOf];omega
      . have HN:=lY (hM.out rfl hn0)
        clear hZ hF hM;go_wp2_with fail
        go_region_held3 (fun w'=>w'.cell? ⟨wr.heap.size,0,none⟩=some (.bool ng)/\w'.cell? ⟨wr.heap.size,1,none⟩=some (.slice A n c)/\w'.cell? ⟨wr.heap.size,2,none⟩=some (.int .i64 e))
         (first | exact⟨q0,q1,q2⟩ | exact⟨(b3.cell hg2).trans q0,(b3.cell hg2).trans q1,(b3.cell hg2).trans q2⟩)
         (first | (go_at_call 121;refine(TP.out _ (by first | exact Below.refl _ _ | exact(Below.refl _ w2).drew)).mono ?_;rintro e' w3 ⟨rfl,b3⟩))
        all_goals (go_wp2_with fail)
        all_goals go_roundw
        all_goals first
         | exact⟨j+1,min lo e,max hi e,max en tp,true,by omega,by go_num,rfl,rfl,rfl,rfl,HN,b2.trans (b3.mono b2.size)⟩
         | (simp[intOf];omega)
  . obtain rfl:j=k:=by omega
    go_wp2_with fail
    go_ret3
    exact⟨lo,hi,en,fd,rfl,hinv,bw⟩
def aY (l:DL)(sg:Bool)(lo:Int):Nat->Nat
 | 0=>0
 | k+1=>aY l sg lo k+(if l.ng k=sg then l.v k*2^(l.e k-lo).toNat else 0)
def kh (l:DL)(k:Nat):Int:=((kt l k).getD (0,0)).1
def uR (l:DL)(k:Nat):Int:=((kt l k).getD (0,0)).2
def jO (ok:Bool)(l:DL)(k:Nat):DR :=
 if ok && decide (uR l k-kh l k<=262144) then
  (if aY l true (kh l k) k<=aY l false (kh l k) k then bH false (aY l false (kh l k) k-aY l true (kh l k) k) (kh l k)
   else bH true (aY l true (kh l k) k-aY l false (kh l k) k) (kh l k))
 else DR.no
theorem eF.lohi {l:DL}{en:Int}(h:eF l k lo hi en fd):lo=kh l k/\hi=uR l k:=by
 unfold eF at h;unfold kh uR
 cases he:kt l k with
 | none=>rw[he]at h;obtain⟨_,rfl,rfl,_⟩:=h;exact⟨rfl,rfl⟩
 | some p=>rw[he]at h;obtain⟨a,b⟩:=p;obtain⟨_,rfl,rfl,_⟩:=h;exact⟨rfl,rfl⟩
theorem eF.item {l:DL}{en:Int}(h:eF l k lo hi en fd)(hj:j < k)(h0:l.n j≠0):lo<=l.e j/\l.e j<=hi/\l.e j+(nb (l.v j):Int)<=en:=by
 unfold eF at h
 cases he:kt l k with
 | none=>exact absurd (tx he j hj) h0
 | some p=>rw[he]at h;obtain⟨a,b⟩:=p;obtain⟨_,rfl,rfl,_,h5⟩:=h;exact h5 j hj h0
theorem eF.en {l:DL}{en:Int}(h:eF l k lo hi en fd):en<=hi+16384:=by
 unfold eF at h
 cases he:kt l k with
 | none=>rw[he]at h;obtain⟨_,rfl,rfl,rfl⟩:=h;omega
 | some p=>rw[he]at h;obtain⟨a,b⟩:=p;obtain⟨_,_,rfl,h4,_⟩:=h;exact h4
theorem xK (l:DL)(k:Nat)(a b:Int)(h:kt l k=some (a,b)):(∃ i,i < k/\l.n i≠0)/\(∀ E:Int,(∀ i,i < k->l.n i≠0->-E<=l.e i/\l.e i<=E)->-E<=a/\b<=E/\a<=b):=by
 induction k generalizing a b with
 | zero=>cases h
 | succ k ih =>
  unfold kt at h
  by_cases h0:l.n k=0
  . rw[if_pos h0]at h
    obtain⟨⟨i,hi,hn⟩,h2⟩:=ih a b h;exact⟨⟨i,by omega,hn⟩,fun E hE=>h2 E fun i hi hn=>hE i (by omega) hn⟩
  . rw[if_neg h0]at h
    refine⟨⟨k,by omega,h0⟩,fun E hE=>?_⟩;have hk:=hE k (by omega) h0
    cases he:kt l k with
    | none=>rw[he]at h;simp at h;obtain⟨rfl,rfl⟩:=h;exact⟨hk.1,hk.2,DF _⟩
    | some p =>
     obtain⟨c,d⟩:=p;rw[he]at h
     simp at h
     obtain⟨rfl,rfl⟩:=h
     obtain⟨h3,h4,h5⟩:=(ih c d he).2 E fun i hi hn=>hE i (by omega) hn
     exact⟨by omega,by omega,by omega⟩
theorem eF.bound {l:DL}{en:Int}(h:eF l k lo hi en fd)(hP:∀ j,j < k->gR (l.ng j) (l.n j) (l.x j) (l.e j)):-262144<=lo/\hi<=262144/\lo<=hi/\lo<=en:=by
 have hE:∀ i,i < k->l.n i≠0->-262144<=l.e i/\l.e i<=262144:=fun i hi _=>⟨(hP i hi).e1,(hP i hi).e2⟩
 have h':=h;unfold eF at h'
 cases he:kt l k with
 | none=>rw[he]at h';obtain⟨_,rfl,rfl,rfl⟩:=h';omega
 | some p =>
  obtain⟨a,b⟩:=p;rw[he]at h';obtain⟨_,rfl,rfl,h4,h5⟩:=h';obtain⟨⟨i,hi,hn⟩,h6⟩:=xK l k lo hi he;obtain⟨g1,g2,g3⟩:=h6 262144 hE
  have:=h5 i hi hn
  exact⟨g1,g2,g3,by omega⟩
theorem we {l:DL}{en:Int}(h:eF l k lo hi en fd)(sg:Bool):∀ j,j<=k->aY l sg lo j<=j*2^(en-lo).toNat:=by
 intro j
 induction j with
 | zero=>intro _;exact oY _
 | succ j ih =>
  intro hj;have h1:=ih (by omega)
  have h2:(if l.ng j=sg then l.v j*2^(l.e j-lo).toNat else 0)<=2^(en-lo).toNat:=by
   by_cases hs:l.ng j=sg
   . rw[if_pos hs]
     by_cases h0:l.n j=0
     . have:l.v j=0:=by unfold DL.v;rw[h0,aL]
       rw[this,yb];exact oY _
     . obtain⟨g1,_,g3⟩:=h.item (by omega) h0
       have h3:l.v j*2^(l.e j-lo).toNat<=2^nb (l.v j)*2^(l.e j-lo).toNat:=oM _ (Nat.le_of_lt (dZ _));rw[← DE]at h3;exact ou h3 (Nat.pow_le_pow_right (by omega) (by omega))
   . rw[if_neg hs];exact oY _
  rw[aY,Nat.add_mul,Nat.one_mul];omega
theorem pK {l:DL}{en:Int}(h:eF l k lo hi en fd)(hk:k<=1000)(sg:Bool)(hj:j<=k){N:Nat}(hN:(en-lo).toNat/64+3=N):aY l sg lo j < ai^N:=by
 have h1:=we h sg j hj;have h2:j*2^(en-lo).toNat<=2^10*2^(en-lo).toNat:=oM _ (by omega);rw[← DE]at h2;rw[bv,← Nat.pow_mul];exact Nat.lt_of_le_of_lt (ou h1 h2) (Nat.pow_lt_pow_right (by omega) (by omega))
theorem ky (k:Nat):vs ai (fun _=>0) k=0:=by
 induction k with
 | zero=>rfl
 | succ k ih=>rw[aA,ih,yb]
def gP (l:DL):Nat->Bool
 | 0=>true
 | k+1=>gP l k && aj (l.ng k) (l.n k) (l.x k) (l.e k)
theorem l9 {l:DL}(h:gP l k=true):∀ j,j < k->aj (l.ng j) (l.n j) (l.x j) (l.e j)=true:=by
 induction k with
 | zero=>intro j hj;omega
 | succ k ih =>
  intro j hj;simp only[gP,Bool.and_eq_true]at h
  rcases tz j k with h1 | h1
  . exact ih h.1 j h1
  . obtain rfl:j=k:=by omega
    exact h.2
theorem oN {l:DL}(hj:j < k)(h:aj (l.ng j) (l.n j) (l.x j) (l.e j)=false):gP l k=false:=by
 cases hp:gP l k with
 | false=>rfl
 | true=>rw[l9 hp j hj]at h;cases h
structure F1 (w w1:World):Prop where
 bel:Below w.heap.size w w1
 kr:cA w1 w.heap.size (.bool false) (.slice none 0 0) (.int .i64 0)
 sz:w.heap.size+1<=w1.heap.size
 tab0:bx w
theorem F1.tab {w1:World}(h:F1 w w1):bx w1:=h.tab0.below h.bel
theorem F1.adv {w1 w2:World}(h:F1 w w1){B:Nat}(b:Below B w1 w2)(hB:w.heap.size+1<=B):F1 w w2:=by
 have h1:Below (w.heap.size+1) w1 w2:=b.mono hB;exact⟨h.bel.trans (h1.mono (by omega)),h.kr.below h1 (by omega),ou h.sz b.size,h.tab0⟩
theorem F1.start (w:World)(hT:bx w):F1 w (w.alloc (.cells #[.bool false,.slice none 0 0,.int .i64 0] 24)):=by
 have b:Below w.heap.size w (w.alloc (.cells #[.bool false,.slice none 0 0,.int .i64 0] 24)):=(Below.refl _ w).alloc (mF _) _;exact⟨b,cA.made w _ _ _,by simp,hT⟩
theorem AV (L:OA)(k cp:Nat)(l:DL)(w:World)(h:Ls w L k cp l)(hk:k<=1000)(hlen:∀ j,j < k->l.n j<=400000)(hT:bx w):
 Calls Bl 30 #[.slice L k cp] w (fI w (jO (gP l k) l k)):=by
 have S:=F1.start w hT;have HLEN:=lY hlen;clear hlen;go_enter Tryz.func30,Tryz.ntmps30;go_wp2_with fail;generalize w.alloc (.cells #[.bool false,.slice none 0 0,.int .i64 0] 24)=w1 at *
 go_loopw [20] (fun s20 wr=>∃ j:Nat,j<=k/\s20=.int .i64 (j:Int)/\Hid (gP l j=true)/\F1 w wr) (fun s20 _=>k-(intOf s20).toNat)
 case atStart=>exact⟨0,oY _,rfl,lY rfl,S⟩
 case round =>
  clear S;obtain⟨j,hj,rfl,hall,F⟩:=hrel
  by_cases hlt:j < k
  . obtain⟨ad,rfl,hb,hc⟩:=h.2.1 (by omega)
    obtain⟨c0,c1,c2⟩:=hc j hlt;have d0:=(F.bel.cell (p:=ad.add (j*3)) (by rw[ao];exact hb)).trans c0;have d1:=(F.bel.cell (p:=⟨(ad.add (j*3)).block,(ad.add (j*3)).off+1,none⟩) (by simp only[ao];exact hb)).trans c1;have d2:=(F.bel.cell (p:=⟨(ad.add (j*3)).block,(ad.add (j*3)).off+2,none⟩) (by simp only[ao];exact hb)).trans c2;have sj:=(h.2.2 j hlt).below F.bel;have hln:=HLEN.out j hlt;have HS:Hid (gP l (j+1)=aj (l.ng j) (l.n j) (l.x j) (l.e j)):=lY (by rw[gP,hall.out,Bool.true_and]);have HNO:Hid (aj (l.ng j) (l.n j) (l.x j) (l.e j)=false->jO (gP l k) l k=DR.no):=lY (fun hp=>by rw[oN hlt hp];simp[jO]);clear c0 c1 c2 hc hall;have bA:Below wr.heap.size wr (wr.alloc (.cells #[.bool (l.ng j),.slice (l.A j) (l.n j) (l.c j),.int .i64 (l.e j)] 24)):=(Below.refl _ wr).alloc (mF _) _;have FA:=F.adv bA F.sz;have PL:=lY (jE (l.ng j) (l.A j) (l.n j) (l.c j) (l.x j) (l.e j) _ (sj.below bA) hln);have szA:=FA.sz;go_wp2_with fail;refine PL.out.mono ?_;rintro e' w2 ⟨rfl,b⟩;have F2':=FA.adv b szA;clear b PL bA FA sj d0 d1 d2 F szA;obtain⟨p,hp⟩:∃ p,Hid (aj (l.ng j) (l.n j) (l.x j) (l.e j)=p):=⟨_,lY rfl⟩;rw[hp.out]at HS HNO ⊢;cases p
    . have HN:=lY (HNO.out rfl)
      obtain⟨cr0,cr1,cr2⟩:=F2'.kr.cell;obtain⟨fr0,fr1,fr2⟩:=F2'.kr.frozen;go_wp2_with fail;rw[HN.out];refine bodyPost_ret (v:=.tuple #[.agg #[.bool false,.slice none 0 0,.int .i64 0],.bool false]) (by simp[results,qK,go_sem,cr0,cr1,cr2]) rfl ⟨_,rfl,aq _,ak F2'.bel (by omega) F2'.bel.size _ _ _⟩
    . go_wp2_with fail
      go_roundw
      case rel=>exact⟨j+1,by omega,by go_num,HS,F2'⟩
      case measure=>simp[intOf];omega
  . obtain rfl:j=k:=by omega
    clear hlt
    have hP:∀ i,i < j->gR (l.ng i) (l.n i) (l.x i) (l.e i):=fun i hi=>aS (l9 hall.out i hi)
    have EX:=lY (uW L j cp l wr (h.below F.bel) hk hP);have HP:=lY hP;clear hP;go_wp2_with fail;refine EX.out.mono ?_;rintro e' w2 ⟨lo,hi,en,fd,rfl,hE,b⟩;have F2':=F.adv b F.sz;clear b F EX;obtain⟨g1,g2,g3,g4⟩:=hE.out.bound HP.out;have g5:=hE.out.en;have HLO:=lY hE.out.lohi
    by_cases hfar:hi-lo<=262144
    . have HYES:Hid (jO (gP l j) l j=if aY l true lo j<=aY l false lo j then bH false (aY l false lo j-aY l true lo j) lo else bH true (aY l true lo j-aY l false lo j) lo):=lY (by
       unfold jO;rw[hall.out,← HLO.out.1,← HLO.out.2];simp[hfar])
      obtain⟨R,hR⟩:∃ R:Nat,(en-lo)/64=(R:Int):=⟨((en-lo)/64).toNat,by omega⟩
      have hR5:R<=5000:=by omega
      have hRN:=lY (show(en-lo).toNat/64+3=R+3 by omega)
      have hmk:∀ u:World,(Instr.makeSlice 22 (.int .i64 ((R:Int)+3)) (.int .i64 ((R:Int)+3))).run Bl u =
       .ok (.slice (some ⟨u.heap.size,0,none⟩) (R+3) (R+3)) (u.alloc (.cells (madeCells #[.int .u64 0] (R+3)) 51)):=fun u=>ec (R+3) (by omega) u
      go_wp2_with fail;clear hR;have r51:=(dG.made 51 w2 (R+3)).alloc (.cells (madeCells #[.int .u64 0] (R+3)) 51);have r52:=dG.made 51 (w2.alloc (.cells (madeCells #[.int .u64 0] (R+3)) 51)) (R+3);rw[show(w2.alloc (.cells (madeCells #[.int .u64 0] (R+3)) 51)).heap.size=w2.heap.size+1 by simp]at r52;have b5':Below w2.heap.size w2 ((w2.alloc (.cells (madeCells #[.int .u64 0] (R+3)) 51)).alloc (.cells (madeCells #[.int .u64 0] (R+3)) 51)):=((Below.refl _ w2).alloc (mF _) _).alloc (by simp) _
      have sz5':w2.heap.size+2<=((w2.alloc (.cells (madeCells #[.int .u64 0] (R+3)) 51)).alloc (.cells (madeCells #[.int .u64 0] (R+3)) 51)).heap.size:=by simp
      replace r51:=r51.drew;replace r52:=r52.drew;have b5:=b5'.drew;have sz5:w2.heap.size+2<=((w2.alloc (.cells (madeCells #[.int .u64 0] (R+3)) 51)).alloc (.cells (madeCells #[.int .u64 0] (R+3)) 51)).drew.heap.size:=sz5';clear b5' sz5'
      go_region
      all_goals generalize((w2.alloc (.cells (madeCells #[.int .u64 0] (R+3)) 51)).alloc (.cells (madeCells #[.int .u64 0] (R+3)) 51)).drew=w5 at *
      .
       have ra:dG 51 w5 (w2.heap.size) (R+3) (fun _=>0):=r51;have rb:dG 51 w5 (w2.heap.size+1) (R+3) (fun _=>0):=r52
       have hga:w2.heap.size<=w2.heap.size:=by omega
       have hgb:w2.heap.size<=w2.heap.size+1:=by omega
       have hab:w2.heap.size≠w2.heap.size+1:=by omega
       clear r51 r52;go_wp2_with fail
       go_loopw [51] (fun s51 wr=>∃ (i:Nat) (Fa Fb:Nat->Nat),i<=j/\s51=.int .i64 (i:Int)/\dG 51 wr (w2.heap.size) (R+3) Fa/\dG 51 wr (w2.heap.size+1) (R+3) Fb/\Below w2.heap.size w2 wr/\w2.heap.size+2<=wr.heap.size/\Hid (vs ai Fa (R+3)=aY l false lo i)/\Hid (vs ai Fb (R+3)=aY l true lo i)) (fun s51 _=>j-(intOf s51).toNat)
       case atStart=>exact⟨0,_,_,oY _,rfl,ra,rb,b5,sz5,lY (ky _),lY (ky _)⟩
       case round =>
        clear ra rb b5 sz5;obtain⟨i,Fa,Fb,hi',rfl,ra,rb,b,szw,hFa,hFb⟩:=hrel
        by_cases hlt:i < j
        . obtain⟨ad,rfl,hb,hc⟩:=h.2.1 (by omega)
          obtain⟨c0,c1,c2⟩:=hc i hlt;have bAll:=F2'.bel.trans (b.mono F2'.bel.size);have d0:=(bAll.cell (p:=ad.add (i*3)) (by rw[ao];exact hb)).trans c0;have d1:=(bAll.cell (p:=⟨(ad.add (i*3)).block,(ad.add (i*3)).off+1,none⟩) (by simp only[ao];exact hb)).trans c1;have d2:=(bAll.cell (p:=⟨(ad.add (i*3)).block,(ad.add (i*3)).off+2,none⟩) (by simp only[ao];exact hb)).trans c2;have sj:=(h.2.2 i hlt).below bAll;have P:=HP.out i hlt;have pl:=P.len;have hPos:=lY P.pos;have FIT:Hid (∀ sg,aY l sg lo (i+1) < ai^(R+3)):=lY (fun sg=>pK hE.out hk sg (by omega) hRN.out);have HIT:Hid (l.n i≠0->lo<=l.e i/\l.e i<=hi/\l.e i+(nb (l.v i):Int)<=en):=lY (fun h0=>hE.out.item hlt h0);have hv:Hid (l.v i=vs ai (l.x i) (l.n i)):=lY rfl;have HPa':Hid (∀ t,(l.e i-lo).toNat=t->aY l false lo (i+1)=aY l false lo i+(if l.ng i=false then l.v i*2^t else 0)):=lY (fun t ht=>by rw[aY,ht]);have HPb':Hid (∀ t,(l.e i-lo).toNat=t->aY l true lo (i+1)=aY l true lo i+(if l.ng i=true then l.v i*2^t else 0)):=lY (fun t ht=>by rw[aY,ht]);clear c0 c1 c2 hc P bAll;generalize l.v i=V at *;generalize l.ng i=ng at *;generalize l.A i=A at *;generalize l.n i=n at *;generalize l.c i=c at *;generalize l.x i=x at *;generalize l.e i=e at *;have bA:Below wr.heap.size wr (wr.alloc (.cells #[.bool ng,.slice A n c,.int .i64 e] 24)):=(Below.refl _ wr).alloc (mF _) _;have kA:=cA.made wr (.bool ng) (.slice A n c) (.int .i64 e)
          have hgs:wr.heap.size < (wr.alloc (.cells #[.bool ng,.slice A n c,.int .i64 e] 24)).heap.size:=by simp
          have SG:=lY (sm ng A n c e (wr.alloc (.cells #[.bool ng,.slice A n c,.int .i64 e] 24)) (by omega));go_wp2_with fail;refine SG.out.mono ?_;rintro e' w4 ⟨rfl,b'⟩;have b14:=bA.trans (b'.mono bA.size);have b4:=b.trans (b14.mono b.size);have sz4:w2.heap.size+2<=w4.heap.size:=ou szw b14.size;have s4:=sj.below b14;obtain⟨q0,q1,q2⟩:=(kA.below b' hgs).cell;have ra4:=ra.below b14 ra.lt;have rb4:=rb.below b14 rb.lt;clear b' SG kA bA b14 sj d0 d1 d2 hgs ra rb b szw
          by_cases hn0:n=0
          . have hV0:Hid (V=0):=lY (by rw[hv.out,hn0,aL])
            have HA:Hid (vs ai Fa (R+3)=aY l false lo (i+1)):=lY (by rw[hFa.out,HPa'.out _ rfl,hV0.out,yb];simp);have HB:Hid (vs ai Fb (R+3)=aY l true lo (i+1)):=lY (by rw[hFb.out,HPb'.out _ rfl,hV0.out,yb];simp);rw[show mj n ng=0 by simp[mj,hn0]];go_wp2_with fail;go_roundw
            case rel=>exact⟨i+1,Fa,Fb,by omega,by go_num,ra4,rb4,b4,sz4,HA,HB⟩
            case measure=>simp[intOf];omega
          . obtain⟨t1,t2,t3⟩:=HIT.out hn0
            obtain⟨t,ht⟩:∃ t:Nat,e-lo=(t:Int):=⟨(e-lo).toNat,by omega⟩
            have ht5:t<=5000000:=by omega
            have HV0:Hid (0 < vs ai x n):=lY (hPos.out.1 (by omega));have HPa:=lY (HPa'.out t (by omega));have HPb:=lY (HPb'.out t (by omega));clear HIT t1 t2 t3 hPos HPa' HPb';cases ng
            . rw[show mj n false=1 by simp[mj,hn0]]
              simp only[if_true,Bool.false_eq_true,if_false,Bx]at HPa HPb;have HT2:Hid (vs ai Fa (R+3)+vs ai x n*2^t < ai^(R+3)):=lY (by rw[hFa.out,← hv.out,← HPa.out];exact FIT.out false);have AD:=lY (jL (w2.heap.size) (R+3) Fa A n c x t w4 ra4 (by omega) s4 (by omega) (by omega) HT2.out HV0.out);go_wp2_with fail;refine AD.out.mono ?_;rintro e' w6 ⟨rfl,F',r6,o6,hv6⟩;have b6:Below w2.heap.size w2 w6:=az.below b4 o6 b4.size hga;have ro6:=rb4.other o6 (Ne.symm hab);have sz6:w2.heap.size+2<=w6.heap.size:=ou sz4 o6.size;clear AD ra4 rb4 o6 s4 b4 q0 q1 q2;go_wp2_with fail;go_roundw
              case rel=>exact⟨i+1,F',Fb,by omega,by go_num,r6,ro6,b6,sz6,lY (by rw[hv6.out,hFa.out,HPa.out,hv.out]),lY (by rw[hFb.out,HPb.out])⟩
              case measure=>simp[intOf];omega
            . rw[show mj n true=-1 by simp[mj,hn0]]
              simp only[if_true,Bool.true_eq_false,if_false,Bx]at HPa HPb;have HT2:Hid (vs ai Fb (R+3)+vs ai x n*2^t < ai^(R+3)):=lY (by rw[hFb.out,← hv.out,← HPb.out];exact FIT.out true);have AD:=lY (jL (w2.heap.size+1) (R+3) Fb A n c x t w4 rb4 (by omega) s4 (by omega) (by omega) HT2.out HV0.out);go_wp2_with fail;refine AD.out.mono ?_;rintro e' w6 ⟨rfl,F',r6,o6,hv6⟩;have b6:Below w2.heap.size w2 w6:=az.below b4 o6 b4.size hgb;have ro6:=ra4.other o6 hab;have sz6:w2.heap.size+2<=w6.heap.size:=ou sz4 o6.size;clear AD rb4 ra4 o6 s4 b4 q0 q1 q2;go_wp2_with fail;go_roundw
              case rel=>exact⟨i+1,Fa,F',by omega,by go_num,ro6,r6,b6,sz6,lY (by rw[hFa.out,HPa.out]),lY (by rw[hv6.out,hFb.out,HPb.out,hv.out])⟩
              case measure=>simp[intOf];omega
        . obtain rfl:i=j:=by omega
          have sa:=ra.sl0 (R+3) (R+3) (mF _) (mF _);have sb:=rb.sl0 (R+3) (R+3) (mF _) (mF _);have Fw:=F2'.adv b F2'.sz;have szF:=Fw.sz;have KA:=lY (bL sa.small);have KB:=lY (bL sb.small)
          by_cases hle:aY l true lo i<=aY l false lo i
          . have HARM:=lY (if_pos hle:(if aY l true lo i<=aY l false lo i then bH false (aY l false lo i-aY l true lo i) lo else bH true (aY l true lo i-aY l false lo i) lo)=_)
            have SB:=kH (some ⟨w2.heap.size,0,none⟩) (some ⟨w2.heap.size+1,0,none⟩) (R+3) (R+3) (R+3) (R+3) Fa Fb wr sa sb (by omega) (by omega) (by rw[hFa.out,hFb.out];exact hle);have KD:Hid (vs ai Fa (R+3)-vs ai Fb (R+3) < ai^(R+3)):=lY (by have:=KA.out;omega);have HSB:=lY SB;clear SB hle;go_wp2_with fail;refine HSB.out.mono ?_;rintro e' w7 ⟨v7,rfl,n7,b7⟩;have F7:=Fw.adv b7 szF;obtain⟨A7,p7,c7,f7,rfl,q7,lp7,_,e7⟩:=n7.sl' KD.out;rw[hFa.out,hFb.out]at e7;have E7:=lY e7;clear e7 n7 b7 HSB Fw sa sb ra rb b szw szF;have MK:=de false A7 p7 c7 f7 lo w7 q7 (by omega) F7.tab (by omega) (by omega);rw[E7.out]at MK;have HMK:=lY MK;clear MK;have sz7:=F7.sz;go_wp2_with fail;refine HMK.out.mono ?_;rintro e' w9 ⟨v9,rfl,n9,b9⟩;have F9:=F7.adv b9 sz7;obtain⟨cF0,cF1,cF2⟩:=F9.kr.cell;obtain⟨fF0,fF1,fF2⟩:=F9.kr.frozen;clear HMK b9 F7;generalize bH false (aY l false lo i-aY l true lo i) lo=r at *;obtain⟨A9,p9,c9,f9,rfl,m9⟩:=n9;go_wp2_with fail;rw[HYES.out,HARM.out]
            refine bodyPost_ret (v:=.tuple #[.agg #[.bool r.neg,.slice A9 p9 c9,.int .i64 r.e],.bool r.ok]) (by simp[results,qK,go_sem,cF0,cF1,cF2]) rfl
             ⟨_,rfl,am.put3 ⟨A9,p9,c9,f9,rfl,m9⟩ F9.kr (aD _) (av _ _ _) (aI _) _ _ _,ak F9.bel (by omega) F9.bel.size _ _ _⟩
          . have HARM:=lY (if_neg hle:(if aY l true lo i<=aY l false lo i then bH false (aY l false lo i-aY l true lo i) lo else bH true (aY l true lo i-aY l false lo i) lo)=_)
            have SB:=lY (us (some ⟨w2.heap.size,0,none⟩) (some ⟨w2.heap.size+1,0,none⟩) (R+3) (R+3) (R+3) (R+3) Fa Fb wr sa sb (by omega) (by omega) (by rw[hFa.out,hFb.out];omega));have hle2:=lY (show vs ai Fa (R+3)<=vs ai Fb (R+3) by rw[hFa.out,hFb.out];omega);have KD:Hid (vs ai Fb (R+3)-vs ai Fa (R+3) < ai^(R+3)):=lY (by have:=KB.out;omega);clear hle;go_wp2_with fail;refine SB.out.mono ?_;rintro e' w6 ⟨rfl,b6⟩;have F6:=Fw.adv b6 szF;have szF6:=F6.sz;have SB2:=lY (kH (some ⟨w2.heap.size+1,0,none⟩) (some ⟨w2.heap.size,0,none⟩) (R+3) (R+3) (R+3) (R+3) Fb Fa w6 (sb.below b6) (sa.below b6) (by omega) (by omega) hle2.out);clear SB b6 Fw;go_wp2_with fail;refine SB2.out.mono ?_;rintro e' w7 ⟨v7,rfl,n7,b7⟩;have F7:=F6.adv b7 szF6;obtain⟨A7,p7,c7,f7,rfl,q7,lp7,_,e7⟩:=n7.sl' KD.out;rw[hFa.out,hFb.out]at e7;have E7:=lY e7;clear e7 n7 b7 SB2 F6 sa sb ra rb b szw szF szF6;have MK:=de true A7 p7 c7 f7 lo w7 q7 (by omega) F7.tab (by omega) (by omega);rw[E7.out]at MK;have HMK:=lY MK;clear MK;have sz7:=F7.sz;go_wp2_with fail;refine HMK.out.mono ?_;rintro e' w9 ⟨v9,rfl,n9,b9⟩;have F9:=F7.adv b9 sz7;obtain⟨cF0,cF1,cF2⟩:=F9.kr.cell;obtain⟨fF0,fF1,fF2⟩:=F9.kr.frozen;clear HMK b9 F7;generalize bH true (aY l true lo i-aY l false lo i) lo=r at *;obtain⟨A9,p9,c9,f9,rfl,m9⟩:=n9;go_wp2_with fail;rw[HYES.out,HARM.out]
            refine bodyPost_ret (v:=.tuple #[.agg #[.bool r.neg,.slice A9 p9 c9,.int .i64 r.e],.bool r.ok]) (by simp[results,qK,go_sem,cF0,cF1,cF2]) rfl
             ⟨_,rfl,am.put3 ⟨A9,p9,c9,f9,rfl,m9⟩ F9.kr (aD _) (av _ _ _) (aI _) _ _ _,ak F9.bel (by omega) F9.bel.size _ _ _⟩
      .
       have ra:dG 51 w5 (w2.heap.size+1) (R+3) (fun _=>0):=r52;have rb:dG 51 w5 (w2.heap.size) (R+3) (fun _=>0):=r51
       have hga:w2.heap.size<=w2.heap.size+1:=by omega
       have hgb:w2.heap.size<=w2.heap.size:=by omega
       have hab:w2.heap.size+1≠w2.heap.size:=by omega
       clear r51 r52;go_wp2_with fail
       go_loopw [51] (fun s51 wr=>∃ (i:Nat) (Fa Fb:Nat->Nat),i<=j/\s51=.int .i64 (i:Int)/\dG 51 wr (w2.heap.size+1) (R+3) Fa/\dG 51 wr (w2.heap.size) (R+3) Fb/\Below w2.heap.size w2 wr/\w2.heap.size+2<=wr.heap.size/\Hid (vs ai Fa (R+3)=aY l false lo i)/\Hid (vs ai Fb (R+3)=aY l true lo i)) (fun s51 _=>j-(intOf s51).toNat)
       case atStart=>exact⟨0,_,_,oY _,rfl,ra,rb,b5,sz5,lY (ky _),lY (ky _)⟩
       case round =>
        clear ra rb b5 sz5;obtain⟨i,Fa,Fb,hi',rfl,ra,rb,b,szw,hFa,hFb⟩:=hrel
        by_cases hlt:i < j
        . obtain⟨ad,rfl,hb,hc⟩:=h.2.1 (by omega)
          obtain⟨c0,c1,c2⟩:=hc i hlt;have bAll:=F2'.bel.trans (b.mono F2'.bel.size);have d0:=(bAll.cell (p:=ad.add (i*3)) (by rw[ao];exact hb)).trans c0;have d1:=(bAll.cell (p:=⟨(ad.add (i*3)).block,(ad.add (i*3)).off+1,none⟩) (by simp only[ao];exact hb)).trans c1;have d2:=(bAll.cell (p:=⟨(ad.add (i*3)).block,(ad.add (i*3)).off+2,none⟩) (by simp only[ao];exact hb)).trans c2;have sj:=(h.2.2 i hlt).below bAll;have P:=HP.out i hlt;have pl:=P.len;have hPos:=lY P.pos;have FIT:Hid (∀ sg,aY l sg lo (i+1) < ai^(R+3)):=lY (fun sg=>pK hE.out hk sg (by omega) hRN.out);have HIT:Hid (l.n i≠0->lo<=l.e i/\l.e i<=hi/\l.e i+(nb (l.v i):Int)<=en):=lY (fun h0=>hE.out.item hlt h0);have hv:Hid (l.v i=vs ai (l.x i) (l.n i)):=lY rfl;have HPa':Hid (∀ t,(l.e i-lo).toNat=t->aY l false lo (i+1)=aY l false lo i+(if l.ng i=false then l.v i*2^t else 0)):=lY (fun t ht=>by rw[aY,ht]);have HPb':Hid (∀ t,(l.e i-lo).toNat=t->aY l true lo (i+1)=aY l true lo i+(if l.ng i=true then l.v i*2^t else 0)):=lY (fun t ht=>by rw[aY,ht]);clear c0 c1 c2 hc P bAll;generalize l.v i=V at *;generalize l.ng i=ng at *;generalize l.A i=A at *;generalize l.n i=n at *;generalize l.c i=c at *;generalize l.x i=x at *;generalize l.e i=e at *;have bA:Below wr.heap.size wr (wr.alloc (.cells #[.bool ng,.slice A n c,.int .i64 e] 24)):=(Below.refl _ wr).alloc (mF _) _;have kA:=cA.made wr (.bool ng) (.slice A n c) (.int .i64 e)
          have hgs:wr.heap.size < (wr.alloc (.cells #[.bool ng,.slice A n c,.int .i64 e] 24)).heap.size:=by simp
          have SG:=lY (sm ng A n c e (wr.alloc (.cells #[.bool ng,.slice A n c,.int .i64 e] 24)) (by omega));go_wp2_with fail;refine SG.out.mono ?_;rintro e' w4 ⟨rfl,b'⟩;have b14:=bA.trans (b'.mono bA.size);have b4:=b.trans (b14.mono b.size);have sz4:w2.heap.size+2<=w4.heap.size:=ou szw b14.size;have s4:=sj.below b14;obtain⟨q0,q1,q2⟩:=(kA.below b' hgs).cell;have ra4:=ra.below b14 ra.lt;have rb4:=rb.below b14 rb.lt;clear b' SG kA bA b14 sj d0 d1 d2 hgs ra rb b szw
          by_cases hn0:n=0
          . have hV0:Hid (V=0):=lY (by rw[hv.out,hn0,aL])
            have HA:Hid (vs ai Fa (R+3)=aY l false lo (i+1)):=lY (by rw[hFa.out,HPa'.out _ rfl,hV0.out,yb];simp);have HB:Hid (vs ai Fb (R+3)=aY l true lo (i+1)):=lY (by rw[hFb.out,HPb'.out _ rfl,hV0.out,yb];simp);rw[show mj n ng=0 by simp[mj,hn0]];go_wp2_with fail;go_roundw
            case rel=>exact⟨i+1,Fa,Fb,by omega,by go_num,ra4,rb4,b4,sz4,HA,HB⟩
            case measure=>simp[intOf];omega
          . obtain⟨t1,t2,t3⟩:=HIT.out hn0
            obtain⟨t,ht⟩:∃ t:Nat,e-lo=(t:Int):=⟨(e-lo).toNat,by omega⟩
            have ht5:t<=5000000:=by omega
            have HV0:Hid (0 < vs ai x n):=lY (hPos.out.1 (by omega));have HPa:=lY (HPa'.out t (by omega));have HPb:=lY (HPb'.out t (by omega));clear HIT t1 t2 t3 hPos HPa' HPb';cases ng
            . rw[show mj n false=1 by simp[mj,hn0]]
              simp only[if_true,Bool.false_eq_true,if_false,Bx]at HPa HPb;have HT2:Hid (vs ai Fa (R+3)+vs ai x n*2^t < ai^(R+3)):=lY (by rw[hFa.out,← hv.out,← HPa.out];exact FIT.out false);have AD:=lY (jL (w2.heap.size+1) (R+3) Fa A n c x t w4 ra4 (by omega) s4 (by omega) (by omega) HT2.out HV0.out);go_wp2_with fail;refine AD.out.mono ?_;rintro e' w6 ⟨rfl,F',r6,o6,hv6⟩;have b6:Below w2.heap.size w2 w6:=az.below b4 o6 b4.size hga;have ro6:=rb4.other o6 (Ne.symm hab);have sz6:w2.heap.size+2<=w6.heap.size:=ou sz4 o6.size;clear AD ra4 rb4 o6 s4 b4 q0 q1 q2;go_wp2_with fail;go_roundw
              case rel=>exact⟨i+1,F',Fb,by omega,by go_num,r6,ro6,b6,sz6,lY (by rw[hv6.out,hFa.out,HPa.out,hv.out]),lY (by rw[hFb.out,HPb.out])⟩
              case measure=>simp[intOf];omega
            . rw[show mj n true=-1 by simp[mj,hn0]]
              simp only[if_true,Bool.true_eq_false,if_false,Bx]at HPa HPb;have HT2:Hid (vs ai Fb (R+3)+vs ai x n*2^t < ai^(R+3)):=lY (by rw[hFb.out,← hv.out,← HPb.out];exact FIT.out true);have AD:=lY (jL (w2.heap.size) (R+3) Fb A n c x t w4 rb4 (by omega) s4 (by omega) (by omega) HT2.out HV0.out);go_wp2_with fail;refine AD.out.mono ?_;rintro e' w6 ⟨rfl,F',r6,o6,hv6⟩;have b6:Below w2.heap.size w2 w6:=az.below b4 o6 b4.size hgb;have ro6:=ra4.other o6 hab;have sz6:w2.heap.size+2<=w6.heap.size:=ou sz4 o6.size;clear AD rb4 ra4 o6 s4 b4 q0 q1 q2;go_wp2_with fail;go_roundw
              case rel=>exact⟨i+1,Fa,F',by omega,by go_num,ro6,r6,b6,sz6,lY (by rw[hFa.out,HPa.out]),lY (by rw[hv6.out,hFb.out,HPb.out,hv.out])⟩
              case measure=>simp[intOf];omega
        . obtain rfl:i=j:=by omega
          have sa:=ra.sl0 (R+3) (R+3) (mF _) (mF _);have sb:=rb.sl0 (R+3) (R+3) (mF _) (mF _);have Fw:=F2'.adv b F2'.sz;have szF:=Fw.sz;have KA:=lY (bL sa.small);have KB:=lY (bL sb.small)
          by_cases hle:aY l true lo i<=aY l false lo i
          . have HARM:=lY (if_pos hle:(if aY l true lo i<=aY l false lo i then bH false (aY l false lo i-aY l true lo i) lo else bH true (aY l true lo i-aY l false lo i) lo)=_)
            have SB:=kH (some ⟨w2.heap.size+1,0,none⟩) (some ⟨w2.heap.size,0,none⟩) (R+3) (R+3) (R+3) (R+3) Fa Fb wr sa sb (by omega) (by omega) (by rw[hFa.out,hFb.out];exact hle);have KD:Hid (vs ai Fa (R+3)-vs ai Fb (R+3) < ai^(R+3)):=lY (by have:=KA.out;omega);have HSB:=lY SB;clear SB hle;go_wp2_with fail;refine HSB.out.mono ?_;rintro e' w7 ⟨v7,rfl,n7,b7⟩;have F7:=Fw.adv b7 szF;obtain⟨A7,p7,c7,f7,rfl,q7,lp7,_,e7⟩:=n7.sl' KD.out;rw[hFa.out,hFb.out]at e7;have E7:=lY e7;clear e7 n7 b7 HSB Fw sa sb ra rb b szw szF;have MK:=de false A7 p7 c7 f7 lo w7 q7 (by omega) F7.tab (by omega) (by omega);rw[E7.out]at MK;have HMK:=lY MK;clear MK;have sz7:=F7.sz;go_wp2_with fail;refine HMK.out.mono ?_;rintro e' w9 ⟨v9,rfl,n9,b9⟩;have F9:=F7.adv b9 sz7;obtain⟨cF0,cF1,cF2⟩:=F9.kr.cell;obtain⟨fF0,fF1,fF2⟩:=F9.kr.frozen;clear HMK b9 F7;generalize bH false (aY l false lo i-aY l true lo i) lo=r at *;obtain⟨A9,p9,c9,f9,rfl,m9⟩:=n9;go_wp2_with fail;rw[HYES.out,HARM.out]
            refine bodyPost_ret (v:=.tuple #[.agg #[.bool r.neg,.slice A9 p9 c9,.int .i64 r.e],.bool r.ok]) (by simp[results,qK,go_sem,cF0,cF1,cF2]) rfl
             ⟨_,rfl,am.put3 ⟨A9,p9,c9,f9,rfl,m9⟩ F9.kr (aD _) (av _ _ _) (aI _) _ _ _,ak F9.bel (by omega) F9.bel.size _ _ _⟩
          . have HARM:=lY (if_neg hle:(if aY l true lo i<=aY l false lo i then bH false (aY l false lo i-aY l true lo i) lo else bH true (aY l true lo i-aY l false lo i) lo)=_)
            have SB:=lY (us (some ⟨w2.heap.size+1,0,none⟩) (some ⟨w2.heap.size,0,none⟩) (R+3) (R+3) (R+3) (R+3) Fa Fb wr sa sb (by omega) (by omega) (by rw[hFa.out,hFb.out];omega));have hle2:=lY (show vs ai Fa (R+3)<=vs ai Fb (R+3) by rw[hFa.out,hFb.out];omega);have KD:Hid (vs ai Fb (R+3)-vs ai Fa (R+3) < ai^(R+3)):=lY (by have:=KB.out;omega);clear hle;go_wp2_with fail;refine SB.out.mono ?_;rintro e' w6 ⟨rfl,b6⟩;have F6:=Fw.adv b6 szF;have szF6:=F6.sz;have SB2:=lY (kH (some ⟨w2.heap.size,0,none⟩) (some ⟨w2.heap.size+1,0,none⟩) (R+3) (R+3) (R+3) (R+3) Fb Fa w6 (sb.below b6) (sa.below b6) (by omega) (by omega) hle2.out);clear SB b6 Fw;go_wp2_with fail;refine SB2.out.mono ?_;rintro e' w7 ⟨v7,rfl,n7,b7⟩;have F7:=F6.adv b7 szF6;obtain⟨A7,p7,c7,f7,rfl,q7,lp7,_,e7⟩:=n7.sl' KD.out;rw[hFa.out,hFb.out]at e7;have E7:=lY e7;clear e7 n7 b7 SB2 F6 sa sb ra rb b szw szF szF6;have MK:=de true A7 p7 c7 f7 lo w7 q7 (by omega) F7.tab (by omega) (by omega);rw[E7.out]at MK;have HMK:=lY MK;clear MK;have sz7:=F7.sz;go_wp2_with fail;refine HMK.out.mono ?_;rintro e' w9 ⟨v9,rfl,n9,b9⟩;have F9:=F7.adv b9 sz7;obtain⟨cF0,cF1,cF2⟩:=F9.kr.cell;obtain⟨fF0,fF1,fF2⟩:=F9.kr.frozen;clear HMK b9 F7;generalize bH true (aY l true lo i-aY l false lo i) lo=r at *;obtain⟨A9,p9,c9,f9,rfl,m9⟩:=n9;go_wp2_with fail;rw[HYES.out,HARM.out]
            refine bodyPost_ret (v:=.tuple #[.agg #[.bool r.neg,.slice A9 p9 c9,.int .i64 r.e],.bool r.ok]) (by simp[results,qK,go_sem,cF0,cF1,cF2]) rfl
             ⟨_,rfl,am.put3 ⟨A9,p9,c9,f9,rfl,m9⟩ F9.kr (aD _) (av _ _ _) (aI _) _ _ _,ak F9.bel (by omega) F9.bel.size _ _ _⟩
    . have HN:Hid (jO (gP l j) l j=DR.no):=lY (by unfold jO;rw[← HLO.out.1,← HLO.out.2,decide_eq_false hfar];simp)
      obtain⟨cr0,cr1,cr2⟩:=F2'.kr.cell;obtain⟨fr0,fr1,fr2⟩:=F2'.kr.frozen;go_wp2_with fail;rw[HN.out];refine bodyPost_ret (v:=.tuple #[.agg #[.bool false,.slice none 0 0,.int .i64 0],.bool false]) (by simp[results,qK,go_sem,cr0,cr1,cr2]) rfl ⟨_,rfl,aq _,ak F2'.bel (by omega) F2'.bel.size _ _ _⟩
end Go.Proofs.YtmbmohibpkepdaaGreatDoor
