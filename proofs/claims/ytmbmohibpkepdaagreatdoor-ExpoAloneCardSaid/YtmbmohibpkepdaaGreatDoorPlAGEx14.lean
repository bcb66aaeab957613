import Derived.Maps.RangeWalk
import Derived.Test.YtmbmohibpkepdaaGreatDoorPlAGEr4
set_option maxRecDepth 8000
set_option maxHeartbeats 4000000
open Go.Proofs.Tryz renaming prog->FQ, ntmps37->FY, func37->FZ
open Go.Lib renaming hid->FU
open Go.AllReadyH renaming cons->FV, nil->FW
open Bool renaming and_eq_true->FX
namespace Go.Proofs.YtmbmohibpkepdaaGreatDoor
open Go.RowKit
variable {A B:OA} {c d m n:Nat} {x:DR}
theorem qK {lo hi:DR}(P:Nat)(w:World)(ha:aC w A n c lo)(hb:aC w B m d hi)(hT:bx w)(h1:lo.ok=true)(h2:hi.ok=true)(hP:P<=100000)
 (hc:¬(lo.m=0/\hi.m=0)->aw lo hi=true/\(cK hi (aT lo)).ok=true/\cB (cK hi (aT lo)) ⟨true,false,1,4-(P:Int)+dE lo hi⟩<=0/\-260000<=4-(P:Int)+dE lo hi/\4-(P:Int)+dE lo hi<=260000) :
 Calls FQ 37 #[aG lo.neg A n c lo.e hi.neg B m d hi.e,.int .i64 (P:Int)] w (cz w):=by
 have P0:Pu w (w.alloc (.cells #[.bool lo.neg,.slice A n c,.int .i64 lo.e,.bool hi.neg,.slice B m d,.int .i64 hi.e] 31)) [(31,w.heap.size,s6 lo A n c hi B m d)] []:=Pu.alloc (⟨Below.refl _ w,trivial,trivial⟩:Pu w w [] []) 31 #[.bool lo.neg,.slice A n c,.int .i64 lo.e,.bool hi.neg,.slice B m d,.int .i64 hi.e];have k1:=P0.ks.1.at_ 1 _ rfl;have k4:=P0.ks.1.at_ 4 _ rfl;have z1:=ha.len0 h1;have z2:=hb.len0 h2
 have run:¬(n=0/\m=0)->∃ Z:Int,Hid (∀ w',Below w.heap.size w w'->Calls FQ 49 #[aG lo.neg A n c lo.e hi.neg B m d hi.e] w' (IP w' Z))/\Hid (∀ w',Below w.heap.size w w'->Calls FQ 40 #[aG lo.neg A n c lo.e hi.neg B m d hi.e,.int .i64 (4-(P:Int)+Z)] w' (cz w'))/\IntKind.i64.wrap (4-(P:Int))=4-(P:Int)/\IntKind.i64.wrap (4-(P:Int)+Z)=4-(P:Int)+Z:=fun hx=>by
  obtain⟨q1,q2,q3,q4,q5⟩:=hc (fun h=>hx ⟨z1.2 h.1,z2.2 h.2⟩);exact⟨_,FU fun w' b=>kL w' (ha.below b) (hb.below b) h1 h2,FU fun w' b=>oc _ w' (ha.below b) (hb.below b) (hT.below b) h1 h2 q1 q2 q3 (by omega) (by omega),aE (by omega) (by omega),aE (by omega) (by omega)⟩
 clear hc z1 z2 ha hb hT h1 h2 hP
 by_cases e1:n=0
 . by_cases e2:m=0
   . clear run
     subst e1 e2;have BB:=P0.bel;clear P0;go_enter FZ,FY;go_wp2_with fail;go_ret;exact⟨by first | rfl | (simp;done),BB⟩
   . obtain⟨Z,CZ,CN,wz1,wz2⟩:=run (fun h=>e2 h.2)
     have hd:decide ((m:Int)=0)=false:=decide_eq_false (by omega);clear run;subst e1;go_enter FZ,FY;go_upto_region 3 with fail;clear k1 k4;replace P0:=P0.below (Below.refl _ _).drew;generalize w.alloc (.cells #[.bool lo.neg,.slice A 0 c,.int .i64 lo.e,.bool hi.neg,.slice B m d,.int .i64 hi.e] 31)=w1 at *;have XS:KC 31 _ w.heap.size #[.bool lo.neg,.slice A 0 c,.int .i64 lo.e,.bool hi.neg,.slice B m d,.int .i64 hi.e]:=P0.ks.1;refine eM (S:=fun w'=>KC 31 w' w.heap.size #[.bool lo.neg,.slice A 0 c,.int .i64 lo.e,.bool hi.neg,.slice B m d,.int .i64 hi.e]) 8 #[false,false,false,false,false,false,false,false] (by kernel_rfl) (by kernel_rfl) (by kernel_rfl) XS ?_;refine AG 0 17 rfl (w.heap.size) (fun _ h=>h) XS ?_;go_frame;refine wpAnyH_take (i:=1) (oi:=⟨some 18,_,_,_,_,_⟩) (v:=.int .i64 (P:Int)) rfl (by kernel_rfl) (by kernel_rfl) (by kernel_rfl) (fun _ _ _ h=>h) (au (by rfl) (fun w=>by kernel_rfl)) XS ?_;go_frame;refine wpAnyH_take (i:=2) (oi:=⟨some 19,_,_,_,_,_⟩) (v:=.int .i64 (4-(P:Int))) rfl (by kernel_rfl) (by kernel_rfl) (by kernel_rfl) (fun _ _ _ h=>h) (au (by rfl) (fun w=>by have h:=wz1;go_simp)) XS ?_;go_frame;refine wpAnyH_take (i:=3) (oi:=⟨some 20,_,_,_,_,_⟩) (v:=.agg #[.bool lo.neg,.slice A 0 c,.int .i64 lo.e,.bool hi.neg,.slice B m d,.int .i64 hi.e]) rfl (by kernel_rfl) (by kernel_rfl) (by kernel_rfl) (fun _ _ _ h=>h) (ek (by rfl) _ rfl (w.heap.size) rfl (fun _ h=>h)) XS ?_;go_frame;refine wpAnyH_ready (rs:=[4]) (by kernel_rfl) (by simp) ?_;refine FV (o:=⟨some 21,_,_,_,_,_⟩) rfl ?_ FW;intro K hK;rw[if_pos (by rfl)];refine aO (CZ.out _ P0.bel) (by kernel_rfl) ?_;rintro e' w2 ⟨rfl,b2⟩;have L1:=P0.below b2;refine⟨_,rfl,hK.out _ _ L1.ks.1 (fun hS1=>?_)⟩;clear b2 XS P0 hK K;go_frame;refine wpAnyH_take (i:=5) (oi:=⟨some 22,_,_,_,_,_⟩) (v:=.int .i64 (4-(P:Int)+Z)) rfl (by kernel_rfl) (by kernel_rfl) (by kernel_rfl) (fun _ _ _ h=>h) (au (by rfl) (fun w=>by have h:=wz2;go_simp)) hS1 ?_;go_frame;refine wpAnyH_ready (rs:=[6]) (by kernel_rfl) (by simp) ?_;refine FV (o:=⟨some 23,_,_,_,_,_⟩) rfl ?_ FW;intro K hK;rw[if_pos (by rfl)];refine aO (CN.out _ L1.bel) (by kernel_rfl) ?_;rintro e' w3 ⟨rfl,b3⟩;have L2:=L1.below b3;refine⟨_,rfl,hK.out _ _ L2.ks.1 (fun hS2=>?_)⟩;clear b3 L1 hS1 hK K;go_frame;refine wpAnyH_take (i:=7) (oi:=⟨some 4,_,_,_,_,_⟩) (v:=.bool true) rfl (by kernel_rfl) (by kernel_rfl) (by kernel_rfl) (fun _ _ _ h=>h) (au (by rfl) (fun w=>by kernel_rfl)) hS2 ?_;go_frame;refine wpAnyH_done (by kernel_rfl) ?_ _;clear hS2;have BB:=L2.bel;clear L2;go_wp2_with fail;go_ret;exact⟨rfl,BB⟩
 . obtain⟨Z,CZ,CN,wz1,wz2⟩:=run (fun h=>e1 h.1)
   have hd:decide ((n:Int)=0)=false:=decide_eq_false (by omega);clear run;go_enter FZ,FY;go_upto_region 3 with fail;clear k1 k4;replace P0:=P0.below (Below.refl _ _).drew;generalize w.alloc (.cells #[.bool lo.neg,.slice A n c,.int .i64 lo.e,.bool hi.neg,.slice B m d,.int .i64 hi.e] 31)=w1 at *;have XS:KC 31 _ w.heap.size #[.bool lo.neg,.slice A n c,.int .i64 lo.e,.bool hi.neg,.slice B m d,.int .i64 hi.e]:=P0.ks.1;refine eM (S:=fun w'=>KC 31 w' w.heap.size #[.bool lo.neg,.slice A n c,.int .i64 lo.e,.bool hi.neg,.slice B m d,.int .i64 hi.e]) 8 #[false,false,false,false,false,false,false,false] (by kernel_rfl) (by kernel_rfl) (by kernel_rfl) XS ?_;refine AG 0 17 rfl (w.heap.size) (fun _ h=>h) XS ?_;go_frame;refine wpAnyH_take (i:=1) (oi:=⟨some 18,_,_,_,_,_⟩) (v:=.int .i64 (P:Int)) rfl (by kernel_rfl) (by kernel_rfl) (by kernel_rfl) (fun _ _ _ h=>h) (au (by rfl) (fun w=>by kernel_rfl)) XS ?_;go_frame;refine wpAnyH_take (i:=2) (oi:=⟨some 19,_,_,_,_,_⟩) (v:=.int .i64 (4-(P:Int))) rfl (by kernel_rfl) (by kernel_rfl) (by kernel_rfl) (fun _ _ _ h=>h) (au (by rfl) (fun w=>by have h:=wz1;go_simp)) XS ?_;go_frame;refine wpAnyH_take (i:=3) (oi:=⟨some 20,_,_,_,_,_⟩) (v:=.agg #[.bool lo.neg,.slice A n c,.int .i64 lo.e,.bool hi.neg,.slice B m d,.int .i64 hi.e]) rfl (by kernel_rfl) (by kernel_rfl) (by kernel_rfl) (fun _ _ _ h=>h) (ek (by rfl) _ rfl (w.heap.size) rfl (fun _ h=>h)) XS ?_;go_frame;refine wpAnyH_ready (rs:=[4]) (by kernel_rfl) (by simp) ?_;refine FV (o:=⟨some 21,_,_,_,_,_⟩) rfl ?_ FW;intro K hK;rw[if_pos (by rfl)];refine aO (CZ.out _ P0.bel) (by kernel_rfl) ?_;rintro e' w2 ⟨rfl,b2⟩;have L1:=P0.below b2;refine⟨_,rfl,hK.out _ _ L1.ks.1 (fun hS1=>?_)⟩;clear b2 XS P0 hK K;go_frame;refine wpAnyH_take (i:=5) (oi:=⟨some 22,_,_,_,_,_⟩) (v:=.int .i64 (4-(P:Int)+Z)) rfl (by kernel_rfl) (by kernel_rfl) (by kernel_rfl) (fun _ _ _ h=>h) (au (by rfl) (fun w=>by have h:=wz2;go_simp)) hS1 ?_;go_frame;refine wpAnyH_ready (rs:=[6]) (by kernel_rfl) (by simp) ?_;refine FV (o:=⟨some 23,_,_,_,_,_⟩) rfl ?_ FW;intro K hK;rw[if_pos (by rfl)];refine aO (CN.out _ L1.bel) (by kernel_rfl) ?_;rintro e' w3 ⟨rfl,b3⟩;have L2:=L1.below b3;refine⟨_,rfl,hK.out _ _ L2.ks.1 (fun hS2=>?_)⟩;clear b3 L1 hS1 hK K;go_frame;refine wpAnyH_take (i:=7) (oi:=⟨some 4,_,_,_,_,_⟩) (v:=.bool true) rfl (by kernel_rfl) (by kernel_rfl) (by kernel_rfl) (fun _ _ _ h=>h) (au (by rfl) (fun w=>by kernel_rfl)) hS2 ?_;go_frame;refine wpAnyH_done (by kernel_rfl) ?_ _;clear hS2;have BB:=L2.bel;clear L2;go_wp2_with fail;go_ret;exact⟨rfl,BB⟩
theorem yb {T T':TypeId}{lo hi lo' hi':DR}{A' B':OA}{n' c' m' d' g gr:Nat}{p p':Int}(w:World)(hW:Wk T w g p false)(hR:Wk T' w gr p' false)
 (CM:Hid (∀ w',Below w.heap.size w w'->Calls FQ 26 #[aG lo.neg A n c lo.e hi.neg B m d hi.e,aG lo'.neg A' n' c' lo'.e hi'.neg B' m' d' hi'.e] w' (cz w')))
 (CR:Hid (∀ w',Below w.heap.size w w'->Calls FQ 37 #[aG lo.neg A n c lo.e hi.neg B m d hi.e,.int .i64 p] w' (cz w'))) :
 Calls FQ 18 #[.pointer (some ⟨g,0,none⟩),aG lo.neg A n c lo.e hi.neg B m d hi.e,aG lo'.neg A' n' c' lo'.e hi'.neg B' m' d' hi'.e,.pointer (some ⟨gr,0,none⟩)] w (cz w):=by
 have L0:Pu w ((w.alloc (.cells #[.bool lo.neg,.slice A n c,.int .i64 lo.e,.bool hi.neg,.slice B m d,.int .i64 hi.e] 31)).alloc (.cells #[.bool lo'.neg,.slice A' n' c',.int .i64 lo'.e,.bool hi'.neg,.slice B' m' d',.int .i64 hi'.e] 31)) [(31,w.heap.size+1,s6 lo' A' n' c' hi' B' m' d'),(31,w.heap.size,s6 lo A n c hi B m d)] []:=by
  have h:=((⟨Below.refl _ w,trivial,trivial⟩:Pu w w [] []).alloc 31 #[.bool lo.neg,.slice A n c,.int .i64 lo.e,.bool hi.neg,.slice B m d,.int .i64 hi.e]).alloc 31 #[.bool lo'.neg,.slice A' n' c',.int .i64 lo'.e,.bool hi'.neg,.slice B' m' d',.int .i64 hi'.e];simp only[gO]at h;exact h
 have HW:=FU hW;have HR:=FU hR;clear hW hR;go_enter Tryz.func18,Tryz.ntmps18;go_upto_region 1 with fail;replace L0:=L0.below (Below.refl _ _).drew;generalize(w.alloc (.cells #[.bool lo.neg,.slice A n c,.int .i64 lo.e,.bool hi.neg,.slice B m d,.int .i64 hi.e] 31)).alloc (.cells #[.bool lo'.neg,.slice A' n' c',.int .i64 lo'.e,.bool hi'.neg,.slice B' m' d',.int .i64 hi'.e] 31)=w1 at *;have hS0:(fun w'=>KC 31 w' w.heap.size #[.bool lo.neg,.slice A n c,.int .i64 lo.e,.bool hi.neg,.slice B m d,.int .i64 hi.e]/\KC 31 w' (w.heap.size+1) #[.bool lo'.neg,.slice A' n' c',.int .i64 lo'.e,.bool hi'.neg,.slice B' m' d',.int .i64 hi'.e]/\w'.cell? ⟨g,0,none⟩=some (.int .i64 p)/\w'.cell? ⟨g,1,none⟩=some (.bool false)/\w'.cell? ⟨gr,1,none⟩=some (.bool false)) w1.drew:=⟨L0.ks.2.1,L0.ks.1,(HW.out.below L0.bel).cell.1,(HW.out.below L0.bel).cell.2,(HR.out.below L0.bel).cell.2⟩;refine eM (S:=fun w'=>KC 31 w' w.heap.size #[.bool lo.neg,.slice A n c,.int .i64 lo.e,.bool hi.neg,.slice B m d,.int .i64 hi.e]/\KC 31 w' (w.heap.size+1) #[.bool lo'.neg,.slice A' n' c',.int .i64 lo'.e,.bool hi'.neg,.slice B' m' d',.int .i64 hi'.e]/\w'.cell? ⟨g,0,none⟩=some (.int .i64 p)/\w'.cell? ⟨g,1,none⟩=some (.bool false)/\w'.cell? ⟨gr,1,none⟩=some (.bool false)) 30 #[false,false,false,false,false,false,false,false,false,false,false,false,false,false,false,false,false,false,false,false,false,false,false,false,false,false,false,false,false,false] (by kernel_rfl) (by kernel_rfl) (by kernel_rfl) hS0 ?_;refine gl 0 9 rfl (.pointer (some ⟨g,0,none⟩)) hS0 ?_;refine gl 1 10 rfl (.pointer (some ⟨g,0,none⟩)) hS0 ?_;refine gl 2 11 rfl (.pointer (some ⟨g,0,none⟩)) hS0 ?_;go_frame;refine gl 3 12 rfl (.pointer (some ⟨g,0,none⟩)) hS0 ?_;refine gl 4 13 rfl (.pointer (some ⟨g,1,none⟩)) hS0 ?_;refine FG 5 14 rfl (fun _ h=>h.2.2.2.1) hS0 ?_;go_frame;refine gl 6 15 rfl (.bool true) hS0 ?_;refine gl 7 16 rfl (.bool true) hS0 ?_;refine gl 8 17 rfl (.pointer (some ⟨gr,0,none⟩)) hS0 ?_;go_frame;refine gl 9 18 rfl (.pointer (some ⟨gr,0,none⟩)) hS0 ?_;refine gl 10 19 rfl (.pointer (some ⟨gr,1,none⟩)) hS0 ?_;refine FG 11 20 rfl (fun _ h=>h.2.2.2.2) hS0 ?_;go_frame;refine gl 12 21 rfl (.bool true) hS0 ?_;refine gl 13 22 rfl (.bool true) hS0 ?_;refine gl 14 23 rfl (.bool true) hS0 ?_;go_frame;refine AG 15 24 rfl (w.heap.size) (fun _ h=>h.1) hS0 ?_;refine AG 16 25 rfl (w.heap.size+1) (fun _ h=>h.2.1) hS0 ?_;go_frame;refine yg 17 26 rfl (CM.out _ L0.bel) ?_;rintro e' v1 ⟨rfl,b0⟩;have L1:=L0.below b0;refine⟨_,rfl,⟨L1.ks.2.1,L1.ks.1,(HW.out.below L1.bel).cell.1,(HW.out.below L1.bel).cell.2,(HR.out.below L1.bel).cell.2⟩,fun hS1=>?_⟩;clear b0 L0 hS0;go_frame;refine gl 18 27 rfl (.bool true) hS1 ?_;refine gl 19 28 rfl (.bool true) hS1 ?_;refine AG 20 29 rfl (w.heap.size) (fun _ h=>h.1) hS1 ?_;go_frame;refine gl 21 30 rfl (.pointer (some ⟨g,0,none⟩)) hS1 ?_;refine gl 22 31 rfl (.pointer (some ⟨g,0,none⟩)) hS1 ?_;refine gl 23 32 rfl (.pointer (some ⟨g,0,none⟩)) hS1 ?_;go_frame;refine gl 24 33 rfl (.pointer (some ⟨g,0,none⟩)) hS1 ?_
 refine gl 25 34 rfl (.pointer (some ⟨g,0,none⟩)) hS1 ?_;refine FK 26 35 rfl (fun _ h=>h.2.2.1) hS1 ?_;go_frame;refine yg 27 36 rfl (CR.out _ L1.bel) ?_;rintro e' v2 ⟨rfl,b0⟩;have L2:=L1.below b0;refine⟨_,rfl,⟨L2.ks.2.1,L2.ks.1,(HW.out.below L2.bel).cell.1,(HW.out.below L2.bel).cell.2,(HR.out.below L2.bel).cell.2⟩,fun hS2=>?_⟩;clear b0 L1 hS1;go_frame;refine gl 28 37 rfl (.bool true) hS2 ?_;refine gl 29 8 rfl (.bool true) hS2 ?_;go_frame;refine wpAnyH_done (by kernel_rfl) ?_ _;clear hS2;have BB:=L2.bel;clear L2;go_wp2_with fail;go_ret;exact⟨rfl,BB⟩
theorem oM {T T':TypeId}{P:Nat}{D C:Int}{r s:SRes}{f f':Nat->Rat}{A' B':OA}{n' c' m' d' g gr:Nat}{p':Int}(w:World)(hW:Wk T w g (P:Int) false)(hR:Wk T' w gr p' false)(hT:bx w)
 (hP1:16<=P) (hP2:P<=1000) (h:Sq D r) (hD:D<=199000) (hD0:0<=D) (k:Sq C s) (hf:Hl (rv r.lo) (rv r.hi) f) (hg:Hl (rv s.lo) (rv s.hi) f') (z:ij (fun n=>f n-f' n))
 (hrel:(0<=rv r.lo/\rv r.hi<=rv r.lo*(1+4*uP P))\/(rv r.hi<=0/\rv r.hi*(1+4*uP P)<=rv r.lo))
 (h1:am w (.slice A n c) r.lo.m) (h2:am w (.slice B m d) r.hi.m) (h3:am w (.slice A' n' c') s.lo.m) (h4:am w (.slice B' m' d') s.hi.m) :
 Calls FQ 18 #[.pointer (some ⟨g,0,none⟩),aG r.lo.neg A n c r.lo.e r.hi.neg B m d r.hi.e,aG s.lo.neg A' n' c' s.lo.e s.hi.neg B' m' d' s.hi.e,.pointer (some ⟨gr,0,none⟩)] w (cz w):=by
 have a1:=aC.of_num h1 h.l.pl h.l.ok;have a2:=aC.of_num h2 h.h.pl h.h.ok;have a3:=aC.of_num h3 k.l.pl k.l.ok;have a4:=aC.of_num h4 k.h.pl k.h.ok;obtain⟨y1,y2⟩:=BN h k hf hg z
 exact yb w hW hR
  (FU fun w' b=>zF w' (a1.below b) (a2.below b) (a3.below b) (a4.below b) h.l.ok h.h.ok k.l.ok k.h.ok y1 y2)
  (FU fun w' b=>qK P w' (a1.below b) (a2.below b) (hT.below b) h.l.ok h.h.ok (by omega) (EM hP1 hP2 h hrel hD hD0))
structure Fi (x:DR):Prop where
 ok:x.ok=true
 pl:aR x.neg x.m x.e=true
 b:nb x.m<=640
 e1:-3000<=x.e
theorem Fi.tq (h:Fi x):Tq 262800 x:=⟨h.ok,h.pl,by have:=h.b;omega,by have:=h.e1;omega,by have:=h.b;have:=(aV h.pl).e2;omega⟩
theorem Fi.nrm (h:Fi x):Cs x:=⟨by have:=h.b;omega,by have:=h.e1;omega⟩
theorem Fc {neg:Bool}{x:Nat->Nat}{e:Int}(hl:vs ai x n < ai^n)(h3:rc neg n x e=true):n<=10/\aj neg n x e=true/\Fi ⟨true,neg,vs ai x n,e⟩:=by
 unfold rc at h3;simp only[FX,decide_eq_true_eq]at h3;obtain⟨⟨hn,hp⟩,he⟩:=h3;have F:=aS hp
 have pl:aR neg (vs ai x n) e=true:=by rw[← mS F.cn];exact hp
 have key:∀ k,64*n<=k->nb (vs ai x n)<=k:=fun k hk=>(bi _ _).2 (Nat.lt_of_lt_of_le hl (by rw[bv,← Nat.pow_mul];exact Nat.pow_le_pow_right (by omega) (by omega)))
 exact⟨hn,hp,rfl,pl,key 640 (by omega),he⟩
def Av (x:DR):DR:=⟨x.ok,false,x.m,x.e⟩
theorem wI (x:DR):rv (Av x)=sz x:=rfl
theorem Fi.abs (h:Fi x):Fi (Av x):=⟨h.ok,by
 have:=h.pl
 show aR false x.m x.e=true
 unfold aR at *
 split at this <;> simp_all,h.b,h.e1⟩
theorem Fi.re (h:Fi x):cM x x=true ↔ sz x<=65536:=by
 obtain⟨m1,m2,m3,m4⟩:=fB
 constructor
 . intro hr
   unfold cM at hr;simp only[FX]at hr;have a:=cP (m2.more (by omega)) h.tq hr.1.1;have b:=cP h.tq (m1.more (by omega)) hr.2;rw[m4]at a;rw[m3]at b;rw[dJ]
   split <;> grind
 . exact yT h.tq (by omega)
theorem Fi.top (h:Fi x)(hs:sz x<=65536):x.e+(nb x.m:Int)<=17:=by
 rcases Nat.eq_zero_or_pos x.m with h0 | h0
 . rw[h0,aX,((aV h.pl).zero h0).1];omega
 . have e:((2^17:Nat):Rat)=131072:=rfl
   have h4:=Rat.mul_le_mul_of_nonneg_right (bW (fA h0)) (Rat.le_of_lt (dD x.e));rw[cI]at h4;have hs:(x.m:Rat)*tw x.e<=65536:=hs
   have h5:tw (((nb x.m-1:Nat):Int)+x.e) < tw ((17:Nat):Int):=by
    rw[fx,e]
    grind
   have:=Cy h5
   have:=gg h0
   omega
theorem Fi.tq4 (h:Fi x)(hs:sz x<=65536):Tq 4000 x:=⟨h.ok,h.pl,by have:=h.b;omega,by have:=h.e1;omega,by have:=h.top hs;omega⟩
theorem Fi.lone (h:Fi x):aw x x=true:=aM h.tq h.tq Rat.le_refl
theorem Ce {r s:DR}(hr:Tq 262800 r)(hs:Tq 262800 s)(h:cB r s<=0):rv r<=rv s:=cP hr hs (by
 unfold aw bG;unfold cB gh at h;rw[hr.ok,hs.ok]at h ⊢
 exact decide_eq_true h)
theorem Fi.cmp (h:Fi x):decide (cB (Av x) jf<=0)=cM x x:=by
 obtain⟨m1,m2,m3,m4⟩:=fB
 by_cases hs:sz x<=65536
 . rw[h.re.2 hs]
   exact decide_eq_true (kM h.abs.tq.p m1.p (by rw[m3,wI];exact hs))
 . have:cM x x=false:=by
    by_cases e:cM x x=true
    . exact absurd (h.re.1 e) hs
    . simpa using e
   rw[this]
   refine decide_eq_false fun c=>hs ?_
   have:=Ce h.abs.tq (m1.more (by omega)) c
   rw[m3,wI]at this;exact this
theorem aC.abs {w:World}(k:aC w A n c x)(h:Fi x):aC w A n c (Av x):=aC.of_num (k.num h.ok) h.abs.pl h.ok
theorem uF (w:World)(ha:aC w A n c x)(h:Fi x):Calls FQ 14 #[aP x.neg A n c x.e] w (di w (cM x x)):=by
 have hm:=fB.1;obtain⟨z,hz⟩:=du (cB (Av x) jf);have hq:=h.cmp;rw[← hz]at hq;rw[← hq]
 have CC:Hid (∀ w',Below w.heap.size w w'->am w' (.slice (some ⟨w.heap.size+1,0,none⟩) 1 1) 1->Calls FQ 25 #[aP false A n c x.e,aP false (some ⟨w.heap.size+1,0,none⟩) 1 1 16] w' (vx w' z true)):=FU (fun w' b k=>by
  have:=vY w' ((ha.abs h).below b) (aC.of_num (r:=jf) k hm.pl hm.ok)
  rw[h.abs.ok,← hz]at this
  exact this)
 have k:=KC.made 24 w #[.bool x.neg,.slice A n c,.int .i64 x.e];obtain⟨y0,y1,y2⟩:=k.c3;have f0:=k.fr 0;have kk:=FU (KC.made 24 w #[.bool false,.slice A n c,.int .i64 x.e]);have bb:Hid (Below w.heap.size w ((w.alloc (.cells #[.bool false,.slice A n c,.int .i64 x.e] 24)).alloc (.cells #[.int .u64 1] 51))):=FU (aB (ag w _) (ag _ _));have no:Hid (am ((w.alloc (.cells #[.bool false,.slice A n c,.int .i64 x.e] 24)).alloc (.cells #[.int .u64 1] 51)) (.slice (some ⟨w.heap.size+1,0,none⟩) 1 1) 1):=FU (iN (kV 51 _ 1 _ 1 (by unfold ai;omega) rfl (by simp)) (by omega));clear hm hz hq ha h k;go_enter Tryz.func14,Tryz.ntmps14;go_wp2_with fail;clear y0 y1 y2 f0;refine(CC.out _ bb.out no.out).mono ?_;generalize(w.alloc (.cells #[.bool false,.slice A n c,.int .i64 x.e] 24)).alloc (.cells #[.int .u64 1] 51)=w1 at *;rintro e' w2 ⟨rfl,b2⟩;have B2:=aB bb.out b2;clear CC bb no kk b2;go_wp2_with fail;go_ret;exact⟨by simp,B2⟩
theorem ij.refl {f:Nat->Rat}:ij (fun n=>f n-f n):=fun e he=>⟨0,fun n _=>by grind⟩
theorem wZ (w':World)(A:OA)(n c:Nat)(B:OA)(m d:Nat)(h:am w' (.slice A n c) 0)(k:am w' (.slice B m d) 0):Calls FQ 16 #[aG false A n c 0 false B m d 0,aG false none 0 0 0 false none 0 0 0] w' (cz w') :=
 pA DR.zero DR.zero A B none none n c m d 0 0 0 0 w' h k (aq _) (aq _) (Nat.pow_pos bm) (Nat.pow_pos bm)
theorem Fd {D:DR}{x:Nat->Nat}{w:World}(hD:D=⟨true,D.neg,vs ai x n,D.e⟩)(ha:Sl w A n c x)(hf:rc D.neg n x D.e=true):Fi D/\∀ w',Below w.heap.size w w'->aC w' A n c D:=by
 obtain⟨hn,hpl,HD⟩:=Fc (bL ha.small) hf;rw[← hD]at HD;exact⟨HD,fun w' h=>⟨x,ha.below h,by omega,congrArg DR.m hD,by rw[HD.ok];exact hpl.symm⟩⟩
theorem Ap {p:Int}(h:tW p=true):16<=p/\p<=400:=by
 unfold tW at h
 simpa only[FX,decide_eq_true_eq] using h
section
variable {D:DR} {A:OA} {n c:Nat} {p p':Int} {w:World}
theorem Bx (HD:Fi D)(Dd:∀ w',Below w.heap.size w w'->aC w' A n c D)(hp:16<=p/\p<=400):
 (∀ g w',Wk 38 w' g p false->Below w.heap.size w w'->Calls FQ 13 #[.pointer (some ⟨g,0,none⟩),aP D.neg A n c D.e] w' (ap 38 w' g p ⟨false,D,D⟩)):=by
 intro g w' k h;rw[← (oW (p:=p) (by omega) (by omega) HD.tq).1];exact gY g p false w' k (Dd w' h)
theorem Bl (HD:Fi D)(Dd:∀ w',Below w.heap.size w w'->aC w' A n c D)(hp:16<=p/\p<=400)(hp':p'=p+100)(hs:cM D D=true):
 ∃ (XE XS XH YE YS YH:SRes->Prop),
  (∀ g w' A n c B m d,Wk 38 w' g p false->bx w'->am w' (.slice A n c) D.m->am w' (.slice B m d) D.m->Calls FQ 15 #[.pointer (some ⟨g,0,none⟩),aG D.neg A n c D.e D.neg B m d D.e] w' (fun e' w''=>∃ r,XE r/\r.bad=false/\ap 38 w' g p r e' w'')) /\
  (∀ g w' A n c B m d,Wk 38 w' g p false->bx w'->am w' (.slice A n c) D.m->am w' (.slice B m d) D.m->Calls FQ 20 #[.pointer (some ⟨g,0,none⟩),aG D.neg A n c D.e D.neg B m d D.e] w' (fun e' w''=>∃ r,XS r/\r.bad=false/\ap 38 w' g p r e' w'')) /\
  (∀ g w' A n c B m d,Wk 38 w' g p false->bx w'->am w' (.slice A n c) D.m->am w' (.slice B m d) D.m->Calls FQ 22 #[.pointer (some ⟨g,0,none⟩),aG D.neg A n c D.e D.neg B m d D.e] w' (fun e' w''=>∃ r,XH r/\r.bad=false/\ap 38 w' g p r e' w'')) /\
  (∀ gv w',Wk 49 w' gv p' false->Below w.heap.size w w'->bx w'->Calls FQ 19 #[.pointer (some ⟨gv,0,none⟩),aP D.neg A n c D.e] w' (fun e' w''=>∃ r,YE r/\r.bad=false/\ap 49 w' gv p' r e' w'')) /\
  (∀ gv w',Wk 49 w' gv p' false->Below w.heap.size w w'->bx w'->Calls FQ 21 #[.pointer (some ⟨gv,0,none⟩),aP D.neg A n c D.e] w' (fun e' w''=>∃ r,YS r/\r.bad=false/\ap 49 w' gv p' r e' w'')) /\
  (∀ gv w',Wk 49 w' gv p' false->Below w.heap.size w w'->bx w'->Calls FQ 23 #[.pointer (some ⟨gv,0,none⟩),aP D.neg A n c D.e] w' (fun e' w''=>∃ r,YH r/\r.bad=false/\ap 49 w' gv p' r e' w'')) /\
  (∀ r1 r2 g gr w' A1 n1 c1 B1 m1 d1 A2 n2 c2 B2 m2 d2,XE r1->YE r2->Wk 38 w' g p false->Wk 49 w' gr p' false->bx w'->am w' (.slice A1 n1 c1) r1.lo.m->am w' (.slice B1 m1 d1) r1.hi.m->am w' (.slice A2 n2 c2) r2.lo.m->am w' (.slice B2 m2 d2) r2.hi.m->Calls FQ 18 #[.pointer (some ⟨g,0,none⟩),aG r1.lo.neg A1 n1 c1 r1.lo.e r1.hi.neg B1 m1 d1 r1.hi.e,aG r2.lo.neg A2 n2 c2 r2.lo.e r2.hi.neg B2 m2 d2 r2.hi.e,.pointer (some ⟨gr,0,none⟩)] w' (cz w')) /\
  (∀ r1 r2 g gr w' A1 n1 c1 B1 m1 d1 A2 n2 c2 B2 m2 d2,XS r1->YS r2->Wk 38 w' g p false->Wk 49 w' gr p' false->bx w'->am w' (.slice A1 n1 c1) r1.lo.m->am w' (.slice B1 m1 d1) r1.hi.m->am w' (.slice A2 n2 c2) r2.lo.m->am w' (.slice B2 m2 d2) r2.hi.m->Calls FQ 18 #[.pointer (some ⟨g,0,none⟩),aG r1.lo.neg A1 n1 c1 r1.lo.e r1.hi.neg B1 m1 d1 r1.hi.e,aG r2.lo.neg A2 n2 c2 r2.lo.e r2.hi.neg B2 m2 d2 r2.hi.e,.pointer (some ⟨gr,0,none⟩)] w' (cz w')) /\
  (∀ r1 r2 g gr w' A1 n1 c1 B1 m1 d1 A2 n2 c2 B2 m2 d2,XH r1->YH r2->Wk 38 w' g p false->Wk 49 w' gr p' false->bx w'->am w' (.slice A1 n1 c1) r1.lo.m->am w' (.slice B1 m1 d1) r1.hi.m->am w' (.slice A2 n2 c2) r2.lo.m->am w' (.slice B2 m2 d2) r2.hi.m->Calls FQ 18 #[.pointer (some ⟨g,0,none⟩),aG r1.lo.neg A1 n1 c1 r1.lo.e r1.hi.neg B1 m1 d1 r1.hi.e,aG r2.lo.neg A2 n2 c2 r2.lo.e r2.hi.neg B2 m2 d2 r2.hi.e,.pointer (some ⟨gr,0,none⟩)] w' (cz w')):=by
 obtain⟨P,hP⟩:∃ P:Nat,p=(P:Int):=⟨p.toNat,by omega⟩;subst hP;have SD:=HD.re.1 hs;have lD:=HD.lone;have T4:=HD.tq4 SD;have hB:jw 131080 (sz D):=.inl (by omega)
 have hp':p'=((P+100:Nat):Int):=by omega
 refine⟨fun r=>fu P 171080 r (aW (rv D)) (aW (rv D)) true,fun r=>fu P 171080 r (fG (rv D)) (fG (rv D)) true,fun r=>uf P 171080 r D D true,fun r=>Rq 205000 r (aW (rv D)),fun r=>Rq 220010 r (fG (rv D)),fun r=>Rq 220010 r (eJ (rv D)),?_,?_,?_,?_,?_,?_,?_,?_,?_⟩
 . intro g w' A n c B m d k t h1 h2
   have:=tE (lo:=D) (hi:=D) g P 131080 w' k (aC.of_num h1 HD.pl HD.ok) (aC.of_num h2 HD.pl HD.ok) hs HD.nrm HD.nrm t (by omega) (by omega) hB hB (by omega)
   rw[lD]at this
   exact this.mono fun e' w'' ⟨r,h,s⟩=>⟨r,h,h.q.bad,s⟩
 . intro g w' A n c B m d k t h1 h2
   have:=xR (lo:=D) (hi:=D) g P 131080 w' k (aC.of_num h1 HD.pl HD.ok) (aC.of_num h2 HD.pl HD.ok) hs HD.nrm HD.nrm t (by omega) (by omega) hB hB (by omega)
   rw[lD]at this
   exact this.mono fun e' w'' ⟨r,h,s⟩=>⟨r,h,h.q.bad,s⟩
 . intro g w' A n c B m d k t h1 h2
   have:=xS (lo:=D) (hi:=D) g P 131080 w' k (aC.of_num h1 HD.pl HD.ok) (aC.of_num h2 HD.pl HD.ok) hs HD.nrm HD.nrm t (by omega) (by omega) hB hB (by omega)
   rw[lD]at this
   exact this.mono fun e' w'' ⟨r,h,s⟩=>⟨r,h,h.q.bad,s⟩
 . intro gv w' k b t
   have:=nG (d:=D) gv (P+100) w' (by rw[← hp'];exact k) (Dd w' b) (HD.tq4 SD) (by have:=HD.b;omega) HD.e1 (fun _=>by have:=HD.top SD;unfold dI;omega) t (by omega) (by omega)
   rw[← hp']at this
   exact this.mono fun e' w'' ⟨r,h,_,s⟩=>⟨r,h,h.q.bad,s⟩
 . intro gv w' k b t
   have:=xc (d:=D) gv (P+100) w' (by rw[← hp'];exact k) (Dd w' b) (HD.tq4 SD) (by have:=HD.b;omega) HD.e1 (fun _=>by have:=HD.top SD;unfold dI;omega) t (by omega) (by omega)
   rw[← hp']at this
   exact this.mono fun e' w'' ⟨r,h,s⟩=>⟨r,h,h.q.bad,s⟩
 . intro gv w' k b t
   have:=xm (d:=D) gv (P+100) w' (by rw[← hp'];exact k) (Dd w' b) (HD.tq4 SD) (by have:=HD.b;omega) HD.e1 (fun _=>by have:=HD.top SD;unfold dI;omega) t (by omega) (by omega)
   rw[← hp']at this
   exact this.mono fun e' w'' ⟨r,h,s⟩=>⟨r,h,h.q.bad,s⟩
 . intro r1 r2 g gr w' A1 n1 c1 B1 m1 d1 A2 n2 c2 B2 m2 d2 X Y k k' t h1 h2 h3 h4
   exact oM w' k k' t (by omega) (by omega) X.q (by omega) (by omega) Y.q X.hl Y.hl ij.refl (X.rel rfl) h1 h2 h3 h4
 . intro r1 r2 g gr w' A1 n1 c1 B1 m1 d1 A2 n2 c2 B2 m2 d2 X Y k k' t h1 h2 h3 h4
   exact oM w' k k' t (by omega) (by omega) X.q (by omega) (by omega) Y.q X.hl Y.hl ij.refl (X.rel rfl) h1 h2 h3 h4
 . intro r1 r2 g gr w' A1 n1 c1 B1 m1 d1 A2 n2 c2 B2 m2 d2 X Y k k' t h1 h2 h3 h4
   exact oM w' k k' t (by omega) (by omega) X.q (by omega) (by omega) Y.q (X.hl _ Rat.le_refl Rat.le_refl) Y.hl ij.refl (X.rel rfl) h1 h2 h3 h4
theorem DF (HD:Fi D)(hp:16<=p/\p<=400)(hs:cM D D=false):
 ∀ g w' A n c B m d,Wk 38 w' g p false->am w' (.slice A n c) D.m->am w' (.slice B m d) D.m->Calls FQ 15 #[.pointer (some ⟨g,0,none⟩),aG D.neg A n c D.e D.neg B m d D.e] w' (ap 38 w' g p SRes.no):=by
 intro g w' A n c B m d k h1 h2;exact BZ g p false w' k (aC.of_num h1 HD.pl HD.ok) (aC.of_num h2 HD.pl HD.ok) (by omega) (by omega) (by rw[hs];rfl)
end
section
variable {a b D:DR} {A B E:OA} {n c m d k l:Nat} {p p':Int} {w:World}
end
structure mF (T T':TypeId)(w:World)(g:Nat)(p:Int)(wi:World)(ks:List (TypeId×Nat×Array Value))(ns:List (Value×Nat))(gi:Nat)(p':Int)(gj:Nat):Prop where
 S2:eX T T' w g p wi ks ns gi p'
 W3:Wk T' wi gj p' false
 hgj:w.heap.size<=gj
 nij:gi≠gj
 ne3:mG gj ks
section
variable {T T':TypeId} {w wi wj:World} {g gi gj:Nat} {p p':Int} {ks:List (TypeId×Nat×Array Value)} {ns:List (Value×Nat)}
theorem mF.below (h:mF T T' w g p wi ks ns gi p' gj)(b:Below wi.heap.size wi wj):mF T T' w g p wj ks ns gi p' gj:=⟨h.S2.below b,h.W3.below b,h.hgj,h.nij,h.ne3⟩
theorem mF.drew (h:mF T T' w g p wi ks ns gi p' gj):mF T T' w g p wi.drew ks ns gi p' gj:=h.below (Below.refl _ wi).drew
theorem mF.num (h:mF T T' w g p wi ks ns gi p' gj){v:Value}{V:Nat}(n:am wi v V):mF T T' w g p wi ks ((v,V) :: ns) gi p' gj:=⟨h.S2.num n,h.W3,h.hgj,h.nij,h.ne3⟩
theorem mF.onC (h:mF T T' w g p wi ks ns gi p' gj)(o:az wi wj g)(W':Wk T wj g p false):mF T T' w g p wj ks ns gi p' gj :=
 ⟨h.S2.onC o W',mI h.W3 o (by have:=h.S2.S.hg;have:=h.hgj;omega),h.hgj,h.nij,h.ne3⟩
theorem mF.onI (h:mF T T' w g p wi ks ns gi p' gj)(o:az wi wj gi)(W':Wk T' wj gi p' false):mF T T' w g p wj ks ns gi p' gj :=
 ⟨h.S2.onI o W',mI h.W3 o (fun e=>h.nij e.symm),h.hgj,h.nij,h.ne3⟩
theorem mF.onJ (h:mF T T' w g p wi ks ns gi p' gj)(o:az wi wj gj)(W':Wk T' wj gj p' false):mF T T' w g p wj ks ns gi p' gj :=
 ⟨⟨h.S2.S.other o h.hgj (h.S2.S.ks.put o h.ne3) (h.S2.S.ns.wk h.W3 o),mI h.S2.W2 o h.nij,h.S2.hgi,h.S2.ne⟩,W',h.hgj,h.nij,h.ne3⟩
theorem mF.nums {ns':List (Value×Nat)}(h:mF T T' w g p wi ks ns gi p' gj)(k:NS wi ns'):mF T T' w g p wi ks ns' gi p' gj :=
 ⟨⟨⟨h.S2.S.hg,h.S2.S.O,h.S2.S.W,h.S2.S.ks,k⟩,h.S2.W2,h.S2.hgi,h.S2.ne⟩,h.W3,h.hgj,h.nij,h.ne3⟩
theorem mF.tab (hT:bx w){b:Bool}(hW:Wk T w g p b)(h:mF T T' w g p wi ks ns gi p' gj):bx wi:=h.S2.tab hT hW
end
end Go.Proofs.YtmbmohibpkepdaaGreatDoor
