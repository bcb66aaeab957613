import Derived.Deep.RegionHeld3
import Derived.Test.YtmbmohibpkepdaaGreatDoorPlSGEx11
set_option maxRecDepth 8000
set_option maxHeartbeats 4000000
open Go.Lib renaming hid->lY
open Go.Proofs.Tryz renaming prog->mF, ntmps10->Bx, ntmps11->DE, func10->DF, func11->EM
open Rat renaming mul_le_mul_of_nonneg_right->ou, le_refl->qK, le_of_lt->yb
open Go.Region renaming wanted->oM
open Nat renaming zero_add->oY, ne_of_lt->tz, ne_of_gt->Bl
namespace Go.Proofs.YtmbmohibpkepdaaGreatDoor
open Go.RowKit
variable {T:TypeId} {a g n:Nat} {bad:Bool} {ks:List (TypeId×Nat×Array Value)} {ns:List (Value×Nat)} {p:Int} {v w w0:World}
theorem qj (p:Int)(w:World):Calls mF 12 #[.int .i64 p] w (fun e w'=>e=.returned (.pointer (some ⟨w.heap.size,0,none⟩))/\Wk 38 w' w.heap.size p false/\Below w.heap.size w w'):=by
 go_enter Tryz.func12,Tryz.ntmps12;go_wp2_with fail;go_ret;exact⟨rfl,⟨heap_alloc_new w _,by simp⟩,ag w _⟩
theorem kM {r s:DR}(hr:Pl r)(hs:Pl s)(h:rv r<=rv s):cB r s<=0:=by
 have U:=CQ hr;have V:=CQ hs;unfold cB gh;rw[hr.ok,hs.ok];exact nU (g:=-300000) U.z V.z (.inr U.e) (.inr V.e) ((iV (.inr U.e) (.inr V.e)).1 h)
theorem Dc:aW 1 2=5/2/\bj 1 2=1/2/\8/3<=aW 1 3:=by
 have t1:=cZ 1 0;have t2:=cZ 1 1;have t3:=cZ 1 2;have t0:bj 1 0=1:=rfl;have c0:((0:Nat):Rat)=0:=rfl;have c1:((1:Nat):Rat)=1:=rfl;have c2:((2:Nat):Rat)=2:=rfl;rw[c0,t0]at t1;rw[c1]at t2;rw[c2]at t3;simp only[oY]at t1 t2 t3;have e2:aW 1 2=bj 1 0+bj 1 (0+1)+bj 1 (1+1):=rfl;have e3:aW 1 3=aW 1 2+bj 1 (2+1):=rfl;simp only[oY]at e2 e3;refine⟨by grind,by grind,by grind⟩
theorem De (n:Nat):aW 1 n<=3:=by
 obtain⟨e,t,_⟩:=Dc
 have h0:(0:Rat)<=1:=by decide
 rcases Nat.lt_or_ge n 2 with h | h
 . have:=fC h0 (show n<=2 by omega)
   grind
 . have h1:=li h0 (K:=2) (by show(2:Rat)*1<=2;rw[Rat.mul_one];exact qK) 0 (n-2)
   have h2:=bk h0 n;rw[show 2+0+(n-2)=n by omega,show 2+0=2 from rfl,e,t]at h1;generalize aW 1 n=a at *;generalize bj 1 n=b at *
   have e3:(5:Rat)/2+1/2=3:=by grind
   rw[e3]at h1
   grind
theorem Fk {X:Int}{e:SRes}{d:DR}(EO:fu 16 X e (aW 1) (aW 1) true)(hX:X<=199000)(hX0:64<=X)(hd:Sq 64 ⟨false,d,d⟩)(hd2:rv d=2):
 (aw e.lo e.hi=true/\(cK e.hi (aT e.lo)).ok=true/\cB (cK e.hi (aT e.lo)) ⟨true,false,1,-10⟩<=0)/\((eT 16 false e.lo e.hi d d).bad=false/\dA (eT 16 false e.lo e.hi d d)/\(eT 16 false e.lo e.hi d d).lo.neg=false/\0 < (eT 16 false e.lo e.hi d d).lo.m):=by
 have R:=EO.rel rfl;have h1:rv e.lo<=3:=EO.hl.meet (Hl.of (a:=0) (b:=3) (N:=0) fun n _=>⟨by have:=jJ (show(0:Rat)<=1 by decide) n;grind,De n⟩) (ij.zero.eq fun n=>by grind);have h2:8/3<=rv e.hi:=(Hl.of (a:=8/3) (b:=3) (N:=3) fun n hn=>⟨Rat.le_trans Dc.2.2 (fC (by decide) hn),De n⟩:Hl (8/3) 3 (aW 1)).meet EO.hl (ij.zero.eq fun n=>by grind);have N:=zA (P:=16) (by omega) EO.q R hX (by omega)
 have hu:uP 16*32768=1:=by
  have h2:uP 16*((2^(16-1):Nat):Rat)=1:=nu (by omega);exact h2
 have hup:=cD 16;have hv:=N.v;have hn0:=bR (cK e.hi (aT e.lo));have q:=EO.q
 rcases R with⟨a,b⟩ | ⟨a,b⟩
 . have sl:sz e.lo=rv e.lo:=by rw[dJ,if_pos a]
   rw[sl]at hv;generalize uP 16=u at *;have hlu:rv e.lo*u<=3*u:=ou h1 (yb hup);refine⟨⟨aM q.l q.h q.le,N.wok,kM ⟨N.wok,N.wpl⟩ ⟨rfl,?_⟩ ?_⟩,?_⟩
   . unfold aR cR
     rw[if_neg (show ¬ (1:Nat)=0 by decide),show nb 1=1 from sX,iD]
     decide
   . have e10:rv ⟨true,false,1,-10⟩*1024=1:=by
      show((1:Nat):Rat)*tp (-10)*1024=1
      have c1:((1:Nat):Rat)=1:=rfl;have e:(1024:Rat)=((2^10:Nat):Rat):=rfl;rw[c1,Rat.one_mul,e,← dH,← bV]
      rfl
     have hw:rv (cK e.hi (aT e.lo))<=sz (cK e.hi (aT e.lo)):=by
      rw[dJ]
      split <;> grind
     grind
   . obtain⟨S,c,_⟩:=vO (p:=16) (by omega) (by omega) q (hd.more hX0) (by omega) (by omega)
     dsimp only at S c
     rw[hd2]at c
     have k:0 < rv (eT 16 false e.lo e.hi d d).lo:=by
      have c1:=c.pos (by grind)
      have e16:uP (16:Int).toNat*32768=1:=by
       have h2:uP 16*((2^(16-1):Nat):Rat)=1:=nu (by omega);exact h2
      have hup':=cD (16:Int).toNat;generalize uP (16:Int).toNat=u' at *;have hlu':(rv e.lo-2)*u'<=1*u':=ou (by grind) (yb hup')
      grind
     obtain⟨k1,k2⟩:=ke k;exact⟨S.bad,S.good,k1,k2⟩
 . exfalso
   grind
theorem D5 (w:World)(hT:bx w):Calls mF 9 #[] w (cz w):=by
 obtain⟨z,z1,z2,z3,-⟩:=jT (p:=16) (n:=0) (by omega) (by omega) (by rw[aX];omega);obtain⟨o1,i1,i2,i3,-⟩:=jT (p:=16) (n:=1) (by omega) (by omega) (by rw[sX];omega);obtain⟨tw',j1,j2,j3,-⟩:=jT (p:=16) (n:=2) (by omega) (by omega) (by have:nb 2=2:=jU (B:=1) (by decide) (by decide);omega);have c0:((0:Nat):Int)=0:=rfl;have c1:((1:Nat):Int)=1:=rfl;have c2:((2:Nat):Int)=2:=rfl;rw[c0]at z1;rw[c1]at i1;rw[c2]at j1
 have zm:z.m=0:=by
  rcases Nat.eq_zero_or_pos z.m with h | h
  . exact h
  . have:=nv (x:=z) (by omega)
    rw[dJ,z3]at this;exact absurd this (by decide)
 obtain⟨o,ho⟩:=du (dY 16 false 1);have CK:Hid (∀ (w':World),Calls mF 12 #[.int .i64 16] w' (fun e w''=>e=.returned (.pointer (some ⟨w'.heap.size,0,none⟩))/\Wk 38 w'' w'.heap.size 16 false/\Below w'.heap.size w' w'')):=lY (fun w'=>qj 16 w');have C0:Hid (∀ w' g,Wk 38 w' g 16 false->bx w'->Calls mF 31 #[.pointer (some ⟨g,0,none⟩),.int .i64 0] w' (ap 38 w' g 16 ⟨false,z,z⟩)):=lY (fun w' g k t=>by rw[← z1];exact fO 0 g 16 false w' k t (by omega) (by omega));have C1:Hid (∀ w' g,Wk 38 w' g 16 false->bx w'->Calls mF 31 #[.pointer (some ⟨g,0,none⟩),.int .i64 1] w' (ap 38 w' g 16 o)):=lY (fun w' g k t=>by rw[ho];exact fO 1 g 16 false w' k t (by omega) (by omega));have C2:Hid (∀ w' g,Wk 38 w' g 16 false->bx w'->Calls mF 31 #[.pointer (some ⟨g,0,none⟩),.int .i64 2] w' (ap 38 w' g 16 ⟨false,tw',tw'⟩)):=lY (fun w' g k t=>by rw[← j1];exact fO 2 g 16 false w' k t (by omega) (by omega));have E0:Hid (∀ w' g A n c B m d,Wk 38 w' g 16 false->bx w'->am w' (.slice A n c) z.m->am w' (.slice B m d) z.m->Calls mF 15 #[.pointer (some ⟨g,0,none⟩),aG z.neg A n c z.e z.neg B m d z.e] w' (ap 38 w' g 16 o)):=lY (fun w' g A n c B m d k t h1 h2=>by rw[ho];exact z8 g 16 w' k h1 h2 z2.pl z2.ok z2.pl z2.ok zm zm t (by omega) (by omega));have r11:aw o1 o1=true:=aM i2 i2 qK
 have oE:o=⟨false,o1,o1⟩:=by rw[ho,i1]
 have ob:o.bad=false:=by rw[oE]
 have oG:dA o:=by rw[oE];exact⟨i2.ok,i2.pl,i2.ok,i2.pl⟩
 have E1:Hid (∀ w' g A n c B m d,Wk 38 w' g 16 false->bx w'->am w' (.slice A n c) o.lo.m->am w' (.slice B m d) o.hi.m->Calls mF 15 #[.pointer (some ⟨g,0,none⟩),aG o.lo.neg A n c o.lo.e o.hi.neg B m d o.hi.e] w' (fun e' w''=>∃ e,fu 16 73000 e (aW 1) (aW 1) true/\ap 38 w' g 16 e e' w'')):=lY (fun w' g A n c B m d k t h1 h2=>by
  rw[oE]at h1 h2 ⊢;obtain⟨m1,m2,m3,m4⟩:=fB
  have re:cM o1 o1=true:=by
   unfold cM;rw[aM m2 i2 (by rw[i3,m4];decide),r11,aM i2 m1 (by rw[i3,m3];decide)]
   rfl
  have nm:Cs o1:=⟨by have:=i2.e1;have:=i2.e2;have h:=i2.b;have hb:=(aV i2.pl).odd;have:nb o1.m<=128:=(by omega);omega,by have:=i2.e1;omega⟩
  have hs:sz o1=1:=by rw[dJ,i3];decide
  have:=tE (lo:=o1) (hi:=o1) g 16 33000 w' k (aC.of_num h1 i2.pl i2.ok) (aC.of_num h2 i2.pl i2.ok) re nm nm t (by omega) (by omega) (.inr ⟨by rw[hs];decide,by omega⟩) (.inr ⟨by rw[hs];decide,by omega⟩) (by omega)
  rw[r11,show rv o1=1 from i3]at this
  exact this)
 have AQ:Hid (∀ e,fu 16 73000 e (aW 1) (aW 1) true->(aw e.lo e.hi=true/\(cK e.hi (aT e.lo)).ok=true/\cB (cK e.hi (aT e.lo)) ⟨true,false,1,-10⟩<=0)/\((eT 16 false e.lo e.hi tw' tw').bad=false/\dA (eT 16 false e.lo e.hi tw' tw')/\(eT 16 false e.lo e.hi tw' tw').lo.neg=false/\0 < (eT 16 false e.lo e.hi tw' tw').lo.m)):=lY (fun e EO=>Fk EO (by omega) (by omega) ⟨rfl,j2,j2,qK⟩ j3)
 have CB:Hid (∀ w' g e A n c B m d A' n' c' B' m' d',fu 16 73000 e (aW 1) (aW 1) true->Wk 38 w' g 16 false->bx w'->am w' (.slice A n c) e.lo.m->am w' (.slice B m d) e.hi.m->am w' (.slice A' n' c') tw'.m->am w' (.slice B' m' d') tw'.m->Calls mF 28 #[.pointer (some ⟨g,0,none⟩),aG e.lo.neg A n c e.lo.e e.hi.neg B m d e.hi.e,aG tw'.neg A' n' c' tw'.e tw'.neg B' m' d' tw'.e] w' (fun e' w''=>∃ t,t.bad=false/\dA t/\t.lo.neg=false/\0 < t.lo.m/\ap 38 w' g 16 t e' w'')):=lY (fun w' g e A n c B m d A' n' c' B' m' d' EO k t h1 h2 h3 h4=>by
  have G:=EO.q.good;obtain⟨_,a,b,c,d⟩:=AQ.out e EO
  exact(sc g 16 false w' k (aC.of_num h1 G.l2 G.l1) (aC.of_num h2 G.h2 G.h1) (aC.of_num h3 j2.pl j2.ok) (aC.of_num h4 j2.pl j2.ok) t).mono fun e' w'' hp=>⟨_,a,b,c,d,hp⟩)
 have CS:Hid (∀ w' A n c B m d A' n' c' B' m' d',am w' (.slice A n c) o.lo.m->am w' (.slice B m d) o.hi.m->am w' (.slice A' n' c') o.lo.m->am w' (.slice B' m' d') o.hi.m->Calls mF 16 #[aG o.lo.neg A n c o.lo.e o.hi.neg B m d o.hi.e,aG o.lo.neg A' n' c' o.lo.e o.hi.neg B' m' d' o.hi.e] w' (cz w')):=lY (fun w' A n c B m d A' n' c' B' m' d' h1 h2 h3 h4=>pA o.lo o.hi A B A' B' n c m d n' c' m' d' w' h1 h2 h3 h4 oG.lo_small oG.hi_small)
 have CN:Hid (∀ w' e A n c B m d,fu 16 73000 e (aW 1) (aW 1) true->bx w'->am w' (.slice A n c) e.lo.m->am w' (.slice B m d) e.hi.m->Calls mF 40 #[aG e.lo.neg A n c e.lo.e e.hi.neg B m d e.hi.e,.int .i64 (-10)] w' (cz w')):=lY (fun w' e A n c B m d EO t h1 h2=>by
  have G:=EO.q.good;obtain⟨⟨a,b,c⟩,_⟩:=AQ.out e EO
  exact oc (-10) w' (aC.of_num h1 G.l2 G.l1) (aC.of_num h2 G.h2 G.h1) t G.l1 G.h1 a b c (by omega) (by omega))
 have HOB:=lY ob;clear AQ ob oG oE r11 ho zm z1 z2 z3 i1 i2 i3 j1 j2 j3 c0 c1 c2;go_enter Tryz.func9,Tryz.ntmps9;go_wp2_with fail;refine(CK.out w).mono ?_;rintro e' w1 ⟨rfl,hW,b1⟩;obtain⟨g,hg⟩:=du w.heap.size;rw[← hg]at hW ⊢
 have hgw:w.heap.size<=g:=by omega
 have HT1:=lY (hT.below b1);have HB1:=lY b1;have TB:Hid (∀ b w' ks ns,St 38 w1 g 16 b w' ks ns->bx w'):=lY (fun b w' ks ns h=>HT1.out.wk hW h.O);have S:=St.start hW;clear CK b1 hT hg;have k0:=S.lt;have KY:=lY (C0.out _ _ S.W HT1.out);go_wp2_with fail;refine KY.out.mono ?_;rintro e' v1 ⟨A0,n0,c0,B0,m0,d0,rfl,N0,M0,W0,o0⟩;have S1:=((S.only o0 W0).num M0).num N0;clear KY S N0 M0 W0 o0 hW;have KY:=lY (E0.out _ _ _ _ _ _ _ _ S1.W (TB.out _ _ _ _ S1) S1.ns.1 S1.ns.2.1);clear E0 C0;have k1:=S1.lt;go_wp2_with fail;refine KY.out.mono ?_;rintro e' v2 ⟨A2,n2,c2,B2,m2,d2,rfl,N2,M2,W2,o2⟩;rw[HOB.out]at W2;have S2:=((S1.only o2 W2).num M2).num N2;clear KY S1 N2 M2 W2 o2 k0 k1;have S3:=S2.alloc 31 #[.bool o.lo.neg,.slice A2 n2 c2,.int .i64 o.lo.e,.bool o.hi.neg,.slice B2 m2 d2,.int .i64 o.hi.e];have kg:=S2.lt;obtain⟨a2,ha2⟩:=du v2.heap.size
 have hg2:w1.heap.size<=a2:=by rw[ha2];exact S2.size
 go_upto_region 3 with fail;rw[← ha2]at S3 ⊢;clear S2 ha2 kg;generalize v2.alloc (.cells #[.bool o.lo.neg,.slice A2 n2 c2,.int .i64 o.lo.e,.bool o.hi.neg,.slice B2 m2 d2,.int .i64 o.hi.e] 31)=v3 at *;have k0:=S3.lt;have KY:=lY (C1.out _ _ S3.W (TB.out _ _ _ _ S3));go_wp2_with fail;refine KY.out.mono ?_;rintro e' v4 ⟨A1,n1,c1,B1,m1,d1,rfl,N1,M1,W1,o1'⟩;rw[HOB.out]at W1;have S4:=((S3.only o1' W1).num M1).num N1;clear KY S3 N1 M1 W1 o1' k0;have KY:=lY (E1.out _ _ _ _ _ _ _ _ S4.W (TB.out _ _ _ _ S4) S4.ns.1 S4.ns.2.1);clear E1;have k1:=S4.lt;go_wp2_with fail;refine KY.out.mono ?_;rintro e' v5 ⟨e,EO,A3,n3,c3,B3,m3,d3,rfl,N3,M3,W3,o3⟩;rw[EO.q.bad]at W3;have S5:=((S4.only o3 W3).num M3).num N3;clear KY S4 N3 M3 W3 o3 k1;have S6:=S5.alloc 31 #[.bool e.lo.neg,.slice A3 n3 c3,.int .i64 e.lo.e,.bool e.hi.neg,.slice B3 m3 d3,.int .i64 e.hi.e];have kg:=S5.lt;obtain⟨a3,ha3⟩:=du v5.heap.size
 have hg3:w1.heap.size<=a3:=by rw[ha3];exact S5.size
 have hne:a2 < a3:=by rw[ha3];exact S5.ks.1.1.2
 go_upto_region 4 with fail;rw[← ha3]at S6 ⊢;clear S5 ha3 kg;generalize v5.alloc (.cells #[.bool e.lo.neg,.slice A3 n3 c3,.int .i64 e.lo.e,.bool e.hi.neg,.slice B3 m3 d3,.int .i64 e.hi.e] 31)=v6 at *;have V0:St 38 w1 g 16 false v6 [(31,a3,s6 e.lo A3 n3 c3 e.hi B3 m3 d3),(31,a2,s6 o.lo A2 n2 c2 o.hi B2 m2 d2)] [(.slice A3 n3 c3,e.lo.m),(.slice B3 m3 d3,e.hi.m),(.slice A2 n2 c2,o.lo.m),(.slice B2 m2 d2,o.hi.m)]:=⟨S6.hg,S6.O,S6.W,S6.ks,S6.ns.1,S6.ns.2.1,S6.ns.2.2.2.2.1,S6.ns.2.2.2.2.2.1,trivial⟩;clear S6
 go_cut [4] (fun s4 wx=>∃ (t:SRes) (a4:Nat) (A4:OA) (n4 c4:Nat) (B4:OA) (m4 d4:Nat),s4=.pointer (some ⟨a4,0,none⟩)/\w1.heap.size<=a4/\t.lo.neg=false/\0 < t.lo.m/\St 38 w1 g 16 false wx [(31,a4,s6 t.lo A4 n4 c4 t.hi B4 m4 d4),(31,a3,s6 e.lo A3 n3 c3 e.hi B3 m3 d3),(31,a2,s6 o.lo A2 n2 c2 o.hi B2 m2 d2)] [(.slice A4 n4 c4,t.lo.m),(.slice B4 m4 d4,t.hi.m),(.slice A3 n3 c3,e.lo.m),(.slice B3 m3 d3,e.hi.m),(.slice A2 n2 c2,o.lo.m),(.slice B2 m2 d2,o.hi.m)])
 case first =>
  have SD:=V0.drew;have SA:=(V0.below (ag v6 (.cells zs 31))).drew;have YA:=(KC.made 31 v6 zs).drew;have kl3:a3 < v6.heap.size:=V0.ks.1.1.2;have kl2:a2 < v6.heap.size:=V0.ks.2.1.1.2;have hgl:=V0.lt;have hsz:=V0.size;have HCC:Hid (∀ w' ns,St 38 w1 g 16 false w' [(31,a3,s6 e.lo A3 n3 c3 e.hi B3 m3 d3),(31,a2,s6 o.lo A2 n2 c2 o.hi B2 m2 d2)] ns->D6 w' a3 e.lo A3 n3 c3 e.hi B3 m3 d3):=lY (fun w' ns h=>(h.ks.1.1.c6));have HPP:Hid (∀ w' ns,St 38 w1 g 16 false w' [(31,a3,s6 e.lo A3 n3 c3 e.hi B3 m3 d3),(31,a2,s6 o.lo A2 n2 c2 o.hi B2 m2 d2)] ns->∀ a,a3≠a->∀ q1 q2 q3 q4 q5 q6,C6 (put6 w' a q1 q2 q3 q4 q5 q6) a3 (.bool e.lo.neg) (.slice A3 n3 c3) (.int .i64 e.lo.e) (.bool e.hi.neg) (.slice B3 m3 d3) (.int .i64 e.hi.e)):=lY (fun w' ns h a hn q1 q2 q3 q4 q5 q6=>((h.ks.1.1.only (aK w' a q1 q2 q3 q4 q5 q6) hn).c6));have XS:=HCC.out _ _ SD;have XA:=HCC.out _ _ SA
  have LL:Hid (∀ v (t:SRes) A1 n1 c1 B1 m1 d1 ns,St 38 w1 g 16 false v [(31,a3,s6 e.lo A3 n3 c3 e.hi B3 m3 d3),(31,a2,s6 o.lo A2 n2 c2 o.hi B2 m2 d2)] ns->am v (.slice A1 n1 c1) t.lo.m->am v (.slice B1 m1 d1) t.hi.m->NS v [(.slice A3 n3 c3,e.lo.m),(.slice B3 m3 d3,e.hi.m),(.slice A2 n2 c2,o.lo.m),(.slice B2 m2 d2,o.hi.m)]->St 38 w1 g 16 false (v.alloc (.cells #[.bool t.lo.neg,.slice A1 n1 c1,.int .i64 t.lo.e,.bool t.hi.neg,.slice B1 m1 d1,.int .i64 t.hi.e] 31)) [(31,v.heap.size,s6 t.lo A1 n1 c1 t.hi B1 m1 d1),(31,a3,s6 e.lo A3 n3 c3 e.hi B3 m3 d3),(31,a2,s6 o.lo A2 n2 c2 o.hi B2 m2 d2)] ((.slice A1 n1 c1,t.lo.m) :: (.slice B1 m1 d1,t.hi.m) :: [(.slice A3 n3 c3,e.lo.m),(.slice B3 m3 d3,e.hi.m),(.slice A2 n2 c2,o.lo.m),(.slice B2 m2 d2,o.hi.m)])):=lY (fun v t A1 n1 c1 B1 m1 d1 ns h h1 h2 h3=>by
   have h':St 38 w1 g 16 false v [(31,a3,s6 e.lo A3 n3 c3 e.hi B3 m3 d3),(31,a2,s6 o.lo A2 n2 c2 o.hi B2 m2 d2)] ((.slice A1 n1 c1,t.lo.m) :: (.slice B1 m1 d1,t.hi.m) :: [(.slice A3 n3 c3,e.lo.m),(.slice B3 m3 d3,e.hi.m),(.slice A2 n2 c2,o.lo.m),(.slice B2 m2 d2,o.hi.m)]):=⟨h.hg,h.O,h.W,h.ks,h1,h2,h3⟩
   exact h'.alloc _ _)
  have LE:Hid (∀ v (t:SRes) A1 n1 c1 B1 m1 d1 ns a,w1.heap.size<=a->a3≠a->a2≠a->St 38 w1 g 16 false v [(31,a3,s6 e.lo A3 n3 c3 e.hi B3 m3 d3),(31,a2,s6 o.lo A2 n2 c2 o.hi B2 m2 d2)] ns->KC 31 v a zs->am v (.slice A1 n1 c1) t.lo.m->am v (.slice B1 m1 d1) t.hi.m->NS v [(.slice A3 n3 c3,e.lo.m),(.slice B3 m3 d3,e.hi.m),(.slice A2 n2 c2,o.lo.m),(.slice B2 m2 d2,o.hi.m)]->St 38 w1 g 16 false (put6 v a (.bool t.lo.neg) (.slice A1 n1 c1) (.int .i64 t.lo.e) (.bool t.hi.neg) (.slice B1 m1 d1) (.int .i64 t.hi.e)) [(31,a,s6 t.lo A1 n1 c1 t.hi B1 m1 d1),(31,a3,s6 e.lo A3 n3 c3 e.hi B3 m3 d3),(31,a2,s6 o.lo A2 n2 c2 o.hi B2 m2 d2)] ((.slice A1 n1 c1,t.lo.m) :: (.slice B1 m1 d1,t.hi.m) :: [(.slice A3 n3 c3,e.lo.m),(.slice B3 m3 d3,e.hi.m),(.slice A2 n2 c2,o.lo.m),(.slice B2 m2 d2,o.hi.m)])):=lY (fun v t A1 n1 c1 B1 m1 d1 ns a ha e1 e2 h k h1 h2 h3=>by
   have h':St 38 w1 g 16 false v [(31,a3,s6 e.lo A3 n3 c3 e.hi B3 m3 d3),(31,a2,s6 o.lo A2 n2 c2 o.hi B2 m2 d2)] ((.slice A1 n1 c1,t.lo.m) :: (.slice B1 m1 d1,t.hi.m) :: [(.slice A3 n3 c3,e.lo.m),(.slice B3 m3 d3,e.hi.m),(.slice A2 n2 c2,o.lo.m),(.slice B2 m2 d2,o.hi.m)]):=⟨h.hg,h.O,h.W,h.ks,h1,h2,h3⟩
   exact iI h' k ha ⟨e1,e2,trivial⟩ _ _ _ _ _ _)
  have DB:Hid (∀ w' ks ns A n c B m d A' n' c' B' m' d',St 38 w1 g 16 false w' ks ns->am w' (.slice A n c) e.lo.m->am w' (.slice B m d) e.hi.m->am w' (.slice A' n' c') tw'.m->am w' (.slice B' m' d') tw'.m->Calls mF 28 #[.pointer (some ⟨g,0,none⟩),aG e.lo.neg A n c e.lo.e e.hi.neg B m d e.hi.e,aG tw'.neg A' n' c' tw'.e tw'.neg B' m' d' tw'.e] w' (fun e' w''=>∃ t,t.bad=false/\dA t/\t.lo.neg=false/\0 < t.lo.m/\ap 38 w' g 16 t e' w'')):=lY (fun w' ks ns A n c B m d A' n' c' B' m' d' h h1 h2 h3 h4=>CB.out w' g e A n c B m d A' n' c' B' m' d' EO h.W (TB.out _ _ _ _ h) h1 h2 h3 h4);clear V0
  go_region_held3 (fun w'=>D6 w' a3 e.lo A3 n3 c3 e.hi B3 m3 d3)
   (first | with_reducible exact HPP.out _ _ V2 _ (by omega) _ _ _ _ _ _ | with_reducible exact HCC.out _ _ V2 | with_reducible exact HCC.out _ _ V1 | with_reducible exact XS | with_reducible exact XA | with_reducible exact HCC.out _ _ (V2.below (ag _ _)) | with_reducible exact HCC.out _ _ (V1.below (ag _ _)))
   (first
    | (go_at_call 31;refine(C2.out _ _ (by first | with_reducible exact SD.W | with_reducible exact SA.W) (by first | exact TB.out _ _ _ _ SD | exact TB.out _ _ _ _ SA)).mono ?_;rintro e' v7 ⟨A0,n0,c0,B0,m0,d0,rfl,N0,M0,W0,o0⟩;have V1:St 38 w1 g 16 false v7 [(31,a3,s6 e.lo A3 n3 c3 e.hi B3 m3 d3),(31,a2,s6 o.lo A2 n2 c2 o.hi B2 m2 d2)] ((.slice A0 n0 c0,tw'.m) :: (.slice B0 m0 d0,tw'.m) :: [(.slice A3 n3 c3,e.lo.m),(.slice B3 m3 d3,e.hi.m),(.slice A2 n2 c2,o.lo.m),(.slice B2 m2 d2,o.hi.m)]):=(by first | with_reducible exact((SD.only o0 W0).num M0).num N0 | with_reducible exact((SA.only o0 W0).num M0).num N0);have hv7:v6.heap.size<=v7.heap.size:=(by have h:=o0.size;simp at h;omega);have hv7g:=V1.lt;have hv7a:=V1.ks.1.1.2;have hv7b:=V1.ks.2.1.1.2;have u1:=V1.ns.1;have u2:=V1.ns.2.1;have u3:=V1.ns.2.2.1;have u4:=V1.ns.2.2.2.1;first | (have ox:az (v6.alloc (.cells zs 31)).drew v7 g:=(by with_reducible exact o0);have ya:=YA.only ox (by omega)) | skip)
    | (go_at_call 28;refine(DB.out _ _ _ _ _ _ _ _ _ _ _ _ _ _ _ (by first | with_reducible exact V1 | with_reducible exact V1.below (ag _ _)) (by first | with_reducible exact u3 | with_reducible exact lT u3 _) (by first | with_reducible exact u4 | with_reducible exact lT u4 _) (by first | with_reducible exact u1 | with_reducible exact lT u1 _) (by first | with_reducible exact u2 | with_reducible exact lT u2 _)).mono ?_;rintro e' v8 ⟨t,tb,tG,tn0,tm0,A1,n1,c1,B1,m1,d1,rfl,N1,M1,W1,o1⟩;have tn:=lY tn0;have tm:=lY tm0;clear tn0 tm0 tG;have W1':Wk 38 v8 g 16 false:=(by rw[← tb];exact W1);clear tb W1;have V2:St 38 w1 g 16 false v8 [(31,a3,s6 e.lo A3 n3 c3 e.hi B3 m3 d3),(31,a2,s6 o.lo A2 n2 c2 o.hi B2 m2 d2)] ((.slice A1 n1 c1,t.lo.m) :: (.slice B1 m1 d1,t.hi.m) :: (.slice A0 n0 c0,tw'.m) :: (.slice B0 m0 d0,tw'.m) :: [(.slice A3 n3 c3,e.lo.m),(.slice B3 m3 d3,e.hi.m),(.slice A2 n2 c2,o.lo.m),(.slice B2 m2 d2,o.hi.m)]):=(by first | with_reducible exact((V1.only o1 W1').num M1).num N1 | with_reducible exact(((V1.below (ag _ _)).only o1 W1').num M1).num N1);first | (have ox:az v7 v8 g:=(by with_reducible exact o1);have z1:=ya.only ox (by omega);obtain⟨z1c0,z1c1,z1c2,z1c3,z1c4,z1c5⟩:=z1.c6;obtain⟨z1f0,z1f1,z1f2,z1f3,z1f4,z1f5⟩:=z1.f6;have z1l:=z1.2;have z1n:=tz z1.2;have z1n2:=Bl z1.2) | (have ox:az (v7.alloc (.cells zs 31)) v8 g:=(by with_reducible exact o1);have z1:=(KC.made 31 v7 zs).only ox (by omega);obtain⟨z1c0,z1c1,z1c2,z1c3,z1c4,z1c5⟩:=z1.c6;obtain⟨z1f0,z1f1,z1f2,z1f3,z1f4,z1f5⟩:=z1.f6;have z1l:=z1.2;have z1n:=tz z1.2;have z1n2:=Bl z1.2) | skip))
  all_goals (
   go_wp2_with fail;go_meet;have f1:am v8 (.slice A1 n1 c1) t.lo.m:=V2.ns.1;have f2:am v8 (.slice B1 m1 d1) t.hi.m:=V2.ns.2.1;have f3:NS v8 [(.slice A3 n3 c3,e.lo.m),(.slice B3 m3 d3,e.hi.m),(.slice A2 n2 c2,o.lo.m),(.slice B2 m2 d2,o.hi.m)]:=V2.ns.2.2.2.2;have f4:=V2.size
   first
    | ((with_reducible refine⟨t,_,A1,n1,c1,B1,m1,d1,rfl,?_,tn.out,tm.out,LE.out v8 t A1 n1 c1 B1 m1 d1 _ _ ?_ ?_ ?_ V2 z1 f1 f2 f3⟩) <;> omega)
    | with_reducible exact⟨t,_,A1,n1,c1,B1,m1,d1,rfl,f4,tn.out,tm.out,LL.out v8 t A1 n1 c1 B1 m1 d1 _ V2 f1 f2 f3⟩)
 case rest =>
  obtain⟨t,a4,A4,n4,c4,B4,m4,d4,rfl,ha4,tn,tm,V⟩:=hcut
  have hd4:decide ((0:Int) < (n4:Int))=true:=decide_eq_true (by
   have h1:=iu V.ns.1
   omega)
  have hn0:Hid (0 < n4):=lY (by have:=of_decide_eq_true hd4;omega);clear hd4;have FB:Hid (∀ w' ks ns,St 38 w1 g 16 false w' ks ns->Below w.heap.size w w'):=lY (fun w' ks ns h=>ct HB1.out h.O hgw);go_upto_region 5 with fail;have SD:=V.drew;have HCC:Hid (∀ w' ns,St 38 w1 g 16 false w' [(31,a4,s6 t.lo A4 n4 c4 t.hi B4 m4 d4),(31,a3,s6 e.lo A3 n3 c3 e.hi B3 m3 d3),(31,a2,s6 o.lo A2 n2 c2 o.hi B2 m2 d2)] ns->w'.cell? ⟨a4,0,none⟩=some (.bool t.lo.neg)/\w'.cell? ⟨a4,1,none⟩=some (.slice A4 n4 c4)/\D6 w' a3 e.lo A3 n3 c3 e.hi B3 m3 d3/\D6 w' a2 o.lo A2 n2 c2 o.hi B2 m2 d2/\w'.cell? ⟨g,1,none⟩=some (.bool false)):=lY (fun w' ns h=>⟨h.ks.1.1.at_ 0 _ rfl,h.ks.1.1.at_ 1 _ rfl,h.ks.2.1.1.c6,h.ks.2.2.1.1.c6,h.wc.2⟩);have XS:=HCC.out _ _ SD;clear V V0
  go_region_held3 (fun w'=>w'.cell? ⟨a4,0,none⟩=some (.bool t.lo.neg)/\w'.cell? ⟨a4,1,none⟩=some (.slice A4 n4 c4)/\D6 w' a3 e.lo A3 n3 c3 e.hi B3 m3 d3/\D6 w' a2 o.lo A2 n2 c2 o.hi B2 m2 d2/\w'.cell? ⟨g,1,none⟩=some (.bool false))
   (first | with_reducible exact HCC.out _ _ V3 | with_reducible exact HCC.out _ _ V2 | with_reducible exact HCC.out _ _ V1 | with_reducible exact XS)
   (first
    | (go_at_call 31;refine(C1.out _ _ SD.W (TB.out _ _ _ _ SD)).mono ?_;rintro e' v7 ⟨A5,n5,c5,B5,m5,d5,rfl,N5,M5,W5,o5⟩;rw[HOB.out]at W5;have V1:=((SD.only o5 W5).num M5).num N5;have u1:=V1.ns.1;have u2:=V1.ns.2.1;have u3:=V1.ns.2.2.2.2.2.2.1;have u4:=V1.ns.2.2.2.2.2.2.2.1)
    | (go_at_call 16;refine(CS.out _ _ _ _ _ _ _ _ _ _ _ _ _ u3 u4 u1 u2).mono ?_;rintro e' v8 ⟨rfl,b8⟩;have V2:=V1.below b8;have u5:=V2.ns.2.2.2.2.1;have u6:=V2.ns.2.2.2.2.2.1)
    | (go_at_call 40;refine(CN.out _ _ _ _ _ _ _ _ EO (TB.out _ _ _ _ V2) u5 u6).mono ?_;rintro e' v9 ⟨rfl,b9⟩;have V3:=V2.below b9))
  go_wp2_with fail;go_ret;exact⟨by have h:=hn0.out;simp[h],FB.out _ _ _ V3⟩
def rc (neg:Bool)(n:Nat)(x:Nat->Nat)(e:Int):Bool:=decide (n<=10) && aj neg n x e && decide (-3000<=e)
theorem zU (neg:Bool)(A:OA)(n c:Nat)(x:Nat->Nat)(e:Int)(w:World)(ha:Sl w A n c x):
 Calls mF 10 #[aP neg A n c e] w (di w (rc neg n x e)):=by
 have b1:=ag w (.cells #[.bool neg,.slice A n c,.int .i64 e] 24);have k:=KC.made 24 w #[.bool neg,.slice A n c,.int .i64 e];have h1:=ha.below b1
 by_cases hn:n<=10
 . have hd:decide ((n:Int)<=10)=true:=decide_eq_true (by omega)
   have CP:=lY (dr neg A n c x e _ h1 (by omega));have hF:Hid (rc neg n x e=(aj neg n x e && decide (-3000<=e))):=lY (by unfold rc;rw[decide_eq_true hn];simp);rw[hF.out];generalize aj neg n x e=q at *;clear ha h1 hF;go_enter DF,Bx;go_wp2_with fail;refine CP.out.mono ?_;generalize w.alloc (.cells #[.bool neg,.slice A n c,.int .i64 e] 24)=w1 at *;rintro e' w2 ⟨rfl,b2⟩;have b3:=aB b1 b2;have k2:=k.adv b2;have c2:=k2.at_ 2 _ rfl;have kl:=k2.2;clear CP k;cases q
   . go_wp2_with fail
     go_ret;exact⟨by simp,b3⟩
   . go_wp2_with fail
     go_ret;exact⟨by simp,b3⟩
 . have hd:decide ((n:Int)<=10)=false:=decide_eq_false (by omega)
   have hF:Hid (rc neg n x e=false):=lY (by unfold rc;rw[decide_eq_false hn];simp);rw[hF.out];clear ha h1 hF k;go_enter DF,Bx;go_wp2_with fail;go_ret;exact⟨by simp,b1⟩
def tW (p:Int):Bool:=decide (16<=p) && decide (p<=400)
theorem x8 (p:Int)(w:World):Calls mF 11 #[.int .i64 p] w (di w (tW p)):=by
 have hF:Hid (tW p=(decide (16<=p) && decide (p<=400))):=lY rfl;rw[hF.out];clear hF
 by_cases h1:16<=p
 . have d1:decide (16<=p)=true:=decide_eq_true h1
   have d2:decide (p ≥ 16)=true:=decide_eq_true h1;go_enter EM,DE;go_wp2_with fail;go_ret;exact⟨by simp[h1],Below.refl _ _⟩
 . have d1:decide (16<=p)=false:=decide_eq_false h1
   have d2:decide (p ≥ 16)=false:=decide_eq_false h1;go_enter EM,DE;go_wp2_with fail;go_ret;exact⟨by simp,Below.refl _ _⟩
theorem BN {B C:Int}{r s:SRes}{f g:Nat->Rat}(h:Sq B r)(k:Sq C s)(hf:Hl (rv r.lo) (rv r.hi) f)(hg:Hl (rv s.lo) (rv s.hi) g)(z:ij (fun n=>f n-g n)):cB r.lo s.hi<=0/\cB s.lo r.hi<=0 :=
 ⟨kM h.l.p k.h.p (hf.meet hg z),kM k.l.p h.h.p (hg.meet hf (z.neg.eq fun n=>by grind))⟩
theorem cH {x:DR}{c:Rat}(h:sz x<=c):-c<=rv x/\rv x<=c:=by
 rw[dJ]at h
 split at h <;> constructor <;> grind
theorem yT {B:Int}{x:DR}(h:Tq B x)(hB:64<=B)(hs:sz x<=65536):cM x x=true:=by
 obtain⟨m1,m2,m3,m4⟩:=fB;obtain⟨a,b⟩:=cH hs;unfold cM;rw[aM (m2.more hB) h (by rw[m4];exact a),aM h h qK,aM h (m1.more hB) (by rw[m3];exact b)]
 rfl
theorem ji {l:List Value}(k:KC T w a l.toArray):w.rangeAt a 0 l:=fun j v hv=>by
 rw[oY];exact k.at_ j v (by simpa using hv)
theorem zM {cs:Array Value}(k:KC T w a cs):w.there a 0 cs.size:=fun j hj=>by
 rw[oY];exact⟨by rw[k.at_ j _ (Array.getElem?_eq_getElem hj)];rfl,k.fr j⟩
theorem xF {cs:Array Value}(k:KC T w a cs)(n:Nat)(h:cs.size=n):w.there a 0 n:=h ▸ zM k
theorem mV :∀ {ks:List (TypeId×Nat×Array Value)},KS w g ks->mG w.heap.size ks
 | [],_=>trivial
 | (_,_,_) :: _,h=>⟨tz h.1.1.2,mV h.2⟩
theorem wQ {T':TypeId}{b:Nat}(L:St T w0 g p bad v ((T',b,zs) :: ks) ns)(h1:w0.heap.size<=b)(hne:mG b ks)(x0 x1 x2 x3 x4 x5:Value)(hT:T'=31:=by rfl):
 St T w0 g p bad (put6 v b x0 x1 x2 x3 x4 x5) ((31,b,#[x0,x1,x2,x3,x4,x5]) :: ks) ns:=by
 subst hT;have L0:St T w0 g p bad v ks ns:=⟨L.hg,L.O,L.W,L.ks.2,L.ns⟩;exact iI L0 L.ks.1.1 h1 hne x0 x1 x2 x3 x4 x5
theorem Ba {k1 k2:TypeId×Nat×Array Value}(h:St T w0 g p bad v (k1 :: k2 :: ks) ns):St T w0 g p bad v (k2 :: k1 :: ks) ns:=by
 obtain⟨T1,b1,c1⟩:=k1;obtain⟨T2,b2,c2⟩:=k2;exact⟨h.hg,h.O,h.W,⟨h.ks.2.1,h.ks.1,h.ks.2.2⟩,h.ns⟩
theorem Bb {ns':List (Value×Nat)}(h:St T w0 g p bad v ks ns)(h':NS v ns'):St T w0 g p bad v ks ns':=⟨h.hg,h.O,h.W,h.ks,h'⟩
theorem Ez {n1 n2:Value×Nat}(h:St T w0 g p bad v ks (n1 :: n2 :: ns)):St T w0 g p bad v ks [n1,n2]:=by
 obtain⟨v1,V1⟩:=n1;obtain⟨v2,V2⟩:=n2;exact⟨h.hg,h.O,h.W,h.ks,h.ns.1,h.ns.2.1,trivial⟩
def Fv (T:TypeId)(w0:World)(g:Nat)(p:Int)(bad:Bool)(ks:List (TypeId×Nat×Array Value))(ns:List (Value×Nat))(w:World):Prop:=St T w0 g p bad w ks ns
theorem Fv.out (h:Fv T w0 g p bad ks ns w):St T w0 g p bad w ks ns:=h
theorem j7 {T':TypeId}{b:Nat}(L:St T w0 g p bad v ((T',b,zs) :: ks) ns)(h1:w0.heap.size<=b)(hne:mG b ks)(x0 x1 x2 x3 x4 x5:Value)(hT:T'=31:=by rfl):
 Fv T w0 g p bad ((31,b,#[x0,x1,x2,x3,x4,x5]) :: ks) ns (put6 v b x0 x1 x2 x3 x4 x5):=wQ L h1 hne x0 x1 x2 x3 x4 x5 hT
section
variable {ops:Array Oper} {S:World->Prop} {o:Oper} {a:Act} {w:World} {K:Act->World->Prop} {Q:Exit->Act->World->Prop}
theorem eM {P:Program}{id:Nat}(n:Nat)(l:Array Bool)(hm:P.follows .mixedOrders=true)(hn:ops.size=n)(hl:Array.replicate n false=l)(hS:S w.drew)(h:wpAnyH P .any ops Q S n l a w.drew):(Code.region id ops true).wp P Q a w:=by
 subst hn hl
 exact wp_region_held_drew hm hS fun _=>h
theorem Gf {P:Program}{md:Region.Mode}{l:Array Bool}(h:∀ G:Nat->Array Bool->Act->World->Prop,G=wpAnyH P md ops Q S->G n l a w):wpAnyH P md ops Q S n l a w:=h _ rfl
theorem Gj {R:Act->Prop}(s1 s2 s3q s4 s5 s6q:Nat)(h0:(((((a.put (some s1) undef).put (some s2) undef).put (some s3q) undef).put (some s4) undef).put (some s5) undef).put (some s6q) undef=a)
 (h:∀ A:Value->Value->Value->Value->Value->Value->Act,(∀ o1 o2 o3 o4 o5 o6,A o1 o2 o3 o4 o5 o6=(((((a.put (some s1) o1).put (some s2) o2).put (some s3q) o3).put (some s4) o4).put (some s5) o5).put (some s6q) o6)->R (A undef undef undef undef undef undef)):R a:=by
 have:=h _ (fun _ _ _ _ _ _=>rfl)
 rw[h0]at this;exact this
theorem au {P:Program}{v:Value}(hw:oM o (yielded ops a.tmps)=true)(h:∀ w,(execOp a.eval o).run P w=.ok (.value v) w):YieldsIf P ops S o v a:=.inl ⟨hw,fun w _=>h w⟩
theorem iX (hw:oM o (yielded ops a.tmps)=true)(x:Operand)(ho:o.op=.load 24 x)(b:Nat)(hx:a.eval x=.pointer (some ⟨b,0,none⟩)){c0 c1 c2:Value}(hS:∀ w,S w->KC T w b #[c0,c1,c2]):
 YieldsIf mF ops S o (.agg #[c0,c1,c2]) a:=by
 have h:(Tryz.prog.underlying 24).map TypeDesc.isRow=some true:=by kernel_rfl
 obtain⟨d,h1,h2⟩:=Option.map_eq_some_iff.1 h;exact yieldsIf_load_mid hw _ x ho b 0 hx [c0,c1,c2] d (fun w h=>ji (hS w h)) h1 h2 (by kernel_rfl)
theorem ek (hw:oM o (yielded ops a.tmps)=true)(x:Operand)(ho:o.op=.load 31 x)(b:Nat)(hx:a.eval x=.pointer (some ⟨b,0,none⟩)){c0 c1 c2 c3 c4 c5:Value}(hS:∀ w,S w->KC T w b #[c0,c1,c2,c3,c4,c5]):
 YieldsIf mF ops S o (.agg #[c0,c1,c2,c3,c4,c5]) a:=by
 have h:(Tryz.prog.underlying 31).map TypeDesc.isRow=some true:=by kernel_rfl
 obtain⟨d,h1,h2⟩:=Option.map_eq_some_iff.1 h;exact yieldsIf_load_mid hw _ x ho b 0 hx [c0,c1,c2,c3,c4,c5] d (fun w h=>ji (hS w h)) h1 h2 (by kernel_rfl)
theorem mf (hw:oM o (yielded ops a.tmps)=true)(x:Operand)(ho:o.op=.load 4 x){ad:Addr}(hx:a.eval x=.pointer (some ad)){b:Bool}(hS:∀ w,S w->w.cell? ad=some (.bool b)):YieldsIf mF ops S o (.bool b) a :=
 .inl ⟨hw,fun w h=>by
  have hc:=hS w h;unfold execOp;simp only[ho,hx]
  go_simp⟩
theorem lR (ho:o.op=.alloc 31)(h:K (a.put o.dst (.pointer (some ⟨w.heap.size,0,none⟩))) (w.alloc (.cells zs 31))):Oper.wp mF o a w K Q:=by
 have hr:(execOp a.eval o).run mF w=.ok (.value (.pointer (some ⟨w.heap.size,0,none⟩))) (w.alloc (.cells zs 31)):=by
  unfold execOp;rw[ho]
  kernel_rfl
 unfold Oper.wp;rw[hr];exact h
theorem pL (x y:Operand)(ho:o.op=.store 31 x y)(b:Nat)(hx:a.eval x=.pointer (some ⟨b,0,none⟩)){n1 n2:Bool}{A B:OA}{c m d:Nat}{e f:Int}(hy:a.eval y=aG n1 A n c e n2 B m d f){q0 q1 q2 q3 q4 q5:Value}
 (k:KC T w b #[q0,q1,q2,q3,q4,q5]) (h:K (a.put o.dst undef) (put6 w b (.bool n1) (.slice A n c) (.int .i64 e) (.bool n2) (.slice B m d) (.int .i64 f))):Oper.wp mF o a w K Q :=
 wp_store_mid _ x y ho b 0 #[.bool n1,.slice A n c,.int .i64 e,.bool n2,.slice B m d,.int .i64 f] hx hy (xF k 6 rfl) (by kernel_rfl) (by simp[Value.oneCell']) h
theorem qP (L:St T w0 g p bad w ks ns)(ho:o.op=.alloc 31)
 (h:∀ b w',St T w0 g p bad w' ((31,b,zs) :: ks) ns->w0.heap.size<=b->mG b ks->K (a.put o.dst (.pointer (some ⟨b,0,none⟩))) w'):Oper.wp mF o a w K Q :=
 lR ho (h _ _ (L.alloc _ _) L.size (mV L.ks))
theorem bK (x y:Operand)(ho:o.op=.store 31 x y)(b:Nat)(hx:a.eval x=.pointer (some ⟨b,0,none⟩)){n1 n2:Bool}{A B:OA}{c m d:Nat}{e f:Int}(hy:a.eval y=aG n1 A n c e n2 B m d f){q0 q1 q2 q3 q4 q5:Value}
 (k:KC T w b #[q0,q1,q2,q3,q4,q5]) {F:World->Prop} (hF:F (put6 w b (.bool n1) (.slice A n c) (.int .i64 e) (.bool n2) (.slice B m d) (.int .i64 f))) (h:∀ w',F w'->K (a.put o.dst undef) w'):Oper.wp mF o a w K Q :=
 pL x y ho b hx hy k (h _ hF)
theorem aO {P:Program}{f:FuncId}{vals:Array Value}{post:Ending->World->Prop}(hc:Calls P f vals w post)(hr:(execOp a.eval o).run P w=.ok (.enter f vals) w)
 (hK:∀ e w',post e w'->∃ v,e=.returned v/\K (a.put o.dst v) w'):Oper.wp P o a w K Q:=by
 unfold Oper.wp;rw[hr]
 refine Calls.mono hc fun e w' he=>?_
 obtain⟨v,rfl,h⟩:=hK e w' he;exact h
end
end Go.Proofs.YtmbmohibpkepdaaGreatDoor
