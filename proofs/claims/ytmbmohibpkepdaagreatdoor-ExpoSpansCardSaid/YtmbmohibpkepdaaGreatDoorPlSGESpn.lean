import Derived.Maps.RangeWalk
import Derived.Deep.CutBlock
import Derived.Test.YtmbmohibpkepdaaGreatDoorPlSGEx14
set_option maxRecDepth 8000
set_option linter.unusedSimpArgs false
set_option maxHeartbeats 40000000
open List renaming setIfInBounds_toArray->lY, set_cons_zero->mF, set_cons_succ->ou
open Go.Lib renaming hid->qK
open Go.AllReadyH renaming nil->oM
open Go.Act renaming put->oY
open Nat renaming strongRecOn->nF
open And renaming intro->tz
namespace Go.Proofs.YtmbmohibpkepdaaGreatDoor
open Go.RowKit
variable {b:Nat} {w:World}
theorem FQ {T:TypeId}{w0 v:World}{g:Nat}{p:Int}{bad:Bool}{k1 k2 k3:TypeId×Nat×Array Value}{ns:List (Value×Nat)}(h:St T w0 g p bad v [k1,k2,k3] ns):St T w0 g p bad v [k2,k3,k1] ns:=by
 obtain⟨T1,b1,c1⟩:=k1;obtain⟨T2,b2,c2⟩:=k2;obtain⟨T3,b3,c3⟩:=k3;exact⟨h.hg,h.O,h.W,⟨h.ks.2.1,h.ks.2.2.1,h.ks.1,trivial⟩,h.ns⟩
structure V6 where
 A:OA
 n:Nat
 c:Nat
 B:OA
 m:Nat
 d:Nat
def Ht (r:SRes)(u:V6):Value:=aG r.lo.neg u.A u.n u.c r.lo.e r.hi.neg u.B u.m u.d r.hi.e
def Hx (r:SRes)(u:V6):List (Value×Nat):=[(.slice u.A u.n u.c,r.lo.m),(.slice u.B u.m u.d,r.hi.m)]
def Hp:Option Nat->Value
 | none=>undef
 | some a=>.pointer (some ⟨a,0,none⟩)
def tf:Option Nat->List (TypeId×Nat×Array Value)
 | none=>[]
 | some a=>[(31,a,zs)]
def nf:Option Nat->Nat
 | none=>1
 | some _=>0
def Hn (i:Nat):Option Nat->List Nat
 | none=>[i]
 | some _=>[]
structure Hy (w:World)(c8 c9 c10:Option Nat):Prop where
 h8:∀ a,c8=some a->w.heap.size<=a
 h9:∀ a,c9=some a->w.heap.size<=a
 h10:∀ a,c10=some a->w.heap.size<=a
 n89:∀ a b,c8=some a->c9=some b->a≠b
 n80:∀ a b,c8=some a->c10=some b->a≠b
 n90:∀ a b,c9=some a->c10=some b->a≠b
theorem H4 (w:World):Hy w none none none:=⟨fun _ e=>(by cases e),fun _ e=>(by cases e),fun _ e=>(by cases e),fun _ _ e=>(by cases e),fun _ _ e=>(by cases e),fun _ _ e=>(by cases e)⟩
theorem Hr {c8 c9 c10:Option Nat}(h:mG b (tf c8 ++ tf c9 ++ tf c10)):(∀ a,c8=some a->a≠b)/\(∀ a,c9=some a->a≠b)/\(∀ a,c10=some a->a≠b):=by
 rcases c8 with _ | x <;> rcases c9 with _ | y <;> rcases c10 with _ | z <;> refine⟨fun a e=>?_,fun a e=>?_,fun a e=>?_⟩ <;> cases e <;> first | exact h.1 | exact h.2.1 | exact h.2.2.1
theorem HJ {c9 c10:Option Nat}(F:Hy w none c9 c10)(hb:w.heap.size<=b)(hn:mG b (tf none ++ tf c9 ++ tf c10)):Hy w (some b) c9 c10 :=
 ⟨fun a e=>by cases e;exact hb,F.h9,F.h10,fun a d e1 e2=>by cases e1;exact Ne.symm ((Hr hn).2.1 d e2),fun a d e1 e2=>by cases e1;exact Ne.symm ((Hr hn).2.2 d e2),F.n90⟩
theorem Hz {c8 c10:Option Nat}(F:Hy w c8 none c10)(hb:w.heap.size<=b)(hn:mG b (tf c8 ++ tf none ++ tf c10)):Hy w c8 (some b) c10 :=
 ⟨F.h8,fun a e=>by cases e;exact hb,F.h10,fun a d e1 e2=>by cases e2;exact(Hr hn).1 a e1,F.n80,fun a d e1 e2=>by cases e1;exact Ne.symm ((Hr hn).2.2 d e2)⟩
theorem Hw {c8 c9:Option Nat}(F:Hy w c8 c9 none)(hb:w.heap.size<=b)(hn:mG b (tf c8 ++ tf c9 ++ tf none)):Hy w c8 c9 (some b) :=
 ⟨F.h8,F.h9,fun a e=>by cases e;exact hb,F.n89,fun a d e1 e2=>by cases e2;exact(Hr hn).1 a e1,fun a d e1 e2=>by cases e2;exact(Hr hn).2.1 a e1⟩
section
variable {T:TypeId} {w0 v:World} {g b:Nat} {p:Int} {bad:Bool} {c8 c9 c10:Option Nat} {ns:List (Value×Nat)}
theorem Hv (h:St T w0 g p bad v ((31,b,zs) :: (tf none ++ tf c9 ++ tf c10)) ns):St T w0 g p bad v (tf (some b) ++ tf c9 ++ tf c10) ns:=h
theorem Hu (h:St T w0 g p bad v ((31,b,zs) :: (tf c8 ++ tf none ++ tf c10)) ns):St T w0 g p bad v (tf c8 ++ tf (some b) ++ tf c10) ns:=by
 cases c8 with
 | none=>exact h
 | some a=>exact Ba h
theorem Hs (h:St T w0 g p bad v ((31,b,zs) :: (tf c8 ++ tf c9 ++ tf none)) ns):St T w0 g p bad v (tf c8 ++ tf c9 ++ tf (some b)) ns:=by
 rcases c8 with _ | a <;> rcases c9 with _ | a'
 . exact h
 . exact Ba h
 . exact Ba h
 . exact FQ h
end
section
variable {P:Program} {md:Region.Mode} {ops:Array Oper} {Q:Exit->Act->World->Prop} {S:World->Prop} {fuel:Nat} {listed:Array Bool} {a:Act} {w:World}
theorem En {r1 r2:List Nat}(h1:AllReadyH P md ops Q S fuel listed a w r1)(h2:AllReadyH P md ops Q S fuel listed a w r2):AllReadyH P md ops Q S fuel listed a w (r1 ++ r2):=fun i hi=>by
 rcases List.mem_append.1 hi with h | h
 . exact h1 i h
 . exact h2 i h
theorem Hm {i:Nat}{c:Option Nat}(h:c=none->AllReadyH P md ops Q S fuel listed a w [i]):AllReadyH P md ops Q S fuel listed a w (Hn i c):=by
 cases c with
 | none=>exact h rfl
 | some _=>exact oM
end
theorem eX.n2d {T T':TypeId}{wi:World}{g gi:Nat}{p p':Int}{ks:List (TypeId×Nat×Array Value)}{n1 n2:Value×Nat}{ns:List (Value×Nat)}(h:eX T T' w g p wi ks (n1 :: n2 :: ns) gi p'):eX T T' w g p wi ks ns gi p':=by
 obtain⟨v1,V1⟩:=n1;obtain⟨v2,V2⟩:=n2;exact⟨⟨h.S.hg,h.S.O,h.S.W,h.S.ks,h.S.ns.2.2⟩,h.W2,h.hgi,h.ne⟩
theorem FV (na sX nd:Bool)(A B E:OA)(n c m d k l:Nat)(x y z:Nat->Nat)(ea eb ed p:Int)(w:World)(ha:Sl w A n c x)(hb:Sl w B m d y)(he:Sl w E k l z)(hT:bx w):
 Calls Tryz.prog 4 #[aG na A n c ea sX B m d eb,aP nd E k l ed,.int .i64 p] w (cz w):=by
 obtain⟨a,rfl,rfl,hDa⟩:∃ D:DR,D.neg=na/\D.e=ea/\D=⟨true,na,vs ai x n,ea⟩:=⟨_,rfl,rfl,rfl⟩;obtain⟨b,rfl,rfl,hDb⟩:∃ D:DR,D.neg=sX/\D.e=eb/\D=⟨true,sX,vs ai y m,eb⟩:=⟨_,rfl,rfl,rfl⟩;obtain⟨D,rfl,rfl,hDd⟩:∃ D:DR,D.neg=nd/\D.e=ed/\D=⟨true,nd,vs ai z k,ed⟩:=⟨_,rfl,rfl,rfl⟩
 have P0:Pu w ((w.alloc (.cells #[.bool a.neg,.slice A n c,.int .i64 a.e,.bool b.neg,.slice B m d,.int .i64 b.e] 31)).alloc (.cells #[.bool D.neg,.slice E k l,.int .i64 D.e] 24)) [(24,w.heap.size+1,s3 D E k l),(31,w.heap.size,s6 a A n c b B m d)] []:=by
  have h:=((⟨Below.refl _ w,trivial,trivial⟩:Pu w w [] []).alloc 31 #[.bool a.neg,.slice A n c,.int .i64 a.e,.bool b.neg,.slice B m d,.int .i64 b.e]).alloc 24 #[.bool D.neg,.slice E k l,.int .i64 D.e];simp only[gO]at h;exact h
 have AW:=qK (D5 ((w.alloc (.cells #[.bool a.neg,.slice A n c,.int .i64 a.e,.bool b.neg,.slice B m d,.int .i64 b.e] 31)).alloc (.cells #[.bool D.neg,.slice E k l,.int .i64 D.e] 24)) (hT.below P0.bel));have HA:=qK (tz hDa ha);have HB:=qK (tz hDb hb);have HE:=qK (tz hDd he);have HT:=qK hT;clear hDa hDb hDd ha hb he hT;go_enter Tryz.func4,Tryz.ntmps4;go_wp2_with fail;refine AW.out.mono ?_;generalize(w.alloc (.cells #[.bool a.neg,.slice A n c,.int .i64 a.e,.bool b.neg,.slice B m d,.int .i64 b.e] 31)).alloc (.cells #[.bool D.neg,.slice E k l,.int .i64 D.e] 24)=w1 at *;rintro e' w2 ⟨rfl,b2⟩;have P2:=P0.below b2;clear AW P0 b2;obtain⟨y0_0,y0_1,y0_2,y0_3,y0_4,y0_5⟩:=P2.ks.2.1.c6;obtain⟨y1_0,y1_1,y1_2⟩:=P2.ks.1.c3;have yl:=P2.ks.1.2;have yl2:=P2.ks.2.1.2;have KF:=qK (zU a.neg A n c x a.e w2 (HA.out.2.below P2.bel));obtain⟨fb,hfb⟩:=du (rc a.neg n x a.e);rw[← hfb]at KF;have F1:=qK hfb;clear hfb;go_wp2_with fail;refine KF.out.mono ?_;rintro e' w3 ⟨rfl,b0⟩;have P3:=P2.below b0;clear KF P2 b0 yl yl2 y0_0 y0_1 y0_2 y0_3 y0_4 y0_5 y1_0 y1_1 y1_2
 cases fb with
 | false =>
  clear F1;go_wp2_with fail;go_ret;exact⟨rfl,P3.bel⟩
 | true =>
  obtain⟨y0_0,y0_1,y0_2,y0_3,y0_4,y0_5⟩:=P3.ks.2.1.c6;obtain⟨y1_0,y1_1,y1_2⟩:=P3.ks.1.c3;have yl:=P3.ks.1.2;have yl2:=P3.ks.2.1.2;have KF:=qK (zU b.neg B m d y b.e w3 (HB.out.2.below P3.bel));obtain⟨fb,hfb⟩:=du (rc b.neg m y b.e);rw[← hfb]at KF;have F2:=qK hfb;clear hfb;go_wp2_with fail;refine KF.out.mono ?_;rintro e' w4 ⟨rfl,b0⟩;have P4:=P3.below b0;clear KF P3 b0 yl yl2 y0_0 y0_1 y0_2 y0_3 y0_4 y0_5 y1_0 y1_1 y1_2
  cases fb with
  | false =>
   clear F2;go_wp2_with fail;go_ret;exact⟨rfl,P4.bel⟩
  | true =>
   obtain⟨y0_0,y0_1,y0_2,y0_3,y0_4,y0_5⟩:=P4.ks.2.1.c6;obtain⟨y1_0,y1_1,y1_2⟩:=P4.ks.1.c3;have yl:=P4.ks.1.2;have yl2:=P4.ks.2.1.2;have KF:=qK (zU D.neg E k l z D.e w4 (HE.out.2.below P4.bel));obtain⟨fb,hfb⟩:=du (rc D.neg k z D.e);rw[← hfb]at KF;have F3:=qK hfb;clear hfb;go_wp2_with fail;refine KF.out.mono ?_;rintro e' w5 ⟨rfl,b0⟩;have P5:=P4.below b0;clear KF P4 b0 yl yl2 y0_0 y0_1 y0_2 y0_3 y0_4 y0_5 y1_0 y1_1 y1_2
   cases fb with
   | false =>
    clear F3;go_wp2_with fail;go_ret;exact⟨rfl,P5.bel⟩
   | true =>
    obtain⟨y0_0,y0_1,y0_2,y0_3,y0_4,y0_5⟩:=P5.ks.2.1.c6;obtain⟨y1_0,y1_1,y1_2⟩:=P5.ks.1.c3;have yl:=P5.ks.1.2;have yl2:=P5.ks.2.1.2;have KF:=qK (x8 p w5);obtain⟨fb,hfb⟩:=du (tW p);rw[← hfb]at KF;have F4:=qK hfb;clear hfb;go_wp2_with fail;refine KF.out.mono ?_;rintro e' w6 ⟨rfl,b0⟩;have P6:=P5.below b0;clear KF P5 b0 yl yl2 y0_0 y0_1 y0_2 y0_3 y0_4 y0_5 y1_0 y1_1 y1_2
    cases fb with
    | false =>
     clear F4;go_wp2_with fail;go_ret;exact⟨rfl,P6.bel⟩
    | true =>
     have HDD:=qK (tz (Fd HA.out.1 HA.out.2 F1.out.symm) (tz (Fd HB.out.1 HB.out.2 F2.out.symm) (tz (Fd HE.out.1 HE.out.2 F3.out.symm) (Ap F4.out.symm))));clear F1 F2 F3 F4 HA HB HE;obtain⟨q1,hq1⟩:=du (aw a b);obtain⟨q2,hq2⟩:=du (cM a a);obtain⟨q3,hq3⟩:=du (cM b b);obtain⟨q,hqq⟩:=du (q1 && q2 && q3);obtain⟨p',hp'⟩:=du (p+100);obtain⟨X1,X2,X3,cF1,cF2,cF3,HNO,HYES⟩:=Gi q (by rw[vc HDD.out.1.1 HDD.out.2.1.1,← hq1,← hq2,← hq3];exact hqq) HDD.out.1.1 HDD.out.2.1.1 HDD.out.2.2.1.1 HDD.out.1.2 HDD.out.2.1.2 HDD.out.2.2.1.2 HDD.out.2.2.2 hp';replace cF1:=qK cF1;replace cF2:=qK cF2;replace cF3:=qK cF3;replace HNO:=qK HNO;replace HYES:=qK HYES;have cR1:Hid (∀ w',Below w.heap.size w w'->Calls Tryz.prog 24 #[aG a.neg A n c a.e b.neg B m d b.e] w' (di w' q1)):=qK (fun w' h=>by rw[hq1];exact Gb w' (HDD.out.1.2 w' h) (HDD.out.2.1.2 w' h));have cR2:Hid (∀ w',Below w.heap.size w w'->Calls Tryz.prog 14 #[aP a.neg A n c a.e] w' (di w' q2)):=qK (fun w' h=>by rw[hq2];exact uF w' (HDD.out.1.2 w' h) HDD.out.1.1);have cR3:Hid (∀ w',Below w.heap.size w w'->Calls Tryz.prog 14 #[aP b.neg B m d b.e] w' (di w' q3)):=qK (fun w' h=>by rw[hq3];exact uF w' (HDD.out.2.1.2 w' h) HDD.out.2.1.1);have hwr:Hid (IntKind.i64.wrap (p+100)=p'):=qK (by have:=HDD.out.2.2.2;rw[aE (by omega) (by omega),hp']);have HQ:=qK hqq;clear hq1 hq2 hq3 hqq hp';have CK:=qK (qj p w6);obtain⟨g,hg⟩:=du w6.heap.size
     have hgw:w.heap.size<=g:=by have:=P6.bel.size;omega
     have hgA:w.heap.size < g:=by rw[hg];exact P6.ks.2.1.2
     have hgD:w.heap.size+1 < g:=by rw[hg];exact P6.ks.1.2
     rw[← hg]at CK;go_wp2_with fail;refine CK.out.mono ?_;rintro e' w7 ⟨rfl,hW,b7⟩;have P7:=P6.below (hg ▸ b7);clear CK P6 hg b7;have HT1:=qK (HT.out.below P7.bel);have HB1:=qK P7.bel;have ka:=P7.ks.2.1;have kd:=P7.ks.1;clear P7 HT;replace hW:=qK hW;have TB:Hid (∀ b' w' ks ns,St 38 w7 g p b' w' ks ns->bx w'):=qK (fun b' w' ks ns h=>HT1.out.wk hW.out h.O);have FB:Hid (∀ b' w' ks ns,St 38 w7 g p b' w' ks ns->Below w.heap.size w w'):=qK (fun b' w' ks ns h=>ct HB1.out h.O hgw);have FB2:Hid (∀ w' ks ns gv,eX 38 49 w7 g p w' ks ns gv p'->Below w.heap.size w w'):=qK (fun w' ks ns gv h=>FB.out _ _ _ _ h.S);have S:=St.start hW.out;go_upto_region 6 with fail;have HCO:Hid (∀ w',az w7 w' g->KC 31 w' w.heap.size #[.bool a.neg,.slice A n c,.int .i64 a.e,.bool b.neg,.slice B m d,.int .i64 b.e]):=qK (fun w' o=>ka.only o (by omega));have HCD:Hid (∀ w',az w7 w' g->KC 24 w' (w.heap.size+1) #[.bool D.neg,.slice E k l,.int .i64 D.e]):=qK (fun w' o=>kd.only o (by omega));have XS:=HCO.out _ S.drew.O;replace S:=S.drew;clear ka kd hgw hgA hgD HT1 HB1 hW
     go_cut [8,9,10] (fun s8 s9 s10 wx=>∃ (x y z:SRes) (a8 a9 a10:Nat) (A1:OA) (n1 c1:Nat) (B1:OA) (m1 d1:Nat) (A2:OA) (n2 c2:Nat) (B2:OA) (m2 d2:Nat) (A3:OA) (n3 c3:Nat) (B3:OA) (m3 d3:Nat),s8=.pointer (some ⟨a8,0,none⟩)/\s9=.pointer (some ⟨a9,0,none⟩)/\s10=.pointer (some ⟨a10,0,none⟩)/\w7.heap.size<=a8/\w7.heap.size<=a9/\w7.heap.size<=a10/\X1 x/\X2 y/\X3 z/\St 38 w7 g p (!q) wx [(31,a8,s6 x.lo A1 n1 c1 x.hi B1 m1 d1),(31,a9,s6 y.lo A2 n2 c2 y.hi B2 m2 d2),(31,a10,s6 z.lo A3 n3 c3 z.hi B3 m3 d3)] [(.slice A3 n3 c3,z.lo.m),(.slice B3 m3 d3,z.hi.m),(.slice A2 n2 c2,y.lo.m),(.slice B2 m2 d2,y.hi.m),(.slice A1 n1 c1,x.lo.m),(.slice B1 m1 d1,x.hi.m)])
     case first =>
      clear HDD HQ HNO HYES cR1 cR2 cR3 FB2 hwr
      as_aux_lemma =>
       refine eM (S:=fun w'=>KC 31 w' w.heap.size #[.bool a.neg,.slice A n c,.int .i64 a.e,.bool b.neg,.slice B m d,.int .i64 b.e]) 15 #[false,false,false,false,false,false,false,false,false,false,false,false,false,false,false] (by kernel_rfl) (by kernel_rfl) (by kernel_rfl) XS ?_;refine gl 0 40 rfl (.pointer (some ⟨g,0,none⟩)) XS ?_;refine AG 1 41 rfl (w.heap.size) (fun _ h=>h) XS ?_;refine gl 3 43 rfl (.pointer (some ⟨g,0,none⟩)) XS ?_;go_frame;refine AG 4 44 rfl (w.heap.size) (fun _ h=>h) XS ?_;refine gl 6 46 rfl (.pointer (some ⟨g,0,none⟩)) XS ?_;refine AG 7 47 rfl (w.heap.size) (fun _ h=>h) XS ?_;go_frame;refine Gf ?_;intro G hG;refine Gj (R:=fun a=>G _ _ a _) 8 9 10 42 45 48 (by kernel_rfl) ?_;intro A0 hA0;clear XS
       have N3:∀ (m:Nat) (c8 c9 c10:Option Nat) (x:SRes) (u1:V6) (y:SRes) (u2:V6) (z:SRes) (u3:V6) (v:World),nf c8+nf c9+nf c10=m->X1 x->X2 y->X3 z->Hy w7 c8 c9 c10->St 38 w7 g p (!q) v (tf c8 ++ tf c9 ++ tf c10) (Hx z u3 ++ (Hx y u2 ++ Hx x u1))->G (m+3) #[true,true,true,true,true,true,true,true,true,c8.isSome,c9.isSome,c10.isSome,false,false,false] (A0 (Hp c8) (Hp c9) (Hp c10) (Ht x u1) (Ht y u2) (Ht z u3)) v:=by
        intro m
        induction m using nF with
        | ind m ih =>
         intro c8 c9 c10 x u1 y u2 z u3 v hm hx hy hz FA9 L
         rcases Nat.eq_zero_or_pos m with h0 | h0
         . subst h0
           rcases c8 with _ | a8
           . simp only[nf]at hm;omega
           rcases c9 with _ | a9
           . simp only[nf]at hm;omega
           rcases c10 with _ | a10
           . simp only[nf]at hm;omega
           rcases u1 with⟨A1,n1,c1,B1,m1,d1⟩
           rcases u2 with⟨A2,n2,c2,B2,m2,d2⟩
           rcases u3 with⟨A3,n3,c3,B3,m3,d3⟩
           replace L:St 38 w7 g p (!q) v [(31,a8,zs),(31,a9,zs),(31,a10,zs)] [(.slice A3 n3 c3,z.lo.m),(.slice B3 m3 d3,z.hi.m),(.slice A2 n2 c2,y.lo.m),(.slice B2 m2 d2,y.hi.m),(.slice A1 n1 c1,x.lo.m),(.slice B1 m1 d1,x.hi.m)]:=L;have ha8:=FA9.h8 _ rfl;have ha9:=FA9.h9 _ rfl;have ha10:=FA9.h10 _ rfl;have e01:=FA9.n89 _ _ rfl rfl;have e02:=FA9.n80 _ _ rfl rfl;have e12:=FA9.n90 _ _ rfl rfl;clear ih FA9 hm;rw[hG,hA0];go_frame;simp only[Hp,Ht,Option.isSome_some];refine wpAnyH_ready (rs:=[12]) (by kernel_rfl) (by simp) ?_;refine FD rfl a8 L.ks.1.1 (j7 L ha8 ⟨Ne.symm e01,Ne.symm e02,trivial⟩ (.bool x.lo.neg) (.slice A1 n1 c1) (.int .i64 x.lo.e) (.bool x.hi.neg) (.slice B1 m1 d1) (.int .i64 x.hi.e)) (fun v0 M0=>?_) oM;replace M0:=FQ M0.out;refine⟨HCO.out _ M0.O,fun _=>?_⟩;clear L;go_frame;refine wpAnyH_ready (rs:=[13]) (by kernel_rfl) (by simp) ?_;refine FD rfl a9 M0.ks.1.1 (j7 M0 ha9 ⟨Ne.symm e12,e01,trivial⟩ (.bool y.lo.neg) (.slice A2 n2 c2) (.int .i64 y.lo.e) (.bool y.hi.neg) (.slice B2 m2 d2) (.int .i64 y.hi.e)) (fun v1 M1=>?_) oM;replace M1:=FQ M1.out;refine⟨HCO.out _ M1.O,fun _=>?_⟩;clear M0;go_frame;refine wpAnyH_ready (rs:=[14]) (by kernel_rfl) (by simp) ?_;refine FD rfl a10 M1.ks.1.1 (j7 M1 ha10 ⟨e02,e12,trivial⟩ (.bool z.lo.neg) (.slice A3 n3 c3) (.int .i64 z.lo.e) (.bool z.hi.neg) (.slice B3 m3 d3) (.int .i64 z.hi.e)) (fun v2 M2=>?_) oM;replace M2:=FQ M2.out;refine⟨HCO.out _ M2.O,fun _=>?_⟩;clear M1;go_frame;refine wpAnyH_done (by kernel_rfl) ?_ _;go_wp2_with fail;go_meet;exact⟨x,y,z,a8,a9,a10,A1,n1,c1,B1,m1,d1,A2,n2,c2,B2,m2,d2,A3,n3,c3,B3,m3,d3,rfl,rfl,rfl,ha8,ha9,ha10,hx,hy,hz,M2⟩
         rw[hG,hA0];go_frame;obtain⟨i9,hmm⟩:∃ i,m=i+1:=⟨m-1,by omega⟩
         have hne:(Hn 9 c8 ++ (Hn 10 c9 ++ Hn 11 c10))≠[]:=by rcases c8 with _ | _ <;> rcases c9 with _ | _ <;> rcases c10 with _ | _ <;> first | (simp only[nf]at hm;omega) | (intro h;cases h)
         refine wpAnyH_ready (rs:=(Hn 9 c8 ++ (Hn 10 c9 ++ Hn 11 c10))) (by rcases c8 with _ | _ <;> rcases c9 with _ | _ <;> rcases c10 with _ | _ <;> first | (exfalso;simp only[nf]at hm;omega) | kernel_rfl) hne ?_;refine En ?_ (En ?_ ?_)
         . refine Hm fun e0=>?_
           subst e0;obtain⟨i,rfl⟩:∃ i,m=i+1:=⟨m-1,by simp only[nf]at hm;omega⟩;refine FF 8 rfl L (fun b v' L1 hb hn=>?_) oM;have NX:=ih i (by omega) (some b) c9 c10 x u1 y u2 z u3 _ (by simp only[nf]at hm ⊢;omega) hx hy hz (HJ FA9 hb hn) (Hv L1);rw[hG,hA0]at NX;simp only[oY,lY,mF,ou]at NX;refine⟨HCO.out _ L1.O,fun _=>?_⟩;go_frame;exact NX
         . refine Hm fun e0=>?_
           subst e0;obtain⟨i,rfl⟩:∃ i,m=i+1:=⟨m-1,by simp only[nf]at hm;omega⟩;refine FF 9 rfl L (fun b v' L1 hb hn=>?_) oM;have NX:=ih i (by omega) c8 (some b) c10 x u1 y u2 z u3 _ (by simp only[nf]at hm ⊢;omega) hx hy hz (Hz FA9 hb hn) (Hu L1);rw[hG,hA0]at NX;simp only[oY,lY,mF,ou]at NX;refine⟨HCO.out _ L1.O,fun _=>?_⟩;go_frame;exact NX
         . refine Hm fun e0=>?_
           subst e0;obtain⟨i,rfl⟩:∃ i,m=i+1:=⟨m-1,by simp only[nf]at hm;omega⟩;refine FF 10 rfl L (fun b v' L1 hb hn=>?_) oM;have NX:=ih i (by omega) c8 c9 (some b) x u1 y u2 z u3 _ (by simp only[nf]at hm ⊢;omega) hx hy hz (Hw FA9 hb hn) (Hs L1);rw[hG,hA0]at NX;simp only[oY,lY,mF,ou]at NX;refine⟨HCO.out _ L1.O,fun _=>?_⟩;go_frame;exact NX
       have N2:∀ (m:Nat) (c8 c9 c10:Option Nat) (x:SRes) (u1:V6) (y:SRes) (u2:V6) (v:World),nf c8+nf c9+nf c10=m->X1 x->X2 y->Hy w7 c8 c9 c10->St 38 w7 g p (!q) v (tf c8 ++ tf c9 ++ tf c10) (Hx y u2 ++ Hx x u1)->G (m+4) #[true,true,true,true,true,true,true,true,false,c8.isSome,c9.isSome,c10.isSome,false,false,false] (A0 (Hp c8) (Hp c9) (Hp c10) (Ht x u1) (Ht y u2) undef) v:=by
        intro m
        induction m using nF with
        | ind m ih =>
         intro c8 c9 c10 x u1 y u2 v hm hx hy FA9 L;rw[hG,hA0];go_frame;refine wpAnyH_ready (rs:=[8] ++ (Hn 9 c8 ++ (Hn 10 c9 ++ Hn 11 c10))) (by rcases c8 with _ | _ <;> rcases c9 with _ | _ <;> rcases c10 with _ | _ <;> first | kernel_rfl | (exfalso;simp only[nf]at hm;omega)) (by simp) ?_;refine En (FE 48 rfl (cF3.out _ _ L.W (TB.out _ _ _ _ L) (FB.out _ _ _ _ L)) ?_ oM) (En ?_ (En ?_ ?_))
         . rintro e' v' ⟨z,hz,rb,A3,n3,c3,B3,m3,d3,rfl,N0,M0,W0,o0⟩
           rw[rb]at W0;have L1:=((L.only o0 W0).num M0).num N0;have NX:=N3 m c8 c9 c10 x u1 y u2 z ⟨A3,n3,c3,B3,m3,d3⟩ _ hm hx hy hz FA9 L1;rw[hG,hA0]at NX;simp only[oY,lY,mF,ou]at NX;refine⟨_,rfl,HCO.out _ L1.O,fun _=>?_⟩;go_frame;exact NX
         . refine Hm fun e0=>?_
           subst e0;obtain⟨i,rfl⟩:∃ i,m=i+1:=⟨m-1,by simp only[nf]at hm;omega⟩;refine FF 8 rfl L (fun b v' L1 hb hn=>?_) oM;have NX:=ih i (by omega) (some b) c9 c10 x u1 y u2 _ (by simp only[nf]at hm ⊢;omega) hx hy (HJ FA9 hb hn) (Hv L1);rw[hG,hA0]at NX;simp only[oY,lY,mF,ou]at NX;refine⟨HCO.out _ L1.O,fun _=>?_⟩;go_frame;exact NX
         . refine Hm fun e0=>?_
           subst e0;obtain⟨i,rfl⟩:∃ i,m=i+1:=⟨m-1,by simp only[nf]at hm;omega⟩;refine FF 9 rfl L (fun b v' L1 hb hn=>?_) oM;have NX:=ih i (by omega) c8 (some b) c10 x u1 y u2 _ (by simp only[nf]at hm ⊢;omega) hx hy (Hz FA9 hb hn) (Hu L1);rw[hG,hA0]at NX;simp only[oY,lY,mF,ou]at NX;refine⟨HCO.out _ L1.O,fun _=>?_⟩;go_frame;exact NX
         . refine Hm fun e0=>?_
           subst e0;obtain⟨i,rfl⟩:∃ i,m=i+1:=⟨m-1,by simp only[nf]at hm;omega⟩;refine FF 10 rfl L (fun b v' L1 hb hn=>?_) oM;have NX:=ih i (by omega) c8 c9 (some b) x u1 y u2 _ (by simp only[nf]at hm ⊢;omega) hx hy (Hw FA9 hb hn) (Hs L1);rw[hG,hA0]at NX;simp only[oY,lY,mF,ou]at NX;refine⟨HCO.out _ L1.O,fun _=>?_⟩;go_frame;exact NX
       have N1:∀ (m:Nat) (c8 c9 c10:Option Nat) (x:SRes) (u1:V6) (v:World),nf c8+nf c9+nf c10=m->X1 x->Hy w7 c8 c9 c10->St 38 w7 g p (!q) v (tf c8 ++ tf c9 ++ tf c10) (Hx x u1)->G (m+5) #[true,true,true,true,true,false,true,true,false,c8.isSome,c9.isSome,c10.isSome,false,false,false] (A0 (Hp c8) (Hp c9) (Hp c10) (Ht x u1) undef undef) v:=by
        intro m
        induction m using nF with
        | ind m ih =>
         intro c8 c9 c10 x u1 v hm hx FA9 L;rw[hG,hA0];go_frame;refine wpAnyH_ready (rs:=[5] ++ (Hn 9 c8 ++ (Hn 10 c9 ++ Hn 11 c10))) (by rcases c8 with _ | _ <;> rcases c9 with _ | _ <;> rcases c10 with _ | _ <;> first | kernel_rfl | (exfalso;simp only[nf]at hm;omega)) (by simp) ?_;refine En (FE 45 rfl (cF2.out _ _ L.W (TB.out _ _ _ _ L) (FB.out _ _ _ _ L)) ?_ oM) (En ?_ (En ?_ ?_))
         . rintro e' v' ⟨y,hy,rb,A2,n2,c2,B2,m2,d2,rfl,N0,M0,W0,o0⟩
           rw[rb]at W0;have L1:=((L.only o0 W0).num M0).num N0;have NX:=N2 m c8 c9 c10 x u1 y ⟨A2,n2,c2,B2,m2,d2⟩ _ hm hx hy FA9 L1;rw[hG,hA0]at NX;simp only[oY,lY,mF,ou]at NX;refine⟨_,rfl,HCO.out _ L1.O,fun _=>?_⟩;go_frame;exact NX
         . refine Hm fun e0=>?_
           subst e0;obtain⟨i,rfl⟩:∃ i,m=i+1:=⟨m-1,by simp only[nf]at hm;omega⟩;refine FF 8 rfl L (fun b v' L1 hb hn=>?_) oM;have NX:=ih i (by omega) (some b) c9 c10 x u1 _ (by simp only[nf]at hm ⊢;omega) hx (HJ FA9 hb hn) (Hv L1);rw[hG,hA0]at NX;simp only[oY,lY,mF,ou]at NX;refine⟨HCO.out _ L1.O,fun _=>?_⟩;go_frame;exact NX
         . refine Hm fun e0=>?_
           subst e0;obtain⟨i,rfl⟩:∃ i,m=i+1:=⟨m-1,by simp only[nf]at hm;omega⟩;refine FF 9 rfl L (fun b v' L1 hb hn=>?_) oM;have NX:=ih i (by omega) c8 (some b) c10 x u1 _ (by simp only[nf]at hm ⊢;omega) hx (Hz FA9 hb hn) (Hu L1);rw[hG,hA0]at NX;simp only[oY,lY,mF,ou]at NX;refine⟨HCO.out _ L1.O,fun _=>?_⟩;go_frame;exact NX
         . refine Hm fun e0=>?_
           subst e0;obtain⟨i,rfl⟩:∃ i,m=i+1:=⟨m-1,by simp only[nf]at hm;omega⟩;refine FF 10 rfl L (fun b v' L1 hb hn=>?_) oM;have NX:=ih i (by omega) c8 c9 (some b) x u1 _ (by simp only[nf]at hm ⊢;omega) hx (Hw FA9 hb hn) (Hs L1);rw[hG,hA0]at NX;simp only[oY,lY,mF,ou]at NX;refine⟨HCO.out _ L1.O,fun _=>?_⟩;go_frame;exact NX
       have N0:∀ (m:Nat) (c8 c9 c10:Option Nat)  (v:World),nf c8+nf c9+nf c10=m->Hy w7 c8 c9 c10->St 38 w7 g p false v (tf c8 ++ tf c9 ++ tf c10) []->G (m+6) #[true,true,false,true,true,false,true,true,false,c8.isSome,c9.isSome,c10.isSome,false,false,false] (A0 (Hp c8) (Hp c9) (Hp c10) undef undef undef) v:=by
        intro m
        induction m using nF with
        | ind m ih =>
         intro c8 c9 c10  v hm  FA9 L;rw[hG,hA0];go_frame;refine wpAnyH_ready (rs:=[2] ++ (Hn 9 c8 ++ (Hn 10 c9 ++ Hn 11 c10))) (by rcases c8 with _ | _ <;> rcases c9 with _ | _ <;> rcases c10 with _ | _ <;> first | kernel_rfl | (exfalso;simp only[nf]at hm;omega)) (by simp) ?_;refine En (FE 42 rfl (cF1.out _ _ L.W (TB.out _ _ _ _ L) (FB.out _ _ _ _ L)) ?_ oM) (En ?_ (En ?_ ?_))
         . rintro e' v' ⟨x,hx,rb,A1,n1,c1,B1,m1,d1,rfl,N0,M0,W0,o0⟩
           rw[rb]at W0;have L1:=((L.only o0 W0).num M0).num N0;have NX:=N1 m c8 c9 c10  x ⟨A1,n1,c1,B1,m1,d1⟩ _ hm  hx FA9 L1;rw[hG,hA0]at NX;simp only[oY,lY,mF,ou]at NX;refine⟨_,rfl,HCO.out _ L1.O,fun _=>?_⟩;go_frame;exact NX
         . refine Hm fun e0=>?_
           subst e0;obtain⟨i,rfl⟩:∃ i,m=i+1:=⟨m-1,by simp only[nf]at hm;omega⟩;refine FF 8 rfl L (fun b v' L1 hb hn=>?_) oM;have NX:=ih i (by omega) (some b) c9 c10  _ (by simp only[nf]at hm ⊢;omega)  (HJ FA9 hb hn) (Hv L1);rw[hG,hA0]at NX;simp only[oY,lY,mF,ou]at NX;refine⟨HCO.out _ L1.O,fun _=>?_⟩;go_frame;exact NX
         . refine Hm fun e0=>?_
           subst e0;obtain⟨i,rfl⟩:∃ i,m=i+1:=⟨m-1,by simp only[nf]at hm;omega⟩;refine FF 9 rfl L (fun b v' L1 hb hn=>?_) oM;have NX:=ih i (by omega) c8 (some b) c10  _ (by simp only[nf]at hm ⊢;omega)  (Hz FA9 hb hn) (Hu L1);rw[hG,hA0]at NX;simp only[oY,lY,mF,ou]at NX;refine⟨HCO.out _ L1.O,fun _=>?_⟩;go_frame;exact NX
         . refine Hm fun e0=>?_
           subst e0;obtain⟨i,rfl⟩:∃ i,m=i+1:=⟨m-1,by simp only[nf]at hm;omega⟩;refine FF 10 rfl L (fun b v' L1 hb hn=>?_) oM;have NX:=ih i (by omega) c8 c9 (some b)  _ (by simp only[nf]at hm ⊢;omega)  (Hw FA9 hb hn) (Hs L1);rw[hG,hA0]at NX;simp only[oY,lY,mF,ou]at NX;refine⟨HCO.out _ L1.O,fun _=>?_⟩;go_frame;exact NX
       exact N0 3 none none none _ rfl (H4 w7) S
     case rest =>
      obtain⟨x,y,z,a8,a9,a10,A1,n1,c1,B1,m1,d1,A2,n2,c2,B2,m2,d2,A3,n3,c3,B3,m3,d3,rfl,rfl,rfl,h8,h9,h10,hx,hy,hz,V⟩:=hcut;clear S XS cF1 cF2 cF3;go_upto_region 7 with fail
      go_cut [63] (fun s63 wy=>s63=.bool (!(q1 && q2 && q3))/\St 38 w7 g p (!q) wy [(31,a8,s6 x.lo A1 n1 c1 x.hi B1 m1 d1),(31,a9,s6 y.lo A2 n2 c2 y.hi B2 m2 d2),(31,a10,s6 z.lo A3 n3 c3 z.hi B3 m3 d3)] [(.slice A3 n3 c3,z.lo.m),(.slice B3 m3 d3,z.hi.m),(.slice A2 n2 c2,y.lo.m),(.slice B2 m2 d2,y.hi.m),(.slice A1 n1 c1,x.lo.m),(.slice B1 m1 d1,x.hi.m)])
      case first =>
       clear HDD HQ HNO HYES hx hy hz h8 h9 h10 FB2 HCD hwr TB;have ya:=HCO.out _ V.O;obtain⟨y0_0,y0_1,y0_2,y0_3,y0_4,y0_5⟩:=ya.c6;have KR:=qK (cR1.out _ (FB.out _ _ _ _ V));go_wp2_with fail;refine KR.out.mono ?_;rintro e' u1 ⟨rfl,b1⟩;have V1:=V.below b1;clear KR b1 ya y0_0 y0_1 y0_2 y0_3 y0_4 y0_5
       cases q1 with
       | false =>
        go_wp2_with fail;go_meet;exact⟨rfl,V1⟩
       | true =>
        have ya:=HCO.out _ V1.O;obtain⟨y0_0,y0_1,y0_2,y0_3,y0_4,y0_5⟩:=ya.c6;have KR:=qK (cR2.out _ (FB.out _ _ _ _ V1));go_wp2_with fail;refine KR.out.mono ?_;rintro e' u2 ⟨rfl,b2⟩;have V2:=V1.below b2;clear KR b2 ya y0_0 y0_1 y0_2 y0_3 y0_4 y0_5
        cases q2 with
        | false =>
         go_wp2_with fail;go_meet;exact⟨rfl,V2⟩
        | true =>
         have ya:=HCO.out _ V2.O;obtain⟨y0_0,y0_1,y0_2,y0_3,y0_4,y0_5⟩:=ya.c6;have KR:=qK (cR3.out _ (FB.out _ _ _ _ V2));go_wp2_with fail;refine KR.out.mono ?_;rintro e' u3 ⟨rfl,b3⟩;have V3:=V2.below b3;clear KR b3 ya y0_0 y0_1 y0_2 y0_3 y0_4 y0_5
         cases q3 with
         | false =>
          go_wp2_with fail;go_meet;exact⟨rfl,V3⟩
         | true =>
          go_wp2_with fail;go_meet;exact⟨rfl,V3⟩
      case rest =>
       obtain⟨rfl,V⟩:=hcut;rw[← HQ.out];clear HQ cR1 cR2 cR3
       cases q with
       | false =>
        clear HYES HDD hwr;have e1:=(HNO.out rfl).1 _ hx;have e3:=(HNO.out rfl).2 _ hz;subst e1 e3;have V8:=V;clear V;obtain⟨u0_0,u0_1,u0_2,u0_3,u0_4,u0_5⟩:=V8.ks.1.1.c6;obtain⟨u1_0,u1_1,u1_2,u1_3,u1_4,u1_5⟩:=V8.ks.2.2.1.1.c6;have zb:=V8.wc.2;have KS:=qK (wZ _ A1 n1 c1 B1 m1 d1 V8.ns.2.2.2.2.1 V8.ns.2.2.2.2.2.1);go_wp2_with fail;refine KS.out.mono ?_;rintro e' w9 ⟨rfl,b9⟩;have V9:=V8.below b9;clear KS b9 V8 zb u0_0 u0_1 u0_2 u0_3 u0_4 u0_5 u1_0 u1_1 u1_2 u1_3 u1_4 u1_5;obtain⟨u0_0,u0_1,u0_2,u0_3,u0_4,u0_5⟩:=V9.ks.1.1.c6;obtain⟨u1_0,u1_1,u1_2,u1_3,u1_4,u1_5⟩:=V9.ks.2.2.1.1.c6;have KS:=qK (wZ w9 A3 n3 c3 B3 m3 d3 V9.ns.1 V9.ns.2.1);go_wp2_with fail;refine KS.out.mono ?_;rintro e' w10 ⟨rfl,b10⟩;have V10:=V9.below b10;clear KS b10 V9;go_wp2_with fail;go_ret;exact⟨rfl,FB.out _ _ _ _ V10⟩
       | true =>
        have zb:=V.wc.2;have HV:=qK V;obtain⟨i1,hi1⟩:=du (cB a D);obtain⟨i2,hi2⟩:=du (cB D b);replace hi1:=qK hi1;replace hi2:=qK hi2;have K1:=qK (vY _ (HDD.out.1.2 _ (FB.out _ _ _ _ V)) (HDD.out.2.2.1.2 _ (FB.out _ _ _ _ V)));rw[HDD.out.1.1.ok,HDD.out.2.2.1.1.ok,← hi1.out]at K1;have ya:=HCO.out _ V.O;have yd:=HCD.out _ V.O;obtain⟨y0_0,y0_1,y0_2,y0_3,y0_4,y0_5⟩:=ya.c6;obtain⟨d0_0,d0_1,d0_2⟩:=yd.c3;go_wp2_with fail;refine K1.out.mono ?_;rintro e' w8 ⟨rfl,b8⟩;have V8:=V.below b8;clear K1 V b8 ya yd zb HV y0_0 y0_1 y0_2 y0_3 y0_4 y0_5 d0_0 d0_1 d0_2;have K1:=qK (vY w8 (HDD.out.2.2.1.2 _ (FB.out _ _ _ _ V8)) (HDD.out.2.1.2 _ (FB.out _ _ _ _ V8)));rw[HDD.out.2.1.1.ok,HDD.out.2.2.1.1.ok,← hi2.out]at K1;have ya:=HCO.out _ V8.O;have yd:=HCD.out _ V8.O;obtain⟨y0_0,y0_1,y0_2,y0_3,y0_4,y0_5⟩:=ya.c6;obtain⟨d0_0,d0_1,d0_2⟩:=yd.c3;go_wp2_with fail;refine K1.out.mono ?_;rintro e' w9 ⟨rfl,b9⟩;have V9:=V8.below b9;clear K1 V8 b9 ya yd y0_0 y0_1 y0_2 y0_3 y0_4 y0_5 d0_0 d0_1 d0_2
        by_cases g1:0 < i1
        . have d1:decide (i1 > 0)=true:=decide_eq_true g1
          clear hi1 hi2 g1;go_wp2_with fail;go_ret;exact⟨rfl,FB.out _ _ _ _ V9⟩
        . have d1:decide (i1 > 0)=false:=decide_eq_false g1
          by_cases g2:0 < i2
          . have d2:decide (i2 > 0)=true:=decide_eq_true g2
            clear hi1 hi2 g1 g2;go_wp2_with fail;go_ret;exact⟨rfl,FB.out _ _ _ _ V9⟩
          . have d2:decide (i2 > 0)=false:=decide_eq_false g2
            obtain⟨YE,YS,YH,cY1,cY2,cY3,cM1,cM2,cM3⟩:=HYES.out (by first | rfl | trivial) (by rw[← hi1.out];omega) (by rw[← hi2.out];omega);replace cY1:=qK cY1;replace cY2:=qK cY2;replace cY3:=qK cY3;replace cM1:=qK cM1;replace cM2:=qK cM2;replace cM3:=qK cM3;clear HYES HNO HDD hi1 hi2 g1 g2;have hwq:=hwr.out;go_wp2_with fail;refine(iB p' w9).mono ?_;rintro e' w10 ⟨gv,rfl,W8,hg8,bb⟩;have L:=(V9.below bb).two W8 (Nat.le_trans V9.size hg8) (lU hg8 V9.ks);clear V9 bb hg8 W8 hwq hwr d1 d2;replace FB2:Hid (∀ w',eX 38 49 w7 g p w' [(31,a8,s6 x.lo A1 n1 c1 x.hi B1 m1 d1),(31,a9,s6 y.lo A2 n2 c2 y.hi B2 m2 d2),(31,a10,s6 z.lo A3 n3 c3 z.hi B3 m3 d3)] [(.slice A3 n3 c3,z.lo.m),(.slice B3 m3 d3,z.hi.m),(.slice A2 n2 c2,y.lo.m),(.slice B2 m2 d2,y.hi.m),(.slice A1 n1 c1,x.lo.m),(.slice B1 m1 d1,x.hi.m)] gv p'->Below w.heap.size w w'):=qK (fun w' h=>FB.out _ _ _ _ h.S);go_upto_region 16 with fail;replace L:=L.drew
            as_aux_lemma =>
             have hS:(fun w'=>KC 24 w' (w.heap.size+1) #[.bool D.neg,.slice E k l,.int .i64 D.e]/\KC 31 w' a8 #[.bool x.lo.neg,.slice A1 n1 c1,.int .i64 x.lo.e,.bool x.hi.neg,.slice B1 m1 d1,.int .i64 x.hi.e]/\KC 31 w' a9 #[.bool y.lo.neg,.slice A2 n2 c2,.int .i64 y.lo.e,.bool y.hi.neg,.slice B2 m2 d2,.int .i64 y.hi.e]/\KC 31 w' a10 #[.bool z.lo.neg,.slice A3 n3 c3,.int .i64 z.lo.e,.bool z.hi.neg,.slice B3 m3 d3,.int .i64 z.hi.e]/\w'.cell? ⟨gv,1,none⟩=some (.bool false)) _:=⟨HCD.out _ L.S.O,L.S.ks.1.1,L.S.ks.2.1.1,L.S.ks.2.2.1.1,L.W2.cell.2⟩;refine eM (S:=fun w'=>KC 24 w' (w.heap.size+1) #[.bool D.neg,.slice E k l,.int .i64 D.e]/\KC 31 w' a8 #[.bool x.lo.neg,.slice A1 n1 c1,.int .i64 x.lo.e,.bool x.hi.neg,.slice B1 m1 d1,.int .i64 x.hi.e]/\KC 31 w' a9 #[.bool y.lo.neg,.slice A2 n2 c2,.int .i64 y.lo.e,.bool y.hi.neg,.slice B2 m2 d2,.int .i64 y.hi.e]/\KC 31 w' a10 #[.bool z.lo.neg,.slice A3 n3 c3,.int .i64 z.lo.e,.bool z.hi.neg,.slice B3 m3 d3,.int .i64 z.hi.e]/\w'.cell? ⟨gv,1,none⟩=some (.bool false)) 27 #[false,false,false,false,false,false,false,false,false,false,false,false,false,false,false,false,false,false,false,false,false,false,false,false,false,false,false] (by kernel_rfl) (by kernel_rfl) (by kernel_rfl) hS ?_;refine AG 0 109 rfl (a8) (fun _ h=>h.2.1) hS ?_;refine gl 1 110 rfl (.pointer (some ⟨gv,0,none⟩)) hS ?_;refine Fs 2 111 rfl (w.heap.size+1) (fun _ h=>h.1) hS ?_;go_frame;refine yg 3 112 rfl (cY1.out _ _ L.W2 (FB2.out _ L) (TB.out _ _ _ _ L.S)) ?_;rintro e' vL1 ⟨s,hs,sb,A4,n4,c4,B4,m4,d4,rfl,N0,M0,W0,o0⟩;rw[sb]at W0;have L1:=((L.onI o0 W0).num M0).num N0;refine⟨_,rfl,⟨HCD.out _ L1.S.O,L1.S.ks.1.1,L1.S.ks.2.1.1,L1.S.ks.2.2.1.1,L1.W2.cell.2⟩,fun hS=>?_⟩;clear N0 M0 W0 o0 L sb;go_frame;refine yg 4 113 rfl (cM1.out _ _ _ _ _ _ _ _ _ _ _ _ _ _ _ hx hs L1.S.ns.2.2.2.2.2.2.1 L1.S.ns.2.2.2.2.2.2.2.1 L1.S.ns.1 L1.S.ns.2.1) ?_;rintro e' vL2 ⟨rfl,b0⟩;have L2:=(L1.below b0).n2d;refine⟨_,rfl,⟨HCD.out _ L2.S.O,L2.S.ks.1.1,L2.S.ks.2.1.1,L2.S.ks.2.2.1.1,L2.W2.cell.2⟩,fun hS=>?_⟩;clear b0 L1 hs;go_frame;refine gl 5 114 rfl (.bool true) hS ?_;refine AG 6 115 rfl (a9) (fun _ h=>h.2.2.1) hS ?_;refine gl 7 116 rfl (.pointer (some ⟨gv,0,none⟩)) hS ?_;go_frame;refine Fs 8 117 rfl (w.heap.size+1) (fun _ h=>h.1) hS ?_;go_frame;refine yg 9 118 rfl (cY2.out _ _ L2.W2 (FB2.out _ L2) (TB.out _ _ _ _ L2.S)) ?_;rintro e' vL3 ⟨s,hs,sb,A4,n4,c4,B4,m4,d4,rfl,N0,M0,W0,o0⟩;rw[sb]at W0;have L3:=((L2.onI o0 W0).num M0).num N0;refine⟨_,rfl,⟨HCD.out _ L3.S.O,L3.S.ks.1.1,L3.S.ks.2.1.1,L3.S.ks.2.2.1.1,L3.W2.cell.2⟩,fun hS=>?_⟩;clear N0 M0 W0 o0 L2 sb;go_frame;refine yg 10 119 rfl (cM2.out _ _ _ _ _ _ _ _ _ _ _ _ _ _ _ hy hs L3.S.ns.2.2.2.2.1 L3.S.ns.2.2.2.2.2.1 L3.S.ns.1 L3.S.ns.2.1) ?_;rintro e' vL4 ⟨rfl,b0⟩;have L4:=(L3.below b0).n2d;refine⟨_,rfl,⟨HCD.out _ L4.S.O,L4.S.ks.1.1,L4.S.ks.2.1.1,L4.S.ks.2.2.1.1,L4.W2.cell.2⟩,fun hS=>?_⟩;clear b0 L3 hs;go_frame;refine gl 11 120 rfl (.bool true) hS ?_;refine gl 12 121 rfl (.bool true) hS ?_;refine AG 13 122 rfl (a10) (fun _ h=>h.2.2.2.1) hS ?_
             go_frame;refine gl 14 123 rfl (.pointer (some ⟨gv,0,none⟩)) hS ?_;refine Fs 15 124 rfl (w.heap.size+1) (fun _ h=>h.1) hS ?_;go_frame;refine yg 16 125 rfl (cY3.out _ _ L4.W2 (FB2.out _ L4) (TB.out _ _ _ _ L4.S)) ?_;rintro e' vL5 ⟨s,hs,sb,A4,n4,c4,B4,m4,d4,rfl,N0,M0,W0,o0⟩;rw[sb]at W0;have L5:=((L4.onI o0 W0).num M0).num N0;refine⟨_,rfl,⟨HCD.out _ L5.S.O,L5.S.ks.1.1,L5.S.ks.2.1.1,L5.S.ks.2.2.1.1,L5.W2.cell.2⟩,fun hS=>?_⟩;clear N0 M0 W0 o0 L4 sb;go_frame;refine yg 17 126 rfl (cM3.out _ _ _ _ _ _ _ _ _ _ _ _ _ _ _ hz hs L5.S.ns.2.2.1 L5.S.ns.2.2.2.1 L5.S.ns.1 L5.S.ns.2.1) ?_;rintro e' vL6 ⟨rfl,b0⟩;have L6:=(L5.below b0).n2d;refine⟨_,rfl,⟨HCD.out _ L6.S.O,L6.S.ks.1.1,L6.S.ks.2.1.1,L6.S.ks.2.2.1.1,L6.W2.cell.2⟩,fun hS=>?_⟩;clear b0 L5 hs;go_frame;refine gl 18 127 rfl (.bool true) hS ?_;refine gl 19 128 rfl (.bool true) hS ?_;refine gl 20 129 rfl (.pointer (some ⟨gv,0,none⟩)) hS ?_;go_frame;refine gl 21 130 rfl (.pointer (some ⟨gv,0,none⟩)) hS ?_;refine gl 22 131 rfl (.pointer (some ⟨gv,1,none⟩)) hS ?_;refine FG 23 132 rfl (fun _ h=>h.2.2.2.2) hS ?_;go_frame;refine gl 24 133 rfl (.bool true) hS ?_;refine gl 25 134 rfl (.bool true) hS ?_;refine gl 26 6 rfl (.bool true) hS ?_;go_frame;refine wpAnyH_done (by kernel_rfl) ?_ _;clear hS;go_wp2_with fail;go_ret;exact⟨rfl,FB2.out _ L6⟩
end Go.Proofs.YtmbmohibpkepdaaGreatDoor
