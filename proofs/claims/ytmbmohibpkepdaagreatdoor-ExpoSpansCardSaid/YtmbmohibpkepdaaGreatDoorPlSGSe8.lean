import Derived.Test.YtmbmohibpkepdaaGreatDoorPlSGSe1
set_option maxHeartbeats 4000000
set_option maxRecDepth 8000
open Go.Lib renaming hid->lY
open Go.Proofs.Tryz renaming prog->mF, ntmps49->ou, func49->oM
namespace Go.Proofs.YtmbmohibpkepdaaGreatDoor
open Go.RowKit
def Ee (w:World)(p:Int)(e:Ending)(w':World):Prop:=∃ g,e=.returned (.pointer (some ⟨g,0,none⟩))/\Wk 49 w' g p false/\w.heap.size<=g/\Below w.heap.size w w'
theorem iB (p:Int)(w:World):Calls mF 17 #[.int .i64 p] w (Ee w p):=by
 have hW:Wk 49 (w.alloc (.cells #[.int .i64 p,.bool false] 49)) w.heap.size p false:=KC.made 49 w #[.int .i64 p,.bool false];have b:=ag w (.cells #[.int .i64 p,.bool false] 49);go_enter Tryz.func17,Tryz.ntmps17;go_wp2_with fail;go_ret;exact⟨_,rfl,hW,Nat.le_refl _,b⟩
def dI (r:DR):Int:=(nb r.m:Int)+r.e
theorem sv {r:DR}{A:OA}{n c:Nat}(w:World)(ha:aC w A n c r)(h1:r.ok=true):Calls mF 97 #[aP r.neg A n c r.e] w (IP w (dI r)):=by
 have pl:=ha.plain h1;have p1:=pl.bits;have p2:=pl.e1;have p3:=pl.e2;have P:Pu w (w.alloc (.cells #[.bool r.neg,.slice A n c,.int .i64 r.e] 24)) [(24,w.heap.size,s3 r A n c)] []:=Pu.alloc (⟨Below.refl _ w,trivial,trivial⟩:Pu w w [] []) 24 #[.bool r.neg,.slice A n c,.int .i64 r.e];have BT:Hid (∀ w',Below w.heap.size w w'->Calls mF 84 #[.slice A n c] w' (IP w' (nb r.m:Int))):=lY (fun w' b=>nH w' ((ha.num h1).below b) (by omega));have HC:Hid (∀ w' ns,Pu w w' [(24,w.heap.size,s3 r A n c)] ns->w'.cell? ⟨w.heap.size,1,none⟩=some (.slice A n c)/\w'.cell? ⟨w.heap.size,2,none⟩=some (.int .i64 r.e)):=lY (fun w' ns h=>⟨h.ks.1.at_ 1 _ rfl,h.ks.1.at_ 2 _ rfl⟩);have hwr:IntKind.i64.wrap ((nb r.m:Int)+r.e)=dI r:=aE (by omega) (by omega);have HWR:=lY hwr;clear pl ha h1;go_enter Tryz.func97,Tryz.ntmps97;go_upto_region 1 with fail;generalize w.alloc (.cells #[.bool r.neg,.slice A n c,.int .i64 r.e] 24)=w1 at *;have PD:=P.drew;clear P;have XS:=HC.out _ _ PD
 go_region_held3 (fun w'=>w'.cell? ⟨w.heap.size,1,none⟩=some (.slice A n c)/\w'.cell? ⟨w.heap.size,2,none⟩=some (.int .i64 r.e))
  (first | with_reducible exact HC.out _ _ P2 | with_reducible exact XS)
  (first | (go_at_call 84;refine(BT.out _ PD.bel).mono ?_;rintro e' v1 ⟨rfl,b1⟩;have P2:=PD.below b1) | fail)
 go_wp2_with fail;go_ret;exact⟨rfl,P2.bel⟩
def dE (lo hi:DR):Int:=if hi.m=0 then(if lo.m=0 then -1000000 else max (-1000000) (dI lo)) else max (if lo.m=0 then -1000000 else max (-1000000) (dI lo)) (dI hi)
theorem yu {r:DR}(h:bl r):-262144<=dI r/\dI r<=278528:=by
 have:=h.bits
 have:=h.e1
 have:=h.e2
 unfold dI;omega
theorem kL {lo hi:DR}{A B:OA}{n c m d:Nat}(w:World)(ha:aC w A n c lo)(hb:aC w B m d hi)(h1:lo.ok=true)(h2:hi.ok=true):Calls mF 49 #[aG lo.neg A n c lo.e hi.neg B m d hi.e] w (IP w (dE lo hi)):=by
 have t1:=yu (ha.plain h1);have t2:=yu (hb.plain h2);have z1:=ha.len0 h1;have z2:=hb.len0 h2;have P:Pu w (w.alloc (.cells #[.bool lo.neg,.slice A n c,.int .i64 lo.e,.bool hi.neg,.slice B m d,.int .i64 hi.e] 31)) [(31,w.heap.size,s6 lo A n c hi B m d)] []:=Pu.alloc (⟨Below.refl _ w,trivial,trivial⟩:Pu w w [] []) 31 #[.bool lo.neg,.slice A n c,.int .i64 lo.e,.bool hi.neg,.slice B m d,.int .i64 hi.e];have T1:Hid (∀ w',Below w.heap.size w w'->Calls mF 97 #[aP lo.neg A n c lo.e] w' (IP w' (dI lo))):=lY (fun w' b=>sv w' (ha.below b) h1);have T2:Hid (∀ w',Below w.heap.size w w'->Calls mF 97 #[aP hi.neg B m d hi.e] w' (IP w' (dI hi))):=lY (fun w' b=>sv w' (hb.below b) h2);have HC:Hid (∀ w',Pu w w' [(31,w.heap.size,s6 lo A n c hi B m d)] []->D6 w' (w.heap.size) lo A n c hi B m d):=lY (fun w' h=>(h.ks.1.c6));obtain⟨k0,k1,k2,k3,k4,k5⟩:=HC.out _ P;have HS:Hid (dE lo hi=if hi.m=0 then(if lo.m=0 then -1000000 else max (-1000000) (dI lo)) else max (if lo.m=0 then -1000000 else max (-1000000) (dI lo)) (dI hi)):=lY rfl;generalize dI lo=x at *;generalize dI hi=y at *;clear ha hb h1 h2;have HB:=lY P.bel;have HP:=lY P;clear P
 by_cases e1:n=0
 . have f1:=z1.1 e1
   by_cases e2:m=0
   . have f2:=z2.1 e2
     rw[if_pos f2,if_pos f1]at HS;clear z1 z2 f1 f2 T1 T2 HP HC;subst e1 e2;go_enter oM,ou;go_wp2_with fail;rw[HS.out];go_ret;exact⟨by first | rfl | go_num | (simp;done) | (simp;omega),HB.out⟩
   . have f2:hi.m≠0:=fun h=>e2 (z2.2 h)
     rw[if_neg f2,if_pos f1]at HS
     have hm:(0:Int) < (m:Int):=by omega
     have TT:=lY (T2.out _ HB.out);clear z1 z2 f1 f2 T1 T2 e2 HP HC;subst e1;go_enter oM,ou;go_wp2_with fail;refine TT.out.mono ?_;rintro e' w2 ⟨rfl,b2⟩;have B2:=aB HB.out b2;go_wp2_with fail;rw[HS.out];go_ret;exact⟨by first | rfl | go_num | (simp;done) | (simp;omega),B2⟩
 . have f1:lo.m≠0:=fun h=>e1 (z1.2 h)
   have hn:(0:Int) < (n:Int):=by omega
   by_cases e2:m=0
   . have f2:=z2.1 e2
     rw[if_pos f2,if_neg f1]at HS;have TT:=lY (T1.out _ HB.out);clear z1 z2 f1 f2 T1 T2 e1;subst e2;go_enter oM,ou;go_wp2_with fail;refine TT.out.mono ?_;clear k0 k1 k2 k3 k4 k5 TT;have P:=HP.out;clear HP HB;generalize w.alloc (.cells #[.bool lo.neg,.slice A n c,.int .i64 lo.e,.bool hi.neg,.slice B 0 d,.int .i64 hi.e] 31)=w1 at *;rintro e' w2 ⟨rfl,b2⟩;have P2:=P.below b2;have B2:=lY P2.bel;obtain⟨k0,k1,k2,k3,k4,k5⟩:=HC.out _ P2;clear P b2 P2 HC;go_wp2_with fail;rw[HS.out];go_ret;exact⟨by first | rfl | go_num | (simp;done) | (simp;omega),B2.out⟩
   . have f2:hi.m≠0:=fun h=>e2 (z2.2 h)
     rw[if_neg f2,if_neg f1]at HS
     have hm:(0:Int) < (m:Int):=by omega
     have TT:=lY (T1.out _ HB.out);clear z1 z2 f1 f2 T1 e1 e2;go_enter oM,ou;go_wp2_with fail;refine TT.out.mono ?_;clear k0 k1 k2 k3 k4 k5 TT;have P:=HP.out;clear HP HB;generalize w.alloc (.cells #[.bool lo.neg,.slice A n c,.int .i64 lo.e,.bool hi.neg,.slice B m d,.int .i64 hi.e] 31)=w1 at *;rintro e' w2 ⟨rfl,b2⟩;have P2:=P.below b2;have TU:=lY (T2.out _ P2.bel);have B2:=lY P2.bel;obtain⟨k0,k1,k2,k3,k4,k5⟩:=HC.out _ P2;clear P b2 P2 HC T2;go_wp2_with fail;refine TU.out.mono ?_;rintro e' w3 ⟨rfl,b3⟩;have B3:=aB B2.out b3;go_wp2_with fail;rw[HS.out];go_ret;exact⟨by first | rfl | go_num | (simp;done) | (simp;omega),B3⟩
def iM (p:Int)(bad:Bool)(size:Int):SRes:=bE p (dY p bad 1).bad (dY p bad 1).lo (dY p bad 1).hi (max size (-p-64))
def fD (p:Int)(bad:Bool)(size:Int):SRes:=dy p (gS p (iM p bad size).bad (iM p bad size).lo (iM p bad size).hi).bad (gS p (iM p bad size).bad (iM p bad size).lo (iM p bad size).hi).lo (gS p (iM p bad size).bad (iM p bad size).lo (iM p bad size).hi).hi (iM p bad size).lo (iM p bad size).hi
theorem ss {p:Int}{bad:Bool}{lo hi:DR}{k:Int}:dA (bE p bad lo hi k):=lI (gZ _ _ _) (gZ _ _ _)
theorem vp (size:Int)(g:Nat)(p:Int)(bad:Bool)(w:World)(hW:Wk 49 w g p bad)(hT:bx w)(hp1:-1000000<=p)(hp2:p<=1000000)(hs1:-2000000<=size)(hs2:size<=2000000):
 Calls mF 55 #[.pointer (some ⟨g,0,none⟩),.int .i64 size] w (ap 49 w g p (fD p bad size)):=by
 have S0:=(St.start hW).alloc 31 zs;obtain⟨a,ha⟩:=du (dY p bad 1);obtain⟨s,hs⟩:=du (bE p a.bad a.lo a.hi (max size (-p-64)));obtain⟨b,hb⟩:=du (gS p s.bad s.lo s.hi);obtain⟨r,hr⟩:=du (dy p b.bad b.lo b.hi s.lo s.hi);have HR:Hid (fD p bad size=r):=lY (by rw[hr,hb,hs,ha];rfl)
 have GA:dA a:=by rw[ha];exact wX (by omega) (by omega)
 have GS:dA s:=by rw[hs];exact ss
 have GB:dA b:=by rw[hb];exact lJ (fun _=>aV GS.l2) (fun _=>aV GS.h2)
 have TB:Hid (∀ b' w' ks ns,St 49 w g p b' w' ks ns->bx w'):=lY (fun b' w' ks ns h=>hT.wk hW h.O);have C1:Hid (∀ w' ks ns,St 49 w g p bad w' ks ns->Calls mF 51 #[.pointer (some ⟨g,0,none⟩),.int .i64 1] w' (ap 49 w' g p a)):=lY (fun w' ks ns h=>by rw[ha];exact io 1 g p bad w' h.W (TB.out _ _ _ _ h) (by omega) (by omega))
 have C2:Hid (∀ w' ks ns A n c B m d z,z=max size (-p-64)->St 49 w g p a.bad w' ks ns->am w' (.slice A n c) a.lo.m->am w' (.slice B m d) a.hi.m->Calls mF 50 #[.pointer (some ⟨g,0,none⟩),aG a.lo.neg A n c a.lo.e a.hi.neg B m d a.hi.e,.int .i64 z] w' (ap 49 w' g p s)):=lY (fun w' ks ns A n c B m d z hz h h1 h2=>by
  rw[hs,← hz]
  exact iK g p a.bad z w' h.W (aC.of_num h1 GA.l2 GA.l1) (aC.of_num h2 GA.h2 GA.h1) (TB.out _ _ _ _ h) (by omega) (by omega))
 have C3q:Hid (∀ w' ks ns A n c B m d,St 49 w g p s.bad w' ks ns->am w' (.slice A n c) s.lo.m->am w' (.slice B m d) s.hi.m->Calls mF 106 #[.pointer (some ⟨g,0,none⟩),aG s.lo.neg A n c s.lo.e s.hi.neg B m d s.hi.e] w' (ap 49 w' g p b)):=lY (fun w' ks ns A n c B m d h h1 h2=>by
  rw[hb]
  exact yP g p s.bad w' h.W (aC.of_num h1 GS.l2 GS.l1) (aC.of_num h2 GS.h2 GS.h1) (TB.out _ _ _ _ h))
 have C4:Hid (∀ w' ks ns A n c B m d A' n' c' B' m' d',St 49 w g p b.bad w' ks ns->am w' (.slice A n c) b.lo.m->am w' (.slice B m d) b.hi.m->am w' (.slice A' n' c') s.lo.m->am w' (.slice B' m' d') s.hi.m->Calls mF 105 #[.pointer (some ⟨g,0,none⟩),aG b.lo.neg A n c b.lo.e b.hi.neg B m d b.hi.e,aG s.lo.neg A' n' c' s.lo.e s.hi.neg B' m' d' s.hi.e] w' (ap 49 w' g p r)):=lY (fun w' ks ns A n c B m d A' n' c' B' m' d' h h1 h2 h3 h4=>by
  rw[hr]
  exact xl g p b.bad w' h.W (aC.of_num h1 GB.l2 GB.l1) (aC.of_num h2 GB.h2 GB.h1) (aC.of_num h3 GS.l2 GS.l1) (aC.of_num h4 GS.h2 GS.h1))
 have HC:Hid (∀ b' w' ks ns,St 49 w g p b' w' ks ns->w'.cell? ⟨g,0,none⟩=some (.int .i64 p)):=lY (fun b' w' ks ns h=>h.wc.1);have HPT:Hid (∀ b' w' ks ns,St 49 w g p b' w' ks ns->∀ q,w.heap.size<=q->∀ x y z x' y' z',(put6 w' q x y z x' y' z').cell? ⟨g,0,none⟩=some (.int .i64 p)):=lY (fun b' w' ks ns h q hq x y z x' y' z'=>(h.W.only (aK w' q x y z x' y' z') (by have:=h.hg;omega)).cell.1);have HAL:Hid (∀ b' w' ks ns,St 49 w g p b' w' ks ns->∀ o,(w'.alloc o).cell? ⟨g,0,none⟩=some (.int .i64 p)):=lY (fun b' w' ks ns h o=>(h.below (ag w' o)).wc.1);have hwn:IntKind.i64.wrap (-p)=-p:=aE (by omega) (by omega);have hwm:IntKind.i64.wrap (-p-64)=-p-64:=aE (by omega) (by omega);clear ha hs hb hr GA GS GB TB hT hW;go_enter Tryz.func55,Tryz.ntmps55;go_upto_region 1 with fail;generalize w.alloc (.cells zs 31)=w1 at *
 go_cut [5] (fun s5 wx=>EP 49 w g p [(31,w.heap.size,zs)] [] s s5 wx)
 case first =>
  have SD:=S0.drew;have SA:=(S0.below (ag w1 (.cells zs 31))).drew;have YA:=(KC.made 31 w1 zs).drew;have hz1:w.heap.size < w1.heap.size:=S0.ks.1.1.2;have hgw:g < w.heap.size:=S0.hg;have XS:=HC.out _ _ _ _ SD;have XA:=HC.out _ _ _ _ SA
  go_region_held3 (fun w'=>w'.cell? ⟨g,0,none⟩=some (.int .i64 p))
   (first | with_reducible exact HPT.out _ _ _ _ V2 _ (by omega) _ _ _ _ _ _ | with_reducible exact HC.out _ _ _ _ V2 | with_reducible exact HC.out _ _ _ _ V1 | with_reducible exact XS | with_reducible exact XA | with_reducible exact HAL.out _ _ _ _ V2 _ | with_reducible exact HAL.out _ _ _ _ V1 _)
   (first
    | (go_at_call 51;refine(C1.out _ _ _ (by first | with_reducible exact SD | with_reducible exact SA)).mono ?_;rintro e' v1 ⟨A1,n1,c1,B1,m1,d1,rfl,N1,N2,W1,o1⟩;have V1:St 49 w g p a.bad v1 [(31,w.heap.size,zs)] ((.slice A1 n1 c1,a.lo.m) :: (.slice B1 m1 d1,a.hi.m) :: []):=(by first | with_reducible exact((SD.only o1 W1).num N2).num N1 | with_reducible exact((SA.only o1 W1).num N2).num N1);have hv1:w.heap.size < v1.heap.size:=V1.ks.1.1.2;have hv1g:g < v1.heap.size:=V1.lt;have u1:=V1.ns.1;have u2:=V1.ns.2.1;first | (have ox:az (w1.alloc (.cells zs 31)).drew v1 g:=(by with_reducible exact o1);have ya:=YA.only ox (by omega)) | skip)
    | (go_at_call 50;refine(C2.out _ _ _ _ _ _ _ _ _ _ (by first | with_reducible rfl | omega) (by first | with_reducible exact V1 | with_reducible exact V1.below (ag _ _)) (by first | with_reducible exact u1 | with_reducible exact lT u1 _) (by first | with_reducible exact u2 | with_reducible exact lT u2 _)).mono ?_;rintro e' v2 ⟨A2,n2,c2,B2,m2,d2,rfl,N1,N2,W2,o2⟩;have V2:St 49 w g p s.bad v2 [(31,w.heap.size,zs)] ((.slice A2 n2 c2,s.lo.m) :: (.slice B2 m2 d2,s.hi.m) :: (.slice A1 n1 c1,a.lo.m) :: (.slice B1 m1 d1,a.hi.m) :: []):=(by first | with_reducible exact((V1.only o2 W2).num N2).num N1 | with_reducible exact(((V1.below (ag _ _)).only o2 W2).num N2).num N1);first | (have ox:az v1 v2 g:=(by with_reducible exact o2);have z1:=ya.only ox (by omega);obtain⟨z1c0,z1c1,z1c2,z1c3,z1c4,z1c5⟩:=z1.c6;obtain⟨z1f0,z1f1,z1f2,z1f3,z1f4,z1f5⟩:=z1.f6;have z1l:=z1.2;have z1n:=Nat.ne_of_lt z1.2;have z1n2:=Nat.ne_of_gt z1.2) | (have ox:az (v1.alloc (.cells zs 31)) v2 g:=(by with_reducible exact o2);have z1:=(KC.made 31 v1 zs).only ox (by omega);obtain⟨z1c0,z1c1,z1c2,z1c3,z1c4,z1c5⟩:=z1.c6;obtain⟨z1f0,z1f1,z1f2,z1f3,z1f4,z1f5⟩:=z1.f6;have z1l:=z1.2;have z1n:=Nat.ne_of_lt z1.2;have z1n2:=Nat.ne_of_gt z1.2) | skip))
  all_goals (
   go_wp2_with fail;go_meet;have f1:=V2.ns.1;have f2:=V2.ns.2.1;have f3:NS v2 []:=trivial
   first
    | ((with_reducible refine DW V2 f1 f2 f3 z1 ?_ ?_) <;> first | omega | exact⟨by omega,trivial⟩)
    | with_reducible exact DY V2 f1 f2 f3)
 case rest =>
  obtain⟨g5,A5,n5,c5,B5,m5,d5,rfl,hg5,hne5,V4⟩:=hcut;obtain⟨hd1,_⟩:=hne5;have hk5:=V4.ks.1.1.2;have HC4:Hid (∀ b' w' ns,St 49 w g p b' w' [(31,g5,s6 s.lo A5 n5 c5 s.hi B5 m5 d5),(31,w.heap.size,zs)] ns->D6 w' g5 s.lo A5 n5 c5 s.hi B5 m5 d5):=lY (fun b' w' ns h=>(h.ks.1.1.c6));have HP4:Hid (∀ b' w' ns,St 49 w g p b' w' [(31,g5,s6 s.lo A5 n5 c5 s.hi B5 m5 d5),(31,w.heap.size,zs)] ns->∀ x y z x' y' z',C6 (put6 w' w.heap.size x y z x' y' z') g5 (.bool s.lo.neg) (.slice A5 n5 c5) (.int .i64 s.lo.e) (.bool s.hi.neg) (.slice B5 m5 d5) (.int .i64 s.hi.e)):=lY (fun b' w' ns h x y z x' y' z'=>((h.ks.1.1.only (aK w' w.heap.size x y z x' y' z') (by omega)).c6));have hwl:=V4.lt;clear C1 C2 HC HPT HAL S0;go_upto_region 2 with fail;have VD:=V4.drew;have q1:=VD.ns.1;have q2:=VD.ns.2.1;have XS:=HC4.out _ _ _ VD
  go_region_held3 (fun w'=>D6 w' g5 s.lo A5 n5 c5 s.hi B5 m5 d5)
   (first | with_reducible exact HP4.out _ _ _ V6 _ _ _ _ _ _ | with_reducible exact HC4.out _ _ _ V6 | with_reducible exact HC4.out _ _ _ V5 | with_reducible exact XS)
   (first
    | (go_at_call 106;refine(C3q.out wc.drew _ _ _ _ _ _ _ _ VD q1 q2).mono ?_;rintro e' v5 ⟨A8,n8,c8,B8,m8,d8,rfl,N1,N2,W5,o5⟩;have V5:=((VD.only o5 W5).num N2).num N1;have u1:=V5.ns.1;have u2:=V5.ns.2.1;have u3:=V5.ns.2.2.1;have u4:=V5.ns.2.2.2.1)
    | (go_at_call 105;refine(C4.out v5 _ _ _ _ _ _ _ _ _ _ _ _ _ _ V5 u1 u2 u3 u4).mono ?_;rintro e' v6 ⟨A9,n9,c9,B9,m9,d9,rfl,N1,N2,W6,o6⟩;have V6:=((V5.only o6 W6).num N2).num N1;have z1:=V6.ks.2.1.1;obtain⟨z1c0,z1c1,z1c2,z1c3,z1c4,z1c5⟩:=z1.c6;obtain⟨z1f0,z1f1,z1f2,z1f3,z1f4,z1f5⟩:=z1.f6;have z1l:=z1.2;have z1n:=Nat.ne_of_lt z1.2;have z1n2:=Nat.ne_of_gt z1.2))
  go_wp2_with fail;rw[HR.out];have y1:=V6.ns.1;have y2:=V6.ns.2.1;obtain⟨x1,x2,x3,x4⟩:=V6.give (lo:=r.lo) (hi:=r.hi) y1 y2 z1 (by omega);exact bodyPost_ret (v:=aG r.lo.neg A9 n9 c9 r.lo.e r.hi.neg B9 m9 d9 r.hi.e) (by simp[results,Tryz.results55,go_sem,z1c0,z1c1,z1c2,z1c3,z1c4,z1c5]) rfl ⟨A9,n9,c9,B9,m9,d9,rfl,x1,x2,x3,x4⟩
end Go.Proofs.YtmbmohibpkepdaaGreatDoor
