import Derived.Maps.RangeWalk
import Derived.Deep.CutBlock
import Derived.Test.YtmbmohibpkepdaaGreatDoorPlSGEx9
set_option maxRecDepth 8000
set_option maxHeartbeats 4000000
open Go.Proofs.Tryz renaming prog->lY, results44->tz, results15->yb, results20->Bl, ntmps15->Bx, ntmps20->DE, func15->DF, func20->EM
open Go.Lib renaming hid->mF
open Nat renaming ne_of_lt->ou, ne_of_gt->oM
open Bool renaming and_eq_true->oY
open Rat renaming le_trans->qK
namespace Go.Proofs.YtmbmohibpkepdaaGreatDoor
open Go.RowKit
variable {A B:OA} {c d m n:Nat} {hi lo:DR}
section
variable {TW:TypeId}
theorem Aa {r s:DR}(w:World)(ha:aC w A n c r)(hb:aC w B m d s)(h1:r.ok=true)(h2:s.ok=true)(hT:bx w):
 Calls lY 30 #[.slice (some ⟨w.heap.size,0,none⟩) 2 2] (w.alloc (.cells #[.bool r.neg,.slice A n c,.int .i64 r.e,.bool s.neg,.slice B m d,.int .i64 s.e] 24))
  (DP (w.alloc (.cells #[.bool r.neg,.slice A n c,.int .i64 r.e,.bool s.neg,.slice B m d,.int .i64 s.e] 24)) (cK r s)):=by
 have z1:=ha.len0 h1;have z2:=hb.len0 h2;obtain⟨x,a1,a2,a3,a4⟩:=ha;obtain⟨y,b1,b2,b3,b4⟩:=hb;have bB:=ag w (.cells #[.bool r.neg,.slice A n c,.int .i64 r.e,.bool s.neg,.slice B m d,.int .i64 s.e] 24);have k:=KC.made 24 w #[.bool r.neg,.slice A n c,.int .i64 r.e,.bool s.neg,.slice B m d,.int .i64 s.e]
 have hL:Ls (w.alloc (.cells #[.bool r.neg,.slice A n c,.int .i64 r.e,.bool s.neg,.slice B m d,.int .i64 s.e] 24)) (some ⟨w.heap.size,0,none⟩) 2 2 (Ad r s A B n c m d x y):=by
  refine⟨Nat.le_refl _,fun _=>⟨_,rfl,k.2,fun j hj=>?_⟩,fun j hj=>?_⟩
  . have:j=0\/j=1:=by omega
    rcases this with rfl | rfl
    . exact(k.c3)
    . exact⟨k.at_ 3 _ rfl,k.at_ 4 _ rfl,k.at_ 5 _ rfl⟩
  . have:j=0\/j=1:=by omega
    rcases this with rfl | rfl
    . exact a1.below bB
    . exact b1.below bB
 have hall:gP (Ad r s A B n c m d x y) 2=true:=by
  simp only[gP,Bool.true_and,oY];exact⟨by rw[← h1,a4];rfl,by rw[← h2,b4];rfl⟩
 have h:=AV _ 2 2 _ _ hL (by omega) (fun j hj=>by
  have:j=0\/j=1:=by omega
  rcases this with rfl | rfl
  . exact a2
  . exact b2) (hT.below bB)
 rw[hall,vz a3 b3 z1 z2]at h
 exact h.mono fun _ _ h=>h.dp
theorem DZ {r:DR}(w:World)(ha:aC w A n c r)(hT:bx w):Calls lY 124 #[aP r.neg A n c r.e] w (DP w (aT r)):=by
 have da:=ha;obtain⟨x,a1,a2,a3,a4⟩:=ha;have h:=qS r.neg A n c x r.e w a1 a2 hT;rw[jG da a3 a4]at h
 exact h.mono fun _ _ h=>h.dp
theorem tD {r:SRes}{X:Int}(g P:Nat)(w:World)(hW:Wk TW w g (P:Int) false)(q:Sq X r)(hX:X<=199000)(nq:Eb P r)(hP2:P<=2000)(ha:am w (.slice A n c) r.lo.m)(hb:am w (.slice B m d) r.hi.m)(hT:bx w):
 Calls lY 89 #[.pointer (some ⟨g,0,none⟩),aG r.lo.neg A n c r.lo.e r.hi.neg B m d r.hi.e] w (fun o w'=>o=.returned (.bool true)/\Below w.heap.size w w'):=by
 have P0:=((((⟨Below.refl _ w,trivial,trivial⟩:Pu w w [] []).alloc 31 #[.bool r.lo.neg,.slice A n c,.int .i64 r.lo.e,.bool r.hi.neg,.slice B m d,.int .i64 r.hi.e]).num (hb.below (ag w _))).num (ha.below (ag w _)));obtain⟨k1,k2,k3⟩:=Dj hP2 q hX nq;have we1:=nq.we1;have we2:=nq.we2;obtain⟨l,hl⟩:=du (aT r.lo);obtain⟨y,hy⟩:=du (cK r.hi (aT r.lo));obtain⟨p,hp⟩:∃ p:Int,p=(P:Int):=⟨_,rfl⟩;obtain⟨E,hE⟩:=du (y.e+(p-4));obtain⟨z,hz⟩:=du (bH false y.m E);have nok:=nq.nok;have npl:=nq.npl;have wok:=nq.wok;have wpl:=nq.wpl;have wb:=nq.wb;rw[← hy]at k1 k2 k3 we1 we2 wok wpl wb;rw[← hp]at k1 k2 k3 hW;rw[← hE,← hz]at k1 k2 k3;rw[← hl]at nok npl hy;have CN:Hid (∀ w',Below w.heap.size w w'->am w' (.slice A n c) r.lo.m->Calls lY 124 #[aP r.lo.neg A n c r.lo.e] w' (DP w' l)):=mF (fun w' b h=>by rw[hl];exact DZ w' (aC.of_num h q.l.pl q.l.ok) (hT.below b));have CS:Hid (∀ w' X x y',Below w.heap.size w w'->am w' (.slice B m d) r.hi.m->am w' (.slice X x y') l.m->Calls lY 30 #[.slice (some ⟨w'.heap.size,0,none⟩) 2 2] (w'.alloc (.cells #[.bool r.hi.neg,.slice B m d,.int .i64 r.hi.e,.bool l.neg,.slice X x y',.int .i64 l.e] 24)) (DP (w'.alloc (.cells #[.bool r.hi.neg,.slice B m d,.int .i64 r.hi.e,.bool l.neg,.slice X x y',.int .i64 l.e] 24)) y)):=mF (fun w' X x y' b h h'=>by rw[hy];exact Aa w' (aC.of_num h q.h.pl q.h.ok) (aC.of_num h' npl nok) q.h.ok nok (hT.below b))
 have CM:Hid (∀ w' X x y',Below w.heap.size w w'->am w' (.slice X x y') y.m->Calls lY 75 #[.bool false,.slice X x y',.int .i64 E] w' (fun o w''=>∃ A p' c,o=.returned (.tuple #[.agg #[.bool z.neg,.slice A p' c,.int .i64 z.e],.bool true])/\am w'' (.slice A p' c) z.m/\Below w'.heap.size w' w'')):=mF (fun w' X x y' b h=>by
  obtain⟨A0,n0,c0,f,hA0,hs,hn,hc,hVe⟩:=h.raw 1000 (by omega);cases hA0
  have:=de false X x y' f E w' hs (by omega) (hT.below b) (by omega) (by omega)
  rw[hVe,← hz]at this
  refine this.mono fun _ _ h=>?_
  obtain⟨A1,n1,c1,rfl,m1,b1⟩:=h.dp;rw[k1]
  exact⟨A1,n1,c1,rfl,m1,b1⟩)
 have CZ:Hid (∀ w',Calls lY 93 #[.agg #[.bool r.lo.neg,.slice A n c,.int .i64 r.lo.e]] w' fun o w''=>o=.returned (.agg #[.bool false,.slice A n c,.int .i64 r.lo.e])/\Below w'.heap.size w' w''):=mF (fun w'=>gy r.lo.neg A n c r.lo.e w')
 have hsz:aR false r.lo.m r.lo.e=true:=by
  have h1:=q.l.pl;unfold aR at h1 ⊢
  split at h1
  . rename_i h0
    rw[if_pos h0];simp only[oY]at h1;rw[h1.1]
    rfl
  . rename_i h0
    rw[if_neg h0];exact h1
 have CA:Hid (∀ w' X x y',am w' (.slice X x y') z.m->am w' (.slice A n c) r.lo.m->Calls lY 151 #[aP z.neg X x y' z.e,aP false A n c r.lo.e] w' (fun o w''=>o=.returned (.bool true)/\Below w'.heap.size w' w'')):=mF (fun w' X x y' h h'=>by
  have:=fe (r:=z) (s:=pw r.lo) w' (aC.of_num h k2 k1) (aC.of_num h' hsz rfl)
  rw[k3]at this
  exact this)
 have HWK:Hid (∀ w',Below w.heap.size w w'->w'.cell? ⟨g,0,none⟩=some (.int .i64 p)):=mF (fun w' b=>(hW.below b).cell.1);have hw1:IntKind.i64.wrap (y.e+p)=y.e+p:=aE (by omega) (by omega)
 have hw2:IntKind.i64.wrap (y.e+p-4)=E:=by rw[aE (by omega) (by omega),hE];omega
 have hgl:=hW.2;have HK:=mF (And.intro nok (And.intro wok k1));clear hl hy hp hE hz k1 k2 k3 we1 we2 wb wpl npl nok wok nq q ha hb hT hW hsz hP2 hX;go_enter Tryz.func89,Tryz.ntmps89;go_upto_region 1 with fail;generalize w.alloc (.cells #[.bool r.lo.neg,.slice A n c,.int .i64 r.lo.e,.bool r.hi.neg,.slice B m d,.int .i64 r.hi.e] 31)=w1 at *;obtain⟨y0_0,y0_1,y0_2,y0_3,y0_4,y0_5⟩:=P0.ks.1.c6;have y0l:=P0.ks.1.2;go_wp2_with fail;refine(CN.out _ P0.bel P0.ns.1).mono ?_;rintro e' w2 ⟨X1,x1,y1,rfl,N1,b⟩;have P2:=(P0.below b).num N1;clear y0_0 y0_1 y0_2 y0_3 y0_4 y0_5 y0l P0 b CN;rw[HK.out.1];have P3:=P2.alloc 24 #[.bool l.neg,.slice X1 x1 y1,.int .i64 l.e];obtain⟨y0_0,y0_1,y0_2,y0_3,y0_4,y0_5⟩:=P2.ks.1.c6;have y0l:=P2.ks.1.2;have CSx:=CS.out (w2.alloc (.cells #[.bool l.neg,.slice X1 x1 y1,.int .i64 l.e] 24)) X1 x1 y1 P3.bel P3.ns.2.2.1 P3.ns.1;rw[show(w2.alloc (.cells #[.bool l.neg,.slice X1 x1 y1,.int .i64 l.e] 24)).heap.size=w2.heap.size+1 by simp]at CSx;have HCS:=mF CSx;clear CS CSx;go_wp2_with fail;refine HCS.out.mono ?_;clear y0_0 y0_1 y0_2 y0_3 y0_4 y0_5 y0l;have P4:=P3.below (ag (w2.alloc (.cells #[.bool l.neg,.slice X1 x1 y1,.int .i64 l.e] 24)) (.cells #[.bool r.hi.neg,.slice B m d,.int .i64 r.hi.e,.bool l.neg,.slice X1 x1 y1,.int .i64 l.e] 24));clear HCS P3;generalize(w2.alloc (.cells #[.bool l.neg,.slice X1 x1 y1,.int .i64 l.e] 24)).alloc (.cells #[.bool r.hi.neg,.slice B m d,.int .i64 r.hi.e,.bool l.neg,.slice X1 x1 y1,.int .i64 l.e] 24)=w4 at *;rintro e' w5 ⟨X5,x5,y5,rfl,N5,b5⟩;have P5:=(P4.below b5).num N5;clear P4 N5 b5 P2;rw[HK.out.2.1];have P6:=P5.alloc 24 #[.bool y.neg,.slice X5 x5 y5,.int .i64 y.e];have hs5:w.heap.size < w5.heap.size:=P5.ks.2.1.2;clear P5;go_upto_region 3 with fail;generalize w5.alloc (.cells #[.bool y.neg,.slice X5 x5 y5,.int .i64 y.e] 24)=w6 at *
 go_cut [9,10] (fun sd so wx=>∃ g9 X9 x9 y9,sd=.pointer (some ⟨g9,0,none⟩)/\so=.bool true/\Pu w wx [(24,g9,s3 z X9 x9 y9),(31,w.heap.size,s6 r.lo A n c r.hi B m d)] [(.slice X9 x9 y9,z.m),(.slice A n c,r.lo.m),(.slice B m d,r.hi.m)])
 case first =>
  have hl6:w5.heap.size < w6.heap.size:=P6.ks.1.2;have hsz6:w.heap.size < w6.heap.size:=P6.ks.2.2.1.2;have SD:=P6.drew;have SA:=(P6.below (ag w6 (.cells #[.bool false,.slice none 0 0,.int .i64 0] 24))).drew;have KA:KC 24 (w6.alloc (.cells #[.bool false,.slice none 0 0,.int .i64 0] 24)).drew w6.heap.size #[.bool false,.slice none 0 0,.int .i64 0]:=(KC.made 24 w6 _).drew;have HCC:Hid (∀ w' ns,Pu w w' [(24,w5.heap.size,s3 y X5 x5 y5),(24,w2.heap.size,s3 l X1 x1 y1),(31,w.heap.size,s6 r.lo A n c r.hi B m d)] ns->w'.cell? ⟨w5.heap.size,1,none⟩=some (.slice X5 x5 y5)/\w'.cell? ⟨w5.heap.size,2,none⟩=some (.int .i64 y.e)/\w'.cell? ⟨g,0,none⟩=some (.int .i64 p)):=mF (fun w' ns h=>⟨h.ks.1.at_ 1 _ rfl,h.ks.1.at_ 2 _ rfl,HWK.out _ h.bel⟩);have HPP:Hid (∀ w' ns,Pu w w' [(24,w5.heap.size,s3 y X5 x5 y5),(24,w2.heap.size,s3 l X1 x1 y1),(31,w.heap.size,s6 r.lo A n c r.hi B m d)] ns->∀ q1 q2 q3,(put3 w' w6.heap.size q1 q2 q3).cell? ⟨w5.heap.size,1,none⟩=some (.slice X5 x5 y5)/\(put3 w' w6.heap.size q1 q2 q3).cell? ⟨w5.heap.size,2,none⟩=some (.int .i64 y.e)/\(put3 w' w6.heap.size q1 q2 q3).cell? ⟨g,0,none⟩=some (.int .i64 p)):=mF (fun w' ns h q1 q2 q3=>⟨(h.ks.1.only (aZ w' w6.heap.size q1 q2 q3) (by omega)).at_ 1 _ rfl,(h.ks.1.only (aZ w' w6.heap.size q1 q2 q3) (by omega)).at_ 2 _ rfl,HWK.out _ (ct h.bel (aZ w' w6.heap.size q1 q2 q3) (by omega))⟩)
  have LL:Hid (∀ v1 A1 n1 c1,Pu w v1 [(24,w5.heap.size,s3 y X5 x5 y5),(24,w2.heap.size,s3 l X1 x1 y1),(31,w.heap.size,s6 r.lo A n c r.hi B m d)] ((.slice A1 n1 c1,z.m) :: [(.slice X5 x5 y5,y.m),(.slice X1 x1 y1,l.m),(.slice A n c,r.lo.m),(.slice B m d,r.hi.m)])->Pu w (v1.alloc (.cells #[.bool z.neg,.slice A1 n1 c1,.int .i64 z.e] 24)) [(24,v1.heap.size,s3 z A1 n1 c1),(31,w.heap.size,s6 r.lo A n c r.hi B m d)] [(.slice A1 n1 c1,z.m),(.slice A n c,r.lo.m),(.slice B m d,r.hi.m)]):=mF (fun v1 A1 n1 c1 h=>by
   have k:=h.alloc 24 #[.bool z.neg,.slice A1 n1 c1,.int .i64 z.e]
   exact⟨k.bel,⟨k.ks.1,k.ks.2.2.2⟩,⟨k.ns.1,k.ns.2.2.2⟩⟩)
  have LE:Hid (∀ v1 A1 n1 c1,Pu w v1 [(24,w5.heap.size,s3 y X5 x5 y5),(24,w2.heap.size,s3 l X1 x1 y1),(31,w.heap.size,s6 r.lo A n c r.hi B m d)] ((.slice A1 n1 c1,z.m) :: [(.slice X5 x5 y5,y.m),(.slice X1 x1 y1,l.m),(.slice A n c,r.lo.m),(.slice B m d,r.hi.m)])->KC 24 v1 w6.heap.size #[.bool false,.slice none 0 0,.int .i64 0]->Pu w (put3 v1 w6.heap.size (.bool z.neg) (.slice A1 n1 c1) (.int .i64 z.e)) [(24,w6.heap.size,s3 z A1 n1 c1),(31,w.heap.size,s6 r.lo A n c r.hi B m d)] [(.slice A1 n1 c1,z.m),(.slice A n c,r.lo.m),(.slice B m d,r.hi.m)]):=mF (fun v1 A1 n1 c1 h k =>
   ⟨ct h.bel (aZ _ _ _ _ _) (Nat.le_of_lt hsz6),⟨k.put3 _ _ _,⟨h.ks.2.2.1.only (aZ _ _ _ _ _) (ou hsz6),trivial⟩⟩,NS.put3 (ns:=[(.slice A1 n1 c1,z.m),(.slice A n c,r.lo.m),(.slice B m d,r.hi.m)]) k _ _ _ ⟨h.ns.1,h.ns.2.2.2⟩⟩)
  have XS:=HCC.out _ _ SD;have XA:=HCC.out _ _ SA;have sd1:am w6.drew (.slice X5 x5 y5) y.m:=SD.ns.1;have sa1:am (w6.alloc (.cells #[.bool false,.slice none 0 0,.int .i64 0] 24)).drew (.slice X5 x5 y5) y.m:=SA.ns.1;clear P6
  go_region_held3 (fun w'=>w'.cell? ⟨w5.heap.size,1,none⟩=some (.slice X5 x5 y5)/\w'.cell? ⟨w5.heap.size,2,none⟩=some (.int .i64 y.e)/\w'.cell? ⟨g,0,none⟩=some (.int .i64 p))
   (first | with_reducible exact HPP.out _ _ V1 _ _ _ | with_reducible exact XS | with_reducible exact XA | with_reducible exact HCC.out _ _ V1 | with_reducible exact HCC.out _ _ (V1.below (ag _ _)))
   (first | (go_at_call 75;refine(CM.out _ _ _ _ (by first | with_reducible exact SD.bel | with_reducible exact SA.bel) (by first | with_reducible exact sd1 | with_reducible exact sa1)).mono ?_;rintro e' v1 ⟨A1,n1,c1,rfl,N1,b1⟩;have V1:Pu w v1 [(24,w5.heap.size,s3 y X5 x5 y5),(24,w2.heap.size,s3 l X1 x1 y1),(31,w.heap.size,s6 r.lo A n c r.hi B m d)] ((.slice A1 n1 c1,z.m) :: [(.slice X5 x5 y5,y.m),(.slice X1 x1 y1,l.m),(.slice A n c,r.lo.m),(.slice B m d,r.hi.m)]):=(by first | with_reducible exact(SD.below b1).num N1 | with_reducible exact(SA.below b1).num N1);first | (have KZ:=KA.adv (by with_reducible exact b1);obtain⟨z1c0,z1c1,z1c2⟩:=KZ.c3;obtain⟨z1f0,z1f1,z1f2⟩:=KZ.f3;have z1l:=KZ.2;have z1n:=ou KZ.2;have z1n2:=oM KZ.2) | skip))
  all_goals (
   go_wp2_with fail;go_meet
   first
    | with_reducible exact⟨_,_,_,_,rfl,rfl,LL.out _ _ _ _ V1⟩
    | exact⟨_,_,_,_,rfl,rfl,LE.out _ _ _ _ V1 KZ⟩)
 case rest =>
  obtain⟨g9,X9,x9,y9,rfl,rfl,P9⟩:=hcut;clear P6 CM HWK hw1 hw2;go_upto_region 6 with fail;have SD:=P9.drew;have sd1:am wc.drew (.slice X9 x9 y9) z.m:=SD.ns.1;have sd2:am wc.drew (.slice A n c) r.lo.m:=SD.ns.2.1;have HCC:Hid (∀ w' ns,Pu w w' [(24,g9,s3 z X9 x9 y9),(31,w.heap.size,s6 r.lo A n c r.hi B m d)] ns->C3 w' g9 (.bool z.neg) (.slice X9 x9 y9) (.int .i64 z.e)/\C3 w' (w.heap.size) (.bool r.lo.neg) (.slice A n c) (.int .i64 r.lo.e)):=mF (fun w' ns h=>⟨h.ks.1.c3,h.ks.2.1.c3⟩);have XS:=HCC.out _ _ SD;refine wp_region_held_drew (S:=fun w'=>C3 w' g9 (.bool z.neg) (.slice X9 x9 y9) (.int .i64 z.e)/\C3 w' (w.heap.size) (.bool r.lo.neg) (.slice A n c) (.int .i64 r.lo.e)) (by kernel_rfl) XS (fun hHeld=>?_);refine wpAnyH_take (i:=0) (oi:=⟨some 51,_,_,_,_,_⟩) (v:=?_) rfl (by kernel_rfl) (by kernel_rfl) (by kernel_rfl) (fun _ _ _ h=>h) (Or.inl ⟨by rfl,?_⟩) (by assumption) ?_
  rotate_left
  . intro w hSw
    try dsimp only at hSw
    first | (go_simp;done) | (go_simp;with_reducible rfl)
  try go_frame
  refine wpAnyH_take (i:=1) (oi:=⟨some 52,_,_,_,_,_⟩) (v:=?_) rfl (by kernel_rfl) (by kernel_rfl) (by kernel_rfl) (fun _ _ _ h=>h) (Or.inl ⟨by rfl,?_⟩) (by assumption) ?_
  rotate_left
  . intro w hSw
    try dsimp only at hSw
    first | (go_simp;done) | (go_simp;with_reducible rfl)
  try go_frame
  refine wpAnyH_take (i:=2) (oi:=⟨some 53,_,_,_,_,_⟩) (v:=?_) rfl (by kernel_rfl) (by kernel_rfl) (by kernel_rfl) (fun _ _ _ h=>h) (Or.inl ⟨by rfl,?_⟩) (by assumption) ?_
  rotate_left
  . intro w hSw
    try dsimp only at hSw
    first | (go_simp;done) | (go_simp;with_reducible rfl)
  try go_frame
  refine wpAnyH_ready (rs:=[3]) (by kernel_rfl) (by simp) ?_;refine AllReadyH.cons (o:=⟨some 54,_,_,_,_,_⟩) rfl (fun KK hKK=>?_) AllReadyH.nil
  go_simp
  refine(CZ.out _).mono ?_;rintro e' v1 ⟨rfl,b1⟩;have V1:=SD.below b1;go_wp2_with fail;refine hKK.out _ _ (HCC.out _ _ V1) (fun hHeld1=>?_);clear hKK KK hHeld;have hHeld:=hHeld1;clear hHeld1
  try go_frame
  refine wpAnyH_ready (rs:=[4]) (by kernel_rfl) (by simp) ?_;refine AllReadyH.cons (o:=⟨some 55,_,_,_,_,_⟩) rfl (fun KK hKK=>?_) AllReadyH.nil
  go_simp
  refine(CA.out _ _ _ _ V1.ns.1 V1.ns.2.1).mono ?_;rintro e' v2 ⟨rfl,b2⟩;have V2:=V1.below b2;go_wp2_with fail;refine hKK.out _ _ (HCC.out _ _ V2) (fun hHeld2=>?_);clear hKK KK hHeld;have hHeld:=hHeld2;clear hHeld2
  try go_frame
  refine wpAnyH_take (i:=5) (oi:=⟨some 56,_,_,_,_,_⟩) (v:=?_) rfl (by kernel_rfl) (by kernel_rfl) (by kernel_rfl) (fun _ _ _ h=>h) (Or.inl ⟨by rfl,?_⟩) (by assumption) ?_
  rotate_left
  . intro w hSw
    try dsimp only at hSw
    first | (go_simp;done) | (go_simp;with_reducible rfl)
  try go_frame
  refine wpAnyH_take (i:=6) (oi:=⟨some 57,_,_,_,_,_⟩) (v:=undef) rfl (by kernel_rfl) (by kernel_rfl) (by kernel_rfl) (fun _ _ _ h=>h) (Or.inr ⟨by rfl,rfl⟩) (by assumption) ?_
  try go_frame
  refine wpAnyH_take (i:=7) (oi:=⟨some 58,_,_,_,_,_⟩) (v:=undef) rfl (by kernel_rfl) (by kernel_rfl) (by kernel_rfl) (fun _ _ _ h=>h) (Or.inr ⟨by rfl,rfl⟩) (by assumption) ?_
  try go_frame
  refine wpAnyH_take (i:=8) (oi:=⟨some 59,_,_,_,_,_⟩) (v:=undef) rfl (by kernel_rfl) (by kernel_rfl) (by kernel_rfl) (fun _ _ _ h=>h) (Or.inr ⟨by rfl,rfl⟩) (by assumption) ?_
  try go_frame
  refine wpAnyH_take (i:=9) (oi:=⟨some 60,_,_,_,_,_⟩) (v:=undef) rfl (by kernel_rfl) (by kernel_rfl) (by kernel_rfl) (fun _ _ _ h=>h) (Or.inr ⟨by rfl,rfl⟩) (by assumption) ?_
  try go_frame
  refine wpAnyH_take (i:=10) (oi:=⟨some 61,_,_,_,_,_⟩) (v:=undef) rfl (by kernel_rfl) (by kernel_rfl) (by kernel_rfl) (fun _ _ _ h=>h) (Or.inr ⟨by rfl,rfl⟩) (by assumption) ?_
  try go_frame
  refine wpAnyH_take (i:=11) (oi:=⟨some 62,_,_,_,_,_⟩) (v:=?_) rfl (by kernel_rfl) (by kernel_rfl) (by kernel_rfl) (fun _ _ _ h=>h) (Or.inl ⟨by rfl,?_⟩) (by assumption) ?_
  rotate_left
  . intro w hSw
    try dsimp only at hSw
    first | (go_simp;done) | (go_simp;with_reducible rfl)
  try go_frame
  refine wpAnyH_take (i:=12) (oi:=⟨some 4,_,_,_,_,_⟩) (v:=?_) rfl (by kernel_rfl) (by kernel_rfl) (by kernel_rfl) (fun _ _ _ h=>h) (Or.inl ⟨by rfl,?_⟩) (by assumption) ?_
  rotate_left
  . intro w hSw
    try dsimp only at hSw
    first | (go_simp;done) | (go_simp;with_reducible rfl)
  try go_frame
  refine wpAnyH_done (by kernel_rfl) ?_ _;clear hHeld;go_wp2_with fail;go_ret;exact⟨rfl,V2.bel⟩
end
section
variable {TW:TypeId}
theorem ia {r:SRes}{X:Int}{sl sh:Nat->Rat}{A7 B7:OA}{n7 c7 m7 d7:Nat}(g P:Nat)(w:World)(hW:Wk TW w g (P:Int) false)(ha:aC w A n c lo)(hb:aC w B m d hi)(EO:fu P X r sl sh (aw hi lo))(h1:am w (.slice A7 n7 c7) r.lo.m)(h2:am w (.slice B7 m7 d7) r.hi.m)(hT:bx w)(hX:X<=199000)(hX0:0<=X)(hP1:16<=P)(hP2:P<=2000):
 Calls lY 44 #[.pointer (some ⟨g,0,none⟩),aG lo.neg A n c lo.e hi.neg B m d hi.e,aG r.lo.neg A7 n7 c7 r.lo.e r.hi.neg B7 m7 d7 r.hi.e] w (ap TW w g (P:Int) r):=by
 have S:=(((yB hW (.bool lo.neg) (.slice A n c) (.int .i64 lo.e) (.bool hi.neg) (.slice B m d) (.int .i64 hi.e) (.bool r.lo.neg) (.slice A7 n7 c7) (.int .i64 r.lo.e) (.bool r.hi.neg) (.slice B7 m7 d7) (.int .i64 r.hi.e)).num (((h2.below (ag w _)).below (ag _ _)).below (ag _ _))).num (((h1.below (ag w _)).below (ag _ _)).below (ag _ _)));have CI:Hid (∀ w' ks ns,St TW w g (P:Int) false w' ks ns->Calls lY 88 #[aG lo.neg A n c lo.e hi.neg B m d hi.e] w' (fun o w''=>o=.returned (.bool (aw hi lo))/\Below w'.heap.size w' w'')):=mF (fun w' ks ns h=>fY w' (ha.wk hW h.O) (hb.wk hW h.O));obtain⟨q,hq⟩:=du (aw hi lo);have CN:Hid (∀ w' ks ns,q=true->St TW w g (P:Int) false w' ks ns->am w' (.slice A7 n7 c7) r.lo.m->am w' (.slice B7 m7 d7) r.hi.m->Calls lY 89 #[.pointer (some ⟨g,0,none⟩),aG r.lo.neg A7 n7 c7 r.lo.e r.hi.neg B7 m7 d7 r.hi.e] w' (fun o w''=>o=.returned (.bool true)/\Below w'.heap.size w' w'')):=mF (fun w' ks ns hq' h g1 g2=>tD g P w' h.W EO.q hX (zA hP1 EO.q (EO.rel (by rw[← hq];exact hq')) hX hX0) hP2 g1 g2 (hT.wk hW h.O));have HB:=mF EO.q.bad;rw[← hq]at CI;obtain⟨p,hp⟩:∃ p:Int,p=(P:Int):=⟨_,rfl⟩;rw[← hp]at S CI CN ⊢;clear hq hp hT hW EO h1 h2 hX hX0 hP1 hP2 ha hb;go_enter Tryz.func44,Tryz.ntmps44;go_upto_region 1 with fail;generalize((w.alloc (ce (.bool lo.neg) (.slice A n c) (.int .i64 lo.e) (.bool hi.neg) (.slice B m d) (.int .i64 hi.e))).alloc (ce (.bool r.lo.neg) (.slice A7 n7 c7) (.int .i64 r.lo.e) (.bool r.hi.neg) (.slice B7 m7 d7) (.int .i64 r.hi.e))).alloc z6=w1 at *;obtain⟨y0_0,y0_1,y0_2,y0_3,y0_4,y0_5⟩:=S.ks.2.2.1.1.c6;have y0l:=S.ks.2.2.1.1.2;go_wp2_with fail;refine(CI.out _ _ _ S).mono ?_;rintro e' w2 ⟨rfl,b⟩;replace S:=S.below b;clear y0_0 y0_1 y0_2 y0_3 y0_4 y0_5 y0l CI b
 have fin:Hid (∀ w',St TW w g p false w' [(31,w.heap.size+1+1,zs),(31,w.heap.size+1,s6 r.lo A7 n7 c7 r.hi B7 m7 d7),(31,w.heap.size,s6 lo A n c hi B m d)] [(.slice A7 n7 c7,r.lo.m),(.slice B7 m7 d7,r.hi.m)]->ap TW w g p r (.returned (aG r.lo.neg A7 n7 c7 r.lo.e r.hi.neg B7 m7 d7 r.hi.e)) (put6 w' (w.heap.size+1+1) (.bool r.lo.neg) (.slice A7 n7 c7) (.int .i64 r.lo.e) (.bool r.hi.neg) (.slice B7 m7 d7) (.int .i64 r.hi.e))):=mF (fun w' h=>by
  obtain⟨x1,x2,x3,x4⟩:=h.give (lo:=r.lo) (hi:=r.hi) h.ns.1 h.ns.2.1 h.ks.1.1 (by omega)
  exact⟨A7,n7,c7,B7,m7,d7,rfl,x1,x2,by rw[HB.out];exact x3,x4⟩)
 cases q
 . obtain⟨c0,c1⟩:=S.wc
   have cl:=S.lt;have z1:=S.ks.1.1;obtain⟨z1c0,z1c1,z1c2,z1c3,z1c4,z1c5⟩:=z1.c6;obtain⟨z1f0,z1f1,z1f2,z1f3,z1f4,z1f5⟩:=z1.f6;have z1l:=z1.2;have z1n:=ou z1.2;have z1n2:=oM z1.2;have z2:=S.ks.2.1.1;obtain⟨z2c0,z2c1,z2c2,z2c3,z2c4,z2c5⟩:=z2.c6;obtain⟨z2f0,z2f1,z2f2,z2f3,z2f4,z2f5⟩:=z2.f6;have z2l:=z2.2;have z2n:=ou z2.2;have z2n2:=oM z2.2;go_wp2_with fail;exact bodyPost_ret (v:=aG r.lo.neg A7 n7 c7 r.lo.e r.hi.neg B7 m7 d7 r.hi.e) (by simp[results,tz,go_sem,z1c0,z1c1,z1c2,z1c3,z1c4,z1c5]) rfl (fin.out _ S)
 obtain⟨y0_0,y0_1,y0_2,y0_3,y0_4,y0_5⟩:=S.ks.2.1.1.c6;have y0l:=S.ks.2.1.1.2;have cl:=S.lt;go_wp2_with fail;refine(CN.out _ _ _ trivial S S.ns.1 S.ns.2.1).mono ?_;rintro e' w3 ⟨rfl,b⟩;replace S:=S.below b;clear y0_0 y0_1 y0_2 y0_3 y0_4 y0_5 y0l CN b cl;obtain⟨c0,c1⟩:=S.wc;have cl:=S.lt;have z1:=S.ks.1.1;obtain⟨z1c0,z1c1,z1c2,z1c3,z1c4,z1c5⟩:=z1.c6;obtain⟨z1f0,z1f1,z1f2,z1f3,z1f4,z1f5⟩:=z1.f6;have z1l:=z1.2;have z1n:=ou z1.2;have z1n2:=oM z1.2;have z2:=S.ks.2.1.1;obtain⟨z2c0,z2c1,z2c2,z2c3,z2c4,z2c5⟩:=z2.c6;obtain⟨z2f0,z2f1,z2f2,z2f3,z2f4,z2f5⟩:=z2.f6;have z2l:=z2.2;have z2n:=ou z2.2;have z2n2:=oM z2.2;go_wp2_with fail;exact bodyPost_ret (v:=aG r.lo.neg A7 n7 c7 r.lo.e r.hi.neg B7 m7 d7 r.hi.e) (by simp[results,tz,go_sem,z1c0,z1c1,z1c2,z1c3,z1c4,z1c5]) rfl (fin.out _ S)
theorem BZ (g:Nat)(p:Int)(bad:Bool)(w:World)(hW:Wk TW w g p bad)(ha:aC w A n c lo)(hb:aC w B m d hi)(hp1:16<=p)(hp2:p<=7000)(hno:(bad || !cM lo hi)=true):
 Calls lY 15 #[.pointer (some ⟨g,0,none⟩),aG lo.neg A n c lo.e hi.neg B m d hi.e] w (ap TW w g p SRes.no):=by
 have S:=ui hW (.bool lo.neg) (.slice A n c) (.int .i64 lo.e) (.bool hi.neg) (.slice B m d) (.int .i64 hi.e)
 have CT:Hid (∀ w' ks ns,St TW w g p bad w' ks ns->Calls lY 43 #[.pointer (some ⟨g,0,none⟩),aG lo.neg A n c lo.e hi.neg B m d hi.e] w' (fun o w''=>o=.returned (.bool false)/\Wk TW w'' g p true/\az w' w'' g)):=mF (fun w' ks ns h=>by
  have:=gK g p bad w' h.W (ha.wk hW h.O) (hb.wk hW h.O) hp1 hp2
  rw[hno]at this
  exact this)
 clear hno hp1 hp2 ha hb hW;go_enter DF,Bx;go_upto_region 1 with fail;generalize((w.alloc (ce (.bool lo.neg) (.slice A n c) (.int .i64 lo.e) (.bool hi.neg) (.slice B m d) (.int .i64 hi.e))).alloc z6)=w1 at *;obtain⟨y0_0,y0_1,y0_2,y0_3,y0_4,y0_5⟩:=S.ks.2.1.1.c6;have y0l:=S.ks.2.1.1.2;have cl:=S.lt;go_wp2_with fail;refine(CT.out _ _ _ S).mono ?_;rintro e' w2 ⟨rfl,W2,o2⟩;have S2:=S.only o2 W2;clear y0_0 y0_1 y0_2 y0_3 y0_4 y0_5 y0l S CT W2 o2 cl;have z1:=S2.ks.1.1;obtain⟨z1c0,z1c1,z1c2,z1c3,z1c4,z1c5⟩:=z1.c6;obtain⟨z1f0,z1f1,z1f2,z1f3,z1f4,z1f5⟩:=z1.f6;have z1l:=z1.2;have z1n:=ou z1.2;have z1n2:=oM z1.2;go_wp2_with fail;obtain⟨x1,x2,x3,x4⟩:=S2.give (lo:=DR.zero) (hi:=DR.zero) (aq _) (aq _) z1 (by omega);exact bodyPost_ret (v:=aG false none 0 0 0 false none 0 0 0) (by simp[results,yb,go_sem,z1c0,z1c1,z1c2,z1c3,z1c4,z1c5]) rfl ⟨none,0,0,none,0,0,rfl,x1,x2,x3,x4⟩
theorem tE (g P:Nat)(X:Int)(w:World)(hW:Wk TW w g (P:Int) false)(ha:aC w A n c lo)(hb:aC w B m d hi)(hre:cM lo hi=true)(hnl:Cs lo)(hnh:Cs hi)(hT:bx w)(hP1:16<=P)(hP2:P<=1000)(hB:jw X (sz lo))(hB':jw X (sz hi))(hB2:X<=132000):
 Calls lY 15 #[.pointer (some ⟨g,0,none⟩),aG lo.neg A n c lo.e hi.neg B m d hi.e] w (fun e w'=>∃ r,fu P (X+40000) r (aW (rv lo)) (aW (rv hi)) (aw hi lo)/\ap TW w g (P:Int) r e w'):=by
 have hr:=hre;unfold cM at hr;simp only[oY]at hr;obtain⟨⟨hr1,hr2⟩,hr3⟩:=hr;have F2:=dW hr2;have pl:=ip ha F2.l;have ph:=ip hb F2.h;have NLo:=ha.num F2.l;have NHi:=hb.num F2.h;have hbb:=hB.b
 obtain⟨RL,RH⟩:ma lo/\ma hi:=by
  obtain⟨m1,m2,m3,m4⟩:=fB;have PL:=aV pl;have PH:=aV ph;have TL:Tq 300000 lo:=⟨F2.l,pl,by have:=hnl.b;omega,by have:=PL.e1;omega,by have:=PL.e2;have:=hnl.b;omega⟩;have TH:Tq 300000 hi:=⟨F2.h,ph,by have:=hnh.b;omega,by have:=PH.e1;omega,by have:=PH.e2;have:=hnh.b;omega⟩;have q1:=cP (m2.more (by omega)) TL hr1;have q2:=cP TL TH hr2;have q3:=cP TH (m1.more (by omega)) hr3;exact⟨(lQ pl F2.l hnl hr1 (aM TL (m1.more (by omega)) (qK q2 q3))).1,(lQ ph F2.h hnh (aM (m2.more (by omega)) TH (qK q1 q2)) hr3).1⟩
 have S:=((ui hW (.bool lo.neg) (.slice A n c) (.int .i64 lo.e) (.bool hi.neg) (.slice B m d) (.int .i64 hi.e)).num ((NHi.below (ag w _)).below (ag _ _))).num ((NLo.below (ag w _)).below (ag _ _));have TB:Hid (∀ w' ks ns,St TW w g (P:Int) false w' ks ns->bx w'):=mF (fun w' ks ns h=>hT.wk hW h.O)
 have CT:Hid (∀ w' ks ns,St TW w g (P:Int) false w' ks ns->Calls lY 43 #[.pointer (some ⟨g,0,none⟩),aG lo.neg A n c lo.e hi.neg B m d hi.e] w' (fun o w''=>o=.returned (.bool true)/\Wk TW w'' g (P:Int) false/\az w' w'' g)):=mF (fun w' ks ns h=>by
  have:=gK g (P:Int) false w' h.W (ha.wk hW h.O) (hb.wk hW h.O) (by omega) (by omega)
  rw[hre]at this
  exact this)
 have CE:Hid (∀ w' ks ns,St TW w g (P:Int) false w' ks ns->am w' (.slice A n c) lo.m->am w' (.slice B m d) hi.m->Calls lY 45 #[.pointer (some ⟨g,0,none⟩),aG lo.neg A n c lo.e hi.neg B m d hi.e,.func (.func 46) #[.pointer (some ⟨g,0,none⟩)] #[]] w' (fun e w''=>∃ r,fu P (X+40000) r (aW (rv lo)) (aW (rv hi)) (aw hi lo)/\ap TW w' g (P:Int) r e w'')):=mF (fun w' ks ns h h1 h2=>xP g P X w' h.W h1 h2 RL RH hr2 (TB.out _ _ _ h) hP1 hP2 hB hB' hB2);have CA:Hid (∀ w' ks ns r A7 n7 c7 B7 m7 d7,fu P (X+40000) r (aW (rv lo)) (aW (rv hi)) (aw hi lo)->St TW w g (P:Int) false w' ks ns->am w' (.slice A n c) lo.m->am w' (.slice B m d) hi.m->am w' (.slice A7 n7 c7) r.lo.m->am w' (.slice B7 m7 d7) r.hi.m->Calls lY 44 #[.pointer (some ⟨g,0,none⟩),aG lo.neg A n c lo.e hi.neg B m d hi.e,aG r.lo.neg A7 n7 c7 r.lo.e r.hi.neg B7 m7 d7 r.hi.e] w' (ap TW w' g (P:Int) r)):=mF (fun w' ks ns r _ _ _ _ _ _ EO h h1 h2 h3 h4=>ia g P w' h.W (aC.of_num h1 pl F2.l) (aC.of_num h2 ph F2.h) EO h3 h4 (TB.out _ _ _ h) (by omega) (by omega) hP1 (by omega));obtain⟨p,hp⟩:∃ p:Int,p=(P:Int):=⟨_,rfl⟩;rw[← hp]at S CT CE CA ⊢;clear hp TB hT hW RL RH hr1 hr2 hr3 hre hnl hnh F2 pl ph NLo NHi hbb hB hB' hB2 ha hb hP1 hP2;go_enter DF,Bx;go_upto_region 1 with fail;generalize((w.alloc (ce (.bool lo.neg) (.slice A n c) (.int .i64 lo.e) (.bool hi.neg) (.slice B m d) (.int .i64 hi.e))).alloc z6)=w1 at *;obtain⟨y0_0,y0_1,y0_2,y0_3,y0_4,y0_5⟩:=S.ks.2.1.1.c6;have y0l:=S.ks.2.1.1.2;have cl:=S.lt;go_wp2_with fail;refine(CT.out _ _ _ S).mono ?_;rintro e' w2 ⟨rfl,W2,o2⟩;have S2:=S.only o2 W2;clear y0_0 y0_1 y0_2 y0_3 y0_4 y0_5 y0l S CT W2 o2 cl;go_upto_region 3 with fail;have SD:=S2.drew;have sd1:am w2.drew (.slice A n c) lo.m:=SD.ns.1;have sd2:am w2.drew (.slice B m d) hi.m:=SD.ns.2.1;have kl:=S2.ks.1.1.2;have kl2:=S2.ks.2.1.1.2;have HCC:Hid (∀ b' w' ns,St TW w g p b' w' [(31,w.heap.size+1,zs),(31,w.heap.size,s6 lo A n c hi B m d)] ns->D6 w' (w.heap.size) lo A n c hi B m d):=mF (fun b' w' ns h=>(h.ks.2.1.1.c6));have HPP:Hid (∀ b' w' ns,St TW w g p b' w' [(31,w.heap.size+1,zs),(31,w.heap.size,s6 lo A n c hi B m d)] ns->∀ q1 q2 q3 q4 q5 q6,C6 (put6 w' (w.heap.size+1) q1 q2 q3 q4 q5 q6) (w.heap.size) (.bool lo.neg) (.slice A n c) (.int .i64 lo.e) (.bool hi.neg) (.slice B m d) (.int .i64 hi.e)):=mF (fun b' w' ns h q1 q2 q3 q4 q5 q6=>((h.ks.2.1.1.only (aK w' (w.heap.size+1) q1 q2 q3 q4 q5 q6) (by omega)).c6))
 have XS:=HCC.out _ _ _ SD;clear S2
 go_region_held3 (fun w'=>D6 w' (w.heap.size) lo A n c hi B m d)
  (first | with_reducible exact HPP.out _ _ _ V2 _ _ _ _ _ _ | with_reducible exact HCC.out _ _ _ V2 | with_reducible exact HCC.out _ _ _ V1 | with_reducible exact XS)
  (first
   | (go_at_call 45;refine(CE.out _ _ _ SD sd1 sd2).mono ?_;rintro e' v3 ⟨r,EO,A1,n1,c1,B1,m1,d1,rfl,N1,M1,W1,o1⟩;have W1':Wk TW v3 g p false:=(by rw[← EO.q.bad];exact W1);have V1:=((SD.only o1 W1').num M1).num N1;have u1:=V1.ns.1;have u2:=V1.ns.2.1;have u3:=V1.ns.2.2.1;have u4:=V1.ns.2.2.2.1)
   | (go_at_call 44;refine(CA.out _ _ _ _ _ _ _ _ _ _ EO V1 u3 u4 u1 u2).mono ?_;rintro e' v4 ⟨A2,n2,c2,B2,m2,d2,rfl,N2,M2,W2,o2⟩;have V2:=((V1.only o2 W2).num M2).num N2;have z1:=V2.ks.1.1;obtain⟨z1c0,z1c1,z1c2,z1c3,z1c4,z1c5⟩:=z1.c6;obtain⟨z1f0,z1f1,z1f2,z1f3,z1f4,z1f5⟩:=z1.f6;have z1l:=z1.2;have z1n:=ou z1.2;have z1n2:=oM z1.2))
 go_wp2_with fail;obtain⟨x1,x2,x3,x4⟩:=V2.give (lo:=r.lo) (hi:=r.hi) V2.ns.1 V2.ns.2.1 z1 (by omega);exact bodyPost_ret (v:=aG r.lo.neg A2 n2 c2 r.lo.e r.hi.neg B2 m2 d2 r.hi.e) (by simp[results,yb,go_sem,z1c0,z1c1,z1c2,z1c3,z1c4,z1c5]) rfl ⟨r,EO,A2,n2,c2,B2,m2,d2,rfl,x1,x2,x3,x4⟩
theorem Gc (g:Nat)(p:Int)(bad:Bool)(w:World)(hW:Wk TW w g p bad)(ha:aC w A n c lo)(hb:aC w B m d hi)(hp1:16<=p)(hp2:p<=7000)(hno:(bad || !cM lo hi)=true):
 Calls lY 20 #[.pointer (some ⟨g,0,none⟩),aG lo.neg A n c lo.e hi.neg B m d hi.e] w (ap TW w g p SRes.no):=by
 have S:=ui hW (.bool lo.neg) (.slice A n c) (.int .i64 lo.e) (.bool hi.neg) (.slice B m d) (.int .i64 hi.e)
 have CT:Hid (∀ w' ks ns,St TW w g p bad w' ks ns->Calls lY 43 #[.pointer (some ⟨g,0,none⟩),aG lo.neg A n c lo.e hi.neg B m d hi.e] w' (fun o w''=>o=.returned (.bool false)/\Wk TW w'' g p true/\az w' w'' g)):=mF (fun w' ks ns h=>by
  have:=gK g p bad w' h.W (ha.wk hW h.O) (hb.wk hW h.O) hp1 hp2
  rw[hno]at this
  exact this)
 clear hno hp1 hp2 ha hb hW;go_enter EM,DE;go_upto_region 1 with fail;generalize((w.alloc (ce (.bool lo.neg) (.slice A n c) (.int .i64 lo.e) (.bool hi.neg) (.slice B m d) (.int .i64 hi.e))).alloc z6)=w1 at *;obtain⟨y0_0,y0_1,y0_2,y0_3,y0_4,y0_5⟩:=S.ks.2.1.1.c6;have y0l:=S.ks.2.1.1.2;have cl:=S.lt;go_wp2_with fail;refine(CT.out _ _ _ S).mono ?_;rintro e' w2 ⟨rfl,W2,o2⟩;have S2:=S.only o2 W2;clear y0_0 y0_1 y0_2 y0_3 y0_4 y0_5 y0l S CT W2 o2 cl;have z1:=S2.ks.1.1;obtain⟨z1c0,z1c1,z1c2,z1c3,z1c4,z1c5⟩:=z1.c6;obtain⟨z1f0,z1f1,z1f2,z1f3,z1f4,z1f5⟩:=z1.f6;have z1l:=z1.2;have z1n:=ou z1.2;have z1n2:=oM z1.2;go_wp2_with fail;obtain⟨x1,x2,x3,x4⟩:=S2.give (lo:=DR.zero) (hi:=DR.zero) (aq _) (aq _) z1 (by omega);exact bodyPost_ret (v:=aG false none 0 0 0 false none 0 0 0) (by simp[results,Bl,go_sem,z1c0,z1c1,z1c2,z1c3,z1c4,z1c5]) rfl ⟨none,0,0,none,0,0,rfl,x1,x2,x3,x4⟩
theorem xR (g P:Nat)(X:Int)(w:World)(hW:Wk TW w g (P:Int) false)(ha:aC w A n c lo)(hb:aC w B m d hi)(hre:cM lo hi=true)(hnl:Cs lo)(hnh:Cs hi)(hT:bx w)(hP1:16<=P)(hP2:P<=1000)(hB:jw X (sz lo))(hB':jw X (sz hi))(hB2:X<=132000):
 Calls lY 20 #[.pointer (some ⟨g,0,none⟩),aG lo.neg A n c lo.e hi.neg B m d hi.e] w (fun e w'=>∃ r,fu P (X+40000) r (fG (rv lo)) (fG (rv hi)) (aw hi lo)/\ap TW w g (P:Int) r e w'):=by
 have hr:=hre;unfold cM at hr;simp only[oY]at hr;obtain⟨⟨hr1,hr2⟩,hr3⟩:=hr;have F2:=dW hr2;have pl:=ip ha F2.l;have ph:=ip hb F2.h;have NLo:=ha.num F2.l;have NHi:=hb.num F2.h;have hbb:=hB.b
 obtain⟨RL,RH⟩:ma lo/\ma hi:=by
  obtain⟨m1,m2,m3,m4⟩:=fB;have PL:=aV pl;have PH:=aV ph;have TL:Tq 300000 lo:=⟨F2.l,pl,by have:=hnl.b;omega,by have:=PL.e1;omega,by have:=PL.e2;have:=hnl.b;omega⟩;have TH:Tq 300000 hi:=⟨F2.h,ph,by have:=hnh.b;omega,by have:=PH.e1;omega,by have:=PH.e2;have:=hnh.b;omega⟩;have q1:=cP (m2.more (by omega)) TL hr1;have q2:=cP TL TH hr2;have q3:=cP TH (m1.more (by omega)) hr3;exact⟨(lQ pl F2.l hnl hr1 (aM TL (m1.more (by omega)) (qK q2 q3))).1,(lQ ph F2.h hnh (aM (m2.more (by omega)) TH (qK q1 q2)) hr3).1⟩
 have S:=((ui hW (.bool lo.neg) (.slice A n c) (.int .i64 lo.e) (.bool hi.neg) (.slice B m d) (.int .i64 hi.e)).num ((NHi.below (ag w _)).below (ag _ _))).num ((NLo.below (ag w _)).below (ag _ _));have TB:Hid (∀ w' ks ns,St TW w g (P:Int) false w' ks ns->bx w'):=mF (fun w' ks ns h=>hT.wk hW h.O)
 have CT:Hid (∀ w' ks ns,St TW w g (P:Int) false w' ks ns->Calls lY 43 #[.pointer (some ⟨g,0,none⟩),aG lo.neg A n c lo.e hi.neg B m d hi.e] w' (fun o w''=>o=.returned (.bool true)/\Wk TW w'' g (P:Int) false/\az w' w'' g)):=mF (fun w' ks ns h=>by
  have:=gK g (P:Int) false w' h.W (ha.wk hW h.O) (hb.wk hW h.O) (by omega) (by omega)
  rw[hre]at this
  exact this)
 have CE:Hid (∀ w' ks ns,St TW w g (P:Int) false w' ks ns->am w' (.slice A n c) lo.m->am w' (.slice B m d) hi.m->Calls lY 45 #[.pointer (some ⟨g,0,none⟩),aG lo.neg A n c lo.e hi.neg B m d hi.e,.func (.func 58) #[.pointer (some ⟨g,0,none⟩)] #[]] w' (fun e w''=>∃ r,fu P (X+40000) r (fG (rv lo)) (fG (rv hi)) (aw hi lo)/\ap TW w' g (P:Int) r e w'')):=mF (fun w' ks ns h h1 h2=>vd g P X w' h.W h1 h2 RL RH hr2 (TB.out _ _ _ h) hP1 hP2 hB hB' hB2);have CA:Hid (∀ w' ks ns r A7 n7 c7 B7 m7 d7,fu P (X+40000) r (fG (rv lo)) (fG (rv hi)) (aw hi lo)->St TW w g (P:Int) false w' ks ns->am w' (.slice A n c) lo.m->am w' (.slice B m d) hi.m->am w' (.slice A7 n7 c7) r.lo.m->am w' (.slice B7 m7 d7) r.hi.m->Calls lY 44 #[.pointer (some ⟨g,0,none⟩),aG lo.neg A n c lo.e hi.neg B m d hi.e,aG r.lo.neg A7 n7 c7 r.lo.e r.hi.neg B7 m7 d7 r.hi.e] w' (ap TW w' g (P:Int) r)):=mF (fun w' ks ns r _ _ _ _ _ _ EO h h1 h2 h3 h4=>ia g P w' h.W (aC.of_num h1 pl F2.l) (aC.of_num h2 ph F2.h) EO h3 h4 (TB.out _ _ _ h) (by omega) (by omega) hP1 (by omega));obtain⟨p,hp⟩:∃ p:Int,p=(P:Int):=⟨_,rfl⟩;rw[← hp]at S CT CE CA ⊢;clear hp TB hT hW RL RH hr1 hr2 hr3 hre hnl hnh F2 pl ph NLo NHi hbb hB hB' hB2 ha hb hP1 hP2;go_enter EM,DE;go_upto_region 1 with fail;generalize((w.alloc (ce (.bool lo.neg) (.slice A n c) (.int .i64 lo.e) (.bool hi.neg) (.slice B m d) (.int .i64 hi.e))).alloc z6)=w1 at *;obtain⟨y0_0,y0_1,y0_2,y0_3,y0_4,y0_5⟩:=S.ks.2.1.1.c6;have y0l:=S.ks.2.1.1.2;have cl:=S.lt;go_wp2_with fail;refine(CT.out _ _ _ S).mono ?_;rintro e' w2 ⟨rfl,W2,o2⟩;have S2:=S.only o2 W2;clear y0_0 y0_1 y0_2 y0_3 y0_4 y0_5 y0l S CT W2 o2 cl;go_upto_region 3 with fail;have SD:=S2.drew;have sd1:am w2.drew (.slice A n c) lo.m:=SD.ns.1;have sd2:am w2.drew (.slice B m d) hi.m:=SD.ns.2.1;have kl:=S2.ks.1.1.2;have kl2:=S2.ks.2.1.1.2;have HCC:Hid (∀ b' w' ns,St TW w g p b' w' [(31,w.heap.size+1,zs),(31,w.heap.size,s6 lo A n c hi B m d)] ns->D6 w' (w.heap.size) lo A n c hi B m d):=mF (fun b' w' ns h=>(h.ks.2.1.1.c6));have HPP:Hid (∀ b' w' ns,St TW w g p b' w' [(31,w.heap.size+1,zs),(31,w.heap.size,s6 lo A n c hi B m d)] ns->∀ q1 q2 q3 q4 q5 q6,C6 (put6 w' (w.heap.size+1) q1 q2 q3 q4 q5 q6) (w.heap.size) (.bool lo.neg) (.slice A n c) (.int .i64 lo.e) (.bool hi.neg) (.slice B m d) (.int .i64 hi.e)):=mF (fun b' w' ns h q1 q2 q3 q4 q5 q6=>((h.ks.2.1.1.only (aK w' (w.heap.size+1) q1 q2 q3 q4 q5 q6) (by omega)).c6))
 have XS:=HCC.out _ _ _ SD;clear S2
 go_region_held3 (fun w'=>D6 w' (w.heap.size) lo A n c hi B m d)
  (first | with_reducible exact HPP.out _ _ _ V2 _ _ _ _ _ _ | with_reducible exact HCC.out _ _ _ V2 | with_reducible exact HCC.out _ _ _ V1 | with_reducible exact XS)
  (first
   | (go_at_call 45;refine(CE.out _ _ _ SD sd1 sd2).mono ?_;rintro e' v3 ⟨r,EO,A1,n1,c1,B1,m1,d1,rfl,N1,M1,W1,o1⟩;have W1':Wk TW v3 g p false:=(by rw[← EO.q.bad];exact W1);have V1:=((SD.only o1 W1').num M1).num N1;have u1:=V1.ns.1;have u2:=V1.ns.2.1;have u3:=V1.ns.2.2.1;have u4:=V1.ns.2.2.2.1)
   | (go_at_call 44;refine(CA.out _ _ _ _ _ _ _ _ _ _ EO V1 u3 u4 u1 u2).mono ?_;rintro e' v4 ⟨A2,n2,c2,B2,m2,d2,rfl,N2,M2,W2,o2⟩;have V2:=((V1.only o2 W2).num M2).num N2;have z1:=V2.ks.1.1;obtain⟨z1c0,z1c1,z1c2,z1c3,z1c4,z1c5⟩:=z1.c6;obtain⟨z1f0,z1f1,z1f2,z1f3,z1f4,z1f5⟩:=z1.f6;have z1l:=z1.2;have z1n:=ou z1.2;have z1n2:=oM z1.2))
 go_wp2_with fail;obtain⟨x1,x2,x3,x4⟩:=V2.give (lo:=r.lo) (hi:=r.hi) V2.ns.1 V2.ns.2.1 z1 (by omega);exact bodyPost_ret (v:=aG r.lo.neg A2 n2 c2 r.lo.e r.hi.neg B2 m2 d2 r.hi.e) (by simp[results,Bl,go_sem,z1c0,z1c1,z1c2,z1c3,z1c4,z1c5]) rfl ⟨r,EO,A2,n2,c2,B2,m2,d2,rfl,x1,x2,x3,x4⟩
end
end Go.Proofs.YtmbmohibpkepdaaGreatDoor
