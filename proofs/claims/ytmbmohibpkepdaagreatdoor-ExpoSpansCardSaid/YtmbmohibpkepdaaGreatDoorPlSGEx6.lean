import Derived.Test.YtmbmohibpkepdaaGreatDoorPlSGEx5
set_option maxRecDepth 8000
set_option maxHeartbeats 4000000
open Rat renaming mul_le_mul_of_nonneg_left->lY, mul_le_mul_of_nonneg_right->mF, le_of_lt->ou, mul_nonneg->qK, le_of_mul_le_mul_left->yb, mul_pos->Bl, le_refl->DE, not_le->Gn
open Go.Lib renaming hid->oM
open Go.Proofs.Tryz renaming prog->oY, results46->Gk, ntmps46->Gl, func46->Gm
open Int renaming toNat_natCast->tz
open Nat renaming eq_zero_or_pos->Bx, ne_of_lt->DF, ne_of_gt->EM
namespace Go.Proofs.YtmbmohibpkepdaaGreatDoor
open Go.RowKit
variable {A:OA} {B E:Int} {P V c m n:Nat} {a t u y z:Rat} {d x:DR} {r:SRes} {s:Nat->Rat}
section
variable {TW:TypeId}
theorem df {w:World}(neg:Bool)(e:Int)(h:am w (.slice A n c) V):
 Calls oY 90 #[.agg #[.bool neg,.slice A n c,.int .i64 e]] w fun r w'=>r=.returned (.bool (decide (V=0)))/\Below w.heap.size w w':=by
 have b1:=ag w (.cells #[.bool neg,.slice A n c,.int .i64 e] 24)
 have hn:((n:Int) == 0)=decide (V=0):=by
  rw[Bool.eq_iff_iff]
  simp[← iu h]
 obtain⟨q,hq⟩:∃ q,Hid (decide (V=0)=q):=⟨_,oM rfl⟩;rw[hq.out]at hn ⊢;go_enter Tryz.func90,Tryz.ntmps90;go_wp2_with fail;go_ret;exact⟨rfl,b1⟩
theorem gy (neg:Bool)(A:OA)(n c:Nat)(e:Int)(w:World):
 Calls oY 93 #[.agg #[.bool neg,.slice A n c,.int .i64 e]] w fun r w'=>r=.returned (.agg #[.bool false,.slice A n c,.int .i64 e])/\Below w.heap.size w w':=by
 go_enter Tryz.func93,Tryz.ntmps93;go_wp2_with fail;exact bodyPost_ret (v:=.agg #[.bool false,.slice A n c,.int .i64 e]) (by simp[results,Tryz.results93,go_sem]) rfl ⟨rfl,aB (ag w _) (ag _ _)⟩
theorem fe {r s:DR}{B:OA}{d:Nat}(w:World)(ha:aC w A n c r)(hb:aC w B m d s):
 Calls oY 151 #[aP r.neg A n c r.e,aP s.neg B m d s.e] w fun o w'=>o=.returned (.bool (aw r s))/\Below w.heap.size w w':=by
 obtain⟨x,a1,a2,a3,a4⟩:=ha;obtain⟨y,b1,b2,b3,b4⟩:=hb;have S:=FA.start w r.neg A n c r.e s.neg B m d s.e;have CM:=oM (oC r.neg s.neg A B n c m d x y r.e s.e _ (a1.below S.bel) (b1.below S.bel) a2 b2);rw[← a3,← a4,← b3,← b4]at CM
 have HR:Hid (aw r s=((r.ok && s.ok) && decide (gh (r.ok && s.ok) r.neg s.neg r.m s.m r.e s.e<=0))):=oM (by
  unfold aw bG gh
  cases (r.ok && s.ok) <;> simp)
 rw[HR.out];generalize gh (r.ok && s.ok) r.neg s.neg r.m s.m r.e s.e=z at *;generalize(r.ok && s.ok)=ok at *;clear HR a3 a4 b3 b4;go_enter Tryz.func151,Tryz.ntmps151;go_wp2_with fail;refine CM.out.mono ?_;rintro e' w2 ⟨rfl,b⟩;have F:=S.adv b;have B2:=F.bel;clear S b F CM a1 a2 b1 b2;cases ok
 . go_wp2_with fail
   go_ret;exact⟨rfl,B2⟩
 . go_wp2_with fail
   go_ret;exact⟨by simp,B2⟩
theorem fY {lo hi:DR}{B:OA}{d:Nat}(w:World)(ha:aC w A n c lo)(hb:aC w B m d hi):
 Calls oY 88 #[aG lo.neg A n c lo.e hi.neg B m d hi.e] w fun o w'=>o=.returned (.bool (aw hi lo))/\Below w.heap.size w w':=by
 have b1:=ag w (.cells #[.bool lo.neg,.slice A n c,.int .i64 lo.e,.bool hi.neg,.slice B m d,.int .i64 hi.e] 31);have NA:=oM (fe _ (hb.below b1) (ha.below b1));have k1:=(KC.made 31 w #[.bool lo.neg,.slice A n c,.int .i64 lo.e,.bool hi.neg,.slice B m d,.int .i64 hi.e]);go_enter Tryz.func88,Tryz.ntmps88;go_wp2_with fail;refine NA.out.mono ?_;rintro e' w2 ⟨rfl,b2⟩;go_wp2_with fail;go_ret;exact⟨rfl,aB b1 b2⟩
theorem oy (g:Nat)(p:Int)(w:World)(hW:Wk TW w g p false)(hp1:0<=p)(hp2:p<=8192):
 Calls oY 111 #[.pointer (some ⟨g,0,none⟩)] w fun r w'=>r=.returned (.pointer (some ⟨w.heap.size,0,none⟩))/\Wk 38 w' w.heap.size (p+64) false/\Below w.heap.size w w':=by
 obtain⟨c0,c1⟩:=hW.cell;have hg:=hW.2;have hw:IntKind.i64.wrap (p+64)=p+64:=aE (by omega) (by omega);go_enter Tryz.func111,Tryz.ntmps111;go_wp2_with fail;go_ret;exact⟨rfl,⟨heap_alloc_new w _,by simp⟩,ag w _⟩
end
section
variable {TW:TypeId}
def oo (p:Int)(r:SRes):SRes:=eI p (bE p false r.lo r.hi (-1)).bad (bE p false r.lo r.hi (-1)).lo (bE p false r.lo r.hi (-1)).hi
theorem qc {T':TypeId}{B:OA}{d:Nat}(g gi:Nat)(p p':Int)(w:World)(hW:Wk TW w g p false)(hI:Wk T' w gi p' false)(G:dA r)(ha:am w (.slice A n c) r.lo.m)(hb:am w (.slice B m d) r.hi.m)(hT:bx w):
 Calls oY 112 #[.pointer (some ⟨g,0,none⟩),.pointer (some ⟨gi,0,none⟩),aG r.lo.neg A n c r.lo.e r.hi.neg B m d r.hi.e] w (ap TW w g p (oo p r)):=by
 have S:=((ui hW (.bool r.lo.neg) (.slice A n c) (.int .i64 r.lo.e) (.bool r.hi.neg) (.slice B m d) (.int .i64 r.hi.e)).num ((hb.below (ag w _)).below (ag _ _))).num ((ha.below (ag w _)).below (ag _ _));obtain⟨s,hs⟩:=du (bE p false r.lo r.hi (-1));obtain⟨o,ho⟩:=du (eI p s.bad s.lo s.hi);have HR:Hid (oo p r=o):=oM (by rw[ho,hs];rfl)
 have GS:dA s:=by rw[hs];exact lI (gZ _ _ _) (gZ _ _ _)
 have TB:Hid (∀ b' w' ks ns,St TW w g p b' w' ks ns->bx w'):=oM (fun b' w' ks ns h=>hT.wk hW h.O)
 have C1:Hid (∀ w' ns A n c B m d,St TW w g p false w' [(31,w.heap.size+1,zs),(31,w.heap.size,s6 r.lo A n c r.hi B m d)] ns->am w' (.slice A n c) r.lo.m->am w' (.slice B m d) r.hi.m->Calls oY 109 #[.pointer (some ⟨g,0,none⟩),aG r.lo.neg A n c r.lo.e r.hi.neg B m d r.hi.e,.int .i64 (-1)] w' (ap TW w' g p s)):=oM (fun w' ns A n c B m d h h1 h2=>by
  rw[hs]
  exact wY g p false (-1) w' h.W (aC.of_num h1 G.l2 G.l1) (aC.of_num h2 G.h2 G.h1) (TB.out _ _ _ _ h) (by omega) (by omega))
 have C2:Hid (∀ w' ks ns A n c B m d,St TW w g p s.bad w' ks ns->am w' (.slice A n c) s.lo.m->am w' (.slice B m d) s.hi.m->Calls oY 94 #[.pointer (some ⟨g,0,none⟩),aG s.lo.neg A n c s.lo.e s.hi.neg B m d s.hi.e] w' (ap TW w' g p o)):=oM (fun w' ks ns A n c B m d h h1 h2=>by
  rw[ho]
  exact ny g p s.bad w' h.W (aC.of_num h1 GS.l2 GS.l1) (aC.of_num h2 GS.h2 GS.h1) (TB.out _ _ _ _ h))
 have hi0:=((hI.below (ag w (ce (.bool r.lo.neg) (.slice A n c) (.int .i64 r.lo.e) (.bool r.hi.neg) (.slice B m d) (.int .i64 r.hi.e)))).below (ag _ z6)).cell;obtain⟨hi1,hi2⟩:=hi0;clear hs ho TB hT hI ha hb;go_enter Tryz.func112,Tryz.ntmps112;go_upto_region 3 with fail;generalize((w.alloc (ce (.bool r.lo.neg) (.slice A n c) (.int .i64 r.lo.e) (.bool r.hi.neg) (.slice B m d) (.int .i64 r.hi.e))).alloc z6)=w1 at *;clear hi1 hi2;have SD:=S.drew;have sd1:am w1.drew (.slice A n c) r.lo.m:=SD.ns.1;have sd2:am w1.drew (.slice B m d) r.hi.m:=SD.ns.2.1;have HCC:Hid (∀ b' w' ns,St TW w g p b' w' [(31,w.heap.size+1,zs),(31,w.heap.size,s6 r.lo A n c r.hi B m d)] ns->D6 w' (w.heap.size) r.lo A n c r.hi B m d):=oM (fun b' w' ns h=>(h.ks.2.1.1.c6));have HPP:Hid (∀ b' w' ns,St TW w g p b' w' [(31,w.heap.size+1,zs),(31,w.heap.size,s6 r.lo A n c r.hi B m d)] ns->∀ q1 q2 q3 q4 q5 q6,C6 (put6 w' (w.heap.size+1) q1 q2 q3 q4 q5 q6) (w.heap.size) (.bool r.lo.neg) (.slice A n c) (.int .i64 r.lo.e) (.bool r.hi.neg) (.slice B m d) (.int .i64 r.hi.e)):=oM (fun b' w' ns h q1 q2 q3 q4 q5 q6=>((h.ks.2.1.1.only (aK w' (w.heap.size+1) q1 q2 q3 q4 q5 q6) (by omega)).c6));have XS:=HCC.out _ _ _ SD;clear S
 go_region_held3 (fun w'=>D6 w' (w.heap.size) r.lo A n c r.hi B m d)
  (first | with_reducible exact HPP.out _ _ _ V2 _ _ _ _ _ _ | with_reducible exact HCC.out _ _ _ V2 | with_reducible exact HCC.out _ _ _ V1 | with_reducible exact XS)
  (first
   | (go_at_call 109;refine(C1.out _ _ _ _ _ _ _ _ SD sd1 sd2).mono ?_;rintro e' v1 ⟨A1,n1,c1,B1,m1,d1,rfl,N1,M1,W1,o1⟩;have V1:=((SD.only o1 W1).num M1).num N1;have u1:=V1.ns.1;have u2:=V1.ns.2.1)
   | (go_at_call 94;refine(C2.out _ _ _ _ _ _ _ _ _ V1 u1 u2).mono ?_;rintro e' v2 ⟨A2,n2,c2,B2,m2,d2,rfl,N2,M2,W2,o2⟩;have V2:=((V1.only o2 W2).num M2).num N2;have z1:=V2.ks.1.1;obtain⟨z1c0,z1c1,z1c2,z1c3,z1c4,z1c5⟩:=z1.c6;obtain⟨z1f0,z1f1,z1f2,z1f3,z1f4,z1f5⟩:=z1.f6;have z1l:=z1.2;have z1n:=DF z1.2;have z1n2:=EM z1.2))
 go_wp2_with fail;rw[HR.out];obtain⟨x1,x2,x3,x4⟩:=V2.give (lo:=o.lo) (hi:=o.hi) V2.ns.1 V2.ns.2.1 z1 (by omega);exact bodyPost_ret (v:=aG o.lo.neg A2 n2 c2 o.lo.e o.hi.neg B2 m2 d2 o.hi.e) (by simp[results,Tryz.results112,go_sem,z1c0,z1c1,z1c2,z1c3,z1c4,z1c5]) rfl ⟨A2,n2,c2,B2,m2,d2,rfl,x1,x2,x3,x4⟩
end
structure cV (P:Nat)(B:Int)(r:SRes)(s:Nat->Rat):Prop where
 q:Sq B r
 hl:Hl (rv r.lo) (rv r.hi) s
 rel:(0<=rv r.lo/\rv r.hi<=rv r.lo*(1+4*uP P))\/(rv r.hi<=0/\rv r.hi*(1+4*uP P)<=rv r.lo)
def jw (B:Int)(y:Rat):Prop:=131080<=B\/(y<=16384/\33000<=B)
theorem jw.b (h:jw B y):33000<=B:=by rcases h with h | h <;> omega
theorem eN.top (h:eN P y V E)(hy:0<=y)(hB:jw B y):E+(nb V:Int)+1<=B:=by
 have h2:=h.e2
 rcases hB with hB | ⟨hB,hB2⟩
 . omega
 . obtain⟨n,hn⟩:=h.lo
   have hg:=tA (z:=y/32768) (by grind) (by grind) 15 n
   have e:((2^15:Nat):Rat)*(y/32768)=y:=by
    have:((2^15:Nat):Rat)=32768:=rfl
    rw[this];grind
   rw[e]at hg;have hb:=h.b1
   have h0:0 < V:=by
    rcases Bx V with h1 | h1
    . rw[h1,aX]at hb;omega
    . exact h1
   have h4:=mF (bW (fA h0)) (ou (dD E));rw[cI]at h4;rw[Es]at hn
   have h5:tw (((nb V-1:Nat):Int)+E)<=tw ((2^15:Nat):Int):=by grind
   have:=vE h5
   have e15:((2^15:Nat):Int)=32768:=rfl;omega
def dP (P:Nat):Rat:=tp (-((P+31:Nat):Int))
theorem oD (P:Nat):0 < dP P:=co _
theorem BO (h:P+33<=nb V):(eL P V:Rat)<=(V:Rat)*dP P:=by
 have h0:0 < V:=by
  rcases Bx V with h1 | h1
  . rw[h1,aX]at h;omega
  . exact h1
 have h1:=mF (bW (fA h0)) (ou (oD P))
 have e:((2^(nb V-1):Nat):Rat)*dP P=(eL P V:Rat):=by
  unfold dP eL;rw[← dH,← dH,← bV]
  congr 1
  omega
 rw[e]at h1;exact h1
theorem fj (hP1:1<=P)(hV1:P+33<=nb V)(hV:nb V<=8900)(h1:-B<=E)(h2:E+(nb V:Int)+1<=B)(hB0:0<=B)(hB:B<=260000):
 Sq B (an P V E)/\0 < rv (an P V E).lo/\rv (an P V E).hi<=rv (an P V E).lo*(1+dP P)/\rv (an P V E).lo=(V:Rat)*tp E/\rv (an P V E).hi=((V:Rat)+(eL P V:Rat))*tp E:=by
 obtain⟨n1,n2⟩:=qV hV1;have q1:=jP (neg:=false) (V:=V) (e:=E) (B:=B) (by omega) (by omega) (by omega) (by omega) (by omega);have q2:=jP (neg:=false) (V:=V+eL P V) (e:=E) (B:=B) (by omega) (by omega) (by omega) (by omega) (by omega);have e1:=q1.2.1;have e2:=q2.2.1;rw[dc]at e1 e2;rw[Rat.natCast_add]at e2
 have h0:0 < V:=by
  rcases Bx V with h1 | h1
  . rw[h1,aX]at hV1;omega
  . exact h1
 have hv:0 < (V:Rat)*tp E:=Bl (Rat.natCast_pos.2 h0) (co E);have hl:=mF (BO hV1) (ou (co E));have hl0:=qK (bz (eL P V)) (ou (co E));have g1:rv (an P V E).lo=(V:Rat)*tp E:=e1;have g2:rv (an P V E).hi=((V:Rat)+(eL P V:Rat))*tp E:=e2;refine⟨⟨rfl,q1.1,q2.1,?_⟩,by rw[g1];exact hv,?_,g1,g2⟩
 . rw[g1,g2];grind
 . rw[g1,g2];grind
theorem eN.hl (h:eN P y V E)(hy:0<=y):Hl ((V:Rat)*tp E) (((V:Rat)+(eL P V:Rat))*tp E) (aW y):=by
 obtain⟨n,hn⟩:=h.lo
 exact Hl.of (N:=n) fun m hm=>⟨Rat.le_trans hn (fC hy hm),h.hi m⟩
theorem iJ (hP:16<=P):32768*uP P<=1/\dP P*4294967296=uP P/\uP (P+64)*18446744073709551616=uP P:=by
 refine⟨?_,?_,?_⟩
 . have h1:=Er hP
   have h2:uP 16*((2^(16-1):Nat):Rat)=1:=nu (by omega);have e:((2^(16-1):Nat):Rat)=32768:=rfl;rw[e]at h2
   grind
 . have e:(4294967296:Rat)=((2^32:Nat):Rat):=rfl
   unfold dP uP;rw[e,← dH,← bV]
   congr 1
   omega
 . have e:(18446744073709551616:Rat)=((2^64:Nat):Rat):=rfl
   unfold uP;rw[e,← dH,← bV]
   congr 1
   omega
theorem iT {b x:Rat}(hu:0 < u)(hu2:32768*u<=1)(ht:2*t<=u)(ha:0 < a)(hb:b<=a*(1+t))(hab:a<=b)(h1:Cd u a x)(h2:Cu u b y):0 < x/\y<=x*(1+4*u):=by
 have k1:=h1.pos (ou ha);have k2:=h2.pos (by grind);have hau:0 < a*u:=Bl ha hu
 have p1:a*u*32768<=a:=by
  have:=lY hu2 (ou ha)
  grind
 refine⟨by grind,?_⟩;have s1:b*(1+u)<=a*(1+t)*(1+u):=mF hb (by grind)
 have s2:(1+t)*(1+u)<=(1-u)*(1+4*u):=by
  have q1:t*u<=u*u:=mF (by grind) (ou hu)
  have q2:u*u*32768<=u:=by
   have:=lY hu2 (ou hu)
   grind
  grind
 have s3q:=lY s2 (ou ha);have s4:a*(1-u)*(1+4*u)<=x*(1+4*u):=mF k1 (by grind)
 grind
theorem uX (hP1:16<=P)(hP2:P<=1000)(h:eN P y V E)(hy:0<=y)(hB:jw B y)(hB2:B<=132000):
 cV P (B+1) (eI (P:Int) false (an P V E).lo (an P V E).hi) (aW y):=by
 have hb:=hB.b;have b1:=h.b1;have b2:=h.b2;have e1:=h.e1;have t1:=h.top hy hB;obtain⟨S,p1,p2,p3,p4⟩:=fj (P:=P) (V:=V) (E:=E) (B:=B) (by omega) (by omega) (by omega) (by omega) (by omega) (by omega) (by omega);obtain⟨O,_,_,o1,o2⟩:=sQ (p:=(P:Int)) (by omega) (by omega) S (by omega) (by omega);rw[tz]at o1 o2;obtain⟨u1,u2,_⟩:=iJ hP1;obtain⟨c1,c2⟩:=iT (cD P) u1 (by have:=cD P;grind) p1 p2 S.le o1 o2;have H:=h.hl hy;rw[← p3,← p4]at H;exact⟨O,H.mono o1.le o2.le,.inl ⟨ou c1,c2⟩⟩
theorem jb {p:Int}(hp1:1<=p)(hp2:p<=8192):∃ d,dY p false 1=⟨false,d,d⟩/\Sq 64 ⟨false,d,d⟩/\rv d=1/\aR d.neg d.m d.e=true/\d.ok=true:=by
 obtain⟨d,h1,h2,h3,_⟩:=jT (n:=1) hp1 hp2 (by rw[sX];omega);exact⟨d,h1,⟨rfl,h2,h2,DE⟩,h3,h2.pl,h2.ok⟩
theorem km {p:Int}(hp1:16<=p)(hp2:p<=2000)(hP1:16<=P)(hP2:P<=1000)(h:eN P y V E)(hy:0<=y)(hB:jw B y)(hB2:B<=132000)(hd:Sq 64 ⟨false,d,d⟩)(hd1:rv d=1):
 Sq (B+3000) (ff p false d d (an P V E).lo (an P V E).hi)/\Hl (rv (ff p false d d (an P V E).lo (an P V E).hi).lo) (rv (ff p false d d (an P V E).lo (an P V E).hi).hi) (aW (-y)) /\
 Cd (uP p.toNat) 1 (rv (ff p false d d (an P V E).lo (an P V E).hi).lo*rv (an P V E).hi)/\Cu (uP p.toNat) 1 (rv (ff p false d d (an P V E).lo (an P V E).hi).hi*rv (an P V E).lo):=by
 have hb:=hB.b;have b1:=h.b1;have b2:=h.b2;have e1:=h.e1;have t1:=h.top hy hB;obtain⟨S,p1,p2,p3,p4⟩:=fj (P:=P) (V:=V) (E:=E) (B:=B) (by omega) (by omega) (by omega) (by omega) (by omega) (by omega) (by omega);obtain⟨D,_,_,Q⟩:=Fe (p:=p) (by omega) (by omega) hd S p1 (by omega) (by omega) (by omega)
 dsimp only at D Q
 have q1:=Q.lo1 (by rw[hd1];decide);have q2:=Q.hi1 (by rw[hd1];decide);rw[hd1]at q1 q2;have H:=h.hl hy;rw[← p3,← p4]at H;exact⟨D.more (by omega),H.inv p1 (zW y) q1.le q2.le,q1,q2⟩
theorem uY (hP1:16<=P)(hP2:P<=1000)(h:eN P y V E)(hy:0<=y)(hB:jw B y)(hB2:B<=132000)(hd:Sq 64 ⟨false,d,d⟩)(hd1:rv d=1):
 cV P (B+3000) (ff (P:Int) false d d (an P V E).lo (an P V E).hi) (aW (-y)):=by
 obtain⟨D,H,q1,q2⟩:=km (p:=(P:Int)) (by omega) (by omega) hP1 hP2 h hy hB hB2 hd hd1;have hb:=hB.b;have b1:=h.b1;have b2:=h.b2;have e1:=h.e1;have t1:=h.top hy hB;obtain⟨S,p1,p2,p3,p4⟩:=fj (P:=P) (V:=V) (E:=E) (B:=B) (by omega) (by omega) (by omega) (by omega) (by omega) (by omega) (by omega);rw[tz]at q1 q2;refine⟨D,H,.inl ?_⟩;obtain⟨u1,u2,_⟩:=iJ hP1;have hu:=cD P;have k1:=q1.pos (by decide);have k2:=q2.pos (by decide);have hle:=D.le;have hSle:=S.le;generalize rv (ff (P:Int) false d d (an P V E).lo (an P V E).hi).lo=x at *;generalize rv (ff (P:Int) false d d (an P V E).lo (an P V E).hi).hi=z at *;generalize rv (an P V E).lo=a at *;generalize rv (an P V E).hi=b at *;generalize uP P=u at *;have hd0:=oD P;generalize dP P=t at *
 have hb0:0 < b:=by grind
 have hx:0 < x:=by
  refine Gn.1 fun hn=>?_
  have:=qK (show 0<=-x by grind) (ou hb0)
  grind
 refine⟨ou hx,?_⟩;have s1:x*b<=x*(a*(1+t)):=lY p2 (ou hx);have s2:(1-u)*(1+u)<=x*(a*(1+t))*(1+u):=mF (by grind) (by grind);have s3q:(1-u)*(z*a)<=(1-u)*(1+u):=lY (by grind) (by grind)
 have s4:(1+t)*(1+u)<=(1-u)*(1+4*u):=by
  have q1:t*u<=u*u:=mF (by grind) (ou hu)
  have q2:u*u*32768<=u:=by
   have:=lY u1 (ou hu)
   grind
  grind
 have hxa:=Bl hx p1;have s5:=lY s4 (ou hxa);have hc:0 < (1-u)*a:=Bl (by grind) p1;refine yb (c:=(1-u)*a) ?_ hc
 grind
theorem AP:tp (-1)=1/2:=by
 have e:=bV (-1) 1;rw[show(-1:Int)+1=0 by decide,kG]at e
 have e2:tp 1=2:=by
  have:=dH 1
  exact this
 rw[e2]at e
 grind
theorem Hl.mulc {b c:Rat}(h:Hl a b s)(hc:0 < c):Hl (a*c) (b*c) (fun n=>s n*c):=fun e he=>by
 have hd:0 < e/c:=mo he hc;have hm:e/c*c=e:=Rat.div_mul_cancel (by grind);obtain⟨N,hN⟩:=h (e/c) hd;refine⟨N,fun n hn=>?_⟩;have h1:=mF (hN n hn).1 (ou hc);have h2:=mF (hN n hn).2 (ou hc)
 constructor <;> grind
theorem ww (hP1:16<=P)(hP2:P<=8000)(h:Sq B r)(h0:0 < rv r.lo)(hb:rv r.hi<=rv r.lo*(1+t))(ht:2*t<=uP P)(H:Hl (rv r.lo) (rv r.hi) s)(hB0:0<=B)(hB:B<=200000):
 cV P (B+2) (oo (P:Int) r) (fun n=>s n/2):=by
 obtain⟨sE,sS,s1,s2⟩:=mR (p:=(P:Int)) (k:=-1) (by omega) (by omega) h (by omega) (B':=B+1) (by omega) (by omega) (by omega) (by omega);obtain⟨O,_,_,o1,o2⟩:=sQ (p:=(P:Int)) (by omega) (by omega) sS (by omega) (by omega);rw[tz]at o1 o2
 have hE:oo (P:Int) r=eI (P:Int) false (bE (P:Int) false r.lo r.hi (-1)).lo (bE (P:Int) false r.lo r.hi (-1)).hi:=by
  unfold oo;rw[sS.bad]
 rw[hE];rw[s1]at o1;rw[s2]at o2;have H2:=H.mulc (c:=tp (-1)) (co _);rw[AP]at o1 o2 H2;obtain⟨u1,_,_⟩:=iJ hP1;have hle:=h.le;obtain⟨c1,c2⟩:=iT (t:=t) (cD P) u1 ht (show 0 < rv r.lo*(1/2) by grind) (show rv r.hi*(1/2)<=rv r.lo*(1/2)*(1+t) by grind) (by grind) o1 o2;refine⟨O.more (by omega),?_,.inl ⟨ou c1,c2⟩⟩
 have e:(fun n=>s n*(1/2))=fun n=>s n/2:=by funext n;grind
 rw[e]at H2;exact H2.mono o1.le o2.le
theorem oj {b x:Rat}(hu:0 < u)(hut:1024*u<=t)(ht1:1024*t<=1)(ha:0 < a)(hab:a<=b)(hb:b<=a*(1+t))(q1:Cd u 1 (x*b))(q2:Cu u 1 (z*a)):0 < x/\z<=x*(1+2*t)/\z*a<=1+u/\x*b<=1:=by
 have k1:=q1.pos (by decide);have k2:=q2.pos (by decide);have k3:=q1.le
 have hb0:0 < b:=by grind
 have hx:0 < x:=by
  refine Gn.1 fun hn=>?_
  have:=qK (show 0<=-x by grind) (ou hb0)
  grind
 refine⟨hx,?_,by grind,k3⟩;have s1:x*b<=x*(a*(1+t)):=lY hb (ou hx);have s2:(1-u)*(1+u)<=x*(a*(1+t))*(1+u):=mF (by grind) (by grind);have s3q:(1-u)*(z*a)<=(1-u)*(1+u):=lY (by grind) (by grind)
 have htu:t*u*1024<=u:=by
  have:=mF ht1 (ou hu)
  grind
 have s4:(1+t)*(1+u)<=(1-u)*(1+2*t):=by grind
 have hxa:=Bl hx ha;have s5:=lY s4 (ou hxa);have hc:0 < (1-u)*a:=Bl (by grind) ha;refine yb (c:=(1-u)*a) ?_ hc
 grind
theorem uq {b x l h:Rat}(hu:0 < u)(ht:0 < t)(hut:1024*u<=t)(ht1:1024*t<=1)(ha:0 < a)(hab:a<=b)(hb:b<=a*(1+t))(q1:Cd u 1 (x*b))(q2:Cu u 1 (z*a))(s1:Cd u (a+x) l)(s2:Cu u (b+z) h):0 < l/\h<=l*(1+3*t):=by
 obtain⟨hx,hz,_,_⟩:=oj hu hut ht1 ha hab hb q1 q2;have k1:=s1.pos (by grind)
 have hS:0 < a+x:=by grind
 have htx:0<=t*x:=qK (ou ht) (ou hx);have hta:0<=t*a:=qK (ou ht) (ou ha)
 have hw:b+z<=(a+x)*(1+2*t):=by grind
 have hbz:0<=b+z:=by
  rcases bT 0 z with h0 | h0
  . grind
  . exfalso
    have:=q2.le
    have:=qK (show 0<=-z by grind) (ou ha)
    grind
 have k2:=s2.pos hbz
 have hSu:(a+x)*u*1024<=a+x:=by
  have:=lY (show u*1024<=1 by grind) (ou hS)
  grind
 have l0:0 < l:=by grind
 refine⟨l0,?_⟩;have m1:(b+z)*(1+u)<=(a+x)*(1+2*t)*(1+u):=mF hw (by grind)
 have htu:t*u*1024<=u:=by
  have:=mF ht1 (ou hu)
  grind
 have m2:(1+2*t)*(1+u)<=(1-u)*(1+3*t):=by grind
 have m3:=lY m2 (ou hS);have m4:(a+x)*(1-u)*(1+3*t)<=l*(1+3*t):=mF k1 (by grind)
 grind
theorem tN {b x l h:Rat}(hu:0 < u)(ht:0 < t)(hut:1024*u<=t)(ht1:67108864*t<=1)(hab:a<=b)(hb:b<=a*(1+t))(hb1:65537<=b*65536)(q1:Cd u 1 (x*b))(q2:Cu u 1 (z*a))(s1:Cd u (a-z) l)(s2:Cu u (b-x) h):0 < l/\h<=l*(1+1310720*t):=by
 have ha1:131073<=a*131072:=by
  have h1:b*65536<=a*(1+t)*65536:=mF hb (by decide)
  refine Rat.not_lt.1 fun hn=>?_
  have h2:a*131072*t<=131073*t:=mF (by grind) (ou ht)
  grind
 have ha:0 < a:=by grind
 obtain⟨hx,hz,hza,hxb⟩:=oj hu hut (by grind) ha hab hb q1 q2;have haa:131073*a<=a*131072*a:=mF ha1 (ou ha)
 have hL:a<=(a-z)*131072:=by
  refine yb (c:=a) ?_ ha
  grind
 have hL0:0 < a-z:=by grind
 have hxa:x<=a:=by
  have h1:x*1<=x*b:=lY (by grind) (ou hx)
  grind
 have htx:t*x<=t*a:=lY hxa (ou ht)
 have hw:b-x<=(a-z)*(1+393216*t):=by
  have h1:t*a<=t*((a-z)*131072):=lY hL (ou ht)
  grind
 have k1:=s1.pos (ou hL0)
 have hbx:0<=b-x:=by
  have h1:x*1<=x*b:=lY (by grind) (ou hx)
  grind
 have k2:=s2.pos hbx
 have hSu:(a-z)*u*1024<=a-z:=by
  have:=lY (show u*1024<=1 by grind) (ou hL0)
  grind
 have l0:0 < l:=by grind
 refine⟨l0,?_⟩;have m1:(b-x)*(1+u)<=(a-z)*(1+393216*t)*(1+u):=mF hw (by grind)
 have htu:t*u*67108864<=u:=by
  have:=mF ht1 (ou hu)
  grind
 have m2:(1+393216*t)*(1+u)<=(1-u)*(1+1310720*t):=by grind
 have m3:=lY m2 (ou hL0);have m4:(a-z)*(1-u)*(1+1310720*t)<=l*(1+1310720*t):=mF k1 (by grind)
 grind
theorem qE (hP:16<=P):0 < uP (P+64)/\0 < dP P/\1024*uP (P+64)<=dP P/\67108864*dP P<=1/\2*(1310720*dP P)<=uP P:=by
 obtain⟨a,b,c⟩:=iJ hP;have h1:=cD P;have h2:=cD (P+64);have h3:=oD P;generalize uP (P+64)=v at *;generalize uP P=u at *;generalize dP P=t at *;exact⟨h2,h3,by grind,by grind,by grind⟩
theorem Cc (hP1:16<=P)(hP2:P<=1000)(h:eN P y V E)(hy:0<=y)(hB:jw B y)(hB2:B<=132000)(hd:Sq 64 ⟨false,d,d⟩)(hd1:rv d=1):
 cV P (B+3100) (oo (P:Int) (dC ((P:Int)+64) false (an P V E).lo (an P V E).hi (ff ((P:Int)+64) false d d (an P V E).lo (an P V E).hi).lo (ff ((P:Int)+64) false d d (an P V E).lo (an P V E).hi).hi)) (eJ y):=by
 obtain⟨D,H,q1,q2⟩:=km (p:=(P:Int)+64) (by omega) (by omega) hP1 hP2 h hy hB hB2 hd hd1;have hb:=hB.b;have b1:=h.b1;have b2:=h.b2;have e1:=h.e1;have t1:=h.top hy hB;obtain⟨S,p1,p2,p3,p4⟩:=fj (P:=P) (V:=V) (E:=E) (B:=B) (by omega) (by omega) (by omega) (by omega) (by omega) (by omega) (by omega);obtain⟨A,a1,a2⟩:=ql (p:=(P:Int)+64) (by omega) (by omega) (S.more (show B<=B+3000 by omega)) D (by omega) (by omega)
 have hp:((P:Int)+64).toNat=P+64:=by omega
 rw[hp]at q1 q2 a1 a2;have HP:=h.hl hy;rw[← p3,← p4]at HP;obtain⟨g1,g2,g3,g4,g5⟩:=qE hP1;obtain⟨l0,n1⟩:=uq g1 g2 g3 (by grind) p1 S.le p2 q1 q2 a1 a2;have HS:=(HP.add H).mono a1.le a2.le;have F:=ww hP1 (by omega) A l0 n1 (by grind) HS (by omega) (by omega);exact⟨F.q.more (by omega),F.hl,F.rel⟩
theorem zX :aW y 1=1+y:=by
 show 1+1*y/(((0:Nat):Rat)+1)=1+y
 have:((0:Nat):Rat)=0:=rfl
 rw[this,Rat.zero_add,Rat.div_def]
 grind
theorem Bg (hP1:16<=P)(hP2:P<=1000)(h:eN P y V E)(hy:1<=65536*y)(hB:jw B y)(hB2:B<=132000)(hd:Sq 64 ⟨false,d,d⟩)(hd1:rv d=1):
 cV P (B+3100) (oo (P:Int) (eT ((P:Int)+64) false (an P V E).lo (an P V E).hi (ff ((P:Int)+64) false d d (an P V E).lo (an P V E).hi).lo (ff ((P:Int)+64) false d d (an P V E).lo (an P V E).hi).hi)) (fG y):=by
 have hy0:0<=y:=by grind
 obtain⟨D,H,q1,q2⟩:=km (p:=(P:Int)+64) (by omega) (by omega) hP1 hP2 h hy0 hB hB2 hd hd1;have hb:=hB.b;have b1:=h.b1;have b2:=h.b2;have e1:=h.e1;have t1:=h.top hy0 hB;obtain⟨S,p1,p2,p3,p4⟩:=fj (P:=P) (V:=V) (E:=E) (B:=B) (by omega) (by omega) (by omega) (by omega) (by omega) (by omega) (by omega);obtain⟨A,a1,a2⟩:=vO (p:=(P:Int)+64) (by omega) (by omega) (S.more (show B<=B+3000 by omega)) D (by omega) (by omega)
 have hp:((P:Int)+64).toNat=P+64:=by omega
 rw[hp]at q1 q2 a1 a2;have HP:=h.hl hy0;have hb1:=h.hi 1;rw[zX,← p4]at hb1;rw[← p3,← p4]at HP;obtain⟨g1,g2,g3,g4,g5⟩:=qE hP1;obtain⟨l0,n1⟩:=tN g1 g2 g3 g4 S.le p2 (by grind) q1 q2 a1 a2;have HS:=(HP.sub H).mono a1.le a2.le;have F:=ww hP1 (by omega) A l0 n1 g5 HS (by omega) (by omega);exact⟨F.q.more (by omega),F.hl,F.rel⟩
theorem qH {odd:Nat}(hP1:16<=P)(hP2:P<=1000)(h:lA P odd y V):
 Sq 2000 (an P V (-((P+64:Nat):Int)))/\0 < rv (an P V (-((P+64:Nat):Int))).lo/\rv (an P V (-((P+64:Nat):Int))).hi<=rv (an P V (-((P+64:Nat):Int))).lo*(1+dP P) /\
 ∀ n,P+65<=n->rv (an P V (-((P+64:Nat):Int))).lo<=bf (gQ (ev odd) (y*y)) n/\bf (gQ (ev odd) (y*y)) n<=rv (an P V (-((P+64:Nat):Int))).hi:=by
 have b1:=h.b1;have b2:=h.b2;obtain⟨S,p1,p2,p3,p4⟩:=fj (P:=P) (V:=V) (E:=-((P+64:Nat):Int)) (B:=2000) (by omega) (by omega) (by omega) (by omega) (by omega) (by omega) (by omega);refine⟨S,p1,p2,fun n hn=>?_⟩;rw[p3,p4];exact h.h n hn
theorem xX (hP1:16<=P)(hP2:P<=1000)(h:lA P 0 y V):
 cV P 2001 (eI (P:Int) false (an P V (-((P+64:Nat):Int))).lo (an P V (-((P+64:Nat):Int))).hi) (eJ y):=by
 obtain⟨S,p1,p2,H⟩:=qH hP1 hP2 h;obtain⟨O,_,_,o1,o2⟩:=sQ (p:=(P:Int)) (by omega) (by omega) S (by omega) (by omega);rw[tz]at o1 o2;obtain⟨u1,_,_⟩:=iJ hP1;obtain⟨_,_,_,_,g5⟩:=qE hP1
 have:=oD P
 obtain⟨c1,c2⟩:=iT (cD P) u1 (by grind) p1 p2 S.le o1 o2;exact⟨O,(EW H).mono o1.le o2.le,.inl ⟨ou c1,c2⟩⟩
theorem DH {L H b:Rat}(h:vw L H y y a b)(hy:0<=y)(hab:a<=b):L=y*a/\H=y*b:=by
 have h1:=lY hab hy;have a1:=h.l1;have a2:=h.u2
 constructor
 . rcases h.lo with e | e | e | e <;> grind
 . rcases h.hi with e | e | e | e <;> grind
theorem wS (hP1:16<=P)(hP2:P<=1000)(hB0:2000<=B)(hB:B<=120000)(hx:Tq B x)(h0:0 < rv x)(h:lA P 1 (rv x) V):
 cV P (2*B+1) (lc (P:Int) false x x (an P V (-((P+64:Nat):Int))).lo (an P V (-((P+64:Nat):Int))).hi) (fG (rv x)):=by
 obtain⟨S,p1,p2,H⟩:=qH hP1 hP2 h;have X:Sq B ⟨false,x,x⟩:=⟨rfl,hx,hx,DE⟩;obtain⟨M,_,_,L,K,MM,m1,m2⟩:=ET (p:=(P:Int)) (by omega) (by omega) X (S.more hB0) (by omega) (by omega)
 dsimp only at M MM m1 m2
 obtain⟨e1,e2⟩:=DH MM (ou h0) S.le;rw[tz]at m1 m2;rw[e1]at m1;rw[e2]at m2;obtain⟨u1,_,_⟩:=iJ hP1;obtain⟨_,_,_,_,g5⟩:=qE hP1
 have:=oD P
 have s1:=lY p2 (ou h0);have s2:=lY S.le (ou h0);obtain⟨c1,c2⟩:=iT (t:=dP P) (cD P) u1 (by grind) (Bl h0 p1) (by grind) s2 m1 m2;refine⟨M,(EV (N:=P+65) fun n hn=>?_).mono m1.le m2.le,.inl ⟨ou c1,c2⟩⟩;obtain⟨g1,g2⟩:=H n hn;exact⟨lY g1 (ou h0),lY g2 (ou h0)⟩
theorem cV.neg (hP1:1<=P)(hP2:P<=8000)(h:cV P B r s)(hB0:0<=B):cV P B (gS (P:Int) false r.lo r.hi) (fun n=>- s n):=by
 obtain⟨hE,S,e1,e2⟩:=wh (p:=(P:Int)) (by omega) (by omega) h.q hB0;have H:=h.hl.neg;have R:=h.rel;rw[← e1,← e2]at H;refine⟨S,?_,?_⟩
 . rw[hE];exact H
 . rw[hE]
   show(0<=rv (aT r.hi)/\rv (aT r.lo)<=rv (aT r.hi)*(1+4*uP P))\/(rv (aT r.lo)<=0/\rv (aT r.lo)*(1+4*uP P)<=rv (aT r.hi))
   rw[e1,e2]
   rcases R with⟨h1,h2⟩ | ⟨h1,h2⟩
   . right;constructor <;> grind
   . left;constructor <;> grind
theorem oL (hx:Tq B x)(h:∀ n,s n=rv x)(h0:0<=rv x):cV P B ⟨false,x,x⟩ s:=by
 refine⟨⟨rfl,hx,hx,DE⟩,Hl.of (N:=0) fun n _=>by rw[h n];exact⟨DE,DE⟩,.inl ?_⟩
 have:=qK (ou (cD P)) h0
 exact⟨h0,show rv x<=rv x*(1+4*uP P) by grind⟩
section
variable {TW:TypeId}
def sz (x:DR):Rat:=(x.m:Rat)*tp x.e
structure ma (x:DR):Prop where
 ok:x.ok=true
 pl:aR x.neg x.m x.e=true
 b:nb x.m<=8000
 e1:-30000<=x.e
 t:x.e+(nb x.m:Int)<=17
 s:(x.m:Rat)*tp x.e<=65536
theorem bR (x:DR):0<=sz x:=j9 _ _
theorem lK (h:x.neg=false):rv x=sz x:=by unfold rv sz;rw[h,dc]
theorem qI (h:x.neg=true):rv x=- sz x:=by unfold rv sz;rw[h,fh]
theorem gW (h:x.m=0):sz x=0:=by unfold sz;rw[h];exact Rat.zero_mul _
theorem gX (h:x.m=0):rv x=0:=by unfold rv;rw[h,fL]
theorem xN (g P:Nat)(B:Int)(w:World)(hW:Wk TW w g (P:Int) false)(ha:am w (.slice A n c) x.m)(hT:bx w)(hP1:16<=P)(hP2:P<=1000)(hB:jw B (sz x))(hB2:B<=132000)(neg:Bool)(h0:x.m=0):
 Calls oY 46 #[.pointer (some ⟨g,0,none⟩),aP neg A n c x.e] w (fun e w'=>∃ r,cV P (B+3100) r (aW 0)/\ap TW w g (P:Int) r e w'):=by
 have S:=(mA hW (.bool neg) (.slice A n c) (.int .i64 x.e)).num (((ha.below (ag w _)).below (ag _ _)));have TB:Hid (∀ w' ks ns,St TW w g (P:Int) false w' ks ns->bx w'):=oM (fun w' ks ns h=>hT.wk hW h.O);have hbb:=hB.b;obtain⟨p,hp⟩:∃ p:Int,p=(P:Int):=⟨_,rfl⟩;have IZ:Hid (∀ w' ns,St TW w g (P:Int) false w' [(31,w.heap.size+1,zs),(24,w.heap.size,#[.bool neg,.slice A n c,.int .i64 x.e])] ns->am w' (.slice A n c) x.m->Calls oY 90 #[.agg #[.bool neg,.slice A n c,.int .i64 x.e]] w' (fun r w''=>r=.returned (.bool (decide (x.m=0)))/\Below w'.heap.size w' w'')):=oM (fun w' ns _ h1=>df neg x.e h1);obtain⟨d,d1,d2,d3,-,-⟩:=jb (p:=(P:Int)) (by omega) (by omega);have C2:Hid (∀ w' ks ns,St TW w g (P:Int) false w' ks ns->Calls oY 31 #[.pointer (some ⟨g,0,none⟩),.int .i64 1] w' (fun e w''=>∃ r,cV P (B+3100) r (aW 0)/\ap TW w' g (P:Int) r e w'')):=oM (fun w' ks ns h=>(fO 1 g (P:Int) false w' h.W (TB.out _ _ _ h) (by omega) (by omega)).mono fun e w'' hp=>⟨_,by rw[d1];exact oL (d2.l.more (by omega)) (fun n=>by rw[lh];exact d3.symm) (by show 0<=rv d;rw[d3];decide),hp⟩);have hd:decide (x.m=0)=true:=decide_eq_true h0;have C3q:=IZ.out _ _ S S.ns.1;rw[hd]at C3q;have HC3:=oM C3q;rw[← hp]at S C2 ⊢;clear C3q IZ hp TB hT hW hd hB hB2 hbb ha h0 d1 d2 d3 d;go_enter Gm,Gl;go_wp2_with fail;refine HC3.out.mono ?_;rintro e' v1 ⟨rfl,b1⟩;replace S:=S.below b1;have KY2:=oM (C2.out _ _ _ S);clear HC3 b1 C2;go_wp2_with fail;refine KY2.out.mono ?_;rintro e' v2 ⟨r,AO,A9,n9,c9,B9,m9,d9,rfl,N1,M1,W1,o1⟩;have V2:=((S.only o1 W1).num M1).num N1;have z1:=V2.ks.1.1;obtain⟨z1c0,z1c1,z1c2,z1c3,z1c4,z1c5⟩:=z1.c6;obtain⟨z1f0,z1f1,z1f2,z1f3,z1f4,z1f5⟩:=z1.f6;have z1l:=z1.2;have z1n:=DF z1.2;have z1n2:=EM z1.2;go_wp2_with fail;obtain⟨x1,x2,x3,x4⟩:=V2.give (lo:=r.lo) (hi:=r.hi) V2.ns.1 V2.ns.2.1 z1 (by omega);exact bodyPost_ret (v:=aG r.lo.neg A9 n9 c9 r.lo.e r.hi.neg B9 m9 d9 r.hi.e) (by simp[results,Gk,go_sem,z1c0,z1c1,z1c2,z1c3,z1c4,z1c5]) rfl ⟨r,AO,A9,n9,c9,B9,m9,d9,rfl,x1,x2,x3,x4⟩
theorem zY (g P:Nat)(B:Int)(w:World)(hW:Wk TW w g (P:Int) false)(ha:am w (.slice A n c) x.m)(hx:ma x)(hT:bx w)(hP1:16<=P)(hP2:P<=1000)(hB:jw B (sz x))(hB2:B<=132000)(h0:x.m≠0):
 Calls oY 46 #[.pointer (some ⟨g,0,none⟩),aP false A n c x.e] w (fun e w'=>∃ r,cV P (B+3100) r (aW (sz x))/\ap TW w g (P:Int) r e w'):=by
 have S:=(mA hW (.bool false) (.slice A n c) (.int .i64 x.e)).num (((ha.below (ag w _)).below (ag _ _)));have TB:Hid (∀ w' ks ns,St TW w g (P:Int) false w' ks ns->bx w'):=oM (fun w' ks ns h=>hT.wk hW h.O);have hbb:=hB.b;obtain⟨p,hp⟩:∃ p:Int,p=(P:Int):=⟨_,rfl⟩;have IZ:Hid (∀ w' ns,St TW w g (P:Int) false w' [(31,w.heap.size+1,zs),(24,w.heap.size,#[.bool false,.slice A n c,.int .i64 x.e])] ns->am w' (.slice A n c) x.m->Calls oY 90 #[.agg #[.bool false,.slice A n c,.int .i64 x.e]] w' (fun r w''=>r=.returned (.bool (decide (x.m=0)))/\Below w'.heap.size w' w'')):=oM (fun w' ns _ h1=>df false x.e h1);have C1:Hid (∀ w' ks ns,St TW w g (P:Int) false w' ks ns->am w' (.slice A n c) x.m->Calls oY 92 #[.pointer (some ⟨g,0,none⟩),aP false A n c x.e] w' (fun e w''=>∃ V E,eN P (sz x) V E/\ap TW w' g (P:Int) (an P V E) e w'')):=oM (fun w' ks ns h h1=>iR g P w' h.W h1 (TB.out _ _ _ h) hP1 (by omega) (by have:=hx.b;omega) (by have:=hx.e1;omega) hx.t hx.s)
 have C2:Hid (∀ w' ks ns V E A0 n0 c0 B0 m0 d0,eN P (sz x) V E->St TW w g (P:Int) false w' ks ns->am w' (.slice A0 n0 c0) (an P V E).lo.m->am w' (.slice B0 m0 d0) (an P V E).hi.m->Calls oY 94 #[.pointer (some ⟨g,0,none⟩),aG (an P V E).lo.neg A0 n0 c0 (an P V E).lo.e (an P V E).hi.neg B0 m0 d0 (an P V E).hi.e] w' (fun e w''=>∃ r,cV P (B+3100) r (aW (sz x))/\ap TW w' g (P:Int) r e w'')):=oM (fun w' ks ns V E _ _ _ _ _ _ ok h h1 h2=>by
  have b1:=ok.b1;have b2:=ok.b2;have e1:=ok.e1;have t1:=ok.top (bR x) hB;obtain⟨Sq',_⟩:=fj (P:=P) (V:=V) (E:=E) (B:=B) (by omega) (by omega) (by omega) (by omega) (by omega) (by omega) (by omega);have G:=Sq'.good;have AO:=uX hP1 hP2 ok (bR x) hB hB2
  exact(ny g (P:Int) false w' h.W (aC.of_num h1 G.l2 G.l1) (aC.of_num h2 G.h2 G.h1) (TB.out _ _ _ h)).mono fun e w'' hp=>⟨_,⟨AO.q.more (by omega),AO.hl,AO.rel⟩,hp⟩)
 have hd:decide (x.m=0)=false:=decide_eq_false h0;have C3q:=IZ.out _ _ S S.ns.1;rw[hd]at C3q;have HC3:=oM C3q;rw[← hp]at S C1 C2 ⊢;clear C3q IZ hp TB hT hW hd hB hB2 hbb hx ha h0;go_enter Gm,Gl;go_wp2_with fail;refine HC3.out.mono ?_;rintro e' v1 ⟨rfl,b1⟩;replace S:=S.below b1;clear HC3 b1;have k0:=S.ks.2.1.1.at_ 0 _ rfl;have kl:=S.ks.2.1.1.2;have kl2:=S.ks.1.1.2;go_upto_region 5 with fail;have SD:=S.drew;have sd1:am v1.drew (.slice A n c) x.m:=SD.ns.1;have HCC:Hid (∀ b' w' ns,St TW w g p b' w' [(31,w.heap.size+1,zs),(24,w.heap.size,#[.bool false,.slice A n c,.int .i64 x.e])] ns->C3 w' (w.heap.size) (.bool false) (.slice A n c) (.int .i64 x.e)):=oM (fun b' w' ns h=>(h.ks.2.1.1.c3));have HPP:Hid (∀ b' w' ns,St TW w g p b' w' [(31,w.heap.size+1,zs),(24,w.heap.size,#[.bool false,.slice A n c,.int .i64 x.e])] ns->∀ q1 q2 q3 q4 q5 q6,C3 (put6 w' (w.heap.size+1) q1 q2 q3 q4 q5 q6) (w.heap.size) (.bool false) (.slice A n c) (.int .i64 x.e)):=oM (fun b' w' ns h q1 q2 q3 q4 q5 q6=>((h.ks.2.1.1.only (aK w' (w.heap.size+1) q1 q2 q3 q4 q5 q6) (by omega)).c3));have XS:=HCC.out _ _ _ SD;clear S k0
 go_region_held3 (fun w'=>C3 w' (w.heap.size) (.bool false) (.slice A n c) (.int .i64 x.e))
  (first | with_reducible exact HPP.out _ _ _ V2 _ _ _ _ _ _ | with_reducible exact HCC.out _ _ _ V2 | with_reducible exact HCC.out _ _ _ V1 | with_reducible exact XS)
  (first
   | (go_at_call 92;refine(C1.out _ _ _ SD sd1).mono ?_;rintro e' v2 ⟨V,E,ok,A1,n1,c1,B1,m1,d1,rfl,N1,M1,W1,o1⟩;have V1:=((SD.only o1 (show Wk TW _ g p false from W1)).num M1).num N1;have u1:=V1.ns.1;have u2:=V1.ns.2.1)
   | (go_at_call 94;refine(C2.out _ _ _ _ _ _ _ _ _ _ _ ok V1 u1 u2).mono ?_;rintro e' v3 ⟨r,AO,A2,n2,c2,B2,m2,d2,rfl,N2,M2,W2,o2⟩;have V2:=((V1.only o2 W2).num M2).num N2;have z1:=V2.ks.1.1;obtain⟨z1c0,z1c1,z1c2,z1c3,z1c4,z1c5⟩:=z1.c6;obtain⟨z1f0,z1f1,z1f2,z1f3,z1f4,z1f5⟩:=z1.f6;have z1l:=z1.2;have z1n:=DF z1.2;have z1n2:=EM z1.2))
 go_wp2_with fail;obtain⟨x1,x2,x3,x4⟩:=V2.give (lo:=r.lo) (hi:=r.hi) V2.ns.1 V2.ns.2.1 z1 (by omega);exact bodyPost_ret (v:=aG r.lo.neg A2 n2 c2 r.lo.e r.hi.neg B2 m2 d2 r.hi.e) (by simp[results,Gk,go_sem,z1c0,z1c1,z1c2,z1c3,z1c4,z1c5]) rfl ⟨r,AO,A2,n2,c2,B2,m2,d2,rfl,x1,x2,x3,x4⟩
theorem z7 (g P:Nat)(B:Int)(w:World)(hW:Wk TW w g (P:Int) false)(ha:am w (.slice A n c) x.m)(hx:ma x)(hT:bx w)(hP1:16<=P)(hP2:P<=1000)(hB:jw B (sz x))(hB2:B<=132000)(h0:x.m≠0):
 Calls oY 46 #[.pointer (some ⟨g,0,none⟩),aP true A n c x.e] w (fun e w'=>∃ r,cV P (B+3100) r (aW (-(sz x)))/\ap TW w g (P:Int) r e w'):=by
 have S:=(mA hW (.bool true) (.slice A n c) (.int .i64 x.e)).num (((ha.below (ag w _)).below (ag _ _)));have TB:Hid (∀ w' ks ns,St TW w g (P:Int) false w' ks ns->bx w'):=oM (fun w' ks ns h=>hT.wk hW h.O);have hbb:=hB.b;obtain⟨p,hp⟩:∃ p:Int,p=(P:Int):=⟨_,rfl⟩;have IZ:Hid (∀ w' ns,St TW w g (P:Int) false w' [(31,w.heap.size+1,zs),(24,w.heap.size,#[.bool true,.slice A n c,.int .i64 x.e])] ns->am w' (.slice A n c) x.m->Calls oY 90 #[.agg #[.bool true,.slice A n c,.int .i64 x.e]] w' (fun r w''=>r=.returned (.bool (decide (x.m=0)))/\Below w'.heap.size w' w'')):=oM (fun w' ns _ h1=>df true x.e h1);have C1:Hid (∀ w' ks ns,St TW w g (P:Int) false w' ks ns->am w' (.slice A n c) x.m->Calls oY 92 #[.pointer (some ⟨g,0,none⟩),aP false A n c x.e] w' (fun e w''=>∃ V E,eN P (sz x) V E/\ap TW w' g (P:Int) (an P V E) e w'')):=oM (fun w' ks ns h h1=>iR g P w' h.W h1 (TB.out _ _ _ h) hP1 (by omega) (by have:=hx.b;omega) (by have:=hx.e1;omega) hx.t hx.s);obtain⟨d,d1,d2,d3,d4,d5⟩:=jb (p:=(P:Int)) (by omega) (by omega);have C4:Hid (∀ w' ks ns,St TW w g (P:Int) false w' ks ns->Calls oY 31 #[.pointer (some ⟨g,0,none⟩),.int .i64 1] w' (ap TW w' g (P:Int) ⟨false,d,d⟩)):=oM (fun w' ks ns h=>by rw[← d1];exact fO 1 g (P:Int) false w' h.W (TB.out _ _ _ h) (by omega) (by omega));have C5:Hid (∀ w',Calls oY 93 #[.agg #[.bool true,.slice A n c,.int .i64 x.e]] w' fun r w''=>r=.returned (.agg #[.bool false,.slice A n c,.int .i64 x.e])/\Below w'.heap.size w' w''):=oM (fun w'=>gy true A n c x.e w')
 have C2:Hid (∀ w' ks ns V E A0 n0 c0 B0 m0 d0 A7 n7 c7 B7 m7 d7,eN P (sz x) V E->St TW w g (P:Int) false w' ks ns->am w' (.slice A7 n7 c7) d.m->am w' (.slice B7 m7 d7) d.m->am w' (.slice A0 n0 c0) (an P V E).lo.m->am w' (.slice B0 m0 d0) (an P V E).hi.m->Calls oY 91 #[.pointer (some ⟨g,0,none⟩),aG d.neg A7 n7 c7 d.e d.neg B7 m7 d7 d.e,aG (an P V E).lo.neg A0 n0 c0 (an P V E).lo.e (an P V E).hi.neg B0 m0 d0 (an P V E).hi.e] w' (fun e w''=>∃ r,cV P (B+3100) r (aW (-(sz x)))/\ap TW w' g (P:Int) r e w'')):=oM (fun w' ks ns V E _ _ _ _ _ _ _ _ _ _ _ _ ok h h3 h4 h1 h2=>by
  have b1:=ok.b1;have b2:=ok.b2;have e1:=ok.e1;have t1:=ok.top (bR x) hB;obtain⟨Sq',_⟩:=fj (P:=P) (V:=V) (E:=E) (B:=B) (by omega) (by omega) (by omega) (by omega) (by omega) (by omega) (by omega);have G:=Sq'.good;have AO:=uY hP1 hP2 ok (bR x) hB hB2 d2 d3
  exact(ro g (P:Int) false w' h.W (aC.of_num h3 d4 d5) (aC.of_num h4 d4 d5) (aC.of_num h1 G.l2 G.l1) (aC.of_num h2 G.h2 G.h1) (TB.out _ _ _ h)).mono fun e w'' hp=>⟨_,⟨AO.q.more (by omega),AO.hl,AO.rel⟩,hp⟩)
 have hd:decide (x.m=0)=false:=decide_eq_false h0;have C3q:=IZ.out _ _ S S.ns.1;rw[hd]at C3q;have HC3:=oM C3q;rw[← hp]at S C1 C2 C4 ⊢;clear C3q IZ hp TB hT hW hd hB hB2 hbb hx ha h0 d1 d2 d3 d4 d5;go_enter Gm,Gl;go_wp2_with fail;refine HC3.out.mono ?_;rintro e' v1 ⟨rfl,b1⟩;replace S:=S.below b1;clear HC3 b1;have k0:=S.ks.2.1.1.at_ 0 _ rfl;have kl:=S.ks.2.1.1.2;have kl2:=S.ks.1.1.2;go_upto_region 4 with fail;have SD:=S.drew;have HCC:Hid (∀ b' w' ns,St TW w g p b' w' [(31,w.heap.size+1,zs),(24,w.heap.size,#[.bool true,.slice A n c,.int .i64 x.e])] ns->C3 w' (w.heap.size) (.bool true) (.slice A n c) (.int .i64 x.e)):=oM (fun b' w' ns h=>(h.ks.2.1.1.c3));have HPP:Hid (∀ b' w' ns,St TW w g p b' w' [(31,w.heap.size+1,zs),(24,w.heap.size,#[.bool true,.slice A n c,.int .i64 x.e])] ns->∀ q1 q2 q3 q4 q5 q6,C3 (put6 w' (w.heap.size+1) q1 q2 q3 q4 q5 q6) (w.heap.size) (.bool true) (.slice A n c) (.int .i64 x.e)):=oM (fun b' w' ns h q1 q2 q3 q4 q5 q6=>((h.ks.2.1.1.only (aK w' (w.heap.size+1) q1 q2 q3 q4 q5 q6) (by omega)).c3));have XS:=HCC.out _ _ _ SD;clear S k0
 go_region_held3 (fun w'=>C3 w' (w.heap.size) (.bool true) (.slice A n c) (.int .i64 x.e))
  (first | with_reducible exact HPP.out _ _ _ V4 _ _ _ _ _ _ | with_reducible exact HCC.out _ _ _ V4 | with_reducible exact HCC.out _ _ _ V3 | with_reducible exact HCC.out _ _ _ V2 | with_reducible exact HCC.out _ _ _ V1 | with_reducible exact XS)
  (first
   | (go_at_call 31;refine(C4.out _ _ _ SD).mono ?_;rintro e' v2 ⟨A1,n1,c1,B1,m1,d1,rfl,N1,M1,W1,o1⟩;have V1:=((SD.only o1 W1).num M1).num N1)
   | (go_at_call 93;refine(C5.out _).mono ?_;rintro e' v3 ⟨rfl,b3⟩;have V2:=V1.below b3;have u3:=V2.ns.2.2.1)
   | (go_at_call 92;refine(C1.out _ _ _ V2 u3).mono ?_;rintro e' v4 ⟨V,E,ok,A3,n3,c3,B3,m3,d3,rfl,N3,M3,W3,o3⟩;have V3:=((V2.only o3 (show Wk TW _ g p false from W3)).num M3).num N3;have u1:=V3.ns.1;have u2:=V3.ns.2.1;have u4:=V3.ns.2.2.1;have u5:=V3.ns.2.2.2.1)
   | (go_at_call 91;refine(C2.out _ _ _ _ _ _ _ _ _ _ _ _ _ _ _ _ _ ok V3 u4 u5 u1 u2).mono ?_;rintro e' v5 ⟨r,AO,A4,n4,c4,B4,m4,d4,rfl,N4,M4,W4,o4⟩;have V4:=((V3.only o4 W4).num M4).num N4;have z1:=V4.ks.1.1;obtain⟨z1c0,z1c1,z1c2,z1c3,z1c4,z1c5⟩:=z1.c6;obtain⟨z1f0,z1f1,z1f2,z1f3,z1f4,z1f5⟩:=z1.f6;have z1l:=z1.2;have z1n:=DF z1.2;have z1n2:=EM z1.2))
 go_wp2_with fail;obtain⟨x1,x2,x3,x4⟩:=V4.give (lo:=r.lo) (hi:=r.hi) V4.ns.1 V4.ns.2.1 z1 (by omega);exact bodyPost_ret (v:=aG r.lo.neg A4 n4 c4 r.lo.e r.hi.neg B4 m4 d4 r.hi.e) (by simp[results,Gk,go_sem,z1c0,z1c1,z1c2,z1c3,z1c4,z1c5]) rfl ⟨r,AO,A4,n4,c4,B4,m4,d4,rfl,x1,x2,x3,x4⟩
theorem oz (g P:Nat)(B:Int)(w:World)(hW:Wk TW w g (P:Int) false)(ha:am w (.slice A n c) x.m)(hx:ma x)(hT:bx w)(hP1:16<=P)(hP2:P<=1000)(hB:jw B (sz x))(hB2:B<=132000):
 Calls oY 46 #[.pointer (some ⟨g,0,none⟩),aP x.neg A n c x.e] w (fun e w'=>∃ r,cV P (B+3100) r (aW (rv x))/\ap TW w g (P:Int) r e w'):=by
 by_cases h0:x.m=0
 . rw[gX h0]
   exact xN g P B w hW ha hT hP1 hP2 hB hB2 x.neg h0
 . cases hn:x.neg
   . rw[lK hn]
     exact zY g P B w hW ha hx hT hP1 hP2 hB hB2 h0
   . rw[qI hn]
     exact z7 g P B w hW ha hx hT hP1 hP2 hB hB2 h0
end
structure eX (T T':TypeId)(w:World)(g:Nat)(p:Int)(wi:World)(ks:List (TypeId×Nat×Array Value))(ns:List (Value×Nat))(gi:Nat)(p':Int):Prop where
 S:St T w g p false wi ks ns
 W2:Wk T' wi gi p' false
 hgi:w.heap.size<=gi
 ne:mG gi ks
section
variable {T T':TypeId} {w wi wj:World} {g gi:Nat} {p p':Int} {ks:List (TypeId×Nat×Array Value)} {ns:List (Value×Nat)}
theorem eX.below (h:eX T T' w g p wi ks ns gi p')(b:Below wi.heap.size wi wj):eX T T' w g p wj ks ns gi p':=⟨h.S.below b,h.W2.below b,h.hgi,h.ne⟩
theorem eX.drew (h:eX T T' w g p wi ks ns gi p'):eX T T' w g p wi.drew ks ns gi p':=h.below (Below.refl _ wi).drew
theorem eX.num (h:eX T T' w g p wi ks ns gi p'){v:Value}(n:am wi v V):eX T T' w g p wi ks ((v,V) :: ns) gi p':=⟨h.S.num n,h.W2,h.hgi,h.ne⟩
theorem eX.onI (h:eX T T' w g p wi ks ns gi p')(o:az wi wj gi)(W':Wk T' wj gi p' false):eX T T' w g p wj ks ns gi p' :=
 ⟨h.S.other o h.hgi (h.S.ks.put o h.ne) (h.S.ns.wk h.W2 o),W',h.hgi,h.ne⟩
theorem mI {b:Bool}(h:Wk T' wi gi p' b)(o:az wi wj g)(hne:gi≠g):Wk T' wj gi p' b:=⟨(o.block gi h.2 (by simpa using hne)).trans h.1,Nat.lt_of_lt_of_le h.2 o.size⟩
theorem eX.onC (h:eX T T' w g p wi ks ns gi p')(o:az wi wj g)(W':Wk T wj g p false):eX T T' w g p wj ks ns gi p' :=
 ⟨h.S.only o W',mI h.W2 o (by have:=h.S.hg;have:=h.hgi;omega),h.hgi,h.ne⟩
theorem eX.alloc (h:eX T T' w g p wi ks ns gi p')(U:TypeId)(cs:Array Value):eX T T' w g p (wi.alloc (.cells cs U)) ((U,wi.heap.size,cs) :: ks) ns gi p' :=
 ⟨h.S.alloc U cs,h.W2.below (ag wi _),h.hgi,⟨by have:=h.W2.2;omega,h.ne⟩⟩
end
end Go.Proofs.YtmbmohibpkepdaaGreatDoor
