import Derived.Test.YtmbmohibpkepdaaGreatDoorPlSGEx3
import Derived.Test.YtmbmohibpkepdaaGreatDoorPlSGEx4
set_option maxRecDepth 8000
set_option maxHeartbeats 4000000
open Go.Lib renaming hid->lY
open Go.Proofs.Tryz renaming prog->mF
open Nat renaming ne_of_lt->ou, ne_of_gt->oM
namespace Go.Proofs.YtmbmohibpkepdaaGreatDoor
open Go.RowKit
variable {V:Nat} {p:Int}
section
variable {TW:TypeId}
theorem mu {v:Value}(e:Int)(g:Nat)(p:Int)(w:World)(hW:Wk TW w g p false)(h:am w v V)(hT:bx w)(hp1:1<=p)(hp2:p<=8192)(hV:nb V<=9000)(he1:-262000<=e)(he2:e+(nb V:Int)<=262000):
 Calls mF 185 #[.pointer (some ⟨g,0,none⟩),v,.int .i64 e] w (ap TW w g p ⟨false,bH false V e,bH false V e⟩):=by
 obtain⟨A,n,c,f,rfl,hs,hn,hc,hVe⟩:=h.raw 1000 (by omega);have S:=(St.start hW).alloc 31 zs;have MK:=lY (de false A n c f e _ ((hs.below (ag w (.cells zs 31)))) (by omega) (hT.below (ag w (.cells zs 31))) (by omega) (by omega));rw[hVe]at MK;have Q:=(jP (neg:=false) (V:=V) (e:=e) (B:=262000) (by omega) (by omega) hV (by omega) (by omega)).1;have PT:=lY (oW hp1 hp2 Q).1;have hok:=Q.ok;have hpl:=Q.pl;clear Q;generalize bH false V e=r at *;go_enter Tryz.func185,Tryz.ntmps185;go_wp2_with fail;refine MK.out.mono ?_;intro e' v1 hd;obtain⟨A1,n1,c1,rfl,m1,b1⟩:=hd.dp;replace S:=(S.below b1).num m1;clear MK b1 hd m1;have k1:=S.ks.1.1;have k1_0:=k1.at_ 0 _ rfl;have k1l:=k1.2;go_wp2_with fail;replace S:=S.alloc 24 #[.bool r.neg,.slice A1 n1 c1,.int .i64 r.e];clear k1 k1_0;generalize v1.alloc (.cells #[.bool r.neg,.slice A1 n1 c1,.int .i64 r.e] 24)=y1 at *;have SD:=S.drew
 have C1:Hid (∀ w' ns,St TW w g p false w' [(24,v1.heap.size,s3 r A1 n1 c1),(31,w.heap.size,zs)] ns->am w' (.slice A1 n1 c1) r.m->Calls mF 13 #[.pointer (some ⟨g,0,none⟩),aP r.neg A1 n1 c1 r.e] w' (ap TW w' g p ⟨false,r,r⟩)):=lY (fun w' ns h h1=>by
  rw[← PT.out]
  exact gY g p false w' h.W (aC.of_num h1 hpl hok))
 have HCC:Hid (∀ w' ns,St TW w g p false w' [(24,v1.heap.size,s3 r A1 n1 c1),(31,w.heap.size,zs)] ns->C3 w' (v1.heap.size) (.bool r.neg) (.slice A1 n1 c1) (.int .i64 r.e)):=lY (fun w' ns h=>(h.ks.1.1.c3));have HPP:Hid (∀ w' ns,St TW w g p false w' [(24,v1.heap.size,s3 r A1 n1 c1),(31,w.heap.size,zs)] ns->∀ q1 q2 q3 q4 q5 q6,C3 (put6 w' (w.heap.size) q1 q2 q3 q4 q5 q6) (v1.heap.size) (.bool r.neg) (.slice A1 n1 c1) (.int .i64 r.e)):=lY (fun w' ns h q1 q2 q3 q4 q5 q6=>((h.ks.1.1.only (aK w' (w.heap.size) q1 q2 q3 q4 q5 q6) (by omega)).c3));have XS:=HCC.out _ _ SD;clear S PT
 go_region_held3 (fun w'=>C3 w' (v1.heap.size) (.bool r.neg) (.slice A1 n1 c1) (.int .i64 r.e))
  (first | with_reducible exact HPP.out _ _ V2 _ _ _ _ _ _ | with_reducible exact HCC.out _ _ V2 | with_reducible exact XS)
  (first | (go_at_call 13;refine(C1.out _ _ SD SD.ns.1).mono ?_;rintro e' v2 ⟨A2,n2,c2,B2,m2,d2,rfl,N1,N2,W2,o2⟩;have V2:=((SD.only o2 W2).num N2).num N1;have z1:=V2.ks.2.1.1;obtain⟨z1c0,z1c1,z1c2,z1c3,z1c4,z1c5⟩:=z1.c6;obtain⟨z1f0,z1f1,z1f2,z1f3,z1f4,z1f5⟩:=z1.f6;have z1l:=z1.2;have z1n:=ou z1.2;have z1n2:=oM z1.2))
 go_wp2_with fail;have y1':=V2.ns.1;have y2':=V2.ns.2.1;obtain⟨x1,x2,x3,x4⟩:=V2.give (lo:=r) (hi:=r) y1' y2' z1 (by omega);exact bodyPost_ret (v:=aG r.neg A2 n2 c2 r.e r.neg B2 m2 d2 r.e) (by simp[results,Tryz.results185,go_sem,z1c0,z1c1,z1c2,z1c3,z1c4,z1c5]) rfl ⟨A2,n2,c2,B2,m2,d2,rfl,x1,x2,x3,x4⟩
def eL (P V:Nat):Nat:=2^(nb V-(P+32))
def an (P V:Nat)(e:Int):SRes:=⟨false,bH false V e,bH false (V+eL P V) e⟩
theorem qV {P:Nat}(h:P+33<=nb V):nb (V+eL P V)<=nb V+1/\nb (eL P V)<=nb V:=by
 have h1:nb (eL P V)<=nb V:=by
  unfold eL;rw[lb];omega
 exact⟨lW (by omega) h1,h1⟩
theorem BS {B:Int}(hp1:1<=p)(hp2:p<=8192){a b:DR}(h:Tq B a)(k:Tq B b)(hab:rv a < rv b):dy p false a a b b=⟨false,a,b⟩:=by
 have hb:dL p false a a b b=false:=by
  unfold dL;rw[aM h h Rat.le_refl,aM k k Rat.le_refl,gc hp1 hp2]
  rfl
 unfold dy;rw[hb,nh k h,nh h k,decide_eq_true hab,decide_eq_false (by have:=Rat.le_of_lt hab;exact Rat.not_lt.2 this)]
 rfl
theorem DS {P:Nat}{e:Int}(hP1:1<=P)(hV1:P+33<=nb V)(hV:nb V<=8900)(he1:-261000<=e)(he2:e+(nb V:Int)<=261000):
 Tq 262000 (bH false V e)/\Tq 262000 (bH false (V+eL P V) e)/\rv (bH false V e)=(V:Rat)*tp e/\rv (bH false (V+eL P V) e)=((V:Rat)+(eL P V:Rat))*tp e/\rv (bH false V e) < rv (bH false (V+eL P V) e):=by
 obtain⟨n1,n2⟩:=qV hV1;have q1:=jP (neg:=false) (V:=V) (e:=e) (B:=262000) (by omega) (by omega) (by omega) (by omega) (by omega);have q2:=jP (neg:=false) (V:=V+eL P V) (e:=e) (B:=262000) (by omega) (by omega) (by omega) (by omega) (by omega);have e1:=q1.2.1;have e2:=q2.2.1;rw[dc]at e1 e2;rw[Rat.natCast_add]at e2;refine⟨q1.1,q2.1,e1,e2,?_⟩;rw[e1,e2];have h0:(0:Rat) < (eL P V:Rat):=Rat.natCast_pos.2 (Nat.two_pow_pos _)
 have:=Rat.mul_pos h0 (co e)
 grind
theorem qd {v:Value}(e:Int)(g P:Nat)(w:World)(hW:Wk TW w g (P:Int) false)(h:am w v V)(hT:bx w)(hP1:1<=P)(hP2:P<=8000)(hV1:P+33<=nb V)(hV:nb V<=8900)(he1:-261000<=e)(he2:e+(nb V:Int)<=261000):
 Calls mF 157 #[.pointer (some ⟨g,0,none⟩),v,.int .i64 e] w (ap TW w g (P:Int) (an P V e)):=by
 obtain⟨A,n,c,f,rfl,hs,hn,hc,hVe⟩:=h.raw 1000 (by omega);obtain⟨Q1,Q2,_,_,Q5⟩:=DS hP1 hV1 hV he1 he2;obtain⟨b1,b2⟩:=qV hV1;obtain⟨L,hL⟩:=du (nb V-(P+32));have HU:=lY (BS (p:=(P:Int)) (by omega) (by omega) Q1 Q2 Q5);have HR:Hid (an P V e=⟨false,bH false V e,bH false (V+eL P V) e⟩):=lY rfl;obtain⟨l,hl⟩:=du (eL P V);have hl2:Hid (l=2^L):=lY (by rw[hl,hL];rfl);rw[← hl]at b1 b2 HU HR Q2;obtain⟨N,hN⟩:=du (nb V);obtain⟨p,hp⟩:∃ p:Int,p=(P:Int):=⟨_,rfl⟩;have hw1:IntKind.i64.wrap ((N:Int)-p)=(N:Int)-p:=aE (by omega) (by omega)
 have hw2:IntKind.i64.wrap ((N:Int)-p-32)=(L:Int):=by rw[aE (by omega) (by omega)];omega
 rw[← hp]at hW HU ⊢;have S:=((St.start hW).alloc 31 zs).num (h.below (ag w (.cells zs 31)));have TB:Hid (∀ w' ks ns,St TW w g p false w' ks ns->bx w'):=lY (fun w' ks ns h=>hT.wk hW h.O)
 have C0:Hid (∀ w' ns,St TW w g p false w' [(31,w.heap.size,zs)] ns->am w' (.slice A n c) V->Calls mF 117 #[.slice A n c] w' (fun r w''=>r=.returned (.int .i64 (N:Int))/\w'=w'')):=lY (fun w' ns _ h1=>by
  obtain⟨A0,n0,c0,f0,h0,hs0,hn0,_,hv0⟩:=h1.raw 1000 (by omega);cases h0;refine(fs A n c f0 w' hs0 (by omega)).mono ?_;rintro e' w2 ⟨B,rfl,hB,rfl⟩;obtain rfl:=hJ hB;rw[hv0,← hN]
  exact⟨rfl,rfl⟩)
 have C1:Hid (∀ w' ns,St TW w g p false w' [(31,w.heap.size,zs)] ns->∀ a,a=w'.heap.size->Calls mF 123 #[.slice (some ⟨a,0,none⟩) 1 1,.int .i64 (L:Int)] (w'.alloc (.cells #[.int .u64 1] 51)).drew (NP (w'.alloc (.cells #[.int .u64 1] 51)).drew l)):=lY (fun w' ns _ a ha=>by
  subst ha;have nA:am (w'.alloc (.cells #[.int .u64 1] 51)).drew (.slice (some ⟨w'.heap.size,0,none⟩) 1 1) 1:=iN (Sl.drew (kV 51 w' 1 _ 1 (by unfold ai;omega) rfl rfl)) (by omega)
  have:=oV (s:=L) _ nA (by rw[sX];omega) (by omega)
  rw[Nat.one_mul]at this;rw[hl2.out]
  exact this)
 have C2:Hid (∀ w' ns,St TW w g p false w' [(31,w.heap.size,zs)] ns->am w' (.slice A n c) V->Calls mF 185 #[.pointer (some ⟨g,0,none⟩),.slice A n c,.int .i64 e] w' (ap TW w' g p ⟨false,bH false V e,bH false V e⟩)):=lY (fun w' ns h h1=>mu e g p w' h.W h1 (TB.out _ _ _ h) (by omega) (by omega) (by omega) (by omega) (by omega));have C3q:Hid (∀ w' ns A' n' c',St TW w g p false w' [(31,w.heap.size,zs)] ns->am w' (.slice A n c) V->am w' (.slice A' n' c') l->Calls mF 148 #[.slice A n c,.slice A' n' c'] w' (NP w' (V+l))):=lY (fun w' ns A' n' c' _ h1 h2=>Co w' h1 h2 (by omega) (by omega));have C4:Hid (∀ w' ns A' n' c',St TW w g p false w' [(31,w.heap.size,zs)] ns->am w' (.slice A' n' c') (V+l)->Calls mF 185 #[.pointer (some ⟨g,0,none⟩),.slice A' n' c',.int .i64 e] w' (ap TW w' g p ⟨false,bH false (V+l) e,bH false (V+l) e⟩)):=lY (fun w' ns A' n' c' h h1=>mu e g p w' h.W h1 (TB.out _ _ _ h) (by omega) (by omega) (by omega) (by omega) (by omega));have hr1:Tq 262000 (bH false V e):=Q1;generalize bH false V e=r at *;generalize bH false (V+l) e=s at *
 have C5:Hid (∀ w' ns A n c B m d A' n' c' B' m' d',St TW w g p false w' [(31,w.heap.size,zs)] ns->am w' (.slice A n c) r.m->am w' (.slice B m d) r.m->am w' (.slice A' n' c') s.m->am w' (.slice B' m' d') s.m->Calls mF 62 #[.pointer (some ⟨g,0,none⟩),aG r.neg A n c r.e r.neg B m d r.e,aG s.neg A' n' c' s.e s.neg B' m' d' s.e] w' (ap TW w' g p ⟨false,r,s⟩)):=lY (fun w' ns A n c B m d A' n' c' B' m' d' h h1 h2 h3 h4=>by
  rw[← HU.out]
  exact jk g p false w' h.W (aC.of_num h1 Q1.pl Q1.ok) (aC.of_num h2 Q1.pl Q1.ok) (aC.of_num h3 Q2.pl Q2.ok) (aC.of_num h4 Q2.pl Q2.ok))
 have hpc:=S.wc.1;clear hW hT HU Q1 Q2 Q5 hr1 hL hl hl2 hN hp b1 b2 TB h hs hV1 hV he1 he2 hn hc hVe;go_enter Tryz.func157,Tryz.ntmps157;go_upto_region 1 with fail;generalize w.alloc (.cells zs 31)=w1 at *
 go_cut [7] (fun s7 wx=>∃ A' n' c',s7=.slice A' n' c'/\St TW w g p false wx [(31,w.heap.size,zs)] [(.slice A' n' c',l),(.slice A n c,V)])
 case first =>
  have SD:=S.drew;have SA:=S.below (ag w1 (.cells #[.int .u64 1] 51));have HC:Hid (∀ w' ns,St TW w g p false w' [(31,w.heap.size,zs)] ns->w'.cell? ⟨g,0,none⟩=some (.int .i64 p)):=lY (fun w' ns h=>h.wc.1);have SAD:=SA.drew;have sd1:am w1.drew (.slice A n c) V:=SD.ns.1;have sa1:am (w1.alloc (.cells #[.int .u64 1] 51)).drew (.slice A n c) V:=SAD.ns.1;have XS:=HC.out _ _ SD;have XA:=HC.out _ _ SA;have XA2:=HC.out _ _ SA.drew
  go_region_held3 (fun w'=>w'.cell? ⟨g,0,none⟩=some (.int .i64 p))
   (first | with_reducible exact XS | with_reducible exact XA | with_reducible exact XA2 | with_reducible exact HC.out _ _ V1)
   (first
    | (go_at_call 117;refine(C0.out _ _ (by first | with_reducible exact SD | with_reducible exact SA.drew) (by first | with_reducible exact sd1 | with_reducible exact sa1)).mono ?_;rintro e' v0 ⟨rfl,rfl⟩)
    | (go_at_call 123;refine(C1.out _ _ S _ rfl).mono ?_;rintro e' v1 ⟨A1,n1,c1,rfl,N1,b1⟩;have V1:=(SA.drew.below b1).num N1))
  all_goals (go_wp2_with fail;go_meet;exact⟨_,_,_,rfl,V1⟩)
 case rest =>
  obtain⟨A7,n7,c7,rfl,V1⟩:=hcut;clear S hpc hw1 hw2;go_upto_region 2 with fail;have SD:=V1.drew
  go_region_held3 (fun _=>True) (exact True.intro)
   (first
    | (go_at_call 185;have hh:=V4;refine(C4.out _ _ _ _ _ V4 V4.ns.1).mono ?_;rintro e' v5 ⟨A5,n5,c5,B5,m5,d5,rfl,N5,M5,W5,o5⟩;have V5:=((V4.only o5 W5).num M5).num N5)
    | (go_at_call 185;refine(C2.out _ _ SD SD.ns.2.1).mono ?_;rintro e' v3 ⟨A3,n3,c3,B3,m3,d3,rfl,N3,M3,W3,o3⟩;have V3:=((SD.only o3 W3).num M3).num N3)
    | (go_at_call 148;refine(C3q.out _ _ _ _ _ V3 V3.ns.2.2.2.1 V3.ns.2.2.1).mono ?_;rintro e' v4 ⟨A4,n4,c4,rfl,N4,b4⟩;have V4:=(V3.below b4).num N4)
    | (go_at_call 62;refine(C5.out _ _ _ _ _ _ _ _ _ _ _ _ _ _ V5 V5.ns.2.2.2.1 V5.ns.2.2.2.2.1 V5.ns.1 V5.ns.2.1).mono ?_;rintro e' v6 ⟨A6,n6,c6,B6,m6,d6,rfl,N6,M6,W6,o6⟩;have V6:=((V5.only o6 W6).num M6).num N6;have z1:=V6.ks.1.1;obtain⟨z1c0,z1c1,z1c2,z1c3,z1c4,z1c5⟩:=z1.c6;obtain⟨z1f0,z1f1,z1f2,z1f3,z1f4,z1f5⟩:=z1.f6;have z1l:=z1.2;have z1n:=ou z1.2;have z1n2:=oM z1.2))
  go_wp2_with fail;rw[HR.out];have y1:=V6.ns.1;have y2:=V6.ns.2.1;obtain⟨x1,x2,x3,x4⟩:=V6.give (lo:=r) (hi:=s) y1 y2 z1 (by omega);exact bodyPost_ret (v:=aG r.neg A6 n6 c6 r.e s.neg B6 m6 d6 s.e) (by simp[results,Tryz.results157,go_sem,z1c0,z1c1,z1c2,z1c3,z1c4,z1c5]) rfl ⟨A6,n6,c6,B6,m6,d6,rfl,x1,x2,x3,x4⟩
end
section
variable {TW:TypeId}
theorem Es (e:Int):tp e=tw e:=rfl
structure eN (P:Nat)(y:Rat)(V:Nat)(E:Int):Prop where
 b1:P+64<=nb V
 b2:nb V<=P+200
 e1:-1-(nb V:Int)<=E
 e2:E+(nb V:Int)<=131073
 lo:∃ n,(V:Rat)*tp E<=aW y n
 hi:∀ n,aW y n<=((V:Rat)+(eL P V:Rat))*tp E
theorem mA {w:World}{g:Nat}{bad:Bool}(hW:Wk TW w g p bad)(a b c:Value):
 St TW w g p bad ((w.alloc (.cells #[a,b,c] 24)).alloc (.cells zs 31)) [(31,w.heap.size+1,zs),(24,w.heap.size,#[a,b,c])] []:=by
 have h:=((St.start hW).alloc 24 #[a,b,c]).alloc 31 zs;rw[show(w.alloc (.cells #[a,b,c] 24)).heap.size=w.heap.size+1 by simp]at h;exact h
theorem iR {x:DR}{A:OA}{n c:Nat}(g P:Nat)(w:World)(hW:Wk TW w g (P:Int) false)(ha:am w (.slice A n c) x.m)(hT:bx w)(hP1:16<=P)(hP2:P<=8000)(hb:nb x.m<=9000)(he1:-200000<=x.e)(ht:x.e+(nb x.m:Int)<=17)(hx:(x.m:Rat)*tp x.e<=65536):
 Calls mF 92 #[.pointer (some ⟨g,0,none⟩),aP false A n c x.e] w (fun e w'=>∃ V E,eN P ((x.m:Rat)*tp x.e) V E/\ap TW w g (P:Int) (an P V E) e w'):=by
 obtain⟨A0,n0,c0,f,hA0,hs,hn,hc,hVe⟩:=ha.raw 1000 (by omega);cases hA0;have S:=(mA hW (.bool false) (.slice A n c) (.int .i64 x.e)).num (((ha.below (ag w _)).below (ag _ _)));have TB:Hid (∀ w' ks ns,St TW w g (P:Int) false w' ks ns->bx w'):=lY (fun w' ks ns h=>hT.wk hW h.O);obtain⟨T,hTp⟩:=du (x.e+(nb x.m:Int));obtain⟨p,hp⟩:∃ p:Int,p=(P:Int):=⟨_,rfl⟩;rw[← hp]at hW S TB ⊢
 have C1:Hid (∀ w' ns,St TW w g p false w' [(31,w.heap.size+1,zs),(24,w.heap.size,#[.bool false,.slice A n c,.int .i64 x.e])] ns->am w' (.slice A n c) x.m->Calls mF 108 #[aP false A n c x.e] w' (gt w' T)):=lY (fun w' ns _ h1=>by
  obtain⟨A0,n0,c0,f,hA0,hs,hn,hc,hVe⟩:=h1.raw 1000 (by omega);cases hA0
  have:=jn false A n c f x.e w' hs (by omega) (by omega) (by omega)
  rw[hVe,← hTp]at this
  exact this)
 have C2:Hid (∀ w' ns,St TW w g p false w' [(31,w.heap.size+1,zs),(24,w.heap.size,#[.bool false,.slice A n c,.int .i64 x.e])] ns->Calls mF 153 #[.pointer (some ⟨g,0,none⟩)] w' (fun r w''=>∃ k:Nat,r=.returned (.int .i64 (k:Int))/\1<=k/\k<=65/\w'=w'')):=lY (fun w' ns h=>xU TW g p false w' h.W (by omega));have hpP:Hid (p=(P:Int)):=lY hp;have HTp:Hid (T=x.e+(nb x.m:Int)):=lY hTp;clear hs hn hc hVe hW f hp hTp;go_enter Tryz.func92,Tryz.ntmps92;go_wp2_with fail;refine(C1.out _ _ S S.ns.1).mono ?_;rintro e' w1 ⟨rfl,b1⟩;have S1:=S.below b1;clear S b1 C1;go_wp2_with fail;refine(C2.out _ _ S1).mono ?_;rintro e' w2 ⟨k,rfl,hk1,hk2,rfl⟩;clear C2;have hp:=hpP.out;have hTp:=HTp.out;obtain⟨H,hH⟩:∃ H:Nat,(H:Int)=max (T+(k:Int)) 0:=⟨(max (T+(k:Int)) 0).toNat,by omega⟩;have hwk:IntKind.i64.wrap (T+(k:Int))=T+(k:Int):=aE (by omega) (by omega);have hmx:max (T+(k:Int)) 0=(H:Int):=hH.symm
 have hHb:H<=82:=by omega
 have hHt:x.e+(nb x.m:Int)+1<=(H:Int):=by omega
 clear hH;obtain⟨B,hB⟩:=du (P+64+H);have hB1:IntKind.i64.wrap (p+64)=p+64:=aE (by omega) (by omega)
 have hB2:IntKind.i64.wrap (p+64+(H:Int))=(B:Int):=by rw[aE (by omega) (by omega)];omega
 have hx1:IntKind.i64.wrap (x.e-(H:Int))=x.e-(H:Int):=aE (by omega) (by omega);obtain⟨q,hq⟩:=du (x.e-(H:Int)+(B:Int))
 have hx2:IntKind.i64.wrap (x.e-(H:Int)+(B:Int))=q:=by rw[aE (by omega) (by omega),hq]
 have hBn:IntKind.i64.wrap (-(B:Int))=-(B:Int):=aE (by omega) (by omega);obtain⟨Z,hZ⟩:=du (Bj x.m q);obtain⟨z,hz⟩:=du ((x.m:Rat)*tw (x.e-(H:Int)));have ZB:Hid (Zb z Z B):=lY (by rw[hZ,hq,hz];exact rN (by omega) (by omega));have YX:Hid (((2^H:Nat):Rat)*z=(x.m:Rat)*tp x.e):=lY (by rw[hz];exact Cl _ _ _)
 have hx':((2^H:Nat):Rat)*z<=65536:=by rw[YX.out];exact hx
 have RG:Hid (∀ j,j<=H->B<=nb (dN Z B j).1/\nb (dN Z B j).1<=B+21/\-1-(nb (dN Z B j).1:Int)<=(dN Z B j).2/\(dN Z B j).2+(nb (dN Z B j).1:Int)<=131073):=lY (fun j hj=>sK ZB.out hB (by omega) hj hx')
 have OK:Hid (eN P ((x.m:Rat)*tp x.e) (dN Z B H).1 (dN Z B H).2):=lY (by
  obtain⟨g1,g2,g3,g4⟩:=RG.out H (Nat.le_refl _);obtain⟨_,l,u⟩:=sM ZB.out hB (by omega);rw[YX.out]at l u
  exact⟨by omega,by omega,g3,g4,l,u⟩)
 have hk0:=S1.ks.2.1.1;have hk0_1:=hk0.at_ 1 _ rfl;have hk0_2:=hk0.at_ 2 _ rfl;have hkl:=hk0.2;have hpc:=S1.wc.1;have hgl:=S1.lt;have SH:=lY (mi q _ S1.ns.1 (by omega) (by omega) (by omega));rw[← hZ]at SH;have HB:Hid (B=P+64+H):=lY hB;clear hk0 hZ hq hz YX hx' hx hTp hp hB HTp;go_wp2_with fail;refine SH.out.mono ?_;rintro e' w3 ⟨A3,n3,c3,rfl,m3,b3⟩;have S3:=(S1.below b3).num m3;clear SH S1 b3 m3 hk0_1 hk0_2 hkl hpc hgl hwk hmx hx1 hx2 hB1 hB2
 have hBb:B<=8200:=by have:=HB.out;omega
 have hB0:65<=B:=by have:=HB.out;omega
 have TS:=lY (rR _ S3.ns.1 ZB.out.two (by omega));go_wp2_with fail;refine TS.out.mono ?_;rintro e' w4 ⟨A4,n4,c4,rfl,m4,b4⟩;have S4:=(S3.below b4).num m4;clear TS S3 b4;have HT:Hid (bx w4):=lY (TB.out _ _ _ S4);have z1:=S4.ks.1.1;have OW:Hid (St TW w g p false w4 [(31,w.heap.size+1,zs),(24,w.heap.size,#[.bool false,.slice A n c,.int .i64 x.e])] []):=lY ⟨S4.hg,S4.O,S4.W,S4.ks,trivial⟩;have HPS:Hid (dN Z B 0=(fi (fun n=>n) Z B (B+1),-(B:Int))):=lY rfl;have HST:Hid (∀ j,dN Z B (j+1)=((dN Z B j).1*(dN Z B j).1/2^(nb ((dN Z B j).1*(dN Z B j).1)-B),2*(dN Z B j).2+((nb ((dN Z B j).1*(dN Z B j).1)-B:Nat):Int))):=lY (fun j=>rfl);clear S4 z1 ZB;go_wp2_with fail
 go_loopw [7,8,9,39] (fun s7 s8 _ s39 wr=>∃ (j:Nat) (A':OA) (n' c':Nat),j<=H/\s7=.slice A' n' c'/\s8=.int .i64 (dN Z B j).2/\s39=.int .i64 (j:Int)/\am wr (.slice A' n' c') (dN Z B j).1/\Below w4.heap.size w4 wr) (fun _ _ _ s39 _=>H-(intOf s39).toNat)
 case atStart=>exact⟨0,A4,n4,c4,by omega,rfl,by rw[HPS.out],rfl,by rw[HPS.out];exact m4,Below.refl _ _⟩
 case round =>
  obtain⟨j,A',n',c',hj,rfl,rfl,rfl,nM,bw⟩:=hrel
  by_cases hlt:j < H
  . have hd:decide ((j:Int) < (H:Int))=true:=decide_eq_true (by omega)
    obtain⟨g1,g2,g3,g4⟩:=RG.out j (by omega);obtain⟨G1,G2,G3,G4⟩:=RG.out (j+1) (by omega);have hst:=HST.out j;have hst1:Hid ((dN Z B (j+1)).1=(dN Z B j).1*(dN Z B j).1/2^(nb ((dN Z B j).1*(dN Z B j).1)-B)):=lY (by rw[hst])
    have hst2:(dN Z B (j+1)).2=2*(dN Z B j).2+((nb ((dN Z B j).1*(dN Z B j).1)-B:Nat):Int):=by rw[hst]
    clear hst;generalize hE':(dN Z B (j+1)).2=E' at *;generalize hM':(dN Z B (j+1)).1=M' at *;have HE':=lY hE';have HM':=lY hM';clear hE' hM';generalize(dN Z B j).2=E at *;generalize(dN Z B j).1=M at *;have hpr:=qU M M
    have hge:B<=nb (M*M):=by
     have h1:M*1<=M*M:=Nat.mul_le_mul_left M (by
      rcases Nat.eq_zero_or_pos M with h | h
      . rw[h,aX]at g1;omega
      . exact h)
     have:=bQ (show M<=M*M by omega)
     omega
    obtain⟨d,hdp⟩:=du (nb (M*M)-B);rw[← hdp]at hst1 hst2
    have hwd:IntKind.i64.wrap ((nb (M*M):Int)-(B:Int))=(d:Int):=by rw[aE (by omega) (by omega)];omega
    have hw2:IntKind.i64.wrap (2*E)=2*E:=aE (by omega) (by omega)
    have hw3:IntKind.i64.wrap (2*E+(d:Int))=E':=by rw[aE (by omega) (by omega),hst2]
    have MU:=lY (zC wr nM nM (by omega) (by omega))
    have hdb:d<=20000:=by omega
    clear hst2 hdp;go_wp2_with fail;refine MU.out.mono ?_;rintro e' w5 ⟨A5,n5,c5,rfl,N5,b5⟩;have bw5:=aB bw b5;clear MU b5 nM bw;have BI:=lY (Dg w5 N5 (by omega));go_wp2_with fail;refine BI.out.mono ?_;rintro e' w6 ⟨rfl,b6⟩;have bw6:=aB bw5 b6;replace N5:=N5.below b6;clear BI b6 bw5;have SR:=lY (Bh (s:=d) w6 N5 (by omega) (by omega));rw[← hst1.out]at SR;go_wp2_with fail;refine SR.out.mono ?_;rintro e' w7 ⟨A7,n7,c7,rfl,N7,b7⟩;have bw7:=aB bw6 b7;go_wp2_with fail;go_roundw
    case rel=>exact⟨j+1,A7,n7,c7,by omega,rfl,by rw[HE'.out],by go_num,by rw[HM'.out];exact N7,bw7⟩
    case measure=>simp[intOf];omega
  . obtain rfl:j=H:=by omega
    have hd:decide ((j:Int) < (j:Int))=false:=decide_eq_false (by omega);obtain⟨g1,g2,g3,g4⟩:=RG.out j (by omega);have S8:=OW.out.below bw;have hB:=HB.out;have hpP:=hpP.out;have FR:=lY (qd (dN Z B j).2 g P wr (by rw[← hpP];exact S8.W) nM (TB.out _ _ _ S8) (by omega) (by omega) (by omega) (by omega) (by omega) (by omega));rw[← hpP]at FR;clear nM bw OW HPS HST RG TB HT hB hpP;go_wp2_with fail;refine FR.out.mono ?_;rintro e' w9 ⟨A9,n9,c9,B9,m9,d9,rfl,N9,M9,W9,o9⟩;have S9:=((S8.only o9 W9).num M9).num N9;have z1:=S9.ks.1.1;obtain⟨z1c0,z1c1,z1c2,z1c3,z1c4,z1c5⟩:=z1.c6;obtain⟨z1f0,z1f1,z1f2,z1f3,z1f4,z1f5⟩:=z1.f6;have z1l:=z1.2;have z1n:=ou z1.2;have z1n2:=oM z1.2;go_wp2_with fail;obtain⟨x1,x2,x3,x4⟩:=S9.give (lo:=(an P (dN Z B j).1 (dN Z B j).2).lo) (hi:=(an P (dN Z B j).1 (dN Z B j).2).hi) S9.ns.1 S9.ns.2.1 z1 (by omega);exact bodyPost_ret (v:=aG (an P (dN Z B j).1 (dN Z B j).2).lo.neg A9 n9 c9 (an P (dN Z B j).1 (dN Z B j).2).lo.e (an P (dN Z B j).1 (dN Z B j).2).hi.neg B9 m9 d9 (an P (dN Z B j).1 (dN Z B j).2).hi.e) (by simp[results,Tryz.results92,go_sem,z1c0,z1c1,z1c2,z1c3,z1c4,z1c5]) rfl ⟨(dN Z B j).1,(dN Z B j).2,OK.out,A9,n9,c9,B9,m9,d9,rfl,x1,x2,x3,x4⟩
end
section
variable {TW:TypeId}
structure lA (P odd:Nat)(y:Rat)(V:Nat):Prop where
 b1:P+64<=nb V
 b2:nb V<=P+66
 h:∀ n,P+65<=n->(V:Rat)*tp (-((P+64:Nat):Int))<=bf (gQ (ev odd) (y*y)) n/\bf (gQ (ev odd) (y*y)) n<=((V:Rat)+(eL P V:Rat))*tp (-((P+64:Nat):Int))
theorem Fu {w:World}{g:Nat}{bad:Bool}(hW:Wk TW w g p bad)(a b c d:Value):
 St TW w g p bad (((w.alloc (.cells #[a,b,c] 24)).alloc (.cells #[d] 51)).alloc (.cells zs 31)) [(31,w.heap.size+1+1,zs),(51,w.heap.size+1,#[d]),(24,w.heap.size,#[a,b,c])] []:=by
 have h:=(((St.start hW).alloc 24 #[a,b,c]).alloc 51 #[d]).alloc 31 zs;rw[show((w.alloc (.cells #[a,b,c] 24)).alloc (.cells #[d] 51)).heap.size=w.heap.size+1+1 by simp,show(w.alloc (.cells #[a,b,c] 24)).heap.size=w.heap.size+1 by simp]at h;exact h
theorem lj {x:DR}{A:OA}{n c odd:Nat}(neg:Bool)(g P:Nat)(w:World)(hW:Wk TW w g (P:Int) false)(ha:am w (.slice A n c) x.m)(hT:bx w)(ho:odd<=1)(hP1:16<=P)(hP2:P<=8000)(hb:nb x.m<=9000)(he1:-100000<=x.e)(ht:x.e+(nb x.m:Int)<=-1):
 Calls mF 110 #[.pointer (some ⟨g,0,none⟩),aP neg A n c x.e,.int .u64 (odd:Int)] w (fun e w'=>∃ V,lA P odd ((x.m:Rat)*tp x.e) V/\ap TW w g (P:Int) (an P V (-((P+64:Nat):Int))) e w'):=by
 obtain⟨p,hp⟩:∃ p:Int,p=(P:Int):=⟨_,rfl⟩;obtain⟨B,hB⟩:=du (P+64);have S:=(Fu hW (.bool neg) (.slice A n c) (.int .i64 x.e) (.int .u64 (odd:Int))).num (((ha.below (ag w _)).below (ag _ _)).below (ag _ _));have TB:Hid (∀ w' ks ns,St TW w g (P:Int) false w' ks ns->bx w'):=lY (fun w' ks ns h=>hT.wk hW h.O);have hnb:=lV x.m x.m;obtain⟨Y,hY⟩:=du (x.m*x.m);obtain⟨q,hq⟩:=du (2*x.e+(B:Int));obtain⟨Z,hZ⟩:=du (Bj Y q)
 have ZB:Hid (Zb ((x.m:Rat)*tp x.e*((x.m:Rat)*tp x.e)) Z B):=lY (by
  have e:(x.m:Rat)*tp x.e*((x.m:Rat)*tp x.e)=((x.m*x.m:Nat):Rat)*tw (2*x.e-((0:Nat):Int)):=by
   rw[show 2*x.e-((0:Nat):Int)=x.e+x.e by omega,fJ,Rat.natCast_mul]
   show(x.m:Rat)*tw x.e*((x.m:Rat)*tw x.e)=_
   grind
  rw[e,hZ,hq,hY]
  have:=rN (V:=x.m*x.m) (h:=0) (B:=B) (E:=2*x.e) (by omega) (by omega)
  rw[show 2*x.e-((0:Nat):Int)+(B:Int)=2*x.e+(B:Int) by omega]at this
  exact this)
 have RG:=oU (odd:=odd) ZB.out hB (by omega);obtain⟨V,hV⟩:=du (fi (ev odd) Z B (B+1));rw[← hV]at RG;obtain⟨r1,r2,r3⟩:=RG
 have OK:Hid (lA P odd ((x.m:Rat)*tp x.e) V):=lY ⟨by omega,by omega,fun n hn=>by
  have:=r3 n (by omega)
  rw[hB]at this
  exact this⟩
 have C1:Hid (∀ w' ns,St TW w g (P:Int) false w' [(31,w.heap.size+1+1,zs),(51,w.heap.size+1,#[.int .u64 (odd:Int)]),(24,w.heap.size,#[.bool neg,.slice A n c,.int .i64 x.e])] ns->am w' (.slice A n c) x.m->Calls mF 80 #[.slice A n c,.slice A n c] w' (NP w' Y)):=lY (fun w' ns _ h1=>by rw[hY];exact zC w' h1 h1 (by omega) (by omega))
 have C2:Hid (∀ w' A' n' c',am w' (.slice A' n' c') Y->Calls mF 155 #[.slice A' n' c',.int .i64 q] w' (NP w' Z)):=lY (fun w' A' n' c' h1=>by
  rw[hZ]
  exact mi q w' h1 (by rw[hY];omega) (by omega) (by omega))
 have C3q:Hid (∀ w' a A' n' c',KC 51 w' a #[.int .u64 (odd:Int)]->am w' (.slice A' n' c') Z->Calls mF 154 #[.slice A' n' c',.int .i64 (B:Int),.func (.func 164) #[] #[.pointer (some ⟨a,0,none⟩)]] w' (NP w' V)):=lY (fun w' a A' n' c' h1 h2=>by
  rw[hV]
  exact qw w' h1 ho h2 ZB.out.two (by omega))
 have C4:Hid (∀ w' ks ns A' n' c',St TW w g (P:Int) false w' ks ns->am w' (.slice A' n' c') V->Calls mF 157 #[.pointer (some ⟨g,0,none⟩),.slice A' n' c',.int .i64 (-(B:Int))] w' (ap TW w' g (P:Int) (an P V (-(B:Int))))):=lY (fun w' ks ns A' n' c' h h1=>qd (-(B:Int)) g P w' h.W h1 (TB.out _ _ _ h) (by omega) (by omega) (by omega) (by omega) (by omega) (by omega))
 have w1:IntKind.i64.wrap (p+64)=(B:Int):=by rw[aE (by omega) (by omega)];omega
 have w2:IntKind.i64.wrap (2*x.e)=2*x.e:=aE (by omega) (by omega)
 have w3:IntKind.i64.wrap (2*x.e+(B:Int))=q:=by rw[aE (by omega) (by omega),hq]
 have w4:IntKind.i64.wrap (-(B:Int))=-(B:Int):=aE (by omega) (by omega);rw[show -((P+64:Nat):Int)=-(B:Int) by rw[hB]];rw[← hp]at S TB C1 C4 ⊢;have hpc:=S.wc.1;have hgl:=S.lt;clear r1 r2 r3 ZB hV hZ hq hY hB hW ha hT hnb hP1 hP2 hb he1 ht ho hp TB;go_enter Tryz.func110,Tryz.ntmps110;go_upto_region 2 with fail;generalize((w.alloc (.cells #[.bool neg,.slice A n c,.int .i64 x.e] 24)).alloc (.cells #[.int .u64 (odd:Int)] 51)).alloc (.cells zs 31)=v0 at *;clear hpc
 go_cut [8] (fun s8 wx=>∃ A' n' c',s8=.slice A' n' c'/\St TW w g p false wx [(31,w.heap.size+1+1,zs),(51,w.heap.size+1,#[.int .u64 (odd:Int)]),(24,w.heap.size,#[.bool neg,.slice A n c,.int .i64 x.e])] [(.slice A' n' c',Z),(.slice A n c,x.m)])
 case first =>
  have SD:=S.drew;have sd1:am v0.drew (.slice A n c) x.m:=SD.ns.1;have HC:Hid (∀ w' ns,St TW w g p false w' [(31,w.heap.size+1+1,zs),(51,w.heap.size+1,#[.int .u64 (odd:Int)]),(24,w.heap.size,#[.bool neg,.slice A n c,.int .i64 x.e])] ns->w'.cell? ⟨w.heap.size,1,none⟩=some (.slice A n c)/\w'.cell? ⟨w.heap.size,2,none⟩=some (.int .i64 x.e)):=lY (fun w' ns h=>⟨h.ks.2.2.1.1.at_ 1 _ rfl,h.ks.2.2.1.1.at_ 2 _ rfl⟩);have XS:=HC.out _ _ SD
  go_region_held3 (fun w'=>w'.cell? ⟨w.heap.size,1,none⟩=some (.slice A n c)/\w'.cell? ⟨w.heap.size,2,none⟩=some (.int .i64 x.e))
   (first | with_reducible exact HC.out _ _ V2 | with_reducible exact HC.out _ _ V1 | with_reducible exact XS)
   (first
    | (go_at_call 80;refine(C1.out _ _ SD sd1).mono ?_;rintro e' v1 ⟨A1,n1,c1,rfl,N1,b1⟩;have V1:=SD.below b1)
    | (go_at_call 155;refine(C2.out _ _ _ _ N1).mono ?_;rintro e' v2 ⟨A2,n2,c2,rfl,N2,b2⟩;have V2:=(V1.below b2).num N2))
  all_goals (go_wp2_with fail;go_meet;exact⟨_,_,_,rfl,V2⟩)
 case rest =>
  obtain⟨A8,n8,c8,rfl,V1⟩:=hcut;clear S C1 C2 w1 w2 w3;have k3:=C3q.out _ _ _ _ _ V1.ks.2.1.1 V1.ns.1;have K3:=lY k3;clear k3 C3q;go_wp2_with fail;refine K3.out.mono ?_;rintro e' v3 ⟨A3,n3,c3,rfl,N3,b3⟩;have V3:=(V1.below b3).num N3;clear K3 V1 b3 N3;have k4:=lY (C4.out _ _ _ _ _ _ V3 V3.ns.1);clear C4;go_wp2_with fail;refine k4.out.mono ?_;rintro e' v4 ⟨A9,n9,c9,B9,m9,d9,rfl,N4,M4,W4,o4⟩;have V4:=((V3.only o4 W4).num M4).num N4;have z1:=V4.ks.1.1;obtain⟨z1c0,z1c1,z1c2,z1c3,z1c4,z1c5⟩:=z1.c6;obtain⟨z1f0,z1f1,z1f2,z1f3,z1f4,z1f5⟩:=z1.f6;have z1l:=z1.2;have z1n:=ou z1.2;have z1n2:=oM z1.2;go_wp2_with fail;obtain⟨x1,x2,x3,x4⟩:=V4.give (lo:=(an P V (-(B:Int))).lo) (hi:=(an P V (-(B:Int))).hi) V4.ns.1 V4.ns.2.1 z1 (by omega);exact bodyPost_ret (v:=aG (an P V (-(B:Int))).lo.neg A9 n9 c9 (an P V (-(B:Int))).lo.e (an P V (-(B:Int))).hi.neg B9 m9 d9 (an P V (-(B:Int))).hi.e) (by simp[results,Tryz.results110,go_sem,z1c0,z1c1,z1c2,z1c3,z1c4,z1c5]) rfl ⟨V,OK.out,A9,n9,c9,B9,m9,d9,rfl,x1,x2,x3,x4⟩
end
end Go.Proofs.YtmbmohibpkepdaaGreatDoor
