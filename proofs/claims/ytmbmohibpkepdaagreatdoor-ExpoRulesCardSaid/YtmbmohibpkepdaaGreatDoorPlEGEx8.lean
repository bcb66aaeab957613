/-
 expo: coshAt.
-/
import Derived.Test.YtmbmohibpkepdaaGreatDoorPlEGSp9
import Derived.Test.YtmbmohibpkepdaaGreatDoorPlEGEx6
namespace Go.Proofs.YtmbmohibpkepdaaGreatDoor
open Go.RowKit
variable {TW:TypeId}
set_option maxRecDepth 8000 in
set_option maxHeartbeats 4000000 in
theorem ecosh_zero {x:DR} {A:Option Addr} {n c:Nat} (neg:Bool) (g P:Nat) (B:Int) (w:World) (hW:Wk TW w g (P:Int) false) (ha:Num w (.slice A n c) x.m) (hT:Tab w) (hP1:16≤P) (hP2:P≤1000) (hB:Bnd B (sz x)) (hB2:B≤132000) (h0:x.m=0) :
 Calls Tryz.prog 60 #[.pointer (some ⟨g,0,none⟩),dyv neg A n c x.e] w (fun e w'=>∃ r,AtOk P (B+3100) r (chQ (sz x))∧SPost TW w g (P:Int) r e w'):=by
 have S:=(std1 hW (.bool neg) (.slice A n c) (.int .i64 x.e)).num (((ha.below (alloc_bel w _)).below (alloc_bel _ _)))
 have TB:Hid (∀ w' ks ns,St TW w g (P:Int) false w' ks ns→Tab w'):=Lib.hid (fun w' ks ns h=>hT.wk hW h.O)
 have hbb:=hB.b
 obtain ⟨p,hp⟩:∃ p:Int,p=(P:Int):=⟨_,rfl⟩
 have IZ:Hid (∀ w' ,Num w' (.slice A n c) x.m→Calls Tryz.prog 90 #[.agg #[.bool false,.slice A n c,.int .i64 x.e]] w' (fun r w''=>r=.returned (.bool (decide (x.m=0)))∧Below w'.heap.size w' w'')):=Lib.hid (fun w' h1=>eisZero_any false x.e h1)
 have C5:Hid (∀ w',Calls Tryz.prog 93 #[.agg #[.bool neg,.slice A n c,.int .i64 x.e]] w' fun r w''=>r=.returned (.agg #[.bool false,.slice A n c,.int .i64 x.e])∧Below w'.heap.size w' w''):=Lib.hid (fun w'=>esize_any neg A n c x.e w')
 obtain ⟨d,d1,d2,d3,-,-⟩:=one_sq (p:=(P:Int)) (by omega) (by omega)
 have C2:Hid (∀ w' ks ns,St TW w g (P:Int) false w' ks ns→Calls Tryz.prog 31 #[.pointer (some ⟨g,0,none⟩),.int .i64 1] w' (fun e w''=>∃ r,AtOk P (B+3100) r (chQ (sz x))∧SPost TW w' g (P:Int) r e w'')):=Lib.hid (fun w' ks ns h=>(num_any 1 g (P:Int) false w' h.W (TB.out _ _ _ h) (by omega) (by omega)).mono fun e w'' hp=>⟨_,by rw [d1,sz_zero h0];exact at_point (d2.l.more (by omega)) (fun n=>by rw [ch_zero];exact d3.symm) (by show 0≤rv d;rw [d3];decide),hp⟩)
 have hd:decide (x.m=0)=true:=decide_eq_true h0
 rw [← hp] at S C2 ⊢
 have Hd:=Lib.hid hd
 clear hd hp TB hT hW hB hB2 hbb ha h0 d1 d2 d3 d
 go_enter Tryz.func60,Tryz.ntmps60
 go_wp2_with fail
 refine (C5.out _).mono ?_
 rintro e' v1 ⟨rfl,b1⟩
 replace S:=S.below b1
 clear C5 b1
 have kd:=S.ks.2.1.1
 have kd0:=kd.at_ 0 _ rfl
 have kd1:=kd.at_ 1 _ rfl
 have kd2:=kd.at_ 2 _ rfl
 have kf0:=kd.fr 0
 have kf1:=kd.fr 1
 have kf2:=kd.fr 2
 have kdl:=kd.2
 go_wp2_with fail
 have S1:St TW w g p false v1 [(31,w.heap.size+1,zs)] [(.slice A n c,x.m)]:=⟨S.hg,S.O,S.W,⟨S.ks.1,trivial⟩,S.ns⟩
 have S2:=S1.putK kd (Nat.le_refl _) ⟨by omega,trivial⟩ (.bool false) (.slice A n c) (.int .i64 x.e)
 dsimp only [put3] at S2
 clear S S1 kd kd0 kd1 kd2 kf0 kf1 kf2 kdl
 generalize ((v1.setCell ⟨w.heap.size,0,none⟩ (.bool false)).setCell ⟨w.heap.size,1,none⟩ (.slice A n c)).setCell ⟨w.heap.size,2,none⟩ (.int .i64 x.e)=v2 at *
 have I3:=Lib.hid (IZ.out _ S2.ns.1)
 rw [Hd.out] at I3
 refine I3.out.mono ?_
 rintro e' v3 ⟨rfl,b3⟩
 have S:=S2.below b3
 clear I3 IZ b3 S2
 have KY2:=Lib.hid (C2.out _ _ _ S)
 clear C2
 go_wp2_with fail
 refine KY2.out.mono ?_
 rintro e' v4 ⟨r,AO,A9,n9,c9,B9,m9,d9,rfl,N1,M1,W1,o1⟩
 have V2:=((S.only o1 W1).num M1).num N1
 have z1:=V2.ks.2.1.1
 have z1c0:=z1.at_ 0 _ rfl
 have z1c1:=z1.at_ 1 _ rfl
 have z1c2:=z1.at_ 2 _ rfl
 have z1c3:=z1.at_ 3 _ rfl
 have z1c4:=z1.at_ 4 _ rfl
 have z1c5:=z1.at_ 5 _ rfl
 have z1f0:=z1.fr 0
 have z1f1:=z1.fr 1
 have z1f2:=z1.fr 2
 have z1f3:=z1.fr 3
 have z1f4:=z1.fr 4
 have z1f5:=z1.fr 5
 have z1l:=z1.2
 have z1n:=Nat.ne_of_lt z1.2
 have z1n2:=Nat.ne_of_gt z1.2
 go_wp2_with fail
 obtain ⟨x1,x2,x3,x4⟩:=V2.give (lo:=r.lo) (hi:=r.hi) V2.ns.1 V2.ns.2.1 z1 (by omega)
 exact bodyPost_ret (v:=spv r.lo.neg A9 n9 c9 r.lo.e r.hi.neg B9 m9 d9 r.hi.e) (by simp [results,Tryz.results60,go_sem,z1c0,z1c1,z1c2,z1c3,z1c4,z1c5]) rfl ⟨r,AO,A9,n9,c9,B9,m9,d9,rfl,x1,x2,x3,x4⟩
set_option maxRecDepth 8000 in
set_option maxHeartbeats 4000000 in
theorem ecosh_near {x:DR} {A:Option Addr} {n c:Nat} (neg:Bool) (g P:Nat) (B:Int) (w:World) (hW:Wk TW w g (P:Int) false) (ha:Num w (.slice A n c) x.m) (hx:Rch x) (hT:Tab w) (hP1:16≤P) (hP2:P≤1000) (hB:Bnd B (sz x)) (hB2:B≤132000) (h0:x.m≠0) (ht:x.e+(nb x.m:Int)≤-16) :
 Calls Tryz.prog 60 #[.pointer (some ⟨g,0,none⟩),dyv neg A n c x.e] w (fun e w'=>∃ r,AtOk P (B+3100) r (chQ (sz x))∧SPost TW w g (P:Int) r e w'):=by
 have S:=(std1 hW (.bool neg) (.slice A n c) (.int .i64 x.e)).num (((ha.below (alloc_bel w _)).below (alloc_bel _ _)))
 have TB:Hid (∀ w' ks ns,St TW w g (P:Int) false w' ks ns→Tab w'):=Lib.hid (fun w' ks ns h=>hT.wk hW h.O)
 have hbb:=hB.b
 obtain ⟨p,hp⟩:∃ p:Int,p=(P:Int):=⟨_,rfl⟩
 have IZ:Hid (∀ w' ,Num w' (.slice A n c) x.m→Calls Tryz.prog 90 #[.agg #[.bool false,.slice A n c,.int .i64 x.e]] w' (fun r w''=>r=.returned (.bool (decide (x.m=0)))∧Below w'.heap.size w' w'')):=Lib.hid (fun w' h1=>eisZero_any false x.e h1)
 have C5:Hid (∀ w',Calls Tryz.prog 93 #[.agg #[.bool neg,.slice A n c,.int .i64 x.e]] w' fun r w''=>r=.returned (.agg #[.bool false,.slice A n c,.int .i64 x.e])∧Below w'.heap.size w' w''):=Lib.hid (fun w'=>esize_any neg A n c x.e w')
 obtain ⟨T,hTp⟩:∃ T,T=x.e+(nb x.m:Int):=⟨_,rfl⟩
 have C1:Hid (∀ w' ,Num w' (.slice A n c) x.m→Calls Tryz.prog 108 #[dyv false A n c x.e] w' (IntPost w' T)):=Lib.hid (fun w' h1=>by
  obtain ⟨A0,n0,c0,f,hA0,hs,hn,hc,hVe⟩:=h1.raw 1000 (by have:=hx.b;omega)
  cases hA0
  have:=etop_any false A n c f x.e w' hs (by omega) (by have:=hx.e1;omega) (by have:=hx.t;omega)
  rw [hVe,← hTp] at this
  exact this)
 have C2:Hid (∀ w' ks ns,St TW w g (P:Int) false w' ks ns→Num w' (.slice A n c) x.m→Calls Tryz.prog 110 #[.pointer (some ⟨g,0,none⟩),dyv false A n c x.e,.int .u64 0] w' (fun e w''=>∃ V,SerOk P 0 (sz x) V∧SPost TW w' g (P:Int) (fromR P V (-((P+64:Nat):Int))) e w'')):=Lib.hid (fun w' ks ns h h1=>esquares_any (odd:=0) false g P w' h.W h1 (TB.out _ _ _ h) (by omega) hP1 (by omega) (by have:=hx.b;omega) (by have:=hx.e1;omega) (by omega))
 have C3:Hid (∀ w' ks ns V A0 n0 c0 B0 m0 d0,SerOk P 0 (sz x) V→St TW w g (P:Int) false w' ks ns→Num w' (.slice A0 n0 c0) (fromR P V (-((P+64:Nat):Int))).lo.m→Num w' (.slice B0 m0 d0) (fromR P V (-((P+64:Nat):Int))).hi.m→Calls Tryz.prog 94 #[.pointer (some ⟨g,0,none⟩),spv (fromR P V (-((P+64:Nat):Int))).lo.neg A0 n0 c0 (fromR P V (-((P+64:Nat):Int))).lo.e (fromR P V (-((P+64:Nat):Int))).hi.neg B0 m0 d0 (fromR P V (-((P+64:Nat):Int))).hi.e] w' (fun e w''=>∃ r,AtOk P (B+3100) r (chQ (sz x))∧SPost TW w' g (P:Int) r e w'')):=Lib.hid (fun w' ks ns V _ _ _ _ _ _ ok h h1 h2=>by
  have G:=(ser_sq hP1 hP2 ok).1.good
  have AO:=cosh_near hP1 hP2 ok
  exact (sout_any g (P:Int) false w' h.W (DIn.of_num h1 G.l2 G.l1) (DIn.of_num h2 G.h2 G.h1) (TB.out _ _ _ h)).mono fun e w'' hp=>⟨_,⟨AO.q.more (by omega),AO.hl,AO.rel⟩,hp⟩)
 have hd:decide (x.m=0)=false:=decide_eq_false h0
 have Hd:=Lib.hid hd
 have ht2:decide (T≤-16)=true:=decide_eq_true (by omega)
 rw [← hp] at S C2 C3 ⊢
 clear hd hp TB hT hW hB hB2 hbb hx ha h0 hTp ht
 go_enter Tryz.func60,Tryz.ntmps60
 go_wp2_with fail
 refine (C5.out _).mono ?_
 rintro e' v1 ⟨rfl,b1⟩
 replace S:=S.below b1
 clear C5 b1
 have kd:=S.ks.2.1.1
 have kd0:=kd.at_ 0 _ rfl
 have kd1:=kd.at_ 1 _ rfl
 have kd2:=kd.at_ 2 _ rfl
 have kf0:=kd.fr 0
 have kf1:=kd.fr 1
 have kf2:=kd.fr 2
 have kdl:=kd.2
 go_wp2_with fail
 have S1:St TW w g p false v1 [(31,w.heap.size+1,zs)] [(.slice A n c,x.m)]:=⟨S.hg,S.O,S.W,⟨S.ks.1,trivial⟩,S.ns⟩
 have S2:=S1.putK kd (Nat.le_refl _) ⟨by omega,trivial⟩ (.bool false) (.slice A n c) (.int .i64 x.e)
 dsimp only [put3] at S2
 clear S S1 kd kd0 kd1 kd2 kf0 kf1 kf2 kdl
 generalize ((v1.setCell ⟨w.heap.size,0,none⟩ (.bool false)).setCell ⟨w.heap.size,1,none⟩ (.slice A n c)).setCell ⟨w.heap.size,2,none⟩ (.int .i64 x.e)=v2 at *
 have I3:=Lib.hid (IZ.out _ S2.ns.1)
 rw [Hd.out] at I3
 refine I3.out.mono ?_
 rintro e' v3 ⟨rfl,b3⟩
 have S:=S2.below b3
 clear I3 IZ b3 S2
 have k0:=S.ks.1.1.at_ 0 _ rfl
 have k0_1:=S.ks.1.1.at_ 1 _ rfl
 have k0_2:=S.ks.1.1.at_ 2 _ rfl
 have kl:=S.ks.1.1.2
 have KY1:=Lib.hid (C1.out _ S.ns.1)
 go_wp2_with fail
 refine KY1.out.mono ?_
 rintro e' v4 ⟨rfl,b4⟩
 replace S:=S.below b4
 clear KY1 C1 b4 k0 k0_1 k0_2 kl
 go_upto_region 5 with fail
 have SD:=S.drew
 have sd1:Num v4.drew (.slice A n c) x.m:=SD.ns.1
 have kl:=S.ks.1.1.2
 have kl2:=S.ks.2.1.1.2
 have HCC:Hid (∀ b' w' ns,St TW w g p b' w' [(24,w.heap.size,#[.bool false,.slice A n c,.int .i64 x.e]),(31,w.heap.size+1,zs)] ns→w'.cell? ⟨w.heap.size,0,none⟩=some (.bool false)∧w'.cell? ⟨w.heap.size,1,none⟩=some (.slice A n c)∧w'.cell? ⟨w.heap.size,2,none⟩=some (.int .i64 x.e)):=Lib.hid (fun b' w' ns h=>⟨h.ks.1.1.at_ 0 _ rfl,h.ks.1.1.at_ 1 _ rfl,h.ks.1.1.at_ 2 _ rfl⟩)
 have HPP:Hid (∀ b' w' ns,St TW w g p b' w' [(24,w.heap.size,#[.bool false,.slice A n c,.int .i64 x.e]),(31,w.heap.size+1,zs)] ns→∀ q1 q2 q3 q4 q5 q6,(put6 w' (w.heap.size+1) q1 q2 q3 q4 q5 q6).cell? ⟨w.heap.size,0,none⟩=some (.bool false)∧(put6 w' (w.heap.size+1) q1 q2 q3 q4 q5 q6).cell? ⟨w.heap.size,1,none⟩=some (.slice A n c)∧(put6 w' (w.heap.size+1) q1 q2 q3 q4 q5 q6).cell? ⟨w.heap.size,2,none⟩=some (.int .i64 x.e)):=Lib.hid (fun b' w' ns h q1 q2 q3 q4 q5 q6=>⟨(h.ks.1.1.only (only_put6 w' (w.heap.size+1) q1 q2 q3 q4 q5 q6) (by omega)).at_ 0 _ rfl,(h.ks.1.1.only (only_put6 w' (w.heap.size+1) q1 q2 q3 q4 q5 q6) (by omega)).at_ 1 _ rfl,(h.ks.1.1.only (only_put6 w' (w.heap.size+1) q1 q2 q3 q4 q5 q6) (by omega)).at_ 2 _ rfl⟩)
 have XS:=HCC.out _ _ _ SD
 clear S
 go_region_held3 (fun w'=>w'.cell? ⟨w.heap.size,0,none⟩=some (.bool false)∧w'.cell? ⟨w.heap.size,1,none⟩=some (.slice A n c)∧w'.cell? ⟨w.heap.size,2,none⟩=some (.int .i64 x.e))
  (first | with_reducible exact HPP.out _ _ _ V2 _ _ _ _ _ _ | with_reducible exact HCC.out _ _ _ V2 | with_reducible exact HCC.out _ _ _ V1 | with_reducible exact XS)
  (first
   | (go_at_call 110;refine (C2.out _ _ _ SD sd1).mono ?_;rintro e' v5 ⟨V,ok,A1,n1,c1,B1,m1,d1,rfl,N1,M1,W1,o1⟩;have V1:=((SD.only o1 (show Wk TW _ g p false from W1)).num M1).num N1;have u1:=V1.ns.1;have u2:=V1.ns.2.1)
   | (go_at_call 94;refine (C3.out _ _ _ _ _ _ _ _ _ _ ok V1 u1 u2).mono ?_;rintro e' v6 ⟨r,AO,A2,n2,c2,B2,m2,d2,rfl,N2,M2,W2,o2⟩;have V2:=((V1.only o2 W2).num M2).num N2;have z1:=V2.ks.2.1.1;have z1c0:=z1.at_ 0 _ rfl;have z1c1:=z1.at_ 1 _ rfl;have z1c2:=z1.at_ 2 _ rfl;have z1c3:=z1.at_ 3 _ rfl;have z1c4:=z1.at_ 4 _ rfl;have z1c5:=z1.at_ 5 _ rfl;have z1f0:=z1.fr 0;have z1f1:=z1.fr 1;have z1f2:=z1.fr 2;have z1f3:=z1.fr 3;have z1f4:=z1.fr 4;have z1f5:=z1.fr 5;have z1l:=z1.2;have z1n:=Nat.ne_of_lt z1.2;have z1n2:=Nat.ne_of_gt z1.2))
 go_wp2_with fail
 obtain ⟨x1,x2,x3,x4⟩:=V2.give (lo:=r.lo) (hi:=r.hi) V2.ns.1 V2.ns.2.1 z1 (by omega)
 exact bodyPost_ret (v:=spv r.lo.neg A2 n2 c2 r.lo.e r.hi.neg B2 m2 d2 r.hi.e) (by simp [results,Tryz.results60,go_sem,z1c0,z1c1,z1c2,z1c3,z1c4,z1c5]) rfl ⟨r,AO,A2,n2,c2,B2,m2,d2,rfl,x1,x2,x3,x4⟩
set_option maxRecDepth 8000 in
set_option maxHeartbeats 4000000 in
theorem ecosh_far {x:DR} {A:Option Addr} {n c:Nat} (neg:Bool) (g P:Nat) (B:Int) (w:World) (hW:Wk TW w g (P:Int) false) (ha:Num w (.slice A n c) x.m) (hx:Rch x) (hT:Tab w) (hP1:16≤P) (hP2:P≤1000) (hB:Bnd B (sz x)) (hB2:B≤132000) (h0:x.m≠0) (ht:-15≤x.e+(nb x.m:Int)) :
 Calls Tryz.prog 60 #[.pointer (some ⟨g,0,none⟩),dyv neg A n c x.e] w (fun e w'=>∃ r,AtOk P (B+3100) r (chQ (sz x))∧SPost TW w g (P:Int) r e w'):=by
 have S:=(std1 hW (.bool neg) (.slice A n c) (.int .i64 x.e)).num (((ha.below (alloc_bel w _)).below (alloc_bel _ _)))
 have TB:Hid (∀ w' ks ns,St TW w g (P:Int) false w' ks ns→Tab w'):=Lib.hid (fun w' ks ns h=>hT.wk hW h.O)
 have hbb:=hB.b
 obtain ⟨p,hp⟩:∃ p:Int,p=(P:Int):=⟨_,rfl⟩
 have IZ:Hid (∀ w' ,Num w' (.slice A n c) x.m→Calls Tryz.prog 90 #[.agg #[.bool false,.slice A n c,.int .i64 x.e]] w' (fun r w''=>r=.returned (.bool (decide (x.m=0)))∧Below w'.heap.size w' w'')):=Lib.hid (fun w' h1=>eisZero_any false x.e h1)
 have C5:Hid (∀ w',Calls Tryz.prog 93 #[.agg #[.bool neg,.slice A n c,.int .i64 x.e]] w' fun r w''=>r=.returned (.agg #[.bool false,.slice A n c,.int .i64 x.e])∧Below w'.heap.size w' w''):=Lib.hid (fun w'=>esize_any neg A n c x.e w')
 obtain ⟨T,hTp⟩:∃ T,T=x.e+(nb x.m:Int):=⟨_,rfl⟩
 have C1:Hid (∀ w' ,Num w' (.slice A n c) x.m→Calls Tryz.prog 108 #[dyv false A n c x.e] w' (IntPost w' T)):=Lib.hid (fun w' h1=>by
  obtain ⟨A0,n0,c0,f,hA0,hs,hn,hc,hVe⟩:=h1.raw 1000 (by have:=hx.b;omega)
  cases hA0
  have:=etop_any false A n c f x.e w' hs (by omega) (by have:=hx.e1;omega) (by have:=hx.t;omega)
  rw [hVe,← hTp] at this
  exact this)
 obtain ⟨d,d1,d2,d3,d4,d5⟩:=one_sq (p:=(P:Int)+64) (by omega) (by omega)
 have C2:Hid (∀ w' ks ns gi,St2 TW 38 w g (P:Int) w' ks ns gi ((P:Int)+64)→Num w' (.slice A n c) x.m→Calls Tryz.prog 92 #[.pointer (some ⟨g,0,none⟩),dyv false A n c x.e] w' (fun e w''=>∃ V E,PowOk P (sz x) V E∧SPost TW w' g (P:Int) (fromR P V E) e w'')):=Lib.hid (fun w' ks ns gi h h1=>epower_any g P w' h.S.W h1 (TB.out _ _ _ h.S) hP1 (by omega) (by have:=hx.b;omega) (by have:=hx.e1;omega) hx.t hx.s)
 have C3:Hid (∀ w' ks ns,St TW w g (P:Int) false w' ks ns→Calls Tryz.prog 111 #[.pointer (some ⟨g,0,none⟩)] w' (fun r w''=>r=.returned (.pointer (some ⟨w'.heap.size,0,none⟩))∧Wk 38 w'' w'.heap.size ((P:Int)+64) false∧Below w'.heap.size w' w'')):=Lib.hid (fun w' ks ns h=>efiner_any g (P:Int) w' h.W (by omega) (by omega))
 have CN:Hid (∀ w' ks ns gi,St2 TW 38 w g (P:Int) w' ks ns gi ((P:Int)+64)→Calls Tryz.prog 31 #[.pointer (some ⟨gi,0,none⟩),.int .i64 1] w' (SPost 38 w' gi ((P:Int)+64) ⟨false,d,d⟩)):=Lib.hid (fun w' ks ns gi h=>by rw [← d1];exact num_any 1 gi ((P:Int)+64) false w' h.W2 (TB.out _ _ _ h.S) (by omega) (by omega))
 have CD:Hid (∀ w' ks ns gi V E A0 n0 c0 B0 m0 d0 A7 n7 c7 B7 m7 d7,PowOk P (sz x) V E→St2 TW 38 w g (P:Int) w' ks ns gi ((P:Int)+64)→Num w' (.slice A7 n7 c7) d.m→Num w' (.slice B7 m7 d7) d.m→Num w' (.slice A0 n0 c0) (fromR P V E).lo.m→Num w' (.slice B0 m0 d0) (fromR P V E).hi.m→Calls Tryz.prog 91 #[.pointer (some ⟨gi,0,none⟩),spv d.neg A7 n7 c7 d.e d.neg B7 m7 d7 d.e,spv (fromR P V E).lo.neg A0 n0 c0 (fromR P V E).lo.e (fromR P V E).hi.neg B0 m0 d0 (fromR P V E).hi.e] w' (fun e w''=>∃ q,Hid (q=(divC ((P:Int)+64) false d d (fromR P V E).lo (fromR P V E).hi))∧q.bad=false∧SGood q∧SPost 38 w' gi ((P:Int)+64) q e w'')):=Lib.hid (fun w' ks ns gi V E _ _ _ _ _ _ _ _ _ _ _ _ ok h h3 h4 h1 h2=>by
  have b1:=ok.b1
  have b2:=ok.b2
  have e1:=ok.e1
  have t1:=ok.top (sz_nonneg x) hB
  have G:=(from_sq (P:=P) (V:=V) (E:=E) (B:=B) (by omega) (by omega) (by omega) (by omega) (by omega) (by omega) (by omega)).1.good
  have D:=(inv_ok (p:=(P:Int)+64) (by omega) (by omega) hP1 hP2 ok (sz_nonneg x) hB hB2 d2 d3).1
  exact (div_any gi ((P:Int)+64) false w' h.W2 (DIn.of_num h3 d4 d5) (DIn.of_num h4 d4 d5) (DIn.of_num h1 G.l2 G.l1) (DIn.of_num h2 G.h2 G.h1) (TB.out _ _ _ h.S)).mono fun e w'' hp=>⟨_,Lib.hid rfl,D.bad,D.good,hp⟩)
 have CA:Hid (∀ w' ks ns gi V E q A0 n0 c0 B0 m0 d0 A7 n7 c7 B7 m7 d7,PowOk P (sz x) V E→Hid (q=(divC ((P:Int)+64) false d d (fromR P V E).lo (fromR P V E).hi))→SGood q→St2 TW 38 w g (P:Int) w' ks ns gi ((P:Int)+64)→Num w' (.slice A0 n0 c0) (fromR P V E).lo.m→Num w' (.slice B0 m0 d0) (fromR P V E).hi.m→Num w' (.slice A7 n7 c7) q.lo.m→Num w' (.slice B7 m7 d7) q.hi.m→Calls Tryz.prog 39 #[.pointer (some ⟨gi,0,none⟩),spv (fromR P V E).lo.neg A0 n0 c0 (fromR P V E).lo.e (fromR P V E).hi.neg B0 m0 d0 (fromR P V E).hi.e,spv q.lo.neg A7 n7 c7 q.lo.e q.hi.neg B7 m7 d7 q.hi.e] w' (fun e w''=>∃ s,Hid (s=(addS ((P:Int)+64) false (fromR P V E).lo (fromR P V E).hi q.lo q.hi))∧s.bad=false∧SGood s∧SPost 38 w' gi ((P:Int)+64) s e w'')):=Lib.hid (fun w' ks ns gi V E q _ _ _ _ _ _ _ _ _ _ _ _ ok hq G2 h h1 h2 h3 h4=>by
  have b1:=ok.b1
  have b2:=ok.b2
  have e1:=ok.e1
  have t1:=ok.top (sz_nonneg x) hB
  have FS:=(from_sq (P:=P) (V:=V) (E:=E) (B:=B) (by omega) (by omega) (by omega) (by omega) (by omega) (by omega) (by omega)).1
  have G:=FS.good
  have D:=(inv_ok (p:=(P:Int)+64) (by omega) (by omega) hP1 hP2 ok (sz_nonneg x) hB hB2 d2 d3).1
  have A:=(add_q (p:=(P:Int)+64) (by omega) (by omega) (FS.more (show B≤B+3000 by omega)) D (by omega) (by omega)).1
  rw [← hq.out] at A
  exact (sadd_any gi ((P:Int)+64) false w' h.W2 (DIn.of_num h1 G.l2 G.l1) (DIn.of_num h2 G.h2 G.h1) (DIn.of_num h3 G2.l2 G2.l1) (DIn.of_num h4 G2.h2 G2.h1) (TB.out _ _ _ h.S)).mono fun e w'' hp=>⟨_,Lib.hid rfl,A.bad,A.good,hp⟩)
 have CH:Hid (∀ w' ks ns gi V E q s A0 n0 c0 B0 m0 d0,PowOk P (sz x) V E→Hid (q=(divC ((P:Int)+64) false d d (fromR P V E).lo (fromR P V E).hi))→Hid (s=(addS ((P:Int)+64) false (fromR P V E).lo (fromR P V E).hi q.lo q.hi))→SGood s→St2 TW 38 w g (P:Int) w' ks ns gi ((P:Int)+64)→Num w' (.slice A0 n0 c0) s.lo.m→Num w' (.slice B0 m0 d0) s.hi.m→Calls Tryz.prog 112 #[.pointer (some ⟨g,0,none⟩),.pointer (some ⟨gi,0,none⟩),spv s.lo.neg A0 n0 c0 s.lo.e s.hi.neg B0 m0 d0 s.hi.e] w' (fun e w''=>∃ r,AtOk P (B+3100) r (chQ (sz x))∧SPost TW w' g (P:Int) r e w'')):=Lib.hid (fun w' ks ns gi V E q s _ _ _ _ _ _ ok hq hs G h h1 h2=>by
  have AO:=cosh_ok hP1 hP2 ok (sz_nonneg x) hB hB2 d2 d3
  rw [← hq.out,← hs.out] at AO
  exact (ehalf_any g gi (P:Int) ((P:Int)+64) w' h.S.W h.W2 G h1 h2 (TB.out _ _ _ h.S)).mono fun e w'' hp=>⟨_,AO,hp⟩)
 have hd:decide (x.m=0)=false:=decide_eq_false h0
 have Hd:=Lib.hid hd
 have ht2:decide (T≤-16)=false:=decide_eq_false (by omega)
 obtain ⟨p2,hp2⟩:∃ p2:Int,p2=(P:Int)+64:=⟨_,rfl⟩
 rw [← hp2] at C2 C3 CN CD CA CH
 rw [← hp] at S C2 C3 CN CD CA CH ⊢
 clear hd hp hp2 TB hT hW hB hB2 hbb hx ha h0 hTp ht d1 d2 d3 d4 d5
 go_enter Tryz.func60,Tryz.ntmps60
 go_wp2_with fail
 refine (C5.out _).mono ?_
 rintro e' v1 ⟨rfl,b1⟩
 replace S:=S.below b1
 clear C5 b1
 have kd:=S.ks.2.1.1
 have kd0:=kd.at_ 0 _ rfl
 have kd1:=kd.at_ 1 _ rfl
 have kd2:=kd.at_ 2 _ rfl
 have kf0:=kd.fr 0
 have kf1:=kd.fr 1
 have kf2:=kd.fr 2
 have kdl:=kd.2
 go_wp2_with fail
 have S1:St TW w g p false v1 [(31,w.heap.size+1,zs)] [(.slice A n c,x.m)]:=⟨S.hg,S.O,S.W,⟨S.ks.1,trivial⟩,S.ns⟩
 have S2:=S1.putK kd (Nat.le_refl _) ⟨by omega,trivial⟩ (.bool false) (.slice A n c) (.int .i64 x.e)
 dsimp only [put3] at S2
 clear S S1 kd kd0 kd1 kd2 kf0 kf1 kf2 kdl
 generalize ((v1.setCell ⟨w.heap.size,0,none⟩ (.bool false)).setCell ⟨w.heap.size,1,none⟩ (.slice A n c)).setCell ⟨w.heap.size,2,none⟩ (.int .i64 x.e)=v2 at *
 have I3:=Lib.hid (IZ.out _ S2.ns.1)
 rw [Hd.out] at I3
 refine I3.out.mono ?_
 rintro e' v3 ⟨rfl,b3⟩
 have S:=S2.below b3
 clear I3 IZ b3 S2
 have k0:=S.ks.1.1.at_ 0 _ rfl
 have k0_1:=S.ks.1.1.at_ 1 _ rfl
 have k0_2:=S.ks.1.1.at_ 2 _ rfl
 have kl:=S.ks.1.1.2
 have KY1:=Lib.hid (C1.out _ S.ns.1)
 go_wp2_with fail
 refine KY1.out.mono ?_
 rintro e' v4 ⟨rfl,b4⟩
 replace S:=S.below b4
 clear KY1 C1 b4 k0 k0_1 k0_2 kl
 have KY3:=Lib.hid (C3.out _ _ _ S)
 clear C3
 go_wp2_with fail
 refine KY3.out.mono ?_
 rintro e' v6 ⟨rfl,Wi,b6⟩
 obtain ⟨gi,hgi⟩:∃ gi,gi=v4.heap.size:=⟨_,rfl⟩
 have hgl:=S.size
 have k1l:=S.ks.1.1.2
 have k2l:=S.ks.2.1.1.2
 have Q:St2 TW 38 w g p v6 [(24,w.heap.size,#[.bool false,.slice A n c,.int .i64 x.e]),(31,w.heap.size+1,zs)] [(.slice A n c,x.m)] gi p2:=⟨S.below b6,by rw [hgi];exact Wi,by omega,⟨by omega,by omega,trivial⟩⟩
 rw [← hgi]
 clear S KY3 Wi b6 hgi hgl k1l k2l
 have k0:=Q.S.ks.1.1.at_ 0 _ rfl
 have k0_1:=Q.S.ks.1.1.at_ 1 _ rfl
 have k0_2:=Q.S.ks.1.1.at_ 2 _ rfl
 have kl:=Q.S.ks.1.1.2
 have KY2:=Lib.hid (C2.out _ _ _ _ Q Q.S.ns.1)
 clear C2
 go_wp2_with fail
 refine KY2.out.mono ?_
 rintro e' v7 ⟨V,E,ok,A3,n3,c3,B3,m3,d3,rfl,N3,M3,W3,o3⟩
 have Q3:=((Q.onC o3 (show Wk TW _ g p false from W3)).num M3).num N3
 clear KY2 Q k0 k0_1 k0_2 kl
 have hsz:=Q3.S.size
 have kl1:=Q3.S.ks.1.1.2
 have kl2:=Q3.S.ks.2.1.1.2
 go_upto_region 8 with fail
 have Q4:=Q3.alloc 31 #[.bool (fromR P V E).lo.neg,.slice A3 n3 c3,.int .i64 (fromR P V E).lo.e,.bool (fromR P V E).hi.neg,.slice B3 m3 d3,.int .i64 (fromR P V E).hi.e]
 clear Q3
 generalize v7.alloc (.cells #[.bool (fromR P V E).lo.neg,.slice A3 n3 c3,.int .i64 (fromR P V E).lo.e,.bool (fromR P V E).hi.neg,.slice B3 m3 d3,.int .i64 (fromR P V E).hi.e] 31)=y7 at *
 have SD:=Q4.drew
 have HCC:Hid (∀ w' ns,St2 TW 38 w g p w' [(31,v7.heap.size,#[.bool (fromR P V E).lo.neg,.slice A3 n3 c3,.int .i64 (fromR P V E).lo.e,.bool (fromR P V E).hi.neg,.slice B3 m3 d3,.int .i64 (fromR P V E).hi.e]),(24,w.heap.size,#[.bool false,.slice A n c,.int .i64 x.e]),(31,w.heap.size+1,zs)] ns gi p2→w'.cell? ⟨v7.heap.size,0,none⟩=some (.bool (fromR P V E).lo.neg)∧w'.cell? ⟨v7.heap.size,1,none⟩=some (.slice A3 n3 c3)∧w'.cell? ⟨v7.heap.size,2,none⟩=some (.int .i64 (fromR P V E).lo.e)∧w'.cell? ⟨v7.heap.size,3,none⟩=some (.bool (fromR P V E).hi.neg)∧w'.cell? ⟨v7.heap.size,4,none⟩=some (.slice B3 m3 d3)∧w'.cell? ⟨v7.heap.size,5,none⟩=some (.int .i64 (fromR P V E).hi.e)):=Lib.hid (fun w' ns h=>⟨h.S.ks.1.1.at_ 0 _ rfl,h.S.ks.1.1.at_ 1 _ rfl,h.S.ks.1.1.at_ 2 _ rfl,h.S.ks.1.1.at_ 3 _ rfl,h.S.ks.1.1.at_ 4 _ rfl,h.S.ks.1.1.at_ 5 _ rfl⟩)
 have HPP:Hid (∀ w' ns,St2 TW 38 w g p w' [(31,v7.heap.size,#[.bool (fromR P V E).lo.neg,.slice A3 n3 c3,.int .i64 (fromR P V E).lo.e,.bool (fromR P V E).hi.neg,.slice B3 m3 d3,.int .i64 (fromR P V E).hi.e]),(24,w.heap.size,#[.bool false,.slice A n c,.int .i64 x.e]),(31,w.heap.size+1,zs)] ns gi p2→∀ q1 q2 q3 q4 q5 q6,(put6 w' (w.heap.size+1) q1 q2 q3 q4 q5 q6).cell? ⟨v7.heap.size,0,none⟩=some (.bool (fromR P V E).lo.neg)∧(put6 w' (w.heap.size+1) q1 q2 q3 q4 q5 q6).cell? ⟨v7.heap.size,1,none⟩=some (.slice A3 n3 c3)∧(put6 w' (w.heap.size+1) q1 q2 q3 q4 q5 q6).cell? ⟨v7.heap.size,2,none⟩=some (.int .i64 (fromR P V E).lo.e)∧(put6 w' (w.heap.size+1) q1 q2 q3 q4 q5 q6).cell? ⟨v7.heap.size,3,none⟩=some (.bool (fromR P V E).hi.neg)∧(put6 w' (w.heap.size+1) q1 q2 q3 q4 q5 q6).cell? ⟨v7.heap.size,4,none⟩=some (.slice B3 m3 d3)∧(put6 w' (w.heap.size+1) q1 q2 q3 q4 q5 q6).cell? ⟨v7.heap.size,5,none⟩=some (.int .i64 (fromR P V E).hi.e)):=Lib.hid (fun w' ns h q1 q2 q3 q4 q5 q6=>⟨(h.S.ks.1.1.only (only_put6 w' (w.heap.size+1) q1 q2 q3 q4 q5 q6) (by omega)).at_ 0 _ rfl,(h.S.ks.1.1.only (only_put6 w' (w.heap.size+1) q1 q2 q3 q4 q5 q6) (by omega)).at_ 1 _ rfl,(h.S.ks.1.1.only (only_put6 w' (w.heap.size+1) q1 q2 q3 q4 q5 q6) (by omega)).at_ 2 _ rfl,(h.S.ks.1.1.only (only_put6 w' (w.heap.size+1) q1 q2 q3 q4 q5 q6) (by omega)).at_ 3 _ rfl,(h.S.ks.1.1.only (only_put6 w' (w.heap.size+1) q1 q2 q3 q4 q5 q6) (by omega)).at_ 4 _ rfl,(h.S.ks.1.1.only (only_put6 w' (w.heap.size+1) q1 q2 q3 q4 q5 q6) (by omega)).at_ 5 _ rfl⟩)
 have XS:=HCC.out _ _ SD
 clear Q4
 go_region_held3 (fun w'=>w'.cell? ⟨v7.heap.size,0,none⟩=some (.bool (fromR P V E).lo.neg)∧w'.cell? ⟨v7.heap.size,1,none⟩=some (.slice A3 n3 c3)∧w'.cell? ⟨v7.heap.size,2,none⟩=some (.int .i64 (fromR P V E).lo.e)∧w'.cell? ⟨v7.heap.size,3,none⟩=some (.bool (fromR P V E).hi.neg)∧w'.cell? ⟨v7.heap.size,4,none⟩=some (.slice B3 m3 d3)∧w'.cell? ⟨v7.heap.size,5,none⟩=some (.int .i64 (fromR P V E).hi.e))
  (first | with_reducible exact HPP.out _ _ VD _ _ _ _ _ _ | with_reducible exact HCC.out _ _ VD | with_reducible exact HCC.out _ _ VC | with_reducible exact HCC.out _ _ VB | with_reducible exact HCC.out _ _ VA | with_reducible exact XS)
  (first
   | (go_at_call 31;refine (CN.out _ _ _ _ SD).mono ?_;rintro e' v8 ⟨A4,n4,c4,B4,m4,d4,rfl,N4,M4,W4,o4⟩;have VA:=((SD.onI o4 W4).num M4).num N4;have u1:=VA.S.ns.1;have u2:=VA.S.ns.2.1;have u3:=VA.S.ns.2.2.1;have u4:=VA.S.ns.2.2.2.1)
   | (go_at_call 91;refine (CD.out _ _ _ _ _ _ _ _ _ _ _ _ _ _ _ _ _ _ ok VA u1 u2 u3 u4).mono ?_;rintro e' v9 ⟨q,hq,qb,qG,A5,n5,c5,B5,m5,d5,rfl,N5,M5,W5,o5⟩;rw [qb] at W5;have VB:=((VA.onI o5 W5).num M5).num N5;have t1:=VB.S.ns.1;have t2:=VB.S.ns.2.1;have t3:=VB.S.ns.2.2.2.2.1;have t4:=VB.S.ns.2.2.2.2.2.1)
   | (go_at_call 39;refine (CA.out _ _ _ _ _ _ _ _ _ _ _ _ _ _ _ _ _ _ _ ok hq qG VB t3 t4 t1 t2).mono ?_;rintro e' v10 ⟨s,hs,sb,sG,A6,n6,c6,B6,m6,d6,rfl,N6,M6,W6,o6⟩;rw [sb] at W6;have VC:=((VB.onI o6 W6).num M6).num N6;have r1:=VC.S.ns.1;have r2:=VC.S.ns.2.1)
   | (go_at_call 112;refine (CH.out _ _ _ _ _ _ _ _ _ _ _ _ _ _ ok hq hs sG VC r1 r2).mono ?_;rintro e' v11 ⟨r,AO,A8,n8,c8,B8,m8,d8,rfl,N8,M8,W8,o8⟩;have W8':Wk TW v11 g p false:=(by rw [← AO.q.bad];exact W8);have VD:=((VC.onC o8 W8').num M8).num N8;have z1:=VD.S.ks.2.2.1.1;have z1c0:=z1.at_ 0 _ rfl;have z1c1:=z1.at_ 1 _ rfl;have z1c2:=z1.at_ 2 _ rfl;have z1c3:=z1.at_ 3 _ rfl;have z1c4:=z1.at_ 4 _ rfl;have z1c5:=z1.at_ 5 _ rfl;have z1f0:=z1.fr 0;have z1f1:=z1.fr 1;have z1f2:=z1.fr 2;have z1f3:=z1.fr 3;have z1f4:=z1.fr 4;have z1f5:=z1.fr 5;have z1l:=z1.2;have z1n:=Nat.ne_of_lt z1.2;have z1n2:=Nat.ne_of_gt z1.2))
 go_wp2_with fail
 obtain ⟨x1,x2,x3,x4⟩:=VD.S.give (lo:=r.lo) (hi:=r.hi) VD.S.ns.1 VD.S.ns.2.1 z1 (by omega)
 exact bodyPost_ret (v:=spv r.lo.neg A8 n8 c8 r.lo.e r.hi.neg B8 m8 d8 r.hi.e) (by simp [results,Tryz.results60,go_sem,z1c0,z1c1,z1c2,z1c3,z1c4,z1c5]) rfl ⟨r,AO,A8,n8,c8,B8,m8,d8,rfl,x1,x2,by rw [AO.q.bad];exact x3,x4⟩
theorem ecoshAt_any {x:DR} {A:Option Addr} {n c:Nat} (neg:Bool) (g P:Nat) (B:Int) (w:World) (hW:Wk TW w g (P:Int) false) (ha:Num w (.slice A n c) x.m) (hx:Rch x) (hT:Tab w) (hP1:16≤P) (hP2:P≤1000) (hB:Bnd B (sz x)) (hB2:B≤132000) :
 Calls Tryz.prog 60 #[.pointer (some ⟨g,0,none⟩),dyv neg A n c x.e] w (fun e w'=>∃ r,AtOk P (B+3100) r (chQ (sz x))∧SPost TW w g (P:Int) r e w'):=by
 by_cases h0:x.m=0
 · exact ecosh_zero neg g P B w hW ha hT hP1 hP2 hB hB2 h0
 · by_cases ht:x.e+(nb x.m:Int)≤-16
   · exact ecosh_near neg g P B w hW ha hx hT hP1 hP2 hB hB2 h0 ht
   · exact ecosh_far neg g P B w hW ha hx hT hP1 hP2 hB hB2 h0 (by omega)
end Go.Proofs.YtmbmohibpkepdaaGreatDoor
