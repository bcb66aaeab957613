import Derived.Test.YtmbmohibpkepdaaGreatDoorPlSGDy13
import Derived.Test.YtmbmohibpkepdaaGreatDoorPlSGSp3
set_option maxRecDepth 8000
set_option maxHeartbeats 4000000
open Go.Lib renaming hid->lY
open Go.Proofs.Tryz renaming prog->mF, results109->oM, results50->oY, ntmps50->tz, func50->yb, results31->Bl, results51->Bx, ntmps31->EM, ntmps51->Gk, func31->Gl, func51->Gm
open Go.IntKind renaming wrap_u64->ou
open Bool renaming or_true->qK, false_and->DE, true_and->DF
namespace Go.Proofs.YtmbmohibpkepdaaGreatDoor
open Go.RowKit
section
variable {TW:TypeId}
def dY (p:Int)(bad:Bool)(n:Int):SRes:=uj p bad (bH (decide (n < 0)) n.natAbs 0)
theorem oe (neg:Bool)(N:Nat)(hN:N<=9223372036854775808):(bH neg N 0).ok=true/\aR (bH neg N 0).neg (bH neg N 0).m (bH neg N 0).e=true:=by
 have hok:(bH neg N 0).ok=true:=by
  unfold bH
  by_cases h0:N=0
  . rw[if_pos h0];rfl
  . rw[if_neg h0]
    have h1:nb (od N)<=64:=by
     have:=bQ (pN N)
     have:=(bi N 64).2 (by omega)
     omega
    have h2:=kE (show 0 < N by omega);have h3:=(bi N 64).2 (by omega);rw[if_pos ⟨by rw[iD];omega,by unfold cR;omega⟩]
 exact⟨hok,gZ _ _ _ hok⟩
theorem wX {p:Int}{bad:Bool}{n:Int}(h1:-9223372036854775808<=n)(h2:n<=9223372036854775807):dA (dY p bad n) :=
 yH (fun _=>aV (oe _ _ (by omega)).2)
theorem fO (n:Int)(g:Nat)(p:Int)(bad:Bool)(w:World)(hW:Wk TW w g p bad)(hT:bx w)(hn1:-9223372036854775808<=n)(hn2:n<=9223372036854775807):
 Calls mF 31 #[.pointer (some ⟨g,0,none⟩),.int .i64 n] w (ap TW w g p (dY p bad n)):=by
 by_cases h0:n < 0
 . skip
   have hd:decide (n < 0)=true:=by simpa using h0
   obtain⟨N,hN⟩:∃ N:Nat,n=-(N:Int):=⟨n.natAbs,by omega⟩;obtain⟨K,hK⟩:∃ K:Nat,(K:Int)=18446744073709551616-(N:Int):=⟨18446744073709551616-N,by omega⟩
   have hN1:1<=N:=by omega
   have hN2:N<=9223372036854775808:=by omega
   have hc:IntKind.u64.wrap n=(K:Int):=by rw[ou];omega
   have hc2:IntKind.u64.wrap (-(K:Int))=(N:Int):=by rw[ou];omega
   have hsg:decide (n < 0)=true:=hd
   have hab:n.natAbs=N:=by omega
   clear hN hK;have S:=(St.start hW).alloc 31 zs;have HT:Hid (dY p bad n=uj p bad (bH true N 0)):=lY (by unfold dY;rw[hsg,hab])
   have HM:Hid (∀ w',az w w' g->∀ z:Int,z=(N:Int)->Calls mF 75 #[.bool true,.slice (some ⟨w'.heap.size,0,none⟩) 1 1,.int .i64 0] (w'.alloc (.cells #[.int .u64 z] 51)) (DP (w'.alloc (.cells #[.int .u64 z] 51)) (bH true N 0))):=lY (fun w' o z hz=>by
    subst hz
    have:=de true _ 1 1 (fun _=>N) 0 _ (gf 51 w' N (by unfold ai;omega)) (by omega) ((hT.wk hW o).below (ag _ _)) (by omega) (by omega)
    rw[f5]at this
    exact this.mono fun _ _ h=>h.dp)
   have hpl:=oe true N (by omega);clear hsg hab;generalize bH true N 0=r at *;have k0:=S.ks.1.1;obtain⟨k0_0,k0_1,k0_2,k0_3,k0_4,k0_5⟩:=k0.c6;have k0l:=k0.2;clear k0;go_enter Gl,EM;go_wp2_with fail;generalize hw1:w.alloc z6=w1 at *
   have hs1:w.heap.size+1=w1.heap.size:=by rw[← hw1];simp
   have MK:=HM.out w1 S.O _ rfl;rw[← hs1]at MK;have HMK:=lY MK;have SA:=S.below (ag w1 (.cells #[.int .u64 (N:Int)] 51));clear MK hw1 HM hs1 S k0_0 k0_1 k0_2 k0_3 k0_4 k0_5 k0l;refine HMK.out.mono ?_;clear HMK;rintro e' v1 ⟨A1,n1,c1,rfl,m1,b1⟩;have S:=(SA.below b1).num m1;clear SA b1 m1;have k1:=S.ks.1.1;obtain⟨k1_0,k1_1,k1_2,k1_3,k1_4,k1_5⟩:=k1.c6;have k1l:=k1.2;clear k1;go_wp2_with fail;replace S:=S.alloc 24 #[.bool r.neg,.slice A1 n1 c1,.int .i64 r.e];generalize v1.alloc (.cells #[.bool r.neg,.slice A1 n1 c1,.int .i64 r.e] 24)=y1 at *;clear k1_0 k1_1 k1_2 k1_3 k1_4 k1_5 k1l;refine(gY g p bad y1 S.W (aC.of_num S.ns.1 hpl.2 hpl.1)).mono ?_;rintro e' w3 ⟨A9,p9,c9,B9,q9,d9,rfl,m1,m2,hW9,o9⟩;replace S:=S.only o9 hW9;clear o9 hW9;generalize uj p bad r=r1 at *;have kR:=S.ks.2.1.1;obtain⟨s0,s1,s2,s3q,s4,s5⟩:=kR.c6;obtain⟨rf0,rf1,rf2,rf3,rf4,rf5⟩:=kR.f6;go_wp2_with fail;rw[HT.out];obtain⟨q1,q2,q3,q4⟩:=S.give (lo:=r1.lo) (hi:=r1.hi) m1 m2 kR (by omega);exact bodyPost_ret (v:=aG r1.lo.neg A9 p9 c9 r1.lo.e r1.hi.neg B9 q9 d9 r1.hi.e) (by simp[results,Bl,go_sem,s0,s1,s2,s3q,s4,s5]) rfl ⟨A9,p9,c9,B9,q9,d9,rfl,q1,q2,q3,q4⟩
 . skip
   have hd:decide (n < 0)=false:=by simpa using h0
   obtain⟨N,hN⟩:∃ N:Nat,n=(N:Int):=⟨n.natAbs,by omega⟩
   have hN2:N<=9223372036854775808:=by omega
   have hc:IntKind.u64.wrap n=(N:Int):=by rw[ou];omega
   have hsg:decide (n < 0)=false:=hd
   have hab:n.natAbs=N:=by omega
   clear hN;have S:=(St.start hW).alloc 31 zs;have HT:Hid (dY p bad n=uj p bad (bH false N 0)):=lY (by unfold dY;rw[hsg,hab])
   have HM:Hid (∀ w',az w w' g->∀ z:Int,z=(N:Int)->Calls mF 75 #[.bool false,.slice (some ⟨w'.heap.size,0,none⟩) 1 1,.int .i64 0] (w'.alloc (.cells #[.int .u64 z] 51)) (DP (w'.alloc (.cells #[.int .u64 z] 51)) (bH false N 0))):=lY (fun w' o z hz=>by
    subst hz
    have:=de false _ 1 1 (fun _=>N) 0 _ (gf 51 w' N (by unfold ai;omega)) (by omega) ((hT.wk hW o).below (ag _ _)) (by omega) (by omega)
    rw[f5]at this
    exact this.mono fun _ _ h=>h.dp)
   have hpl:=oe false N (by omega);clear hsg hab;generalize bH false N 0=r at *;have k0:=S.ks.1.1;obtain⟨k0_0,k0_1,k0_2,k0_3,k0_4,k0_5⟩:=k0.c6;have k0l:=k0.2;clear k0;go_enter Gl,EM;go_wp2_with fail;generalize hw1:w.alloc z6=w1 at *
   have hs1:w.heap.size+1=w1.heap.size:=by rw[← hw1];simp
   have MK:=HM.out w1 S.O _ rfl;rw[← hs1]at MK;have HMK:=lY MK;have SA:=S.below (ag w1 (.cells #[.int .u64 (N:Int)] 51));clear MK hw1 HM hs1 S k0_0 k0_1 k0_2 k0_3 k0_4 k0_5 k0l;refine HMK.out.mono ?_;clear HMK;rintro e' v1 ⟨A1,n1,c1,rfl,m1,b1⟩;have S:=(SA.below b1).num m1;clear SA b1 m1;have k1:=S.ks.1.1;obtain⟨k1_0,k1_1,k1_2,k1_3,k1_4,k1_5⟩:=k1.c6;have k1l:=k1.2;clear k1;go_wp2_with fail;replace S:=S.alloc 24 #[.bool r.neg,.slice A1 n1 c1,.int .i64 r.e];generalize v1.alloc (.cells #[.bool r.neg,.slice A1 n1 c1,.int .i64 r.e] 24)=y1 at *;clear k1_0 k1_1 k1_2 k1_3 k1_4 k1_5 k1l;refine(gY g p bad y1 S.W (aC.of_num S.ns.1 hpl.2 hpl.1)).mono ?_;rintro e' w3 ⟨A9,p9,c9,B9,q9,d9,rfl,m1,m2,hW9,o9⟩;replace S:=S.only o9 hW9;clear o9 hW9;generalize uj p bad r=r1 at *;have kR:=S.ks.2.1.1;obtain⟨s0,s1,s2,s3q,s4,s5⟩:=kR.c6;obtain⟨rf0,rf1,rf2,rf3,rf4,rf5⟩:=kR.f6;go_wp2_with fail;rw[HT.out];obtain⟨q1,q2,q3,q4⟩:=S.give (lo:=r1.lo) (hi:=r1.hi) m1 m2 kR (by omega);exact bodyPost_ret (v:=aG r1.lo.neg A9 p9 c9 r1.lo.e r1.hi.neg B9 q9 d9 r1.hi.e) (by simp[results,Bl,go_sem,s0,s1,s2,s3q,s4,s5]) rfl ⟨A9,p9,c9,B9,q9,d9,rfl,q1,q2,q3,q4⟩
theorem io (n:Int)(g:Nat)(p:Int)(bad:Bool)(w:World)(hW:Wk 49 w g p bad)(hT:bx w)(hn1:-9223372036854775808<=n)(hn2:n<=9223372036854775807):
 Calls mF 51 #[.pointer (some ⟨g,0,none⟩),.int .i64 n] w (ap 49 w g p (dY p bad n)):=by
 by_cases h0:n < 0
 . skip
   have hd:decide (n < 0)=true:=by simpa using h0
   obtain⟨N,hN⟩:∃ N:Nat,n=-(N:Int):=⟨n.natAbs,by omega⟩;obtain⟨K,hK⟩:∃ K:Nat,(K:Int)=18446744073709551616-(N:Int):=⟨18446744073709551616-N,by omega⟩
   have hN1:1<=N:=by omega
   have hN2:N<=9223372036854775808:=by omega
   have hc:IntKind.u64.wrap n=(K:Int):=by rw[ou];omega
   have hc2:IntKind.u64.wrap (-(K:Int))=(N:Int):=by rw[ou];omega
   have hsg:decide (n < 0)=true:=hd
   have hab:n.natAbs=N:=by omega
   clear hN hK;have S:=(St.start hW).alloc 31 zs;have HT:Hid (dY p bad n=uj p bad (bH true N 0)):=lY (by unfold dY;rw[hsg,hab])
   have HM:Hid (∀ w',az w w' g->∀ z:Int,z=(N:Int)->Calls mF 98 #[.bool true,.slice (some ⟨w'.heap.size,0,none⟩) 1 1,.int .i64 0] (w'.alloc (.cells #[.int .u64 z] 51)) (DP (w'.alloc (.cells #[.int .u64 z] 51)) (bH true N 0))):=lY (fun w' o z hz=>by
    subst hz
    have:=jC true _ 1 1 (fun _=>N) 0 _ (gf 51 w' N (by unfold ai;omega)) (by omega) ((hT.wk hW o).below (ag _ _)) (by omega) (by omega)
    rw[f5]at this
    exact this.mono fun _ _ h=>h.dp)
   have hpl:=oe true N (by omega);clear hsg hab;generalize bH true N 0=r at *;have k0:=S.ks.1.1;obtain⟨k0_0,k0_1,k0_2,k0_3,k0_4,k0_5⟩:=k0.c6;have k0l:=k0.2;clear k0;go_enter Gm,Gk;go_wp2_with fail;generalize hw1:w.alloc z6=w1 at *
   have hs1:w.heap.size+1=w1.heap.size:=by rw[← hw1];simp
   have MK:=HM.out w1 S.O _ rfl;rw[← hs1]at MK;have HMK:=lY MK;have SA:=S.below (ag w1 (.cells #[.int .u64 (N:Int)] 51));clear MK hw1 HM hs1 S k0_0 k0_1 k0_2 k0_3 k0_4 k0_5 k0l;refine HMK.out.mono ?_;clear HMK;rintro e' v1 ⟨A1,n1,c1,rfl,m1,b1⟩;have S:=(SA.below b1).num m1;clear SA b1 m1;have k1:=S.ks.1.1;obtain⟨k1_0,k1_1,k1_2,k1_3,k1_4,k1_5⟩:=k1.c6;have k1l:=k1.2;clear k1;go_wp2_with fail;replace S:=S.alloc 24 #[.bool r.neg,.slice A1 n1 c1,.int .i64 r.e];generalize v1.alloc (.cells #[.bool r.neg,.slice A1 n1 c1,.int .i64 r.e] 24)=y1 at *;clear k1_0 k1_1 k1_2 k1_3 k1_4 k1_5 k1l;refine(kN g p bad y1 S.W (aC.of_num S.ns.1 hpl.2 hpl.1)).mono ?_;rintro e' w3 ⟨A9,p9,c9,B9,q9,d9,rfl,m1,m2,hW9,o9⟩;replace S:=S.only o9 hW9;clear o9 hW9;generalize uj p bad r=r1 at *;have kR:=S.ks.2.1.1;obtain⟨s0,s1,s2,s3q,s4,s5⟩:=kR.c6;obtain⟨rf0,rf1,rf2,rf3,rf4,rf5⟩:=kR.f6;go_wp2_with fail;rw[HT.out];obtain⟨q1,q2,q3,q4⟩:=S.give (lo:=r1.lo) (hi:=r1.hi) m1 m2 kR (by omega);exact bodyPost_ret (v:=aG r1.lo.neg A9 p9 c9 r1.lo.e r1.hi.neg B9 q9 d9 r1.hi.e) (by simp[results,Bx,go_sem,s0,s1,s2,s3q,s4,s5]) rfl ⟨A9,p9,c9,B9,q9,d9,rfl,q1,q2,q3,q4⟩
 . skip
   have hd:decide (n < 0)=false:=by simpa using h0
   obtain⟨N,hN⟩:∃ N:Nat,n=(N:Int):=⟨n.natAbs,by omega⟩
   have hN2:N<=9223372036854775808:=by omega
   have hc:IntKind.u64.wrap n=(N:Int):=by rw[ou];omega
   have hsg:decide (n < 0)=false:=hd
   have hab:n.natAbs=N:=by omega
   clear hN;have S:=(St.start hW).alloc 31 zs;have HT:Hid (dY p bad n=uj p bad (bH false N 0)):=lY (by unfold dY;rw[hsg,hab])
   have HM:Hid (∀ w',az w w' g->∀ z:Int,z=(N:Int)->Calls mF 98 #[.bool false,.slice (some ⟨w'.heap.size,0,none⟩) 1 1,.int .i64 0] (w'.alloc (.cells #[.int .u64 z] 51)) (DP (w'.alloc (.cells #[.int .u64 z] 51)) (bH false N 0))):=lY (fun w' o z hz=>by
    subst hz
    have:=jC false _ 1 1 (fun _=>N) 0 _ (gf 51 w' N (by unfold ai;omega)) (by omega) ((hT.wk hW o).below (ag _ _)) (by omega) (by omega)
    rw[f5]at this
    exact this.mono fun _ _ h=>h.dp)
   have hpl:=oe false N (by omega);clear hsg hab;generalize bH false N 0=r at *;have k0:=S.ks.1.1;obtain⟨k0_0,k0_1,k0_2,k0_3,k0_4,k0_5⟩:=k0.c6;have k0l:=k0.2;clear k0;go_enter Gm,Gk;go_wp2_with fail;generalize hw1:w.alloc z6=w1 at *
   have hs1:w.heap.size+1=w1.heap.size:=by rw[← hw1];simp
   have MK:=HM.out w1 S.O _ rfl;rw[← hs1]at MK;have HMK:=lY MK;have SA:=S.below (ag w1 (.cells #[.int .u64 (N:Int)] 51));clear MK hw1 HM hs1 S k0_0 k0_1 k0_2 k0_3 k0_4 k0_5 k0l;refine HMK.out.mono ?_;clear HMK;rintro e' v1 ⟨A1,n1,c1,rfl,m1,b1⟩;have S:=(SA.below b1).num m1;clear SA b1 m1;have k1:=S.ks.1.1;obtain⟨k1_0,k1_1,k1_2,k1_3,k1_4,k1_5⟩:=k1.c6;have k1l:=k1.2;clear k1;go_wp2_with fail;replace S:=S.alloc 24 #[.bool r.neg,.slice A1 n1 c1,.int .i64 r.e];generalize v1.alloc (.cells #[.bool r.neg,.slice A1 n1 c1,.int .i64 r.e] 24)=y1 at *;clear k1_0 k1_1 k1_2 k1_3 k1_4 k1_5 k1l;refine(kN g p bad y1 S.W (aC.of_num S.ns.1 hpl.2 hpl.1)).mono ?_;rintro e' w3 ⟨A9,p9,c9,B9,q9,d9,rfl,m1,m2,hW9,o9⟩;replace S:=S.only o9 hW9;clear o9 hW9;generalize uj p bad r=r1 at *;have kR:=S.ks.2.1.1;obtain⟨s0,s1,s2,s3q,s4,s5⟩:=kR.c6;obtain⟨rf0,rf1,rf2,rf3,rf4,rf5⟩:=kR.f6;go_wp2_with fail;rw[HT.out];obtain⟨q1,q2,q3,q4⟩:=S.give (lo:=r1.lo) (hi:=r1.hi) m1 m2 kR (by omega);exact bodyPost_ret (v:=aG r1.lo.neg A9 p9 c9 r1.lo.e r1.hi.neg B9 q9 d9 r1.hi.e) (by simp[results,Bx,go_sem,s0,s1,s2,s3q,s4,s5]) rfl ⟨A9,p9,c9,B9,q9,d9,rfl,q1,q2,q3,q4⟩
end
section
variable {TW:TypeId}
def ki (k:Int):Bool:=decide (k < -262144) || decide (262144 < k)
def bE (p:Int)(bad:Bool)(lo hi:DR)(k:Int):SRes:=il (eD p bad lo hi || ki k) (bH lo.neg lo.m (lo.e+k)) (bH hi.neg hi.m (hi.e+k))
theorem wY {lo hi:DR}{A B:OA}{n c m d:Nat}(g:Nat)(p:Int)(bad:Bool)(k:Int)(w:World)(hW:Wk TW w g p bad)(ha:aC w A n c lo)(hb:aC w B m d hi)(hT:bx w)(hk1:-9223372036854775808<=k)(hk2:k<=9223372036854775807):
 Calls mF 109 #[.pointer (some ⟨g,0,none⟩),aG lo.neg A n c lo.e hi.neg B m d hi.e,.int .i64 k] w (ap TW w g p (bE p bad lo hi k)):=by
 have S:=ui hW (.bool lo.neg) (.slice A n c) (.int .i64 lo.e) (.bool hi.neg) (.slice B m d) (.int .i64 hi.e);have TK:=CF g p bad _ S.W (ha.wk hW S.O) (hb.wk hW S.O);rw[show((w.alloc (ce (.bool lo.neg) (.slice A n c) (.int .i64 lo.e) (.bool hi.neg) (.slice B m d) (.int .i64 hi.e))).alloc z6).heap.size=w.heap.size+1+1 by simp]at TK;have TKH:=lY TK;clear TK;have k0:=S.ks.2.1.1;obtain⟨k0_0,k0_1,k0_2,k0_3,k0_4,k0_5⟩:=k0.c6;have k0l:=k0.2;clear k0;go_enter Tryz.func109,Tryz.ntmps109;go_wp2_with fail;refine TKH.out.mono ?_;clear TKH k0_0 k0_1 k0_2 k0_3 k0_4 k0_5 k0l;generalize(w.alloc (ce (.bool lo.neg) (.slice A n c) (.int .i64 lo.e) (.bool hi.neg) (.slice B m d) (.int .i64 hi.e))).alloc z6=w1 at *;rintro e' w2 ⟨rfl,hW2,o2⟩;replace S:=S.only o2 hW2;clear o2 hW2;obtain⟨bo,hbo⟩:∃ b:Bool,Hid (eD p bad lo hi=b):=⟨_,lY rfl⟩;rw[hbo.out]at S;rw[hbo.out];cases bo
 rotate_left
 . have HT:Hid (bE p bad lo hi k=SRes.no):=lY (by unfold bE;rw[hbo.out];rfl)
   have kR:=S.ks.1.1;obtain⟨s0,s1,s2,s3q,s4,s5⟩:=kR.c6;obtain⟨rf0,rf1,rf2,rf3,rf4,rf5⟩:=kR.f6;go_wp2_with fail;rw[HT.out];obtain⟨q1,q2,q3,q4⟩:=S.give (lo:=DR.zero) (hi:=DR.zero) (aq _) (aq _) kR (by omega);exact bodyPost_ret (v:=aG false none 0 0 0 false none 0 0 0) (by simp[results,oM,go_sem,s0,s1,s2,s3q,s4,s5]) rfl ⟨none,0,0,none,0,0,rfl,q1,q2,q3,q4⟩
 . skip
   obtain⟨hbad,hp,hR⟩:=gN hbo.out;have PL:=ha.plain hR.l;have PH:=hb.plain hR.h;have l1:=PL.e1;have l2:=PL.e2;have h1:=PH.e1;have h2:=PH.e2
   by_cases hk1:k < -262144
   . have HT:Hid (bE p bad lo hi k=SRes.no):=lY (by unfold bE;rw[show ki k=true by unfold ki;simp[hk1],qK];rfl)
     have k1:=S.ks.2.1.1;obtain⟨k1_0,k1_1,k1_2,k1_3,k1_4,k1_5⟩:=k1.c6;have k1l:=k1.2;clear k1 hbo;go_wp2_with fail;refine(jm g p false w2 S.W).mono ?_;rintro e' w3 ⟨rfl,hW3,o3⟩;replace S:=S.only o3 hW3;clear o3 hW3 k1_0 k1_1 k1_2 k1_3 k1_4 k1_5 k1l;have kR:=S.ks.1.1;obtain⟨s0,s1,s2,s3q,s4,s5⟩:=kR.c6;obtain⟨rf0,rf1,rf2,rf3,rf4,rf5⟩:=kR.f6;go_wp2_with fail;rw[HT.out];obtain⟨q1,q2,q3,q4⟩:=S.give (lo:=DR.zero) (hi:=DR.zero) (aq _) (aq _) kR (by omega);exact bodyPost_ret (v:=aG false none 0 0 0 false none 0 0 0) (by simp[results,oM,go_sem,s0,s1,s2,s3q,s4,s5]) rfl ⟨none,0,0,none,0,0,rfl,q1,q2,q3,q4⟩
   by_cases hk2:262144 < k
   . have HT:Hid (bE p bad lo hi k=SRes.no):=lY (by unfold bE;rw[show ki k=true by unfold ki;simp[hk2],qK];rfl)
     have k2:=S.ks.2.1.1;obtain⟨k2_0,k2_1,k2_2,k2_3,k2_4,k2_5⟩:=k2.c6;have k2l:=k2.2;clear k2 hbo;go_wp2_with fail;refine(jm g p false w2 S.W).mono ?_;rintro e' w3 ⟨rfl,hW3,o3⟩;replace S:=S.only o3 hW3;clear o3 hW3 k2_0 k2_1 k2_2 k2_3 k2_4 k2_5 k2l;have kR:=S.ks.1.1;obtain⟨s0,s1,s2,s3q,s4,s5⟩:=kR.c6;obtain⟨rf0,rf1,rf2,rf3,rf4,rf5⟩:=kR.f6;go_wp2_with fail;rw[HT.out];obtain⟨q1,q2,q3,q4⟩:=S.give (lo:=DR.zero) (hi:=DR.zero) (aq _) (aq _) kR (by omega);exact bodyPost_ret (v:=aG false none 0 0 0 false none 0 0 0) (by simp[results,oM,go_sem,s0,s1,s2,s3q,s4,s5]) rfl ⟨none,0,0,none,0,0,rfl,q1,q2,q3,q4⟩
   have hwl:IntKind.i64.wrap (lo.e+k)=lo.e+k:=aE (by omega) (by omega);have hwh:IntKind.i64.wrap (hi.e+k)=hi.e+k:=aE (by omega) (by omega);have HT:Hid (bE p bad lo hi k=cG false (bH lo.neg lo.m (lo.e+k)) (bH hi.neg hi.m (hi.e+k)) ((bH lo.neg lo.m (lo.e+k)).ok && (bH hi.neg hi.m (hi.e+k)).ok)):=lY (by unfold bE;rw[hbo.out,show ki k=false by unfold ki;simp[hk1,hk2]];rfl);have D1:Hid (∀ w',az w w' g->Calls mF 75 #[.bool lo.neg,.slice A n c,.int .i64 (lo.e+k)] w' (DP w' (bH lo.neg lo.m (lo.e+k)))):=lY (fun w' o=>(CY lo.neg (lo.e+k) w' (gG hW o (ha.num hR.l)) (by have:=PL.bits;omega) (hT.wk hW o) (by omega) (by omega)).mono fun _ _ h=>h.dp);have D2:Hid (∀ w',az w w' g->Calls mF 75 #[.bool hi.neg,.slice B m d,.int .i64 (hi.e+k)] w' (DP w' (bH hi.neg hi.m (hi.e+k)))):=lY (fun w' o=>(CY hi.neg (hi.e+k) w' (gG hW o (hb.num hR.h)) (by have:=PH.bits;omega) (hT.wk hW o) (by omega) (by omega)).mono fun _ _ h=>h.dp);clear hbo hbad hR PL PH;generalize bH lo.neg lo.m (lo.e+k)=r1 at *;generalize bH hi.neg hi.m (hi.e+k)=r2 at *
   have hk1':(decide (k < -262144))=false:=by simpa using hk1
   have hk2':(decide (262144 < k))=false:=by simpa using hk2
   have k3:=S.ks.2.1.1;obtain⟨k3_0,k3_1,k3_2,k3_3,k3_4,k3_5⟩:=k3.c6;have k3l:=k3.2;clear k3;go_wp2_with fail;refine(D1.out _ S.O).mono ?_;rintro e' v1 ⟨A1,n1,c1,rfl,m1,b1⟩;replace S:=(S.below b1).num m1;clear b1 m1 k3_0 k3_1 k3_2 k3_3 k3_4 k3_5 k3l;have k4:=S.ks.2.1.1;obtain⟨k4_0,k4_1,k4_2,k4_3,k4_4,k4_5⟩:=k4.c6;have k4l:=k4.2;clear k4;go_wp2_with fail;replace S:=S.alloc 24 #[.bool r1.neg,.slice A1 n1 c1,.int .i64 r1.e];have hv1:=S.ks.1.1.2;generalize hgv1:v1.heap.size=gv1 at *;generalize v1.alloc (.cells #[.bool r1.neg,.slice A1 n1 c1,.int .i64 r1.e] 24)=y1 at *;clear hgv1 k4_0 k4_1 k4_2 k4_3 k4_4 k4_5 k4l;refine(D2.out _ S.O).mono ?_;rintro e' v2 ⟨A2,n2,c2,rfl,m2,b2⟩;replace S:=(S.below b2).num m2;clear b2 m2;have k5:=S.ks.1.1;obtain⟨k5_0,k5_1,k5_2⟩:=k5.c3;have k5l:=k5.2;clear k5;cases hr1:r1.ok
   . skip
     rw[hr1]at HT
     first | rw[DE]at HT | rw[DF]at HT
     go_wp2_with fail;replace S:=S.alloc 24 #[.bool r2.neg,.slice A2 n2 c2,.int .i64 r2.e];have hv2:=S.ks.1.1.2;generalize hgv2:v2.heap.size=gv2 at *;generalize v2.alloc (.cells #[.bool r2.neg,.slice A2 n2 c2,.int .i64 r2.e] 24)=y2 at *;clear hgv2 k5_0 k5_1 k5_2 k5l;refine(gJ g p false r1 r2 A1 A2 n1 c1 n2 c2 (false) _ S.W S.ns.2.1 S.ns.1).mono ?_;rintro e' w7 ⟨A9,p9,c9,B9,q9,d9,rfl,m1,m2,hW9,o9⟩;replace S:=S.only o9 hW9;clear o9 hW9;generalize cG false r1 r2 (false)=r at *;have kR:=S.ks.2.2.1.1;obtain⟨s0,s1,s2,s3q,s4,s5⟩:=kR.c6;obtain⟨rf0,rf1,rf2,rf3,rf4,rf5⟩:=kR.f6;go_wp2_with fail;rw[HT.out];obtain⟨q1,q2,q3,q4⟩:=S.give (lo:=r.lo) (hi:=r.hi) m1 m2 kR (by omega);exact bodyPost_ret (v:=aG r.lo.neg A9 p9 c9 r.lo.e r.hi.neg B9 q9 d9 r.hi.e) (by simp[results,oM,go_sem,s0,s1,s2,s3q,s4,s5]) rfl ⟨A9,p9,c9,B9,q9,d9,rfl,q1,q2,q3,q4⟩
   . skip
     rw[hr1]at HT
     first | rw[DE]at HT | rw[DF]at HT
     go_wp2_with fail;replace S:=S.alloc 24 #[.bool r2.neg,.slice A2 n2 c2,.int .i64 r2.e];have hv2:=S.ks.1.1.2;generalize hgv2:v2.heap.size=gv2 at *;generalize v2.alloc (.cells #[.bool r2.neg,.slice A2 n2 c2,.int .i64 r2.e] 24)=y2 at *;clear hgv2 k5_0 k5_1 k5_2 k5l;refine(gJ g p false r1 r2 A1 A2 n1 c1 n2 c2 (r2.ok) _ S.W S.ns.2.1 S.ns.1).mono ?_;rintro e' w8 ⟨A9,p9,c9,B9,q9,d9,rfl,m1,m2,hW9,o9⟩;replace S:=S.only o9 hW9;clear o9 hW9;generalize cG false r1 r2 (r2.ok)=r at *;have kR:=S.ks.2.2.1.1;obtain⟨s0,s1,s2,s3q,s4,s5⟩:=kR.c6;obtain⟨rf0,rf1,rf2,rf3,rf4,rf5⟩:=kR.f6;go_wp2_with fail;rw[HT.out];obtain⟨q1,q2,q3,q4⟩:=S.give (lo:=r.lo) (hi:=r.hi) m1 m2 kR (by omega);exact bodyPost_ret (v:=aG r.lo.neg A9 p9 c9 r.lo.e r.hi.neg B9 q9 d9 r.hi.e) (by simp[results,oM,go_sem,s0,s1,s2,s3q,s4,s5]) rfl ⟨A9,p9,c9,B9,q9,d9,rfl,q1,q2,q3,q4⟩
end
theorem iK {lo hi:DR}{A B:OA}{n c m d:Nat}(g:Nat)(p:Int)(bad:Bool)(k:Int)(w:World)(hW:Wk 49 w g p bad)(ha:aC w A n c lo)(hb:aC w B m d hi)(hT:bx w)(hk1:-9223372036854775808<=k)(hk2:k<=9223372036854775807):
 Calls mF 50 #[.pointer (some ⟨g,0,none⟩),aG lo.neg A n c lo.e hi.neg B m d hi.e,.int .i64 k] w (ap 49 w g p (bE p bad lo hi k)):=by
 by_cases hk1:262144 < k
 . have hk:=hk1
   have hkx:(decide (262144 < k))=true:=by simpa using hk1
   have S:=ui hW (.bool lo.neg) (.slice A n c) (.int .i64 lo.e) (.bool hi.neg) (.slice B m d) (.int .i64 hi.e);have HT:Hid (bE p bad lo hi k=SRes.no):=lY (by unfold bE;rw[show ki k=true by unfold ki;simp[hk],qK];rfl)
   have hsz:((w.alloc (ce (.bool lo.neg) (.slice A n c) (.int .i64 lo.e) (.bool hi.neg) (.slice B m d) (.int .i64 hi.e))).alloc z6).heap.size=w.heap.size+1+1:=by simp
   have hHS:=lY hsz;clear hsz;have k0:=S.ks.2.1.1;obtain⟨k0_0,k0_1,k0_2,k0_3,k0_4,k0_5⟩:=k0.c6;have k0l:=k0.2;clear k0;obtain⟨kw0,kw1⟩:=S.wc;have kwl:=S.lt;have kwf:=S.W.frozen 1;go_enter yb,tz;go_upto_region 1 with fail;generalize(w.alloc (ce (.bool lo.neg) (.slice A n c) (.int .i64 lo.e) (.bool hi.neg) (.slice B m d) (.int .i64 hi.e))).alloc z6=w1 at *;go_upto_region 3 with fail;have o1:=bZ w1 g (.bool true);have S1:=S.only o1 (S.W.set1 true);clear S o1 k0_0 k0_1 k0_2 k0_3 k0_4 k0_5 k0l kw0 kw1 kwl kwf
   have hw1:(w1.setCell ⟨g,1,none⟩ (.bool true)).heap.size=w.heap.size+1+1:=by rw[← hHS.out];simp[World.setCell]
   generalize w1.setCell ⟨g,1,none⟩ (.bool true)=w2 at *;have TK:=qJ g p true _ S1.W (ha.wk hW S1.O) (hb.wk hW S1.O);rw[hw1,show eD p true lo hi=true by rfl]at TK;have TKH:=lY TK;have S:=S1;clear TK hHS S1;have k1:=S.ks.2.1.1;obtain⟨k1_0,k1_1,k1_2,k1_3,k1_4,k1_5⟩:=k1.c6;have k1l:=k1.2;clear k1;go_wp2_with fail;refine TKH.out.mono ?_;clear TKH k1_0 k1_1 k1_2 k1_3 k1_4 k1_5 k1l;rintro e' w3 ⟨rfl,hW3,o3⟩;replace S:=S.only o3 hW3;clear o3 hW3;have kR:=S.ks.1.1;obtain⟨s0,s1,s2,s3q,s4,s5⟩:=kR.c6;obtain⟨rf0,rf1,rf2,rf3,rf4,rf5⟩:=kR.f6;go_wp2_with fail;rw[HT.out];obtain⟨q1,q2,q3,q4⟩:=S.give (lo:=DR.zero) (hi:=DR.zero) (aq _) (aq _) kR (by omega);exact bodyPost_ret (v:=aG false none 0 0 0 false none 0 0 0) (by simp[results,oY,go_sem,s0,s1,s2,s3q,s4,s5]) rfl ⟨none,0,0,none,0,0,rfl,q1,q2,q3,q4⟩
 by_cases hk2:k < -262144
 . have hk:=hk2
   have hkx:(decide (262144 < k))=false:=by simpa using hk1
   have hky:(decide (k < -262144))=true:=by simpa using hk2
   have S:=ui hW (.bool lo.neg) (.slice A n c) (.int .i64 lo.e) (.bool hi.neg) (.slice B m d) (.int .i64 hi.e);have HT:Hid (bE p bad lo hi k=SRes.no):=lY (by unfold bE;rw[show ki k=true by unfold ki;simp[hk],qK];rfl)
   have hsz:((w.alloc (ce (.bool lo.neg) (.slice A n c) (.int .i64 lo.e) (.bool hi.neg) (.slice B m d) (.int .i64 hi.e))).alloc z6).heap.size=w.heap.size+1+1:=by simp
   have hHS:=lY hsz;clear hsz;have k0:=S.ks.2.1.1;obtain⟨k0_0,k0_1,k0_2,k0_3,k0_4,k0_5⟩:=k0.c6;have k0l:=k0.2;clear k0;obtain⟨kw0,kw1⟩:=S.wc;have kwl:=S.lt;have kwf:=S.W.frozen 1;go_enter yb,tz;go_upto_region 1 with fail;generalize(w.alloc (ce (.bool lo.neg) (.slice A n c) (.int .i64 lo.e) (.bool hi.neg) (.slice B m d) (.int .i64 hi.e))).alloc z6=w1 at *;go_upto_region 3 with fail;have o1:=bZ w1 g (.bool true);have S1:=S.only o1 (S.W.set1 true);clear S o1 k0_0 k0_1 k0_2 k0_3 k0_4 k0_5 k0l kw0 kw1 kwl kwf
   have hw1:(w1.setCell ⟨g,1,none⟩ (.bool true)).heap.size=w.heap.size+1+1:=by rw[← hHS.out];simp[World.setCell]
   generalize w1.setCell ⟨g,1,none⟩ (.bool true)=w2 at *;have TK:=qJ g p true _ S1.W (ha.wk hW S1.O) (hb.wk hW S1.O);rw[hw1,show eD p true lo hi=true by rfl]at TK;have TKH:=lY TK;have S:=S1;clear TK hHS S1;have k1:=S.ks.2.1.1;obtain⟨k1_0,k1_1,k1_2,k1_3,k1_4,k1_5⟩:=k1.c6;have k1l:=k1.2;clear k1;go_wp2_with fail;refine TKH.out.mono ?_;clear TKH k1_0 k1_1 k1_2 k1_3 k1_4 k1_5 k1l;rintro e' w3 ⟨rfl,hW3,o3⟩;replace S:=S.only o3 hW3;clear o3 hW3;have kR:=S.ks.1.1;obtain⟨s0,s1,s2,s3q,s4,s5⟩:=kR.c6;obtain⟨rf0,rf1,rf2,rf3,rf4,rf5⟩:=kR.f6;go_wp2_with fail;rw[HT.out];obtain⟨q1,q2,q3,q4⟩:=S.give (lo:=DR.zero) (hi:=DR.zero) (aq _) (aq _) kR (by omega);exact bodyPost_ret (v:=aG false none 0 0 0 false none 0 0 0) (by simp[results,oY,go_sem,s0,s1,s2,s3q,s4,s5]) rfl ⟨none,0,0,none,0,0,rfl,q1,q2,q3,q4⟩
 have hkx:(decide (262144 < k))=false:=by simpa using hk1
 have hky:(decide (k < -262144))=false:=by simpa using hk2
 have S:=ui hW (.bool lo.neg) (.slice A n c) (.int .i64 lo.e) (.bool hi.neg) (.slice B m d) (.int .i64 hi.e);have TK:=qJ g p bad _ S.W (ha.wk hW S.O) (hb.wk hW S.O);rw[show((w.alloc (ce (.bool lo.neg) (.slice A n c) (.int .i64 lo.e) (.bool hi.neg) (.slice B m d) (.int .i64 hi.e))).alloc z6).heap.size=w.heap.size+1+1 by simp]at TK;have TKH:=lY TK;clear TK;have k0:=S.ks.2.1.1;obtain⟨k0_0,k0_1,k0_2,k0_3,k0_4,k0_5⟩:=k0.c6;have k0l:=k0.2;clear k0;go_enter yb,tz;go_wp2_with fail;refine TKH.out.mono ?_;clear TKH k0_0 k0_1 k0_2 k0_3 k0_4 k0_5 k0l;generalize(w.alloc (ce (.bool lo.neg) (.slice A n c) (.int .i64 lo.e) (.bool hi.neg) (.slice B m d) (.int .i64 hi.e))).alloc z6=w1 at *;rintro e' w2 ⟨rfl,hW2,o2⟩;replace S:=S.only o2 hW2;clear o2 hW2;obtain⟨bo,hbo⟩:∃ b:Bool,Hid (eD p bad lo hi=b):=⟨_,lY rfl⟩;rw[hbo.out]at S;rw[hbo.out];cases bo
 rotate_left
 . have HT:Hid (bE p bad lo hi k=SRes.no):=lY (by unfold bE;rw[hbo.out];rfl)
   have kR:=S.ks.1.1;obtain⟨s0,s1,s2,s3q,s4,s5⟩:=kR.c6;obtain⟨rf0,rf1,rf2,rf3,rf4,rf5⟩:=kR.f6;go_wp2_with fail;rw[HT.out];obtain⟨q1,q2,q3,q4⟩:=S.give (lo:=DR.zero) (hi:=DR.zero) (aq _) (aq _) kR (by omega);exact bodyPost_ret (v:=aG false none 0 0 0 false none 0 0 0) (by simp[results,oY,go_sem,s0,s1,s2,s3q,s4,s5]) rfl ⟨none,0,0,none,0,0,rfl,q1,q2,q3,q4⟩
 . skip
   obtain⟨hbad,hp,hR⟩:=gN hbo.out;have PL:=ha.plain hR.l;have PH:=hb.plain hR.h;have l1:=PL.e1;have l2:=PL.e2;have h1:=PH.e1;have h2:=PH.e2;have hwl:IntKind.i64.wrap (lo.e+k)=lo.e+k:=aE (by omega) (by omega);have hwh:IntKind.i64.wrap (hi.e+k)=hi.e+k:=aE (by omega) (by omega);have HT:Hid (bE p bad lo hi k=cG false (bH lo.neg lo.m (lo.e+k)) (bH hi.neg hi.m (hi.e+k)) ((bH lo.neg lo.m (lo.e+k)).ok && (bH hi.neg hi.m (hi.e+k)).ok)):=lY (by unfold bE;rw[hbo.out,show ki k=false by unfold ki;simp[hk1,hk2]];rfl);have D1:Hid (∀ w',az w w' g->Calls mF 98 #[.bool lo.neg,.slice A n c,.int .i64 (lo.e+k)] w' (DP w' (bH lo.neg lo.m (lo.e+k)))):=lY (fun w' o=>(lO lo.neg (lo.e+k) w' (gG hW o (ha.num hR.l)) (by have:=PL.bits;omega) (hT.wk hW o) (by omega) (by omega)).mono fun _ _ h=>h.dp);have D2:Hid (∀ w',az w w' g->Calls mF 98 #[.bool hi.neg,.slice B m d,.int .i64 (hi.e+k)] w' (DP w' (bH hi.neg hi.m (hi.e+k)))):=lY (fun w' o=>(lO hi.neg (hi.e+k) w' (gG hW o (hb.num hR.h)) (by have:=PH.bits;omega) (hT.wk hW o) (by omega) (by omega)).mono fun _ _ h=>h.dp);clear hbo hbad hR PL PH;generalize bH lo.neg lo.m (lo.e+k)=r1 at *;generalize bH hi.neg hi.m (hi.e+k)=r2 at *;have k1:=S.ks.2.1.1;obtain⟨k1_0,k1_1,k1_2,k1_3,k1_4,k1_5⟩:=k1.c6;have k1l:=k1.2;clear k1;go_wp2_with fail;refine(D1.out _ S.O).mono ?_;rintro e' v1 ⟨A1,n1,c1,rfl,m1,b1⟩;replace S:=(S.below b1).num m1;clear b1 m1 k1_0 k1_1 k1_2 k1_3 k1_4 k1_5 k1l;have k2:=S.ks.2.1.1;obtain⟨k2_0,k2_1,k2_2,k2_3,k2_4,k2_5⟩:=k2.c6;have k2l:=k2.2;clear k2;go_wp2_with fail;replace S:=S.alloc 24 #[.bool r1.neg,.slice A1 n1 c1,.int .i64 r1.e];have hv1:=S.ks.1.1.2;generalize hgv1:v1.heap.size=gv1 at *;generalize v1.alloc (.cells #[.bool r1.neg,.slice A1 n1 c1,.int .i64 r1.e] 24)=y1 at *;clear hgv1 k2_0 k2_1 k2_2 k2_3 k2_4 k2_5 k2l;refine(D2.out _ S.O).mono ?_;rintro e' v2 ⟨A2,n2,c2,rfl,m2,b2⟩;replace S:=(S.below b2).num m2;clear b2 m2;have k3:=S.ks.1.1;obtain⟨k3_0,k3_1,k3_2⟩:=k3.c3;have k3l:=k3.2;clear k3;go_wp2_with fail;replace S:=S.alloc 24 #[.bool r2.neg,.slice A2 n2 c2,.int .i64 r2.e];have hv2:=S.ks.1.1.2;generalize hgv2:v2.heap.size=gv2 at *;generalize v2.alloc (.cells #[.bool r2.neg,.slice A2 n2 c2,.int .i64 r2.e] 24)=y2 at *;clear hgv2 k3_0 k3_1 k3_2 k3l;refine(lf g p false r1 r2 A1 A2 n1 c1 n2 c2 r1.ok r2.ok _ S.W S.ns.2.1 S.ns.1).mono ?_;rintro e' w5 ⟨A9,p9,c9,B9,q9,d9,rfl,m1,m2,hW9,o9⟩;replace S:=S.only o9 hW9;clear o9 hW9;generalize cG false r1 r2 (r1.ok && r2.ok)=r at *;have kR:=S.ks.2.2.1.1;obtain⟨s0,s1,s2,s3q,s4,s5⟩:=kR.c6;have rf0:=kR.fr 0
   have rf1:=kR.fr 1;have rf2:=kR.fr 2;have rf3:=kR.fr 3;have rf4:=kR.fr 4;have rf5:=kR.fr 5;go_wp2_with fail;rw[HT.out];obtain⟨q1,q2,q3,q4⟩:=S.give (lo:=r.lo) (hi:=r.hi) m1 m2 kR (by omega);exact bodyPost_ret (v:=aG r.lo.neg A9 p9 c9 r.lo.e r.hi.neg B9 q9 d9 r.hi.e) (by simp[results,oY,go_sem,s0,s1,s2,s3q,s4,s5]) rfl ⟨A9,p9,c9,B9,q9,d9,rfl,q1,q2,q3,q4⟩
end Go.Proofs.YtmbmohibpkepdaaGreatDoor
