/-
 Num of both.
 Scale of the code.
-/
import Derived.Test.YtmbmohibpkepdaaGreatDoorPlEGNat4
import Derived.Test.YtmbmohibpkepdaaGreatDoorPlEGDy13
import Derived.Test.YtmbmohibpkepdaaGreatDoorPlEGSp3
namespace Go.Proofs.YtmbmohibpkepdaaGreatDoor
open Go.RowKit
variable {TW:TypeId}
def numS (p:Int) (bad:Bool) (n:Int):SRes:=ptI p bad (mkD (decide (n < 0)) n.natAbs 0)
theorem mk_num (neg:Bool) (N:Nat) (hN:N≤9223372036854775808):(mkD neg N 0).ok=true∧plainV (mkD neg N 0).neg (mkD neg N 0).m (mkD neg N 0).e=true:=by
 have hok:(mkD neg N 0).ok=true:=by
  unfold mkD
  by_cases h0:N=0
  · rw [if_pos h0];rfl
  · rw [if_neg h0]
    have h1:nb (od N)≤64:=by
     have:=nb_mono (od_le N)
     have:=(nb_le_iff N 64).2 (by omega)
     omega
    have h2:=v2_lt_nb (show 0 < N by omega)
    have h3:=(nb_le_iff N 64).2 (by omega)
    rw [if_pos ⟨by rw [MB_eq];omega,by unfold fitE;omega⟩]
 exact ⟨hok,plIf_mk _ _ _ hok⟩
set_option maxRecDepth 8000 in
set_option maxHeartbeats 4000000 in
theorem num_any (n:Int) (g:Nat) (p:Int) (bad:Bool) (w:World) (hW:Wk TW w g p bad) (hT:Tab w) (hn1:-9223372036854775808≤n) (hn2:n≤9223372036854775807) :
 Calls Tryz.prog 31 #[.pointer (some ⟨g,0,none⟩),.int .i64 n] w (SPost TW w g p (numS p bad n)):=by
 by_cases h0:n < 0
 · skip
   have hd:decide (n < 0)=true:=by simpa using h0
   obtain ⟨N,hN⟩:∃ N:Nat,n=-(N:Int):=⟨n.natAbs,by omega⟩
   obtain ⟨K,hK⟩:∃ K:Nat,(K:Int)=18446744073709551616-(N:Int):=⟨18446744073709551616-N,by omega⟩
   have hN1:1≤N:=by omega
   have hN2:N≤9223372036854775808:=by omega
   have hc:IntKind.u64.wrap n=(K:Int):=by rw [IntKind.wrap_u64];omega
   have hc2:IntKind.u64.wrap (-(K:Int))=(N:Int):=by rw [IntKind.wrap_u64];omega
   have hsg:decide (n < 0)=true:=hd
   have hab:n.natAbs=N:=by omega
   clear hN hK
   have S:=(St.start hW).alloc 31 zs
   have HT:Hid (numS p bad n=ptI p bad (mkD true N 0)):=Lib.hid (by unfold numS;rw [hsg,hab])
   have HM:Hid (∀ w',Only w w' g→∀ z:Int,z=(N:Int)→Calls Tryz.prog 75 #[.bool true,.slice (some ⟨w'.heap.size,0,none⟩) 1 1,.int .i64 0] (w'.alloc (.cells #[.int .u64 z] 51)) (DP (w'.alloc (.cells #[.int .u64 z] 51)) (mkD true N 0))):=Lib.hid (fun w' o z hz=>by
    subst hz
    have:=make_any true _ 1 1 (fun _=>N) 0 _ (one_sl 51 w' N (by unfold B64;omega)) (by omega) ((hT.wk hW o).below (alloc_bel _ _)) (by omega) (by omega)
    rw [vs_one] at this
    exact this.mono fun _ _ h=>h.dp)
   have hpl:=mk_num true N (by omega)
   clear hsg hab
   generalize mkD true N 0=r at *
   have k0:=S.ks.1.1
   have k0_0:=k0.at_ 0 _ rfl
   have k0_1:=k0.at_ 1 _ rfl
   have k0_2:=k0.at_ 2 _ rfl
   have k0_3:=k0.at_ 3 _ rfl
   have k0_4:=k0.at_ 4 _ rfl
   have k0_5:=k0.at_ 5 _ rfl
   have k0l:=k0.2
   clear k0
   go_enter Tryz.func31,Tryz.ntmps31
   go_wp2_with fail
   generalize hw1:w.alloc z6=w1 at *
   have hs1:w.heap.size+1=w1.heap.size:=by rw [← hw1];simp
   have MK:=HM.out w1 S.O _ rfl
   rw [← hs1] at MK
   have HMK:=Lib.hid MK
   have SA:=S.below (alloc_bel w1 (.cells #[.int .u64 (N:Int)] 51))
   clear MK hw1 HM hs1 S
   clear k0_0 k0_1 k0_2 k0_3 k0_4 k0_5 k0l
   refine HMK.out.mono ?_
   clear HMK
   rintro e' v1 ⟨A1,n1,c1,rfl,m1,b1⟩
   have S:=(SA.below b1).num m1
   clear SA b1 m1
   have k1:=S.ks.1.1
   have k1_0:=k1.at_ 0 _ rfl
   have k1_1:=k1.at_ 1 _ rfl
   have k1_2:=k1.at_ 2 _ rfl
   have k1_3:=k1.at_ 3 _ rfl
   have k1_4:=k1.at_ 4 _ rfl
   have k1_5:=k1.at_ 5 _ rfl
   have k1l:=k1.2
   clear k1
   go_wp2_with fail
   replace S:=S.alloc 24 #[.bool r.neg,.slice A1 n1 c1,.int .i64 r.e]
   generalize v1.alloc (.cells #[.bool r.neg,.slice A1 n1 c1,.int .i64 r.e] 24)=y1 at *
   clear k1_0 k1_1 k1_2 k1_3 k1_4 k1_5 k1l
   refine (point_I g p bad y1 S.W (DIn.of_num S.ns.1 hpl.2 hpl.1)).mono ?_
   rintro e' w3 ⟨A9,p9,c9,B9,q9,d9,rfl,m1,m2,hW9,o9⟩
   replace S:=S.only o9 hW9
   clear o9 hW9
   generalize ptI p bad r=r1 at *
   have kR:=S.ks.2.1.1
   have s0:=kR.at_ 0 _ rfl
   have s1:=kR.at_ 1 _ rfl
   have s2:=kR.at_ 2 _ rfl
   have s3:=kR.at_ 3 _ rfl
   have s4:=kR.at_ 4 _ rfl
   have s5:=kR.at_ 5 _ rfl
   have rf0:=kR.fr 0
   have rf1:=kR.fr 1
   have rf2:=kR.fr 2
   have rf3:=kR.fr 3
   have rf4:=kR.fr 4
   have rf5:=kR.fr 5
   go_wp2_with fail
   rw [HT.out]
   obtain ⟨q1,q2,q3,q4⟩:=S.give (lo:=r1.lo) (hi:=r1.hi) m1 m2 kR (by omega)
   exact bodyPost_ret (v:=spv r1.lo.neg A9 p9 c9 r1.lo.e r1.hi.neg B9 q9 d9 r1.hi.e) (by simp [results,Tryz.results31,go_sem,s0,s1,s2,s3,s4,s5]) rfl ⟨A9,p9,c9,B9,q9,d9,rfl,q1,q2,q3,q4⟩
 · skip
   have hd:decide (n < 0)=false:=by simpa using h0
   obtain ⟨N,hN⟩:∃ N:Nat,n=(N:Int):=⟨n.natAbs,by omega⟩
   have hN2:N≤9223372036854775808:=by omega
   have hc:IntKind.u64.wrap n=(N:Int):=by rw [IntKind.wrap_u64];omega
   have hsg:decide (n < 0)=false:=hd
   have hab:n.natAbs=N:=by omega
   clear hN
   have S:=(St.start hW).alloc 31 zs
   have HT:Hid (numS p bad n=ptI p bad (mkD false N 0)):=Lib.hid (by unfold numS;rw [hsg,hab])
   have HM:Hid (∀ w',Only w w' g→∀ z:Int,z=(N:Int)→Calls Tryz.prog 75 #[.bool false,.slice (some ⟨w'.heap.size,0,none⟩) 1 1,.int .i64 0] (w'.alloc (.cells #[.int .u64 z] 51)) (DP (w'.alloc (.cells #[.int .u64 z] 51)) (mkD false N 0))):=Lib.hid (fun w' o z hz=>by
    subst hz
    have:=make_any false _ 1 1 (fun _=>N) 0 _ (one_sl 51 w' N (by unfold B64;omega)) (by omega) ((hT.wk hW o).below (alloc_bel _ _)) (by omega) (by omega)
    rw [vs_one] at this
    exact this.mono fun _ _ h=>h.dp)
   have hpl:=mk_num false N (by omega)
   clear hsg hab
   generalize mkD false N 0=r at *
   have k0:=S.ks.1.1
   have k0_0:=k0.at_ 0 _ rfl
   have k0_1:=k0.at_ 1 _ rfl
   have k0_2:=k0.at_ 2 _ rfl
   have k0_3:=k0.at_ 3 _ rfl
   have k0_4:=k0.at_ 4 _ rfl
   have k0_5:=k0.at_ 5 _ rfl
   have k0l:=k0.2
   clear k0
   go_enter Tryz.func31,Tryz.ntmps31
   go_wp2_with fail
   generalize hw1:w.alloc z6=w1 at *
   have hs1:w.heap.size+1=w1.heap.size:=by rw [← hw1];simp
   have MK:=HM.out w1 S.O _ rfl
   rw [← hs1] at MK
   have HMK:=Lib.hid MK
   have SA:=S.below (alloc_bel w1 (.cells #[.int .u64 (N:Int)] 51))
   clear MK hw1 HM hs1 S
   clear k0_0 k0_1 k0_2 k0_3 k0_4 k0_5 k0l
   refine HMK.out.mono ?_
   clear HMK
   rintro e' v1 ⟨A1,n1,c1,rfl,m1,b1⟩
   have S:=(SA.below b1).num m1
   clear SA b1 m1
   have k1:=S.ks.1.1
   have k1_0:=k1.at_ 0 _ rfl
   have k1_1:=k1.at_ 1 _ rfl
   have k1_2:=k1.at_ 2 _ rfl
   have k1_3:=k1.at_ 3 _ rfl
   have k1_4:=k1.at_ 4 _ rfl
   have k1_5:=k1.at_ 5 _ rfl
   have k1l:=k1.2
   clear k1
   go_wp2_with fail
   replace S:=S.alloc 24 #[.bool r.neg,.slice A1 n1 c1,.int .i64 r.e]
   generalize v1.alloc (.cells #[.bool r.neg,.slice A1 n1 c1,.int .i64 r.e] 24)=y1 at *
   clear k1_0 k1_1 k1_2 k1_3 k1_4 k1_5 k1l
   refine (point_I g p bad y1 S.W (DIn.of_num S.ns.1 hpl.2 hpl.1)).mono ?_
   rintro e' w3 ⟨A9,p9,c9,B9,q9,d9,rfl,m1,m2,hW9,o9⟩
   replace S:=S.only o9 hW9
   clear o9 hW9
   generalize ptI p bad r=r1 at *
   have kR:=S.ks.2.1.1
   have s0:=kR.at_ 0 _ rfl
   have s1:=kR.at_ 1 _ rfl
   have s2:=kR.at_ 2 _ rfl
   have s3:=kR.at_ 3 _ rfl
   have s4:=kR.at_ 4 _ rfl
   have s5:=kR.at_ 5 _ rfl
   have rf0:=kR.fr 0
   have rf1:=kR.fr 1
   have rf2:=kR.fr 2
   have rf3:=kR.fr 3
   have rf4:=kR.fr 4
   have rf5:=kR.fr 5
   go_wp2_with fail
   rw [HT.out]
   obtain ⟨q1,q2,q3,q4⟩:=S.give (lo:=r1.lo) (hi:=r1.hi) m1 m2 kR (by omega)
   exact bodyPost_ret (v:=spv r1.lo.neg A9 p9 c9 r1.lo.e r1.hi.neg B9 q9 d9 r1.hi.e) (by simp [results,Tryz.results31,go_sem,s0,s1,s2,s3,s4,s5]) rfl ⟨A9,p9,c9,B9,q9,d9,rfl,q1,q2,q3,q4⟩
end Go.Proofs.YtmbmohibpkepdaaGreatDoor
namespace Go.Proofs.YtmbmohibpkepdaaGreatDoor
open Go.RowKit
variable {TW:TypeId}
def kBad (k:Int):Bool:=decide (k < -262144) || decide (262144 < k)
def scaleS (p:Int) (bad:Bool) (lo hi:DR) (k:Int):SRes:=twoS (bad1 p bad lo hi || kBad k) (mkD lo.neg lo.m (lo.e+k)) (mkD hi.neg hi.m (hi.e+k))
set_option maxRecDepth 8000 in
set_option maxHeartbeats 4000000 in
theorem scale_any {lo hi:DR} {A B:Option Addr} {n c m d:Nat} (g:Nat) (p:Int) (bad:Bool) (k:Int) (w:World) (hW:Wk TW w g p bad) (ha:DIn w A n c lo) (hb:DIn w B m d hi) (hT:Tab w) (hk1:-9223372036854775808≤k) (hk2:k≤9223372036854775807) :
 Calls Tryz.prog 109 #[.pointer (some ⟨g,0,none⟩),spv lo.neg A n c lo.e hi.neg B m d hi.e,.int .i64 k] w (SPost TW w g p (scaleS p bad lo hi k)):=by
 have S:=st1 hW (.bool lo.neg) (.slice A n c) (.int .i64 lo.e) (.bool hi.neg) (.slice B m d) (.int .i64 hi.e)
 have TK:=take1 g p bad _ S.W (ha.wk hW S.O) (hb.wk hW S.O)
 rw [show ((w.alloc (co6 (.bool lo.neg) (.slice A n c) (.int .i64 lo.e) (.bool hi.neg) (.slice B m d) (.int .i64 hi.e))).alloc z6).heap.size=w.heap.size+1+1 by simp] at TK
 have TKH:=Lib.hid TK
 clear TK
 have k0:=S.ks.2.1.1
 have k0_0:=k0.at_ 0 _ rfl
 have k0_1:=k0.at_ 1 _ rfl
 have k0_2:=k0.at_ 2 _ rfl
 have k0_3:=k0.at_ 3 _ rfl
 have k0_4:=k0.at_ 4 _ rfl
 have k0_5:=k0.at_ 5 _ rfl
 have k0l:=k0.2
 clear k0
 go_enter Tryz.func109,Tryz.ntmps109
 go_wp2_with fail
 refine TKH.out.mono ?_
 clear TKH
 clear k0_0 k0_1 k0_2 k0_3 k0_4 k0_5 k0l
 generalize (w.alloc (co6 (.bool lo.neg) (.slice A n c) (.int .i64 lo.e) (.bool hi.neg) (.slice B m d) (.int .i64 hi.e))).alloc z6=w1 at *
 rintro e' w2 ⟨rfl,hW2,o2⟩
 replace S:=S.only o2 hW2
 clear o2 hW2
 obtain ⟨bo,hbo⟩:∃ b:Bool,Hid (bad1 p bad lo hi=b):=⟨_,Lib.hid rfl⟩
 rw [hbo.out] at S
 rw [hbo.out]
 cases bo
 rotate_left
 · have HT:Hid (scaleS p bad lo hi k=SRes.no):=Lib.hid (by unfold scaleS;rw [hbo.out];rfl)
   have kR:=S.ks.1.1
   have s0:=kR.at_ 0 _ rfl
   have s1:=kR.at_ 1 _ rfl
   have s2:=kR.at_ 2 _ rfl
   have s3:=kR.at_ 3 _ rfl
   have s4:=kR.at_ 4 _ rfl
   have s5:=kR.at_ 5 _ rfl
   have rf0:=kR.fr 0
   have rf1:=kR.fr 1
   have rf2:=kR.fr 2
   have rf3:=kR.fr 3
   have rf4:=kR.fr 4
   have rf5:=kR.fr 5
   go_wp2_with fail
   rw [HT.out]
   obtain ⟨q1,q2,q3,q4⟩:=S.give (lo:=DR.zero) (hi:=DR.zero) (num_nil _) (num_nil _) kR (by omega)
   exact bodyPost_ret (v:=spv false none 0 0 0 false none 0 0 0) (by simp [results,Tryz.results109,go_sem,s0,s1,s2,s3,s4,s5]) rfl ⟨none,0,0,none,0,0,rfl,q1,q2,q3,q4⟩
 · skip
   obtain ⟨hbad,hp,hR⟩:=bad1_false hbo.out
   have PL:=ha.plain hR.l
   have PH:=hb.plain hR.h
   have l1:=PL.e1
   have l2:=PL.e2
   have h1:=PH.e1
   have h2:=PH.e2
   by_cases hk1:k < -262144
   · have HT:Hid (scaleS p bad lo hi k=SRes.no):=Lib.hid (by unfold scaleS;rw [show kBad k=true by unfold kBad;simp [hk1],Bool.or_true];rfl)
     have k1:=S.ks.2.1.1
     have k1_0:=k1.at_ 0 _ rfl
     have k1_1:=k1.at_ 1 _ rfl
     have k1_2:=k1.at_ 2 _ rfl
     have k1_3:=k1.at_ 3 _ rfl
     have k1_4:=k1.at_ 4 _ rfl
     have k1_5:=k1.at_ 5 _ rfl
     have k1l:=k1.2
     clear k1
     clear hbo
     go_wp2_with fail
     refine (fail_any g p false w2 S.W).mono ?_
     rintro e' w3 ⟨rfl,hW3,o3⟩
     replace S:=S.only o3 hW3
     clear o3 hW3
     clear k1_0 k1_1 k1_2 k1_3 k1_4 k1_5 k1l
     have kR:=S.ks.1.1
     have s0:=kR.at_ 0 _ rfl
     have s1:=kR.at_ 1 _ rfl
     have s2:=kR.at_ 2 _ rfl
     have s3:=kR.at_ 3 _ rfl
     have s4:=kR.at_ 4 _ rfl
     have s5:=kR.at_ 5 _ rfl
     have rf0:=kR.fr 0
     have rf1:=kR.fr 1
     have rf2:=kR.fr 2
     have rf3:=kR.fr 3
     have rf4:=kR.fr 4
     have rf5:=kR.fr 5
     go_wp2_with fail
     rw [HT.out]
     obtain ⟨q1,q2,q3,q4⟩:=S.give (lo:=DR.zero) (hi:=DR.zero) (num_nil _) (num_nil _) kR (by omega)
     exact bodyPost_ret (v:=spv false none 0 0 0 false none 0 0 0) (by simp [results,Tryz.results109,go_sem,s0,s1,s2,s3,s4,s5]) rfl ⟨none,0,0,none,0,0,rfl,q1,q2,q3,q4⟩
   by_cases hk2:262144 < k
   · have HT:Hid (scaleS p bad lo hi k=SRes.no):=Lib.hid (by unfold scaleS;rw [show kBad k=true by unfold kBad;simp [hk2],Bool.or_true];rfl)
     have k2:=S.ks.2.1.1
     have k2_0:=k2.at_ 0 _ rfl
     have k2_1:=k2.at_ 1 _ rfl
     have k2_2:=k2.at_ 2 _ rfl
     have k2_3:=k2.at_ 3 _ rfl
     have k2_4:=k2.at_ 4 _ rfl
     have k2_5:=k2.at_ 5 _ rfl
     have k2l:=k2.2
     clear k2
     clear hbo
     go_wp2_with fail
     refine (fail_any g p false w2 S.W).mono ?_
     rintro e' w3 ⟨rfl,hW3,o3⟩
     replace S:=S.only o3 hW3
     clear o3 hW3
     clear k2_0 k2_1 k2_2 k2_3 k2_4 k2_5 k2l
     have kR:=S.ks.1.1
     have s0:=kR.at_ 0 _ rfl
     have s1:=kR.at_ 1 _ rfl
     have s2:=kR.at_ 2 _ rfl
     have s3:=kR.at_ 3 _ rfl
     have s4:=kR.at_ 4 _ rfl
     have s5:=kR.at_ 5 _ rfl
     have rf0:=kR.fr 0
     have rf1:=kR.fr 1
     have rf2:=kR.fr 2
     have rf3:=kR.fr 3
     have rf4:=kR.fr 4
     have rf5:=kR.fr 5
     go_wp2_with fail
     rw [HT.out]
     obtain ⟨q1,q2,q3,q4⟩:=S.give (lo:=DR.zero) (hi:=DR.zero) (num_nil _) (num_nil _) kR (by omega)
     exact bodyPost_ret (v:=spv false none 0 0 0 false none 0 0 0) (by simp [results,Tryz.results109,go_sem,s0,s1,s2,s3,s4,s5]) rfl ⟨none,0,0,none,0,0,rfl,q1,q2,q3,q4⟩
   have hwl:IntKind.i64.wrap (lo.e+k)=lo.e+k:=wrap_id (by omega) (by omega)
   have hwh:IntKind.i64.wrap (hi.e+k)=hi.e+k:=wrap_id (by omega) (by omega)
   have HT:Hid (scaleS p bad lo hi k=keepS false (mkD lo.neg lo.m (lo.e+k)) (mkD hi.neg hi.m (hi.e+k)) ((mkD lo.neg lo.m (lo.e+k)).ok && (mkD hi.neg hi.m (hi.e+k)).ok)):=Lib.hid (by unfold scaleS;rw [hbo.out,show kBad k=false by unfold kBad;simp [hk1,hk2]];rfl)
   have D1:Hid (∀ w',Only w w' g→Calls Tryz.prog 75 #[.bool lo.neg,.slice A n c,.int .i64 (lo.e+k)] w' (DP w' (mkD lo.neg lo.m (lo.e+k)))):=Lib.hid (fun w' o=>(makeN lo.neg (lo.e+k) w' (num_wk hW o (ha.num hR.l)) (by have:=PL.bits;omega) (hT.wk hW o) (by omega) (by omega)).mono fun _ _ h=>h.dp)
   have D2:Hid (∀ w',Only w w' g→Calls Tryz.prog 75 #[.bool hi.neg,.slice B m d,.int .i64 (hi.e+k)] w' (DP w' (mkD hi.neg hi.m (hi.e+k)))):=Lib.hid (fun w' o=>(makeN hi.neg (hi.e+k) w' (num_wk hW o (hb.num hR.h)) (by have:=PH.bits;omega) (hT.wk hW o) (by omega) (by omega)).mono fun _ _ h=>h.dp)
   clear hbo hbad hR PL PH
   generalize mkD lo.neg lo.m (lo.e+k)=r1 at *
   generalize mkD hi.neg hi.m (hi.e+k)=r2 at *
   have hk1':(decide (k < -262144))=false:=by simpa using hk1
   have hk2':(decide (262144 < k))=false:=by simpa using hk2
   have k3:=S.ks.2.1.1
   have k3_0:=k3.at_ 0 _ rfl
   have k3_1:=k3.at_ 1 _ rfl
   have k3_2:=k3.at_ 2 _ rfl
   have k3_3:=k3.at_ 3 _ rfl
   have k3_4:=k3.at_ 4 _ rfl
   have k3_5:=k3.at_ 5 _ rfl
   have k3l:=k3.2
   clear k3
   go_wp2_with fail
   refine (D1.out _ S.O).mono ?_
   rintro e' v1 ⟨A1,n1,c1,rfl,m1,b1⟩
   replace S:=(S.below b1).num m1
   clear b1 m1
   clear k3_0 k3_1 k3_2 k3_3 k3_4 k3_5 k3l
   have k4:=S.ks.2.1.1
   have k4_0:=k4.at_ 0 _ rfl
   have k4_1:=k4.at_ 1 _ rfl
   have k4_2:=k4.at_ 2 _ rfl
   have k4_3:=k4.at_ 3 _ rfl
   have k4_4:=k4.at_ 4 _ rfl
   have k4_5:=k4.at_ 5 _ rfl
   have k4l:=k4.2
   clear k4
   go_wp2_with fail
   replace S:=S.alloc 24 #[.bool r1.neg,.slice A1 n1 c1,.int .i64 r1.e]
   have hv1:=S.ks.1.1.2
   generalize hgv1:v1.heap.size=gv1 at *
   generalize v1.alloc (.cells #[.bool r1.neg,.slice A1 n1 c1,.int .i64 r1.e] 24)=y1 at *
   clear hgv1
   clear k4_0 k4_1 k4_2 k4_3 k4_4 k4_5 k4l
   refine (D2.out _ S.O).mono ?_
   rintro e' v2 ⟨A2,n2,c2,rfl,m2,b2⟩
   replace S:=(S.below b2).num m2
   clear b2 m2
   have k5:=S.ks.1.1
   have k5_0:=k5.at_ 0 _ rfl
   have k5_1:=k5.at_ 1 _ rfl
   have k5_2:=k5.at_ 2 _ rfl
   have k5l:=k5.2
   clear k5
   cases hr1:r1.ok
   · skip
     rw [hr1] at HT
     first | rw [Bool.false_and] at HT | rw [Bool.true_and] at HT
     go_wp2_with fail
     replace S:=S.alloc 24 #[.bool r2.neg,.slice A2 n2 c2,.int .i64 r2.e]
     have hv2:=S.ks.1.1.2
     generalize hgv2:v2.heap.size=gv2 at *
     generalize v2.alloc (.cells #[.bool r2.neg,.slice A2 n2 c2,.int .i64 r2.e] 24)=y2 at *
     clear hgv2
     clear k5_0 k5_1 k5_2 k5l
     refine (keep_any g p false r1 r2 A1 A2 n1 c1 n2 c2 (false) _ S.W S.ns.2.1 S.ns.1).mono ?_
     rintro e' w7 ⟨A9,p9,c9,B9,q9,d9,rfl,m1,m2,hW9,o9⟩
     replace S:=S.only o9 hW9
     clear o9 hW9
     generalize keepS false r1 r2 (false)=r at *
     have kR:=S.ks.2.2.1.1
     have s0:=kR.at_ 0 _ rfl
     have s1:=kR.at_ 1 _ rfl
     have s2:=kR.at_ 2 _ rfl
     have s3:=kR.at_ 3 _ rfl
     have s4:=kR.at_ 4 _ rfl
     have s5:=kR.at_ 5 _ rfl
     have rf0:=kR.fr 0
     have rf1:=kR.fr 1
     have rf2:=kR.fr 2
     have rf3:=kR.fr 3
     have rf4:=kR.fr 4
     have rf5:=kR.fr 5
     go_wp2_with fail
     rw [HT.out]
     obtain ⟨q1,q2,q3,q4⟩:=S.give (lo:=r.lo) (hi:=r.hi) m1 m2 kR (by omega)
     exact bodyPost_ret (v:=spv r.lo.neg A9 p9 c9 r.lo.e r.hi.neg B9 q9 d9 r.hi.e) (by simp [results,Tryz.results109,go_sem,s0,s1,s2,s3,s4,s5]) rfl ⟨A9,p9,c9,B9,q9,d9,rfl,q1,q2,q3,q4⟩
   · skip
     rw [hr1] at HT
     first | rw [Bool.false_and] at HT | rw [Bool.true_and] at HT
     go_wp2_with fail
     replace S:=S.alloc 24 #[.bool r2.neg,.slice A2 n2 c2,.int .i64 r2.e]
     have hv2:=S.ks.1.1.2
     generalize hgv2:v2.heap.size=gv2 at *
     generalize v2.alloc (.cells #[.bool r2.neg,.slice A2 n2 c2,.int .i64 r2.e] 24)=y2 at *
     clear hgv2
     clear k5_0 k5_1 k5_2 k5l
     refine (keep_any g p false r1 r2 A1 A2 n1 c1 n2 c2 (r2.ok) _ S.W S.ns.2.1 S.ns.1).mono ?_
     rintro e' w8 ⟨A9,p9,c9,B9,q9,d9,rfl,m1,m2,hW9,o9⟩
     replace S:=S.only o9 hW9
     clear o9 hW9
     generalize keepS false r1 r2 (r2.ok)=r at *
     have kR:=S.ks.2.2.1.1
     have s0:=kR.at_ 0 _ rfl
     have s1:=kR.at_ 1 _ rfl
     have s2:=kR.at_ 2 _ rfl
     have s3:=kR.at_ 3 _ rfl
     have s4:=kR.at_ 4 _ rfl
     have s5:=kR.at_ 5 _ rfl
     have rf0:=kR.fr 0
     have rf1:=kR.fr 1
     have rf2:=kR.fr 2
     have rf3:=kR.fr 3
     have rf4:=kR.fr 4
     have rf5:=kR.fr 5
     go_wp2_with fail
     rw [HT.out]
     obtain ⟨q1,q2,q3,q4⟩:=S.give (lo:=r.lo) (hi:=r.hi) m1 m2 kR (by omega)
     exact bodyPost_ret (v:=spv r.lo.neg A9 p9 c9 r.lo.e r.hi.neg B9 q9 d9 r.hi.e) (by simp [results,Tryz.results109,go_sem,s0,s1,s2,s3,s4,s5]) rfl ⟨A9,p9,c9,B9,q9,d9,rfl,q1,q2,q3,q4⟩
end Go.Proofs.YtmbmohibpkepdaaGreatDoor
