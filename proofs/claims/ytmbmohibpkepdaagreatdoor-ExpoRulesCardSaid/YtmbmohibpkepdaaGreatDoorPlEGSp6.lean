/-
 Hull of the code.
 Hull of the reference.
-/
import Derived.Test.YtmbmohibpkepdaaGreatDoorPlEGDy9
import Derived.Test.YtmbmohibpkepdaaGreatDoorPlEGDy11
import Derived.Test.YtmbmohibpkepdaaGreatDoorPlEGDy13
import Derived.Test.YtmbmohibpkepdaaGreatDoorPlEGSp3
namespace Go.Proofs.YtmbmohibpkepdaaGreatDoor
open Go.RowKit
variable {TW:TypeId}
def cmpI2 (r s:DR):Int:=cmpD (r.ok && s.ok) r.neg s.neg r.m s.m r.e s.e
def belowI (r s:DR):Bool:=decide (cmpI2 r s < 0)
theorem cmpN_anti (a b:Nat):cmpN a b=- cmpN b a:=by
 rcases Nat.lt_trichotomy a b with h | h | h
 · rw [cmpN_lt h,cmpN_gt h]
 · subst h;rw [cmpN_eq];rfl
 · rw [cmpN_lt h,cmpN_gt h];rfl
theorem cmpI2_anti (r s:DR):cmpI2 r s=- cmpI2 s r:=by
 unfold cmpI2 cmpD
 rw [Bool.and_comm]
 cases s.ok && r.ok
 · rfl
 · simp only [if_true]
   unfold ordD sizeC
   rw [cmpN_anti (onE r.m r.e s.e)]
   cases r.neg <;> cases s.neg <;> simp
theorem isbelow_I {r s:DR} {A B:Option Addr} {n c m d:Nat} (w:World) (ha:DIn w A n c r) (hb:DIn w B m d s) :
 Calls Tryz.prog 113 #[dyv r.neg A n c r.e,dyv s.neg B m d s.e] w fun o w'=>o=.returned (.bool (belowI r s))∧Below w.heap.size w w':=by
 obtain ⟨x,a1,a2,a3,a4⟩:=ha
 obtain ⟨y,b1,b2,b3,b4⟩:=hb
 have:=isbelow_any r.neg s.neg A B n c m d x y r.e s.e w a1 b1 a2 b2
 unfold belowI cmpI2
 rw [a3,a4,b3,b4]
 exact this
def pickS (b:Bool) (r s:DR):DR:=if b then r else s
def hullS (p:Int) (bad:Bool) (lo hi lo' hi':DR):SRes:=if bad2 p bad lo hi lo' hi' then SRes.no else ⟨false,pickS (belowI lo' lo) lo' lo,pickS (belowI hi hi') hi' hi⟩
abbrev put3h (w:World) (g:Nat) (a b c:Value):World:=((w.setCell ⟨g,3,none⟩ a).setCell ⟨g,4,none⟩ b).setCell ⟨g,5,none⟩ c
theorem only_put3h (w:World) (g:Nat) (a b c:Value):Only w (put3h w g a b c) g:=(((Only.refl w g).set_ 3 a).set_ 4 b).set_ 5 c
theorem kc_putLo {T:TypeId} {w:World} {g:Nat} {a b c d e f:Value} (h:KC T w g #[a,b,c,d,e,f]) (x y z:Value):KC T (put3 w g x y z) g #[x,y,z,d,e,f]:=by
 obtain ⟨h1,h2⟩:=h
 refine ⟨?_,by simpa [put3,World.setCell] using h2⟩
 simp [World.setCell,Array.getElem?_modify,h1]
theorem kc_putHi {T:TypeId} {w:World} {g:Nat} {a b c d e f:Value} (h:KC T w g #[a,b,c,d,e,f]) (x y z:Value):KC T (put3h w g x y z) g #[a,b,c,x,y,z]:=by
 obtain ⟨h1,h2⟩:=h
 refine ⟨?_,by simpa [put3h,World.setCell] using h2⟩
 simp [World.setCell,Array.getElem?_modify,h1]
set_option maxRecDepth 8000 in
set_option maxHeartbeats 4000000 in
theorem hull_any {lo hi lo' hi':DR} {A B A' B':Option Addr} {n c m d n' c' m' d':Nat} (g:Nat) (p:Int) (bad:Bool) (w:World) (hW:Wk TW w g p bad) (ha:DIn w A n c lo) (hb:DIn w B m d hi) (ha':DIn w A' n' c' lo') (hb':DIn w B' m' d' hi') :
 Calls Tryz.prog 62 #[.pointer (some ⟨g,0,none⟩),spv lo.neg A n c lo.e hi.neg B m d hi.e,spv lo'.neg A' n' c' lo'.e hi'.neg B' m' d' hi'.e] w (SPost TW w g p (hullS p bad lo hi lo' hi')):=by
 have S:=st2 hW (.bool lo.neg) (.slice A n c) (.int .i64 lo.e) (.bool hi.neg) (.slice B m d) (.int .i64 hi.e) (.bool lo'.neg) (.slice A' n' c') (.int .i64 lo'.e) (.bool hi'.neg) (.slice B' m' d') (.int .i64 hi'.e)
 have TK:=take2 g p bad _ S.W (ha.wk hW S.O) (hb.wk hW S.O) (ha'.wk hW S.O) (hb'.wk hW S.O)
 rw [show (((w.alloc (co6 (.bool lo.neg) (.slice A n c) (.int .i64 lo.e) (.bool hi.neg) (.slice B m d) (.int .i64 hi.e))).alloc (co6 (.bool lo'.neg) (.slice A' n' c') (.int .i64 lo'.e) (.bool hi'.neg) (.slice B' m' d') (.int .i64 hi'.e))).alloc z6).heap.size=w.heap.size+1+1+1 by simp] at TK
 have TKH:=Lib.hid TK
 clear TK
 have k0:=S.ks.2.2.1.1
 have k0_0:=k0.at_ 0 _ rfl
 have k0_1:=k0.at_ 1 _ rfl
 have k0_2:=k0.at_ 2 _ rfl
 have k0_3:=k0.at_ 3 _ rfl
 have k0_4:=k0.at_ 4 _ rfl
 have k0_5:=k0.at_ 5 _ rfl
 have k0l:=k0.2
 clear k0
 have k1:=S.ks.2.1.1
 have k1_0:=k1.at_ 0 _ rfl
 have k1_1:=k1.at_ 1 _ rfl
 have k1_2:=k1.at_ 2 _ rfl
 have k1_3:=k1.at_ 3 _ rfl
 have k1_4:=k1.at_ 4 _ rfl
 have k1_5:=k1.at_ 5 _ rfl
 have k1l:=k1.2
 clear k1
 go_enter Tryz.func62,Tryz.ntmps62
 go_wp2_with fail
 refine TKH.out.mono ?_
 clear TKH
 clear k0_0 k0_1 k0_2 k0_3 k0_4 k0_5 k0l k1_0 k1_1 k1_2 k1_3 k1_4 k1_5 k1l
 generalize ((w.alloc (co6 (.bool lo.neg) (.slice A n c) (.int .i64 lo.e) (.bool hi.neg) (.slice B m d) (.int .i64 hi.e))).alloc (co6 (.bool lo'.neg) (.slice A' n' c') (.int .i64 lo'.e) (.bool hi'.neg) (.slice B' m' d') (.int .i64 hi'.e))).alloc z6=w1 at *
 rintro e' w2 ⟨rfl,hW2,o2⟩
 replace S:=S.only o2 hW2
 clear o2 hW2
 obtain ⟨bo,hbo⟩:∃ b:Bool,Hid (bad2 p bad lo hi lo' hi'=b):=⟨_,Lib.hid rfl⟩
 rw [hbo.out] at S
 rw [hbo.out]
 cases bo
 rotate_left
 · have HT:Hid (hullS p bad lo hi lo' hi'=SRes.no):=Lib.hid (by unfold hullS;rw [hbo.out];rfl)
   have kR:=S.ks.1.1
   have s0:=kR.at_ 0 _ rfl
   have s1:=kR.at_ 1 _ rfl
   have s2:=kR.at_ 2 _ rfl
   have s3:=kR.at_ 3 _ rfl
   have s4:=kR.at_ 4 _ rfl
   have s5:=kR.at_ 5 _ rfl
   have rf0:=kR.fr 0
   have rf1:=kR.fr 1
   have rf2:=kR.fr 2
   have rf3:=kR.fr 3
   have rf4:=kR.fr 4
   have rf5:=kR.fr 5
   go_wp2_with fail
   rw [HT.out]
   obtain ⟨q1,q2,q3,q4⟩:=S.give (lo:=DR.zero) (hi:=DR.zero) (num_nil _) (num_nil _) kR (by omega)
   exact bodyPost_ret (v:=spv false none 0 0 0 false none 0 0 0) (by simp [results,Tryz.results62,go_sem,s0,s1,s2,s3,s4,s5]) rfl ⟨none,0,0,none,0,0,rfl,q1,q2,q3,q4⟩
 · skip
   obtain ⟨hbad,hp,hR,hR'⟩:=bad2_false hbo.out
   have HT:Hid (hullS p bad lo hi lo' hi'=⟨false,pickS (belowI lo' lo) lo' lo,pickS (belowI hi hi') hi' hi⟩):=Lib.hid (by unfold hullS;rw [hbo.out];rfl)
   have HL:Hid (∀ w',Only w w' g→Calls Tryz.prog 113 #[dyv lo'.neg A' n' c' lo'.e,dyv lo.neg A n c lo.e] w' fun o w2=>o=.returned (.bool (belowI lo' lo))∧Below w'.heap.size w' w2):=Lib.hid (fun w' o=>isbelow_I w' (ha'.wk hW o) (ha.wk hW o))
   have HH:Hid (∀ w',Only w w' g→Calls Tryz.prog 113 #[dyv hi.neg B m d hi.e,dyv hi'.neg B' m' d' hi'.e] w' fun o w2=>o=.returned (.bool (belowI hi hi'))∧Below w'.heap.size w' w2):=Lib.hid (fun w' o=>isbelow_I w' (hb.wk hW o) (hb'.wk hW o))
   generalize belowI lo' lo=c1 at *
   generalize belowI hi hi'=c2 at *
   clear hbo hbad
   have k2:=S.ks.2.2.1.1
   have k2_0:=k2.at_ 0 _ rfl
   have k2_1:=k2.at_ 1 _ rfl
   have k2_2:=k2.at_ 2 _ rfl
   have k2_3:=k2.at_ 3 _ rfl
   have k2_4:=k2.at_ 4 _ rfl
   have k2_5:=k2.at_ 5 _ rfl
   have k2l:=k2.2
   clear k2
   have k3:=S.ks.2.1.1
   have k3_0:=k3.at_ 0 _ rfl
   have k3_1:=k3.at_ 1 _ rfl
   have k3_2:=k3.at_ 2 _ rfl
   have k3_3:=k3.at_ 3 _ rfl
   have k3_4:=k3.at_ 4 _ rfl
   have k3_5:=k3.at_ 5 _ rfl
   have k3l:=k3.2
   clear k3
   go_wp2_with fail
   refine (HL.out _ S.O).mono ?_
   rintro e' w3 ⟨rfl,b3⟩
   replace S:=S.below b3
   clear b3
   clear k2_0 k2_1 k2_2 k2_3 k2_4 k2_5 k2l k3_0 k3_1 k3_2 k3_3 k3_4 k3_5 k3l
   cases c1
   · cases c2
     · skip
       have k4:=S.ks.2.2.1.1
       have k4_0:=k4.at_ 0 _ rfl
       have k4_1:=k4.at_ 1 _ rfl
       have k4_2:=k4.at_ 2 _ rfl
       have k4_3:=k4.at_ 3 _ rfl
       have k4_4:=k4.at_ 4 _ rfl
       have k4_5:=k4.at_ 5 _ rfl
       have k4f0:=k4.fr 0
       have k4f1:=k4.fr 1
       have k4f2:=k4.fr 2
       have k4f3:=k4.fr 3
       have k4f4:=k4.fr 4
       have k4f5:=k4.fr 5
       have k4l:=k4.2
       clear k4
       have k5:=S.ks.2.1.1
       have k5_0:=k5.at_ 0 _ rfl
       have k5_1:=k5.at_ 1 _ rfl
       have k5_2:=k5.at_ 2 _ rfl
       have k5_3:=k5.at_ 3 _ rfl
       have k5_4:=k5.at_ 4 _ rfl
       have k5_5:=k5.at_ 5 _ rfl
       have k5l:=k5.2
       clear k5
       go_wp2_with fail
       refine (HH.out _ S.O).mono ?_
       rintro e' w5 ⟨rfl,b5⟩
       replace S:=S.below b5
       clear b5
       clear k4_0 k4_1 k4_2 k4_3 k4_4 k4_5 k4f0 k4f1 k4f2 k4f3 k4f4 k4f5 k4l k5_0 k5_1 k5_2 k5_3 k5_4 k5_5 k5l
       have k6:=S.ks.2.2.1.1
       have k6_0:=k6.at_ 0 _ rfl
       have k6_1:=k6.at_ 1 _ rfl
       have k6_2:=k6.at_ 2 _ rfl
       have k6_3:=k6.at_ 3 _ rfl
       have k6_4:=k6.at_ 4 _ rfl
       have k6_5:=k6.at_ 5 _ rfl
       have k6l:=k6.2
       clear k6
       have kR:=S.ks.1.1
       have s0:=kR.at_ 0 _ rfl
       have s1:=kR.at_ 1 _ rfl
       have s2:=kR.at_ 2 _ rfl
       have s3:=kR.at_ 3 _ rfl
       have s4:=kR.at_ 4 _ rfl
       have s5:=kR.at_ 5 _ rfl
       have rf0:=kR.fr 0
       have rf1:=kR.fr 1
       have rf2:=kR.fr 2
       have rf3:=kR.fr 3
       have rf4:=kR.fr 4
       have rf5:=kR.fr 5
       go_wp2_with fail
       rw [HT.out]
       obtain ⟨q1,q2,q3,q4⟩:=S.give (lo:=lo) (hi:=hi) ((ha.wk hW S.O).num hR.l) ((hb.wk hW S.O).num hR.h) kR (by omega)
       exact bodyPost_ret (v:=spv lo.neg A n c lo.e hi.neg B m d hi.e) (by simp [results,Tryz.results62,go_sem,s0,s1,s2,s3,s4,s5]) rfl ⟨A,n,c,B,m,d,rfl,q1,q2,q3,q4⟩
     · skip
       have k7:=S.ks.2.2.1.1
       have k7_0:=k7.at_ 0 _ rfl
       have k7_1:=k7.at_ 1 _ rfl
       have k7_2:=k7.at_ 2 _ rfl
       have k7_3:=k7.at_ 3 _ rfl
       have k7_4:=k7.at_ 4 _ rfl
       have k7_5:=k7.at_ 5 _ rfl
       have k7f0:=k7.fr 0
       have k7f1:=k7.fr 1
       have k7f2:=k7.fr 2
       have k7f3:=k7.fr 3
       have k7f4:=k7.fr 4
       have k7f5:=k7.fr 5
       have k7l:=k7.2
       clear k7
       have k8:=S.ks.2.1.1
       have k8_0:=k8.at_ 0 _ rfl
       have k8_1:=k8.at_ 1 _ rfl
       have k8_2:=k8.at_ 2 _ rfl
       have k8_3:=k8.at_ 3 _ rfl
       have k8_4:=k8.at_ 4 _ rfl
       have k8_5:=k8.at_ 5 _ rfl
       have k8l:=k8.2
       clear k8
       go_wp2_with fail
       refine (HH.out _ S.O).mono ?_
       rintro e' w5 ⟨rfl,b5⟩
       replace S:=S.below b5
       clear b5
       clear k7_0 k7_1 k7_2 k7_3 k7_4 k7_5 k7f0 k7f1 k7f2 k7f3 k7f4 k7f5 k7l k8_0 k8_1 k8_2 k8_3 k8_4 k8_5 k8l
       have k9:=S.ks.2.2.1.1
       have k9_0:=k9.at_ 0 _ rfl
       have k9_1:=k9.at_ 1 _ rfl
       have k9_2:=k9.at_ 2 _ rfl
       have k9_3:=k9.at_ 3 _ rfl
       have k9_4:=k9.at_ 4 _ rfl
       have k9_5:=k9.at_ 5 _ rfl
       have k9f0:=k9.fr 0
       have k9f1:=k9.fr 1
       have k9f2:=k9.fr 2
       have k9f3:=k9.fr 3
       have k9f4:=k9.fr 4
       have k9f5:=k9.fr 5
       have k9l:=k9.2
       clear k9
       have k10:=S.ks.2.1.1
       have k10_0:=k10.at_ 0 _ rfl
       have k10_1:=k10.at_ 1 _ rfl
       have k10_2:=k10.at_ 2 _ rfl
       have k10_3:=k10.at_ 3 _ rfl
       have k10_4:=k10.at_ 4 _ rfl
       have k10_5:=k10.at_ 5 _ rfl
       have k10l:=k10.2
       clear k10
       go_upto_region 7 with fail
       clear k9_0 k9_1 k9_2 k9_3 k9_4 k9_5 k9f0 k9f1 k9f2 k9f3 k9f4 k9f5 k9l k10_0 k10_1 k10_2 k10_3 k10_4 k10_5 k10l
       have o:Only w5 (((w5.setCell ⟨w.heap.size,3,none⟩ (.bool hi'.neg)).setCell ⟨w.heap.size,4,none⟩ (.slice B' m' d')).setCell ⟨w.heap.size,5,none⟩ (.int .i64 hi'.e)) w.heap.size:=only_put3h w5 (w.heap.size) (.bool hi'.neg) (.slice B' m' d') (.int .i64 hi'.e)
       replace S:=(⟨S.hg,only_new S.O o (by omega),S.W.only o (by have:=S.hg;omega),⟨⟨S.ks.1.1.only o (by omega),S.ks.1.2⟩,⟨S.ks.2.1.1.only o (by omega),S.ks.2.1.2⟩,⟨kc_putHi S.ks.2.2.1.1 (.bool hi'.neg) (.slice B' m' d') (.int .i64 hi'.e),S.ks.2.2.1.2⟩,trivial⟩,trivial⟩:St TW w g p false (((w5.setCell ⟨w.heap.size,3,none⟩ (.bool hi'.neg)).setCell ⟨w.heap.size,4,none⟩ (.slice B' m' d')).setCell ⟨w.heap.size,5,none⟩ (.int .i64 hi'.e)) [(31,w.heap.size+1+1,zs),(31,w.heap.size+1,#[.bool lo'.neg,.slice A' n' c',.int .i64 lo'.e,.bool hi'.neg,.slice B' m' d',.int .i64 hi'.e]),(31,w.heap.size,#[.bool lo.neg,.slice A n c,.int .i64 lo.e,.bool hi'.neg,.slice B' m' d',.int .i64 hi'.e])] [])
       clear o
       generalize ((w5.setCell ⟨w.heap.size,3,none⟩ (.bool hi'.neg)).setCell ⟨w.heap.size,4,none⟩ (.slice B' m' d')).setCell ⟨w.heap.size,5,none⟩ (.int .i64 hi'.e)=w6 at *
       have k11:=S.ks.2.2.1.1
       have k11_0:=k11.at_ 0 _ rfl
       have k11_1:=k11.at_ 1 _ rfl
       have k11_2:=k11.at_ 2 _ rfl
       have k11_3:=k11.at_ 3 _ rfl
       have k11_4:=k11.at_ 4 _ rfl
       have k11_5:=k11.at_ 5 _ rfl
       have k11l:=k11.2
       clear k11
       have kR:=S.ks.1.1
       have s0:=kR.at_ 0 _ rfl
       have s1:=kR.at_ 1 _ rfl
       have s2:=kR.at_ 2 _ rfl
       have s3:=kR.at_ 3 _ rfl
       have s4:=kR.at_ 4 _ rfl
       have s5:=kR.at_ 5 _ rfl
       have rf0:=kR.fr 0
       have rf1:=kR.fr 1
       have rf2:=kR.fr 2
       have rf3:=kR.fr 3
       have rf4:=kR.fr 4
       have rf5:=kR.fr 5
       go_wp2_with fail
       rw [HT.out]
       obtain ⟨q1,q2,q3,q4⟩:=S.give (lo:=lo) (hi:=hi') ((ha.wk hW S.O).num hR.l) ((hb'.wk hW S.O).num hR'.h) kR (by omega)
       exact bodyPost_ret (v:=spv lo.neg A n c lo.e hi'.neg B' m' d' hi'.e) (by simp [results,Tryz.results62,go_sem,s0,s1,s2,s3,s4,s5]) rfl ⟨A,n,c,B',m',d',rfl,q1,q2,q3,q4⟩
   · cases c2
     · skip
       have k12:=S.ks.2.2.1.1
       have k12_0:=k12.at_ 0 _ rfl
       have k12_1:=k12.at_ 1 _ rfl
       have k12_2:=k12.at_ 2 _ rfl
       have k12_3:=k12.at_ 3 _ rfl
       have k12_4:=k12.at_ 4 _ rfl
       have k12_5:=k12.at_ 5 _ rfl
       have k12f0:=k12.fr 0
       have k12f1:=k12.fr 1
       have k12f2:=k12.fr 2
       have k12f3:=k12.fr 3
       have k12f4:=k12.fr 4
       have k12f5:=k12.fr 5
       have k12l:=k12.2
       clear k12
       have k13:=S.ks.2.1.1
       have k13_0:=k13.at_ 0 _ rfl
       have k13_1:=k13.at_ 1 _ rfl
       have k13_2:=k13.at_ 2 _ rfl
       have k13_3:=k13.at_ 3 _ rfl
       have k13_4:=k13.at_ 4 _ rfl
       have k13_5:=k13.at_ 5 _ rfl
       have k13l:=k13.2
       clear k13
       go_upto_region 5 with fail
       clear k12_0 k12_1 k12_2 k12_3 k12_4 k12_5 k12f0 k12f1 k12f2 k12f3 k12f4 k12f5 k12l k13_0 k13_1 k13_2 k13_3 k13_4 k13_5 k13l
       have o:Only w3 (((w3.setCell ⟨w.heap.size,0,none⟩ (.bool lo'.neg)).setCell ⟨w.heap.size,1,none⟩ (.slice A' n' c')).setCell ⟨w.heap.size,2,none⟩ (.int .i64 lo'.e)) w.heap.size:=only_put3 w3 (w.heap.size) (.bool lo'.neg) (.slice A' n' c') (.int .i64 lo'.e)
       replace S:=(⟨S.hg,only_new S.O o (by omega),S.W.only o (by have:=S.hg;omega),⟨⟨S.ks.1.1.only o (by omega),S.ks.1.2⟩,⟨S.ks.2.1.1.only o (by omega),S.ks.2.1.2⟩,⟨kc_putLo S.ks.2.2.1.1 (.bool lo'.neg) (.slice A' n' c') (.int .i64 lo'.e),S.ks.2.2.1.2⟩,trivial⟩,trivial⟩:St TW w g p false (((w3.setCell ⟨w.heap.size,0,none⟩ (.bool lo'.neg)).setCell ⟨w.heap.size,1,none⟩ (.slice A' n' c')).setCell ⟨w.heap.size,2,none⟩ (.int .i64 lo'.e)) [(31,w.heap.size+1+1,zs),(31,w.heap.size+1,#[.bool lo'.neg,.slice A' n' c',.int .i64 lo'.e,.bool hi'.neg,.slice B' m' d',.int .i64 hi'.e]),(31,w.heap.size,#[.bool lo'.neg,.slice A' n' c',.int .i64 lo'.e,.bool hi.neg,.slice B m d,.int .i64 hi.e])] [])
       clear o
       generalize ((w3.setCell ⟨w.heap.size,0,none⟩ (.bool lo'.neg)).setCell ⟨w.heap.size,1,none⟩ (.slice A' n' c')).setCell ⟨w.heap.size,2,none⟩ (.int .i64 lo'.e)=w4 at *
       have k14:=S.ks.2.2.1.1
       have k14_0:=k14.at_ 0 _ rfl
       have k14_1:=k14.at_ 1 _ rfl
       have k14_2:=k14.at_ 2 _ rfl
       have k14_3:=k14.at_ 3 _ rfl
       have k14_4:=k14.at_ 4 _ rfl
       have k14_5:=k14.at_ 5 _ rfl
       have k14l:=k14.2
       clear k14
       have k15:=S.ks.2.1.1
       have k15_0:=k15.at_ 0 _ rfl
       have k15_1:=k15.at_ 1 _ rfl
       have k15_2:=k15.at_ 2 _ rfl
       have k15_3:=k15.at_ 3 _ rfl
       have k15_4:=k15.at_ 4 _ rfl
       have k15_5:=k15.at_ 5 _ rfl
       have k15l:=k15.2
       clear k15
       go_wp2_with fail
       refine (HH.out _ S.O).mono ?_
       rintro e' w5 ⟨rfl,b5⟩
       replace S:=S.below b5
       clear b5
       clear k14_0 k14_1 k14_2 k14_3 k14_4 k14_5 k14l k15_0 k15_1 k15_2 k15_3 k15_4 k15_5 k15l
       have k16:=S.ks.2.2.1.1
       have k16_0:=k16.at_ 0 _ rfl
       have k16_1:=k16.at_ 1 _ rfl
       have k16_2:=k16.at_ 2 _ rfl
       have k16_3:=k16.at_ 3 _ rfl
       have k16_4:=k16.at_ 4 _ rfl
       have k16_5:=k16.at_ 5 _ rfl
       have k16l:=k16.2
       clear k16
       have kR:=S.ks.1.1
       have s0:=kR.at_ 0 _ rfl
       have s1:=kR.at_ 1 _ rfl
       have s2:=kR.at_ 2 _ rfl
       have s3:=kR.at_ 3 _ rfl
       have s4:=kR.at_ 4 _ rfl
       have s5:=kR.at_ 5 _ rfl
       have rf0:=kR.fr 0
       have rf1:=kR.fr 1
       have rf2:=kR.fr 2
       have rf3:=kR.fr 3
       have rf4:=kR.fr 4
       have rf5:=kR.fr 5
       go_wp2_with fail
       rw [HT.out]
       obtain ⟨q1,q2,q3,q4⟩:=S.give (lo:=lo') (hi:=hi) ((ha'.wk hW S.O).num hR'.l) ((hb.wk hW S.O).num hR.h) kR (by omega)
       exact bodyPost_ret (v:=spv lo'.neg A' n' c' lo'.e hi.neg B m d hi.e) (by simp [results,Tryz.results62,go_sem,s0,s1,s2,s3,s4,s5]) rfl ⟨A',n',c',B,m,d,rfl,q1,q2,q3,q4⟩
     · skip
       have k17:=S.ks.2.2.1.1
       have k17_0:=k17.at_ 0 _ rfl
       have k17_1:=k17.at_ 1 _ rfl
       have k17_2:=k17.at_ 2 _ rfl
       have k17_3:=k17.at_ 3 _ rfl
       have k17_4:=k17.at_ 4 _ rfl
       have k17_5:=k17.at_ 5 _ rfl
       have k17f0:=k17.fr 0
       have k17f1:=k17.fr 1
       have k17f2:=k17.fr 2
       have k17f3:=k17.fr 3
       have k17f4:=k17.fr 4
       have k17f5:=k17.fr 5
       have k17l:=k17.2
       clear k17
       have k18:=S.ks.2.1.1
       have k18_0:=k18.at_ 0 _ rfl
       have k18_1:=k18.at_ 1 _ rfl
       have k18_2:=k18.at_ 2 _ rfl
       have k18_3:=k18.at_ 3 _ rfl
       have k18_4:=k18.at_ 4 _ rfl
       have k18_5:=k18.at_ 5 _ rfl
       have k18l:=k18.2
       clear k18
       go_upto_region 5 with fail
       clear k17_0 k17_1 k17_2 k17_3 k17_4 k17_5 k17f0 k17f1 k17f2 k17f3 k17f4 k17f5 k17l k18_0 k18_1 k18_2 k18_3 k18_4 k18_5 k18l
       have o:Only w3 (((w3.setCell ⟨w.heap.size,0,none⟩ (.bool lo'.neg)).setCell ⟨w.heap.size,1,none⟩ (.slice A' n' c')).setCell ⟨w.heap.size,2,none⟩ (.int .i64 lo'.e)) w.heap.size:=only_put3 w3 (w.heap.size) (.bool lo'.neg) (.slice A' n' c') (.int .i64 lo'.e)
       replace S:=(⟨S.hg,only_new S.O o (by omega),S.W.only o (by have:=S.hg;omega),⟨⟨S.ks.1.1.only o (by omega),S.ks.1.2⟩,⟨S.ks.2.1.1.only o (by omega),S.ks.2.1.2⟩,⟨kc_putLo S.ks.2.2.1.1 (.bool lo'.neg) (.slice A' n' c') (.int .i64 lo'.e),S.ks.2.2.1.2⟩,trivial⟩,trivial⟩:St TW w g p false (((w3.setCell ⟨w.heap.size,0,none⟩ (.bool lo'.neg)).setCell ⟨w.heap.size,1,none⟩ (.slice A' n' c')).setCell ⟨w.heap.size,2,none⟩ (.int .i64 lo'.e)) [(31,w.heap.size+1+1,zs),(31,w.heap.size+1,#[.bool lo'.neg,.slice A' n' c',.int .i64 lo'.e,.bool hi'.neg,.slice B' m' d',.int .i64 hi'.e]),(31,w.heap.size,#[.bool lo'.neg,.slice A' n' c',.int .i64 lo'.e,.bool hi.neg,.slice B m d,.int .i64 hi.e])] [])
       clear o
       generalize ((w3.setCell ⟨w.heap.size,0,none⟩ (.bool lo'.neg)).setCell ⟨w.heap.size,1,none⟩ (.slice A' n' c')).setCell ⟨w.heap.size,2,none⟩ (.int .i64 lo'.e)=w4 at *
       have k19:=S.ks.2.2.1.1
       have k19_0:=k19.at_ 0 _ rfl
       have k19_1:=k19.at_ 1 _ rfl
       have k19_2:=k19.at_ 2 _ rfl
       have k19_3:=k19.at_ 3 _ rfl
       have k19_4:=k19.at_ 4 _ rfl
       have k19_5:=k19.at_ 5 _ rfl
       have k19l:=k19.2
       clear k19
       have k20:=S.ks.2.1.1
       have k20_0:=k20.at_ 0 _ rfl
       have k20_1:=k20.at_ 1 _ rfl
       have k20_2:=k20.at_ 2 _ rfl
       have k20_3:=k20.at_ 3 _ rfl
       have k20_4:=k20.at_ 4 _ rfl
       have k20_5:=k20.at_ 5 _ rfl
       have k20l:=k20.2
       clear k20
       go_wp2_with fail
       refine (HH.out _ S.O).mono ?_
       rintro e' w5 ⟨rfl,b5⟩
       replace S:=S.below b5
       clear b5
       clear k19_0 k19_1 k19_2 k19_3 k19_4 k19_5 k19l k20_0 k20_1 k20_2 k20_3 k20_4 k20_5 k20l
       have k21:=S.ks.2.2.1.1
       have k21_0:=k21.at_ 0 _ rfl
       have k21_1:=k21.at_ 1 _ rfl
       have k21_2:=k21.at_ 2 _ rfl
       have k21_3:=k21.at_ 3 _ rfl
       have k21_4:=k21.at_ 4 _ rfl
       have k21_5:=k21.at_ 5 _ rfl
       have k21f0:=k21.fr 0
       have k21f1:=k21.fr 1
       have k21f2:=k21.fr 2
       have k21f3:=k21.fr 3
       have k21f4:=k21.fr 4
       have k21f5:=k21.fr 5
       have k21l:=k21.2
       clear k21
       have k22:=S.ks.2.1.1
       have k22_0:=k22.at_ 0 _ rfl
       have k22_1:=k22.at_ 1 _ rfl
       have k22_2:=k22.at_ 2 _ rfl
       have k22_3:=k22.at_ 3 _ rfl
       have k22_4:=k22.at_ 4 _ rfl
       have k22_5:=k22.at_ 5 _ rfl
       have k22l:=k22.2
       clear k22
       go_upto_region 7 with fail
       clear k21_0 k21_1 k21_2 k21_3 k21_4 k21_5 k21f0 k21f1 k21f2 k21f3 k21f4 k21f5 k21l k22_0 k22_1 k22_2 k22_3 k22_4 k22_5 k22l
       have o:Only w5 (((w5.setCell ⟨w.heap.size,3,none⟩ (.bool hi'.neg)).setCell ⟨w.heap.size,4,none⟩ (.slice B' m' d')).setCell ⟨w.heap.size,5,none⟩ (.int .i64 hi'.e)) w.heap.size:=only_put3h w5 (w.heap.size) (.bool hi'.neg) (.slice B' m' d') (.int .i64 hi'.e)
       replace S:=(⟨S.hg,only_new S.O o (by omega),S.W.only o (by have:=S.hg;omega),⟨⟨S.ks.1.1.only o (by omega),S.ks.1.2⟩,⟨S.ks.2.1.1.only o (by omega),S.ks.2.1.2⟩,⟨kc_putHi S.ks.2.2.1.1 (.bool hi'.neg) (.slice B' m' d') (.int .i64 hi'.e),S.ks.2.2.1.2⟩,trivial⟩,trivial⟩:St TW w g p false (((w5.setCell ⟨w.heap.size,3,none⟩ (.bool hi'.neg)).setCell ⟨w.heap.size,4,none⟩ (.slice B' m' d')).setCell ⟨w.heap.size,5,none⟩ (.int .i64 hi'.e)) [(31,w.heap.size+1+1,zs),(31,w.heap.size+1,#[.bool lo'.neg,.slice A' n' c',.int .i64 lo'.e,.bool hi'.neg,.slice B' m' d',.int .i64 hi'.e]),(31,w.heap.size,#[.bool lo'.neg,.slice A' n' c',.int .i64 lo'.e,.bool hi'.neg,.slice B' m' d',.int .i64 hi'.e])] [])
       clear o
       generalize ((w5.setCell ⟨w.heap.size,3,none⟩ (.bool hi'.neg)).setCell ⟨w.heap.size,4,none⟩ (.slice B' m' d')).setCell ⟨w.heap.size,5,none⟩ (.int .i64 hi'.e)=w6 at *
       have k23:=S.ks.2.2.1.1
       have k23_0:=k23.at_ 0 _ rfl
       have k23_1:=k23.at_ 1 _ rfl
       have k23_2:=k23.at_ 2 _ rfl
       have k23_3:=k23.at_ 3 _ rfl
       have k23_4:=k23.at_ 4 _ rfl
       have k23_5:=k23.at_ 5 _ rfl
       have k23l:=k23.2
       clear k23
       have kR:=S.ks.1.1
       have s0:=kR.at_ 0 _ rfl
       have s1:=kR.at_ 1 _ rfl
       have s2:=kR.at_ 2 _ rfl
       have s3:=kR.at_ 3 _ rfl
       have s4:=kR.at_ 4 _ rfl
       have s5:=kR.at_ 5 _ rfl
       have rf0:=kR.fr 0
       have rf1:=kR.fr 1
       have rf2:=kR.fr 2
       have rf3:=kR.fr 3
       have rf4:=kR.fr 4
       have rf5:=kR.fr 5
       go_wp2_with fail
       rw [HT.out]
       obtain ⟨q1,q2,q3,q4⟩:=S.give (lo:=lo') (hi:=hi') ((ha'.wk hW S.O).num hR'.l) ((hb'.wk hW S.O).num hR'.h) kR (by omega)
       exact bodyPost_ret (v:=spv lo'.neg A' n' c' lo'.e hi'.neg B' m' d' hi'.e) (by simp [results,Tryz.results62,go_sem,s0,s1,s2,s3,s4,s5]) rfl ⟨A',n',c',B',m',d',rfl,q1,q2,q3,q4⟩
end Go.Proofs.YtmbmohibpkepdaaGreatDoor
namespace Go.Proofs.YtmbmohibpkepdaaGreatDoor
open Go.RowKit
def LS2 (w:World) (L:Option Addr) (r s:DR) (A B:Option Addr) (n c m d:Nat):Prop :=
 ∃ x y,(r.m=vs B64 x n∧r.ok=plainB r.neg n x r.e∧n≤400000)∧(s.m=vs B64 y m∧s.ok=plainB s.neg m y s.e∧m≤400000)∧Ls w L 2 2 (pairD r.neg s.neg A B n m c d x y r.e s.e)
theorem LS2.below {w w':World} {L:Option Addr} {r s:DR} {A B:Option Addr} {n c m d:Nat} (h:LS2 w L r s A B n c m d) (b:Below w.heap.size w w'):LS2 w' L r s A B n c m d:=by
 obtain ⟨x,y,h1,h2,h3⟩:=h
 exact ⟨x,y,h1,h2,h3.below b⟩
theorem LS2.made {w:World} {r s:DR} {A B:Option Addr} {n c m d:Nat} (ha:DIn w A n c r) (hb:DIn w B m d s):LS2 (w.alloc (c6 r.neg s.neg A B n m c d r.e s.e)) (some ⟨w.heap.size,0,none⟩) r s A B n c m d:=by
 obtain ⟨x,a1,a2,a3,a4⟩:=ha
 obtain ⟨y,b1,b2,b3,b4⟩:=hb
 exact ⟨x,y,⟨a3,a4,a2⟩,⟨b3,b4,b2⟩,pair_ls _ _ _ _ _ _ _ _ x y _ _ w a1 b1⟩
end Go.Proofs.YtmbmohibpkepdaaGreatDoor
